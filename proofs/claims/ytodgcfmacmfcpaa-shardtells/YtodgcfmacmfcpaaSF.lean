/- Sessions: what the places hold, and what the plain words' list holds. -/
import Derived.Test.YtodgcfmacmfcpaaSE
namespace Go.Proofs.Ytodgcfmacmfcpaa
open Go.RowKit

theorem four {l : List Se} (h : l.length = 4) : ∃ a b c d, l = [a, b, c, d] := by
  match l, h with
  | [a, b, c, d], _ => exact ⟨a, b, c, d, rfl⟩
/-- a place: none's, or its client's -/
def Pl (k : Int) (x : Se) : Prop := x = Se.z ∨ (x.cl = k ∧ 0 < x.sq)
theorem SInv.pl {a b c d : Se} (h : SInv [a, b, c, d]) : Pl 0 a ∧ Pl 1 b ∧ Pl 2 c ∧ Pl 3 d := ⟨h.2 0 a rfl, h.2 1 b rfl, h.2 2 c rfl, h.2 3 d rfl⟩
theorem Pl.off {k : Int} {x : Se} (h : Pl k x) (hx : hasS x = false) : x = Se.z := by
  rcases h with e | ⟨_, e⟩
  · exact e
  · simp [hasS] at hx; omega
theorem Pl.on {k : Int} {x : Se} (h : Pl k x) (hx : hasS x = true) : x.cl = k ∧ 0 < x.sq := by
  rcases h with e | e
  · rw [e] at hx; simp [hasS, Se.z] at hx
  · exact e
theorem allS_last {l : List Se} (h : SInv l) (c : Int) : lastR (allS l) c = lastS l c ∧ hasR (allS l) c = hasS (lastS l c) := by
  obtain ⟨x0, x1, x2, x3, rfl⟩ := four h.1
  obtain ⟨p0, p1, p2, p3⟩ := h.pl
  have hc : c = 0 ∨ c = 1 ∨ c = 2 ∨ c = 3 ∨ mayC c = false := by unfold mayC; simp only [Bool.and_eq_false_iff, decide_eq_false_iff_not]; omega
  cases h0 : hasS x0 <;> cases h1 : hasS x1 <;> cases h2 : hasS x2 <;> cases h3 : hasS x3
  all_goals
    first | (have e0 := (p0.on h0).1) | (have e0 := p0.off h0)
    first | (have e1 := (p1.on h1).1) | (have e1 := p1.off h1)
    first | (have e2 := (p2.on h2).1) | (have e2 := p2.off h2)
    first | (have e3 := (p3.on h3).1) | (have e3 := p3.off h3)
    rcases hc with rfl | rfl | rfl | rfl | hc
  all_goals
    first
    | (have hm : ∀ k : Nat, k < 4 → (k : Int) ≠ c := fun k hk e => by subst e; have h4 : mayC (k : Int) = true := (by unfold mayC; rw [decide_eq_true (by omega), decide_eq_true (by omega)]; rfl); rw [h4] at hc; cases hc
       have m0 := hm 0 (by omega)
       have m1 := hm 1 (by omega)
       have m2 := hm 2 (by omega)
       have m3 := hm 3 (by omega)
       clear hm
       simp_all [allS, findS, lastR, hasR, lastS, Se.z, hasS])
    | (simp_all [allS, findS, lastR, hasR, lastS, mayC, Se.z, hasS])
theorem lastS_sq {l : List Se} (h : SInv l) (c : Int) : 0 ≤ (lastS l c).sq := by
  rcases h.last c with e | e
  · rw [e]; exact Int.le_refl _
  · omega
theorem mayR_eq {l : List Se} (h : SInv l) (x : Se) : mayR (allS l) x = mayS l x := by
  unfold mayR mayS
  rw [(allS_last h x.cl).1]
  have h0 := lastS_sq h x.cl
  by_cases hlt : (lastS l x.cl).sq < x.sq
  · rw [decide_eq_true hlt, decide_eq_true (show 1 ≤ x.sq by omega)]; simp
  · rw [decide_eq_false hlt]; simp
theorem insR_eq {l : List Se} (h : SInv l) (x : Se) (k : Nat) (hk : k < 4) (hx : x.cl = (k : Int)) (hs : hasS x = true) : insR (allS l) x = allS (l.set k x) := by
  obtain ⟨x0, x1, x2, x3, rfl⟩ := four h.1
  obtain ⟨p0, p1, p2, p3⟩ := h.pl
  have hc : k = 0 ∨ k = 1 ∨ k = 2 ∨ k = 3 := by omega
  cases h0 : hasS x0 <;> cases h1 : hasS x1 <;> cases h2 : hasS x2 <;> cases h3 : hasS x3
  all_goals
    first | (have e0 := (p0.on h0).1) | (have e0 := p0.off h0)
    first | (have e1 := (p1.on h1).1) | (have e1 := p1.off h1)
    first | (have e2 := (p2.on h2).1) | (have e2 := p2.off h2)
    first | (have e3 := (p3.on h3).1) | (have e3 := p3.off h3)
    clear p0 p1 p2 p3 h
    rcases hc with rfl | rfl | rfl | rfl
  all_goals simp_all [allS, insR, stepR]
theorem noteR_eq {l : List Se} (h : SInv l) (x : Se) : noteR (allS l) x = allS (noteS l x) := by
  unfold noteR noteS
  rw [mayR_eq h]
  cases hm : mayS l x with
  | false => rfl
  | true =>
    rw [if_pos rfl, if_pos rfl]
    simp only [mayS, Bool.and_eq_true, decide_eq_true_eq] at hm
    obtain ⟨hc, hlt⟩ := hm
    obtain ⟨k, hk, e⟩ := may_nat hc
    have := lastS_sq h x.cl
    rw [insR_eq h x k hk e (by unfold hasS; exact decide_eq_true (by omega)), e]
    rfl
theorem allS_few {l : List Se} (h : SInv l) : (allS l).length ≤ 4 := by have := List.length_filter_le hasS l; rw [h.1] at this; exact this
end Go.Proofs.Ytodgcfmacmfcpaa
