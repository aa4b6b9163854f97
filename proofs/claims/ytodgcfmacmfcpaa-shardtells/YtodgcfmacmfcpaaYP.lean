/- States that asks make: their images are right. -/
import Derived.Test.YtodgcfmacmfcpaaYI
import Derived.Test.YtodgcfmacmfcpaaYL
import Derived.Test.YtodgcfmacmfcpaaRI
import Derived.Test.YtodgcfmacmfcpaaSF
namespace Go.Proofs.Ytodgcfmacmfcpaa
open Go.RowKit

/-- a pair as a table keeps it; a session as asks make it -/
def FineP (q : Pr) : Prop := (1 : Int) ≤ q.1.size ∧ (q.1.size : Int) ≤ 8 ∧ (q.2.size : Int) ≤ 16
def FineS (x : Se) : Prop := x.sq ≤ 4611686018427387903 ∧ notedB x.why = true ∧ (x.val.size : Int) ≤ 16
structure Fine (T : List Pr) (S : List Se) : Prop where
  rise : Rise T
  few : T.length ≤ 8
  ps : ∀ q ∈ T, FineP q
  inv : SInv S
  xs : ∀ x ∈ S, FineS x
theorem Fine.zero : Fine [] zeroS := ⟨List.Pairwise.nil, Nat.zero_le _, by simp, SInv.zero, by
  intro x hx
  simp only [zeroS, List.mem_cons, List.not_mem_nil, or_false, or_self] at hx
  subst hx
  exact ⟨by decide, by decide, by decide⟩⟩
theorem right_parts {k : Int} {key v old : ByteArray} (h : rightS k key v old = true) : (1 : Int) ≤ key.size ∧ (key.size : Int) ≤ 8 ∧ (v.size : Int) ≤ 16 ∧ 1 ≤ k ∧ k ≤ 4 := by
  unfold rightS at h
  simp only [Bool.and_eq_true, decide_eq_true_eq] at h
  exact ⟨h.1.1.1.1.1.2, h.1.1.1.1.2, h.1.1.1.2, h.1.1.1.1.1.1.1, h.1.1.1.1.1.1.2⟩
theorem mem_modify {α : Type} {f : α → α} : ∀ (l : List α) (p : Nat) (x : α), x ∈ l.modify p f → x ∈ l ∨ ∃ y ∈ l, x = f y
  | [], p, x, h => by simp at h
  | a :: r, 0, x, h => by
    simp only [List.modify_zero_cons, List.mem_cons] at h
    rcases h with e | e
    · exact .inr ⟨a, by simp, e⟩
    · exact .inl (List.mem_cons_of_mem _ e)
  | a :: r, p + 1, x, h => by
    simp only [List.modify_succ_cons, List.mem_cons] at h
    rcases h with e | e
    · exact .inl (by rw [e]; simp)
    · rcases mem_modify r p x e with q | ⟨y, hy, q⟩
      · exact .inl (List.mem_cons_of_mem _ q)
      · exact .inr ⟨y, List.mem_cons_of_mem _ hy, q⟩
theorem fine_mod {l : List Pr} (h : ∀ q ∈ l, FineP q) (p : Nat) {v : ByteArray} (hv : (v.size : Int) ≤ 16) : ∀ q ∈ l.modify p (fun q => (q.1, v)), FineP q := by
  intro q hq
  rcases mem_modify l p q hq with e | ⟨y, hy, e⟩
  · exact h q e
  · subst e; exact ⟨(h y hy).1, (h y hy).2.1, hv⟩
theorem doS_fine {l : List Pr} (h : ∀ q ∈ l, FineP q) {k : Int} {key v old : ByteArray} (hr : rightS k key v old = true) :
    (∀ q ∈ (doS l k key v old).1, FineP q) ∧ notedB (doS l k key v old).2.1 = true ∧ ((doS l k key v old).2.2.size : Int) ≤ 16 := by
  obtain ⟨r1, r2, r3, r4, r5⟩ := right_parts hr
  have e0 : ((⟨#[]⟩ : ByteArray).size : Int) ≤ 16 := by decide
  have hx : (((l[lb key l]?.map fun q : Pr => q.2).getD (⟨#[]⟩ : ByteArray)).size : Int) ≤ 16 := by
    cases e : l[lb key l]? with
    | none => exact e0
    | some q => exact (h q (List.mem_of_getElem? e)).2.2
  unfold doS
  rw [if_neg (by simp [hr])]
  by_cases hh : has key l = true
  · rw [if_pos hh]
    obtain ⟨x, hxe⟩ : ∃ x, (l[lb key l]?.map fun q : Pr => q.2).getD (⟨#[]⟩ : ByteArray) = x := ⟨_, rfl⟩
    rw [hxe] at hx ⊢
    unfold changeS
    by_cases k1 : k = 1
    · rw [if_pos k1]; exact ⟨h, rfl, hx⟩
    rw [if_neg k1]
    by_cases k3 : k = 3
    · rw [if_pos k3]
      refine ⟨fun q hq => ?_, rfl, e0⟩
      rcases List.mem_append.1 hq with e | e
      · exact h q (List.mem_of_mem_take e)
      · exact h q (List.mem_of_mem_drop e)
    rw [if_neg k3]
    by_cases k4 : k = 4
    · rw [if_pos k4]
      by_cases ho : x = old
      · rw [if_pos ho]; exact ⟨fine_mod h _ r3, rfl, e0⟩
      · rw [if_neg ho]; exact ⟨h, rfl, hx⟩
    rw [if_neg k4, if_pos (by omega)]
    exact ⟨fine_mod h _ r3, rfl, e0⟩
  · rw [if_neg hh]
    by_cases k2 : k = 2
    · rw [if_neg (by simpa using k2)]
      by_cases h8 : l.length = 8
      · rw [if_pos h8]; exact ⟨h, rfl, e0⟩
      · rw [if_neg h8]
        refine ⟨fun q hq => ?_, rfl, e0⟩
        rcases List.mem_append.1 hq with e | e
        · exact h q (List.mem_of_mem_take e)
        · rcases List.mem_cons.1 e with e | e
          · subst e; exact ⟨r1, r2, r3⟩
          · exact h q (List.mem_of_mem_drop e)
    · rw [if_pos k2]; exact ⟨h, rfl, e0⟩
theorem note_fine {S : List Se} (h : ∀ x ∈ S, FineS x) {x : Se} (hx : FineS x) : ∀ y ∈ noteS S x, FineS y := by
  intro y hy
  unfold noteS at hy
  split at hy
  · rcases List.mem_or_eq_of_mem_set hy with e | e
    · exact h y e
    · rw [e]; exact hx
  · exact h y hy
theorem Fine.ask {T : List Pr} {S : List Se} (h : Fine T S) {c s k : Int} {key v old : ByteArray} {T' : List Pr} {S' : List Se} {a : Int} {y : ByteArray} {f : Bool} (hA : askS T S c s k key v old = (T', S', a, y, f)) : Fine T' S' := by
  unfold askS at hA
  by_cases hm : askableS c s k key v old = true
  · rw [if_pos hm] at hA
    by_cases e1 : s = (lastS S c).sq
    · rw [if_pos e1] at hA; simp only [Prod.mk.injEq] at hA; obtain ⟨rfl, rfl, _⟩ := hA; exact h
    rw [if_neg e1] at hA
    by_cases e2 : s < (lastS S c).sq
    · rw [if_pos e2] at hA; simp only [Prod.mk.injEq] at hA; obtain ⟨rfl, rfl, _⟩ := hA; exact h
    rw [if_neg e2] at hA
    simp only [Prod.mk.injEq] at hA
    obtain ⟨rfl, rfl, _⟩ := hA
    have hm2 := hm
    unfold askableS inS at hm2
    simp only [Bool.and_eq_true, decide_eq_true_eq] at hm2
    obtain ⟨d1, d2, d3⟩ := doS_fine h.ps hm2.2.2
    exact ⟨doS_rise h.rise _ _ _ _, doS_len h.few, d1, h.inv.note _, note_fine h.xs ⟨hm2.2.1.2, d2, d3⟩⟩
  · rw [if_neg hm] at hA; simp only [Prod.mk.injEq] at hA; obtain ⟨rfl, rfl, _⟩ := hA; exact h
end Go.Proofs.Ytodgcfmacmfcpaa
