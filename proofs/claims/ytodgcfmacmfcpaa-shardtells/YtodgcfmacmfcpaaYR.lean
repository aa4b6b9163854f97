/- States that asks make: their images make the same state, and are right. -/
import Derived.Test.YtodgcfmacmfcpaaYP
namespace Go.Proofs.Ytodgcfmacmfcpaa
open Go.RowKit

theorem put_fine {q : Pr} (h : FineP q) : rightS 2 q.1 q.2 ⟨#[]⟩ = true := by
  obtain ⟨h1, h2, h3⟩ := h
  unfold rightS
  rw [decide_eq_true h1, decide_eq_true h2, decide_eq_true h3, decide_eq_true (show ((⟨#[]⟩ : ByteArray).size : Int) ≤ 16 by decide)]
  simp [nameB]
theorem lb_all (key : ByteArray) : ∀ l : List Pr, (∀ q ∈ l, lt q.1 key = true) → lb key l = l.length ∧ has key l = false
  | [], _ => ⟨rfl, rfl⟩
  | p :: r, h => by
    obtain ⟨h1, h2⟩ := lb_all key r fun q hq => h q (List.mem_cons_of_mem _ hq)
    have hp := h p (by simp)
    refine ⟨?_, ?_⟩
    · unfold lb at h1 ⊢
      rw [List.takeWhile_cons, if_pos hp, List.length_cons, h1, List.length_cons]
    · have hne : p.1 ≠ key := fun e => by rw [e, lt_irrefl] at hp; cases hp
      unfold has at h2 ⊢
      rw [List.any_cons, h2, decide_eq_false hne]
      rfl
theorem puts_app (P : List Pr) : ∀ l : List Pr, Rise (l ++ P) → (∀ q ∈ P, FineP q) → (l ++ P).length ≤ 8 → putsS l P = l ++ P := by
  induction P with
  | nil => intro l _ _ _; simp [putsS]
  | cons p r ih =>
    intro l hr hf hl
    have hlt : ∀ q ∈ l, lt q.1 p.1 = true := fun q hq => (List.pairwise_append.1 hr).2.2 q hq p (by simp)
    obtain ⟨e1, e2⟩ := lb_all p.1 l hlt
    have hd : (doS l 2 p.1 p.2 ⟨#[]⟩).1 = l ++ [p] := by
      unfold doS
      rw [if_neg (by rw [put_fine (hf p (by simp))]; simp), if_neg (by rw [e2]; simp), if_neg (by simp), if_neg (by simp at hl; omega), e1]
      simp
    have e3 : putsS l (p :: r) = putsS (l ++ [p]) r := by unfold putsS; rw [List.foldl_cons, hd]
    rw [e3, ih (l ++ [p]) (by simpa using hr) (fun q hq => hf q (List.mem_cons_of_mem _ hq)) (by simpa using hl)]
    simp
theorem notes_all {S : List Se} (h : SInv S) : notesS zeroS (allS S) = S := by
  obtain ⟨x0, x1, x2, x3, rfl⟩ := four h.1
  obtain ⟨p0, p1, p2, p3⟩ := h.pl
  cases h0 : hasS x0 <;> cases h1 : hasS x1 <;> cases h2 : hasS x2 <;> cases h3 : hasS x3
  all_goals
    first | (have e0 := p0.on h0) | (have e0 := p0.off h0)
    first | (have e1 := p1.on h1) | (have e1 := p1.off h1)
    first | (have e2 := p2.on h2) | (have e2 := p2.off h2)
    first | (have e3 := p3.on h3) | (have e3 := p3.off h3)
    clear p0 p1 p2 p3 h
  all_goals simp_all [allS, notesS, noteS, mayS, mayC, lastS, zeroS, Se.z]
section
variable {T : List Pr} {S : List Se}
theorem Fine.puts (h : Fine T S) : putsS [] T = T := by have := puts_app T [] (by simpa using h.rise) h.ps (by simpa using h.few); simpa using this
theorem Fine.notes (h : Fine T S) : notesS zeroS (allS S) = S := notes_all h.inv
theorem Fine.wrong (h : Fine T S) : (allS S).any wrongB = false := by
  rw [List.any_eq_false]
  intro x hx
  obtain ⟨h1, h2, h3⟩ := h.xs x (List.mem_filter.1 hx).1
  unfold wrongB
  rw [decide_eq_false (by omega), h2, decide_eq_false (by omega)]
  simp
theorem Fine.right (h : Fine T S) {id ep : Int} (hi : inS id 0 5 = true) (he : inS ep 1 1099511627776 = true) : rightI id ep T (allS S) = true := by
  unfold rightI wholeB
  rw [hi, he, h.puts, h.notes, h.wrong]
  simp
end
end Go.Proofs.Ytodgcfmacmfcpaa
