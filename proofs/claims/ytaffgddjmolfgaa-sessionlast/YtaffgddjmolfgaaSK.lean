/- Sessions: what is noted, in whatever order. -/
import Derived.Test.YtaffgddjmolfgaaSB
namespace Go.Proofs.Ytaffgddjmolfgaa
open Go.RowKit

theorem four' {l : List Se} (h : l.length = 4) : ∃ a b c d, l = [a, b, c, d] := by
  match l, h with
  | [a, b, c, d], _ => exact ⟨a, b, c, d, rfl⟩
theorem mayC_nat {k : Nat} (hk : k < 4) : mayC (k : Int) = true := by unfold mayC; rw [decide_eq_true (by omega), decide_eq_true (by omega)]; rfl
theorem lastS_set {l : List Se} (h : l.length = 4) (x : Se) (k j : Nat) (_hk : k < 4) (hj : j < 4) : lastS (l.set k x) (j : Int) = if k = j then x else lastS l (j : Int) := by
  have h1 := last_at (l := l.set k x) (by simpa using h) hj
  rw [List.getElem?_set] at h1
  split at h1
  · rename_i e
    rw [if_pos e]
    split at h1
    · simpa using h1.symm
    · omega
  · rename_i e
    rw [if_neg e]
    have h2 := last_at h hj
    rw [h2] at h1
    simpa using h1.symm
/-- what stands in l is the greatest of what is in xs -/
def Gr (l xs : List Se) : Prop := ∀ k : Nat, k < 4 → (lastS l (k : Int) = Se.z ∨ (lastS l (k : Int) ∈ xs ∧ (lastS l (k : Int)).cl = (k : Int))) ∧ ∀ x ∈ xs, x.cl = (k : Int) → x.sq ≤ (lastS l (k : Int)).sq ∨ x.sq ≤ 0
theorem lastS_zero (k : Nat) (hk : k < 4) : lastS zeroS (k : Int) = Se.z := by
  have h1 := last_at (l := zeroS) rfl hk
  have : lastS zeroS (k : Int) ∈ zeroS := List.mem_of_getElem? h1
  simp only [zeroS, List.mem_cons, List.not_mem_nil, or_false, or_self] at this
  exact this
theorem Gr.note {l xs : List Se} (hI : SInv l) (h : Gr l xs) (x : Se) : Gr (noteS l x) (xs ++ [x]) := by
  intro k hk
  obtain ⟨h1, h2⟩ := h k hk
  by_cases hm : mayS l x = true
  · have hm' := hm
    simp only [mayS, Bool.and_eq_true, decide_eq_true_eq] at hm'
    obtain ⟨hc, hlt⟩ := hm'
    obtain ⟨j, hj, e⟩ := may_nat hc
    have e2 : noteS l x = l.set j x := by unfold noteS; rw [if_pos hm, e]; rfl
    rw [e2, lastS_set hI.1 x j k hj hk]
    by_cases hjk : j = k
    · subst hjk
      rw [if_pos rfl]
      refine ⟨.inr ⟨by simp, e⟩, fun y hy hyc => ?_⟩
      rcases List.mem_append.1 hy with hy | hy
      · rcases h2 y hy hyc with q | q
        · left; rw [e] at hlt; omega
        · exact .inr q
      · simp at hy; subst hy; exact .inl (Int.le_refl _)
    · rw [if_neg hjk]
      refine ⟨?_, fun y hy hyc => ?_⟩
      · rcases h1 with q | q
        · exact .inl q
        · exact .inr ⟨List.mem_append_left _ q.1, q.2⟩
      · rcases List.mem_append.1 hy with hy | hy
        · exact h2 y hy hyc
        · simp at hy; subst hy; exfalso; rw [e] at hyc; omega
  · have e2 : noteS l x = l := by unfold noteS; rw [if_neg hm]
    rw [e2]
    refine ⟨?_, fun y hy hyc => ?_⟩
    · rcases h1 with q | q
      · exact .inl q
      · exact .inr ⟨List.mem_append_left _ q.1, q.2⟩
    · rcases List.mem_append.1 hy with hy | hy
      · exact h2 y hy hyc
      · simp at hy
        subst hy
        simp only [mayS, Bool.and_eq_true, decide_eq_true_eq, not_and, hyc] at hm
        left
        have := hm (mayC_nat hk)
        omega
theorem Gr.notes (xs : List Se) : ∀ (l ys : List Se), SInv l → Gr l ys → Gr (notesS l xs) (ys ++ xs) := by
  induction xs with
  | nil => intro l ys _ h; simpa [notesS] using h
  | cons x r ih =>
    intro l ys hI h
    have := ih (noteS l x) (ys ++ [x]) (hI.note x) (h.note hI x)
    simpa [notesS] using this
theorem Gr.all (xs : List Se) : Gr (notesS zeroS xs) xs := by
  have := Gr.notes xs zeroS [] SInv.zero (fun k hk => ⟨.inl (lastS_zero k hk), by simp⟩)
  simpa using this
theorem ext4 {l l' : List Se} (h : l.length = 4) (h' : l'.length = 4) (he : ∀ k : Nat, k < 4 → lastS l (k : Int) = lastS l' (k : Int)) : l = l' := by
  apply List.ext_getElem?
  intro i
  by_cases hi : i < 4
  · rw [last_at h hi, last_at h' hi, he i hi]
  · rw [List.getElem?_eq_none (by omega), List.getElem?_eq_none (by omega)]
/-- an answer hangs on its number -/
def Det (xs : List Se) : Prop := ∀ x ∈ xs, ∀ y ∈ xs, x.cl = y.cl → x.sq = y.sq → x = y
theorem sq_pos {l : List Se} (h : SInv l) (k : Nat) (hz : ¬ lastS l (k : Int) = Se.z) : 0 < (lastS l (k : Int)).sq := by
  rcases h.last (k : Int) with e | e
  · exact absurd e hz
  · exact e.2.1
/-- the greatest are told by what there is -/
theorem Gr.same {l l' xs ys : List Se} (hI : SInv l) (hI' : SInv l') (h : Gr l xs) (h' : Gr l' ys) (hs : ∀ x, x ∈ xs ↔ x ∈ ys) (hd : Det xs) : l = l' := by
  refine ext4 hI.1 hI'.1 fun k hk => ?_
  obtain ⟨a1, a2⟩ := h k hk
  obtain ⟨b1, b2⟩ := h' k hk
  by_cases hz : lastS l (k : Int) = Se.z
  · by_cases hz' : lastS l' (k : Int) = Se.z
    · rw [hz, hz']
    · exfalso
      have hp := sq_pos hI' k hz'
      rcases b1 with q | q
      · exact hz' q
      · have := a2 _ ((hs _).2 q.1) q.2
        rw [hz] at this
        simp only [Se.z] at this
        omega
  · have hp := sq_pos hI k hz
    rcases a1 with q | q
    · exact absurd q hz
    have h3 := b2 _ ((hs _).1 q.1) q.2
    have hz' : ¬ lastS l' (k : Int) = Se.z := by
      intro e
      rw [e] at h3
      simp only [Se.z] at h3
      omega
    have hp' := sq_pos hI' k hz'
    rcases b1 with r | r
    · exact absurd r hz'
    have h4 := a2 _ ((hs _).2 r.1) r.2
    exact hd _ q.1 _ ((hs _).2 r.1) (by rw [q.2, r.2]) (by omega)
theorem mem_all {l : List Se} (h : SInv l) {x : Se} : x ∈ allS l ↔ ∃ k : Nat, k < 4 ∧ lastS l (k : Int) = x ∧ 0 < x.sq := by
  unfold allS
  rw [List.mem_filter]
  constructor
  · rintro ⟨hx, hp⟩
    obtain ⟨k, hk, rfl⟩ := List.getElem_of_mem hx
    have hk4 : k < 4 := by rw [h.1] at hk; exact hk
    have := last_at h.1 hk4
    rw [List.getElem?_eq_getElem hk] at this
    exact ⟨k, hk4, (Option.some.inj this).symm, of_decide_eq_true hp⟩
  · rintro ⟨k, hk, rfl, hp⟩
    exact ⟨List.mem_of_getElem? (last_at h.1 hk), decide_eq_true hp⟩
/-- what is told, noted anew -/
theorem again {l : List Se} (h : SInv l) : notesS zeroS (allS l) = l := by
  have hI := SInv.zero.notes (allS l)
  have hG := Gr.all (allS l)
  refine ext4 hI.1 h.1 fun k hk => ?_
  obtain ⟨a1, a2⟩ := hG k hk
  have own : ∀ x ∈ allS l, x.cl = (k : Int) → x = lastS l (k : Int) := by
    intro x hx hc
    obtain ⟨j, hj, rfl, hp⟩ := (mem_all h).1 hx
    rcases h.last (j : Int) with e | e
    · rw [e] at hp; simp [Se.z] at hp
    · rw [e.1] at hc; rw [hc]
  by_cases hz : lastS l (k : Int) = Se.z
  · rcases a1 with q | q
    · rw [q, hz]
    · exact own _ q.1 q.2
  · have hp := sq_pos h k hz
    have hm : lastS l (k : Int) ∈ allS l := (mem_all h).2 ⟨k, hk, rfl, hp⟩
    have hc : (lastS l (k : Int)).cl = (k : Int) := by
      rcases h.last (k : Int) with e | e
      · exact absurd e hz
      · exact e.1
    have h3 := a2 _ hm hc
    rcases a1 with q | q
    · rw [q] at h3; simp only [Se.z] at h3; omega
    · exact own _ q.1 q.2
theorem order_eq (xs : List Se) (k : Nat) (hd : Det xs) : notesS zeroS (xs.drop k ++ xs.take k) = notesS zeroS xs := by
  refine Gr.same (SInv.zero.notes _) (SInv.zero.notes _) (Gr.all _) (Gr.all _) (fun x => ?_) ?_
  · rw [List.mem_append, or_comm, ← List.mem_append, List.take_append_drop]
  · intro x hx y hy
    have m : ∀ x ∈ xs.drop k ++ xs.take k, x ∈ xs := fun x hx => by
      rcases List.mem_append.1 hx with h | h
      · exact List.mem_of_mem_drop h
      · exact List.mem_of_mem_take h
    exact hd x (m x hx) y (m y hy)
end Go.Proofs.Ytaffgddjmolfgaa
