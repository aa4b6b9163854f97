/- TableMap: the walk. -/
import Derived.Test.YtodgcfmacmfcpaaMP
namespace Go.Proofs.Ytodgcfmacmfcpaa
open Go.RowKit Go.Maps

theorem split_has {l : List Pr} {k : ByteArray} (hr : Rise l) (h : has k l = true) : ∃ A x C, l = A ++ (k, x) :: C ∧ lb k l = A.length ∧ (∀ q ∈ A, q.1 ≠ k) ∧ (∀ q ∈ C, q.1 ≠ k) ∧ (l[lb k l]?.map (·.2)).getD ⟨#[]⟩ = x := by
  obtain ⟨hl, hk⟩ := (has_iff hr k).1 h
  have e : l = l.take (lb k l) ++ l[lb k l] :: l.drop (lb k l + 1) := by
    conv => lhs; rw [← List.take_append_drop (lb k l) l]
    rw [List.drop_eq_getElem_cons hl]
  have ep : l[lb k l] = (k, l[lb k l].2) := Prod.ext hk rfl
  refine ⟨l.take (lb k l), l[lb k l].2, l.drop (lb k l + 1), by rw [← ep]; exact e, by simp; omega, ?_, ?_, by simp [hl]⟩
  · intro q hq hc
    obtain ⟨i, hi, rfl⟩ := List.getElem_of_mem hq
    rw [List.length_take] at hi
    have h1 := rise_lt hr (i := i) (j := lb k l) (by omega) hl
    rw [List.getElem_take] at hc
    rw [hk, hc, lt_irrefl] at h1
    cases h1
  · intro q hq hc
    obtain ⟨i, hi, rfl⟩ := List.getElem_of_mem hq
    rw [List.length_drop] at hi
    have h1 := rise_lt hr (i := lb k l) (j := lb k l + 1 + i) (by omega) (by omega)
    rw [List.getElem_drop] at hc
    rw [hk, hc, lt_irrefl] at h1
    cases h1
theorem split_not {l : List Pr} {k : ByteArray} (h : has k l = false) : ∀ q ∈ l, q.1 ≠ k := by
  intro q hq hc
  have : has k l = true := List.any_eq_true.2 ⟨q, hq, by simp [hc]⟩
  rw [h] at this
  cases this
theorem less_cmp : ∀ a b : List UInt8, Op.bytesLess a b = decide (Lib.compareBytes a b < 0)
  | [], [] => rfl
  | [], _ :: _ => rfl
  | _ :: _, [] => rfl
  | a :: at_, b :: bs => by
    unfold Op.bytesLess Lib.compareBytes
    by_cases h1 : a < b
    · simp [h1]
    · by_cases h2 : b < a
      · have : ¬ a = b := fun e => by subst e; exact UInt8.lt_irrefl _ h2
        simp [h1, h2, this]
      · have e : a = b := UInt8.le_antisymm (UInt8.not_lt.1 h2) (UInt8.not_lt.1 h1)
        subst e
        simp [UInt8.lt_irrefl, less_cmp at_ bs]
theorem less_of {a b : ByteArray} (h : lt a b = true) : Op.bytesLess a.toList b.toList = true := by
  rw [ByteArray.toList_eq, ByteArray.toList_eq, less_cmp]
  exact h
theorem uniq_of_rise {l : List Pr} (hr : Rise l) {k a b : ByteArray} (ha : (k, a) ∈ l) (hb : (k, b) ∈ l) : a = b := by
  obtain ⟨i, hi, ei⟩ := List.getElem_of_mem ha
  obtain ⟨j, hj, ej⟩ := List.getElem_of_mem hb
  rcases Nat.lt_trichotomy i j with h | h | h
  · have := rise_lt hr h hj; rw [ei, ej, lt_irrefl] at this; cases this
  · subst h; rw [ei] at ej; exact (Prod.mk.injEq _ _ _ _ ▸ ej).2
  · have := rise_lt hr h hi; rw [ei, ej, lt_irrefl] at this; cases this
theorem has_mem {l : List Pr} {k v : ByteArray} (h : (k, v) ∈ l) : has k l = true := List.any_eq_true.2 ⟨_, h, by simp⟩

theorem keys_fit (n : Int) : (1 : Int) ≤ (keyS n).size ∧ ((keyS n).size : Int) ≤ 8 := by
  have : ∀ k ∈ keyL, (1 : Int) ≤ k.size ∧ (k.size : Int) ≤ 8 := by decide
  exact this _ (keyS_mem n)
theorem vals_fit (n : Int) : ((valS n).size : Int) ≤ 16 := by
  have : ∀ k ∈ valL, (k.size : Int) ≤ 16 := by decide
  exact this _ (valS_mem n)
theorem kind_fit (n : Int) : 1 ≤ oKind n ∧ oKind n ≤ 4 := by
  have l1 := pick_lo n 4 (by omega)
  have l2 := pick_hi n 4 (by omega)
  unfold oKind; omega
theorem right_op (kind key value old : Int) : rightS (oKind kind) (keyS key) (oVal kind value) (oOld kind old) = true := by
  obtain ⟨h1, h2⟩ := kind_fit kind
  obtain ⟨h3, h4⟩ := keys_fit key
  have h5 := vals_fit value
  have h6 := vals_fit old
  have e : (⟨#[]⟩ : ByteArray).toList = [] := by kernel_rfl
  have e0 : ((⟨#[]⟩ : ByteArray).size : Int) ≤ 16 := by decide
  unfold rightS oVal oOld nameB
  have hc : oKind kind = 1 ∨ oKind kind = 2 ∨ oKind kind = 3 ∨ oKind kind = 4 := by omega
  rcases hc with hc | hc | hc | hc <;> simp [hc, h3, h4, h5, h6, e, e0]
section
variable {l A C : List Pr} {k v old x : ByteArray} {kind : Int}
theorem doS_there (hr : rightS kind k v old = true) (hl : l = A ++ (k, x) :: C) (hp : lb k l = A.length) (hx : (l[lb k l]?.map (·.2)).getD ⟨#[]⟩ = x) :
    doS l kind k v old = if kind = 1 then (l, 0, x) else if kind = 3 then (A ++ C, 0, ⟨#[]⟩) else if kind = 4 then if x = old then (A ++ (k, v) :: C, 0, ⟨#[]⟩) else (l, 6, x) else if kind = 2 then (A ++ (k, v) :: C, 0, ⟨#[]⟩) else (l, 0, ⟨#[]⟩) := by
  have hh : has k l = true := by rw [hl]; exact has_mem (v := x) (by simp)
  have e1 : l.take A.length ++ l.drop (A.length + 1) = A ++ C := by
    rw [hl, List.take_left, ← List.drop_drop, List.drop_left]
    rfl
  have e2 : (l.modify A.length fun q => (q.1, v)) = A ++ (k, v) :: C := by
    rw [hl]
    apply List.ext_getElem?
    intro i
    simp only [List.getElem?_modify, List.getElem?_append]
    by_cases hi : i < A.length
    · have : ¬ A.length = i := by omega
      simp [hi, this]
    · cases hj : i - A.length with
      | zero => have : A.length = i := by omega
                simp [this]
      | succ m => have : ¬ A.length = i := by omega
                  simp [hi, this]
  unfold doS changeS
  rw [hr, hh, hx, hp, e1, e2]
  simp
theorem doS_not (hr : rightS kind k v old = true) (hh : has k l = false) :
    doS l kind k v old = if ¬ kind = 2 then (l, 4, ⟨#[]⟩) else if l.length = 8 then (l, 5, ⟨#[]⟩) else (l.take (lb k l) ++ (k, v) :: l.drop (lb k l), 0, ⟨#[]⟩) := by
  unfold doS
  rw [hr, hh]
  simp
end
theorem doS_keys {l : List Pr} (h : ∀ q ∈ l, q.1.size ≤ 8) (kind : Int) (key v old : ByteArray) : ∀ q ∈ (doS l kind key v old).1, q.1.size ≤ 8 := by
  have hm : ∀ p, ∀ q ∈ l.modify p (fun q => (q.1, v)), q.1.size ≤ 8 := by
    intro p q hq
    have : q.1 ∈ (l.modify p fun q => (q.1, v)).map (·.1) := List.mem_map_of_mem hq
    rw [map_mod] at this
    obtain ⟨q', h1, h2⟩ := List.mem_map.1 this
    rw [← h2]
    exact h q' h1
  have hd : ∀ p, ∀ q ∈ l.take p ++ l.drop (p + 1), q.1.size ≤ 8 := by
    intro p q hq
    rcases List.mem_append.1 hq with x | x
    · exact h q (List.mem_of_mem_take x)
    · exact h q (List.mem_of_mem_drop x)
  unfold doS
  split
  · exact h
  · rename_i hr
    split
    · unfold changeS
      split
      · exact h
      split
      · exact hd _
      split
      · split
        · exact hm _
        · exact h
      split
      · exact hm _
      · exact h
    · split
      · exact h
      split
      · exact h
      · intro q hq
        rcases List.mem_append.1 hq with x | x
        · exact h q (List.mem_of_mem_take x)
        · rcases List.mem_cons.1 x with rfl | x
          · have : rightS kind key v old = true := by simpa using hr
            simp only [rightS, Bool.and_eq_true, decide_eq_true_eq] at this
            have := this.1.1.1.1.2
            show key.size ≤ 8
            omega
          · exact h q (List.mem_of_mem_drop x)
def opO (k : Int) (key v old : ByteArray) : Obj := .cells #[.int .i64 k, .string key, .string v, .string old] 45
section
variable {w : World} {g : Nat} {k : Int} {key v old : ByteArray}
theorem op_cells {s : Nat} (h : w.heap[s]? = some (opO k key v old)) : w.cell? ⟨s, 0, none⟩ = some (.int .i64 k) ∧ w.cell? ⟨s, 1, none⟩ = some (.string key) ∧ w.cell? ⟨s, 2, none⟩ = some (.string v) ∧ w.cell? ⟨s, 3, none⟩ = some (.string old) := by
  unfold opO at h
  rw [cell_of_row w _ 0 _ _ (0, 0) h, cell_of_row w _ 1 _ _ (0, 0) h, cell_of_row w _ 2 _ _ (0, 0) h, cell_of_row w _ 3 _ _ (0, 0) h]
  exact ⟨rfl, rfl, rfl, rfl⟩
/-- behind a Do: the operation's block is as it was -/
theorem did_op {w2 w3 : World} (hO : Only (fun i => i = g) (w2.alloc (opO k key v old)) w3) (hg : g < w2.heap.size) : w2.heap.size < w3.heap.size ∧ w3.heap[w2.heap.size]? = some (opO k key v old) := by
  have e : (w2.alloc (opO k key v old)).heap.size = w2.heap.size + 1 := by show (w2.heap.push _).size = _; simp
  have := hO.size
  exact ⟨by omega, (hO.block _ (by omega) (by omega)).trans (alloc_new w2 _)⟩
end
end Go.Proofs.Ytodgcfmacmfcpaa
