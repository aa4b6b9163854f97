/- Maps of texts that a law makes for itself, held against lists of pairs. -/
import Derived.Test.YtodgcfmacmfcpaaTJ
import Derived.Maps.StringElems
import Derived.Maps.OwnSet
import Derived.Maps.OwnOps
namespace Go.Proofs.Ytodgcfmacmfcpaa
open Go.RowKit Go.Maps

def klit (k : ByteArray) : Lit := .string k.data.toList
theorem klit_ne {a b : ByteArray} (h : a ≠ b) : klit a ≠ klit b := fun e => h (data_inj (by simpa [klit] using e))
theorem klit_key (k : ByteArray) : WideAt.IsKeyLit (klit k) := by unfold klit; constructor
/-- a map as it is read has just these pairs -/
def Agr (D : DataW Unit) (l : List Pr) : Prop :=
  (∀ k, Maps.has D (klit k) = true ↔ ∃ v, (k, v) ∈ l) ∧ (∀ k v, (k, v) ∈ l → ∀ z, D.atKey (klit k) z = .lit (.string v.data.toList)) ∧ Maps.size D = l.length
theorem Agr.nil : Agr (.map []) [] := ⟨fun k => by simp [Maps.has], by simp, rfl⟩
section
variable {D : DataW Unit} {A C : List Pr} {k v x : ByteArray}
theorem Agr.mod (h : Agr D (A ++ (k, x) :: C)) (hT : Tidy D) (hA : ∀ q ∈ A, q.1 ≠ k) (hC : ∀ q ∈ C, q.1 ≠ k) : Agr (D.put (klit k) (.lit (.string v.data.toList))) (A ++ (k, v) :: C) := by
  have hk : Maps.has D (klit k) = true := (h.1 k).2 ⟨x, by simp⟩
  refine ⟨fun k' => ?_, fun k' v' hm z => ?_, ?_⟩
  · by_cases e : k' = k
    · subst e
      simp only [has_put_same hT.isMap (klit_key _), true_iff]
      exact ⟨v, by simp⟩
    · rw [has_put_other (klit_ne e), h.1 k']
      simp [e]
  · by_cases e : k' = k
    · subst e
      rw [atKey_put_same hT.isMap (klit_key _)]
      have : v' = v := by
        rcases List.mem_append.1 hm with q | q
        · exact absurd rfl (hA _ q)
        · rcases List.mem_cons.1 q with q | q
          · exact (Prod.mk.injEq _ _ _ _ ▸ q).2
          · exact absurd rfl (hC _ q)
      rw [this]
    · rw [atKey_put_other (klit_ne e)]
      refine h.2.1 k' v' ?_ z
      simp [e] at hm ⊢
      exact hm
  · rw [size_put hT, if_pos hk, h.2.2]; simp
theorem Agr.ins (h : Agr D (A ++ C)) (hT : Tidy D) (hA : ∀ q ∈ A, q.1 ≠ k) (hC : ∀ q ∈ C, q.1 ≠ k) : Agr (D.put (klit k) (.lit (.string v.data.toList))) (A ++ (k, v) :: C) := by
  have hk : ¬ Maps.has D (klit k) = true := by
    rw [h.1 k]
    rintro ⟨y, hy⟩
    rcases List.mem_append.1 hy with q | q
    · exact hA _ q rfl
    · exact hC _ q rfl
  refine ⟨fun k' => ?_, fun k' v' hm z => ?_, ?_⟩
  · by_cases e : k' = k
    · subst e
      simp only [has_put_same hT.isMap (klit_key _), true_iff]
      exact ⟨v, by simp⟩
    · rw [has_put_other (klit_ne e), h.1 k']
      simp [e]
  · by_cases e : k' = k
    · subst e
      rw [atKey_put_same hT.isMap (klit_key _)]
      have : v' = v := by
        rcases List.mem_append.1 hm with q | q
        · exact absurd rfl (hA _ q)
        · rcases List.mem_cons.1 q with q | q
          · exact (Prod.mk.injEq _ _ _ _ ▸ q).2
          · exact absurd rfl (hC _ q)
      rw [this]
    · rw [atKey_put_other (klit_ne e)]
      refine h.2.1 k' v' ?_ z
      simp [e] at hm ⊢
      exact hm
  · rw [size_put hT, if_neg hk, h.2.2]; simp; omega
theorem Agr.del (h : Agr D (A ++ (k, x) :: C)) (hT : Tidy D) (hA : ∀ q ∈ A, q.1 ≠ k) (hC : ∀ q ∈ C, q.1 ≠ k) : Agr (D.del (klit k)) (A ++ C) := by
  have hk : Maps.has D (klit k) = true := (h.1 k).2 ⟨x, by simp⟩
  refine ⟨fun k' => ?_, fun k' v' hm z => ?_, ?_⟩
  · by_cases e : k' = k
    · subst e
      rw [has_del_same]
      simp only [Bool.false_eq_true, false_iff, not_exists]
      intro y hy
      rcases List.mem_append.1 hy with q | q
      · exact hA _ q rfl
      · exact hC _ q rfl
    · rw [has_del_other (klit_ne e), h.1 k']
      simp [e]
  · have e : k' ≠ k := by
      rintro rfl
      rcases List.mem_append.1 hm with q | q
      · exact hA _ q rfl
      · exact hC _ q rfl
    rw [atKey_del_other (klit_ne e)]
    refine h.2.1 k' v' ?_ z
    simp [e] at hm ⊢
    exact hm
  · have := size_del (k := klit k) hT
    rw [if_pos hk, h.2.2] at this
    simp at this ⊢
    omega
end
end Go.Proofs.Ytodgcfmacmfcpaa
