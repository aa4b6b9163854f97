/- Maps of texts that a law makes for itself, held against lists of pairs. -/
import Derived.Test.YtinobhaemmddjaaTJ
import Derived.Maps.StringElems
import Derived.Maps.OwnSet
import Derived.Maps.OwnOps
namespace Go.Proofs.Ytinobhaemmddjaa
open Go.RowKit Go.Maps

def klit (k : ByteArray) : Lit := .string k.data.toList
theorem klit_ne {a b : ByteArray} (h : a ≠ b) : klit a ≠ klit b := fun e => h (data_inj (by simpa [klit] using e))
theorem klit_key (k : ByteArray) : WideAt.IsKeyLit (klit k) := by unfold klit; constructor
/-- a map as it is read has just these pairs -/
def Agr (D : DataW Unit) (l : List Pr) : Prop :=
  (∀ k, Maps.has D (klit k) = true ↔ ∃ v, (k, v) ∈ l) ∧ (∀ k v, (k, v) ∈ l → ∀ z, D.atKey (klit k) z = .lit (.string v.data.toList)) ∧ Maps.size D = l.length
theorem Agr.nil : Agr (.map []) [] := ⟨fun k => by simp [Maps.has], by simp, rfl⟩
section
variable {D : DataW Unit} {A C : List Pr} {k v x : ByteArray}
theorem Agr.mod (h : Agr D (A ++ (k, x) :: C)) (hT : Tidy D) (hA : ∀ q ∈ A, q.1 ≠ k) (hC : ∀ q ∈ C, q.1 ≠ k) : Agr (D.put (klit k) (.lit (.string v.data.toList))) (A ++ (k, v) :: C) := by
  have hk : Maps.has D (klit k) = true := (h.1 k).2 ⟨x, by simp⟩
  refine ⟨fun k' => ?_, fun k' v' hm z => ?_, ?_⟩
  · by_cases e : k' = k
    · subst e
      simp only [has_put_same hT.isMap (klit_key _), true_iff]
      exact ⟨v, by simp⟩
    · rw [has_put_other (klit_ne e), h.1 k']
      simp [e]
  · by_cases e : k' = k
    · subst e
      rw [atKey_put_same hT.isMap (klit_key _)]
      have : v' = v := by
        rcases List.mem_append.1 hm with q | q
        · exact absurd rfl (hA _ q)
        · rcases List.mem_cons.1 q with q | q
          · exact (Prod.mk.injEq _ _ _ _ ▸ q).2
          · exact absurd rfl (hC _ q)
      rw [this]
    · rw [atKey_put_other (klit_ne e)]
      refine h.2.1 k' v' ?_ z
      simp [e] at hm ⊢
      exact hm
  · rw [size_put hT, if_pos hk, h.2.2]; simp
theorem Agr.ins (h : Agr D (A ++ C)) (hT : Tidy D) (hA : ∀ q ∈ A, q.1 ≠ k) (hC : ∀ q ∈ C, q.1 ≠ k) : Agr (D.put (klit k) (.lit (.string v.data.toList))) (A ++ (k, v) :: C) := by
  have hk : ¬ Maps.has D (klit k) = true := by
    rw [h.1 k]
    rintro ⟨y, hy⟩
    rcases List.mem_append.1 hy with q | q
    · exact hA _ q rfl
    · exact hC _ q rfl
  refine ⟨fun k' => ?_, fun k' v' hm z => ?_, ?_⟩
  · by_cases e : k' = k
    · subst e
      simp only [has_put_same hT.isMap (klit_key _), true_iff]
      exact ⟨v, by simp⟩
    · rw [has_put_other (klit_ne e), h.1 k']
      simp [e]
  · by_cases e : k' = k
    · subst e
      rw [atKey_put_same hT.isMap (klit_key _)]
      have : v' = v := by
        rcases List.mem_append.1 hm with q | q
        · exact absurd rfl (hA _ q)
        · rcases List.mem_cons.1 q with q | q
          · exact (Prod.mk.injEq _ _ _ _ ▸ q).2
          · exact absurd rfl (hC _ q)
      rw [this]
    · rw [atKey_put_other (klit_ne e)]
      refine h.2.1 k' v' ?_ z
      simp [e] at hm ⊢
      exact hm
  · rw [size_put hT, if_neg hk, h.2.2]; simp; omega
theorem Agr.del (h : Agr D (A ++ (k, x) :: C)) (hT : Tidy D) (hA : ∀ q ∈ A, q.1 ≠ k) (hC : ∀ q ∈ C, q.1 ≠ k) : Agr (D.del (klit k)) (A ++ C) := by
  have hk : Maps.has D (klit k) = true := (h.1 k).2 ⟨x, by simp⟩
  refine ⟨fun k' => ?_, fun k' v' hm z => ?_, ?_⟩
  · by_cases e : k' = k
    · subst e
      rw [has_del_same]
      simp only [Bool.false_eq_true, false_iff, not_exists]
      intro y hy
      rcases List.mem_append.1 hy with q | q
      · exact hA _ q rfl
      · exact hC _ q rfl
    · rw [has_del_other (klit_ne e), h.1 k']
      simp [e]
  · have e : k' ≠ k := by
      rintro rfl
      rcases List.mem_append.1 hm with q | q
      · exact hA _ q rfl
      · exact hC _ q rfl
    rw [atKey_del_other (klit_ne e)]
    refine h.2.1 k' v' ?_ z
    simp [e] at hm ⊢
    exact hm
  · have := size_del (k := klit k) hT
    rw [if_pos hk, h.2.2] at this
    simp at this ⊢
    omega
end
theorem zeroStr (w : World) : (zeroValue 9).run Try.prog w = .ok (.string ⟨#[]⟩) w := by kernel_rfl
theorem strLaw : Keyed Try.prog 9 := string_keyed Try.underlying9
/-- block b is a map[string]string with just these pairs -/
def MapS (w : World) (b : Nat) (l : List Pr) : Prop := ∃ n D, n ≤ Maps.size D ∧ w.ownsMap Try.prog 9 (plainElem (H := Unit) Try.prog 9) b n D ∧ Agr D l
theorem MapS.lt {w : World} {b : Nat} {l : List Pr} (h : MapS w b l) : b < w.heap.size := by obtain ⟨n, D, _, h, _⟩ := h; exact h.lt
theorem MapS.made (w : World) : MapS (w.alloc (.map #[] 0)) w.heap.size [] := ⟨0, .map [], Nat.le_refl _, World.ownsMap_made w _ _ _, Agr.nil⟩
theorem MapS.heap {w w' : World} {b : Nat} {l : List Pr} (h : MapS w b l) (e : w'.heap[b]? = w.heap[b]?) : MapS w' b l := by
  obtain ⟨n, D, hn, ⟨es, c, h1, h2⟩, h⟩ := h
  exact ⟨n, D, hn, ⟨es, c, e.trans h1, h2⟩, h⟩
theorem own_size {w : World} {b n : Nat} {D : DataW Unit} (h : w.ownsMap Try.prog 9 (plainElem (H := Unit) Try.prog 9) b n D) : w.ownsMap Try.prog 9 (plainElem (H := Unit) Try.prog 9) b (Maps.size D) D := by
  obtain ⟨es, c, h1, h2, h3, rfl⟩ := h
  exact ⟨es, c, h1, h2, by simp [Maps.size, length_sorted], rfl⟩
theorem MapS.len {w : World} {b : Nat} {l : List Pr} (h : MapS w b l) (ty : TypeId) : (Builtin.len_ #[54] ty #[.map (some b)]).run Try.prog w = .ok (.int .i64 l.length) w := by
  obtain ⟨n, D, hn, hown, hA⟩ := h
  rw [hown.len Try.underlying54 ty, hA.2.2]
theorem key_s (k : ByteArray) (h : k.size ≤ maxLen) : keyOf Try.prog 9 (.string k) = some (klit k) := WideMaps.keyOf_string_mk Try.underlying9 h
section
variable {w : World} {ops : Array Oper} {rest : List Oper} {o : Oper} {a : Act} {Q : Exit → Act → World → Prop} {b : Nat} {l : List Pr}
theorem Agr.look {D : DataW Unit} (h : Agr D l) (k : ByteArray) {v : Value} {ps : List MemPlace} (hv : plainElem (H := Unit) Try.prog 9 v = some (D.atKey (klit k) (.lit (.string [])), ps)) :
    (∃ y, (k, y) ∈ l ∧ v = .string y ∧ Maps.has D (klit k) = true) ∨ ((∀ y, (k, y) ∉ l) ∧ v = .string ⟨#[]⟩ ∧ Maps.has D (klit k) = false) := by
  obtain ⟨s, rfl, hz, _⟩ := plainElem_string_inv Try.underlying9 hv
  cases hh : Maps.has D (klit k) with
  | true =>
    obtain ⟨y, hy⟩ := (h.1 k).1 hh
    rw [h.2.1 k y hy] at hz
    have hz1 : y.data.toList = s.data.toList := by
      have := congrArg Prod.fst hz
      simpa using this
    exact .inl ⟨y, hy, by rw [data_inj hz1], rfl⟩
  | false =>
    rw [atKey_of_not_has hh] at hz
    refine .inr ⟨fun y hy => ?_, ?_, rfl⟩
    · have := (h.1 k).2 ⟨y, hy⟩
      rw [hh] at this
      cases this
    · have hz1 : [] = s.data.toList := by
        have := congrArg Prod.fst hz
        simpa using this
      have e : s = ⟨#[]⟩ := data_inj (by simpa using hz1.symm)
      rw [e]
/-- v, ok := m[k], where it is there -/
theorem look_there (hg : o.guard = none) (m x : Operand) (hop : o.op = Op.lookup 54 m x true) (hm : a.eval m = .map (some b)) (h : MapS w b l) (k : ByteArray) (hx : a.eval x = .string k) (hk : k.size ≤ maxLen)
    (y : ByteArray) (hy : (k, y) ∈ l) (huniq : ∀ y', (k, y') ∈ l → y' = y) (hK : wpList Try.prog ops Q rest (a.put o.dst (.tuple #[.string y, .bool true])) w) : wpList Try.prog ops Q (o :: rest) a w := by
  obtain ⟨n, D, hn, hown, hA⟩ := h
  refine wpList_lookup_own_ok w hg m x _ hop 9 9 strLaw Try.underlying54 _ (zeroStr w) (.lit (.string [])) [] (plainElem_string Try.underlying9 (by decide)) b n D hm hown _ _ hx (key_s k hk) ?_
  intro v ps hv
  rcases hA.look k hv with ⟨y', h1, rfl, h3⟩ | ⟨h1, _⟩
  · rw [h3, huniq y' h1]; exact hK
  · exact absurd hy (h1 y)
/-- v, ok := m[k], where it is not there -/
theorem look_none (hg : o.guard = none) (m x : Operand) (hop : o.op = Op.lookup 54 m x true) (hm : a.eval m = .map (some b)) (h : MapS w b l) (k : ByteArray) (hx : a.eval x = .string k) (hk : k.size ≤ maxLen)
    (hy : ∀ y, (k, y) ∉ l) (hK : wpList Try.prog ops Q rest (a.put o.dst (.tuple #[.string ⟨#[]⟩, .bool false])) w) : wpList Try.prog ops Q (o :: rest) a w := by
  obtain ⟨n, D, hn, hown, hA⟩ := h
  refine wpList_lookup_own_ok w hg m x _ hop 9 9 strLaw Try.underlying54 _ (zeroStr w) (.lit (.string [])) [] (plainElem_string Try.underlying9 (by decide)) b n D hm hown _ _ hx (key_s k hk) ?_
  intro v ps hv
  rcases hA.look k hv with ⟨y', h1, _⟩ | ⟨_, rfl, h3⟩
  · exact absurd h1 (hy y')
  · rw [h3]; exact hK
/-- len(m) -/
theorem len_map (hg : o.guard = none) (m : Operand) (hop : o.op = Op.call { callee := Callee.builtin Builtin.len, args := #[m], argTypes := #[54] }) (hm : a.eval m = .map (some b)) (h : MapS w b l)
    (hK : wpList Try.prog ops Q rest (a.put o.dst (.int .i64 l.length)) w) : wpList Try.prog ops Q (o :: rest) a w := by
  obtain ⟨n, D, hn, hown, hA⟩ := h
  refine wpList_len_own w hg m _ hop 9 9 Try.underlying54 _ b n D hm hown ?_
  rw [hA.2.2]; exact hK
/-- m[k] = v -/
theorem put_map (hg : o.guard = none) (m x v : Operand) (hop : o.op = Op.mapUpdate 54 m x v) (hm : a.eval m = .map (some b)) (h : MapS w b l) (hl : l.length ≤ 1000) (k y : ByteArray) (hx : a.eval x = .string k) (hv : a.eval v = .string y) (hk : k.size ≤ maxLen) (hy : y.size ≤ maxLen)
    (l' : List Pr) (hl' : ∀ D, Tidy D → Agr D l → Agr (D.put (klit k) (.lit (.string y.data.toList))) l')
    (hK : ∀ w', Hid (MapS w' b l') → Hid (Only (fun i => i = b) w w') → wpList Try.prog ops Q rest (a.put o.dst undef) w') : wpList Try.prog ops Q (o :: rest) a w := by
  obtain ⟨n, D, hn, hown, hA⟩ := h
  refine wpList_mapUpdate_own w hg m x v _ hop 9 9 strLaw Try.underlying54 _ b n D hm hown (by rw [hA.2.2] at hn; unfold maxLen; omega) _ _ _ hx hv (key_s k hk) _ [] (plainElem_string Try.underlying9 hy) ?_
  intro w' hown' hgr
  exact hK w' ⟨_, _, Nat.le_refl _, own_size hown', hl' D (hown.tidy strLaw) hA⟩ (Only.of_grown hgr fun k e => by cases e; rfl)
/-- delete(m, k) -/
theorem del_map (hg : o.guard = none) (m x : Operand) (hop : o.op = Op.call { callee := Callee.builtin Builtin.delete, args := #[m, x], argTypes := #[54, 9] }) (hm : a.eval m = .map (some b)) (h : MapS w b l) (k : ByteArray) (hx : a.eval x = .string k) (hk : k.size ≤ maxLen)
    (l' : List Pr) (hl' : ∀ D, Tidy D → Agr D l → Agr (D.del (klit k)) l')
    (hK : ∀ w', Hid (MapS w' b l') → Hid (Only (fun i => i = b) w w') → wpList Try.prog ops Q rest (a.put o.dst (.tuple #[])) w') : wpList Try.prog ops Q (o :: rest) a w := by
  obtain ⟨n, D, hn, hown, hA⟩ := h
  refine wpList_delete_own w hg m x _ _ hop 9 strLaw Try.underlying54 _ b n D hm hown _ _ hx (key_s k hk) ?_
  intro w' hown' hturn
  exact hK w' ⟨_, _, Nat.le_refl _, own_size hown', hl' D (hown.tidy strLaw) hA⟩ (Only.of_grown hturn.grown fun k e => by cases e; rfl)
end
end Go.Proofs.Ytinobhaemmddjaa
