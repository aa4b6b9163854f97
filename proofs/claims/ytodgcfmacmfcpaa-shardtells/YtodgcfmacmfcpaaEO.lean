/- Objects that lie within a larger block: cells o, o + 1, .. of block g; worlds that differ in a part of a block alone. -/
import Derived.Test.YtodgcfmacmfcpaaEK
namespace Go.Proofs.Ytodgcfmacmfcpaa
open Go.RowKit

/-- the cells of block g from o on are cs; the block is one of cells, none of them frozen -/
def Ob (w : World) (g o : Nat) (cs : List Value) : Prop := ∃ (F : Array Value) (t : TypeId), w.heap[g]? = some (.cells F t (0, 0)) ∧ o + cs.length ≤ F.size ∧ ∀ j u, cs[j]? = some u → F[o + j]? = some u
/-- w' is as w was, but for cells o .. o + n - 1 of block g, and new blocks -/
structure Part (g o n : Nat) (w w' : World) : Prop where
  only : Only (fun k => k = g) w w'
  row : ∀ (F : Array Value) (t : TypeId), w.heap[g]? = some (.cells F t (0, 0)) → ∃ F' : Array Value, w'.heap[g]? = some (.cells F' t (0, 0)) ∧ F'.size = F.size ∧ ∀ i, i < o ∨ o + n ≤ i → F'[i]? = F[i]?
section
variable {w w' w'' W : World} {g o p n m q : Nat} {cs ds : List Value} {S : Nat → Prop}
theorem Ob.lt (h : Ob w g o cs) : g < w.heap.size := by obtain ⟨F, t, h1, _⟩ := h; exact (Array.getElem?_eq_some_iff.1 h1).1
theorem Ob.heap (h : Ob w g o cs) (e : w'.heap[g]? = w.heap[g]?) : Ob w' g o cs := by obtain ⟨F, t, h1, h2⟩ := h; exact ⟨F, t, e.trans h1, h2⟩
theorem Ob.below (h : Ob w g o cs) (hb : Below w.heap.size w w') : Ob w' g o cs := h.heap (hb.block g h.lt)
theorem Ob.apart (h : Ob w g o cs) (ho : Only S w w') (hn : ¬ S g) : Ob w' g o cs := h.heap (ho.block g h.lt hn)
theorem Ob.at (h : Ob w g o cs) (j : Nat) (u : Value) (hj : cs[j]? = some u) : w.cell? ⟨g, o + j, none⟩ = some u := by
  obtain ⟨F, t, h1, _, h3⟩ := h
  rw [cell_of_row w _ _ _ _ (0, 0) h1]
  exact h3 j u hj
theorem Ob.free (h : Ob w g o cs) (i : Nat) : w.frozen? ⟨g, i, none⟩ = false := by
  obtain ⟨F, t, h1, _⟩ := h
  simp [World.frozen?, h1]
theorem Ob.whole {C : Array Value} {t : TypeId} (h : w.heap[g]? = some (.cells C t (0, 0))) : Ob w g 0 C.toList :=
  ⟨C, t, h, by simp, fun j u hj => by rw [Nat.zero_add, ← hj]; simp⟩
/-- a block whose cells are known one and all -/
theorem Ob.full {F : Array Value} {t : TypeId} (h : Ob w g 0 cs) (hF : w.heap[g]? = some (.cells F t (0, 0))) (hs : F.size = cs.length) : F = cs.toArray := by
  obtain ⟨F', t', h1, _, h3⟩ := h
  rw [hF] at h1
  simp only [Option.some.injEq, Obj.cells.injEq] at h1
  obtain ⟨rfl, _⟩ := h1
  apply Array.ext_getElem?
  intro i
  by_cases hi : i < cs.length
  · have := h3 i cs[i] (List.getElem?_eq_getElem hi)
    rw [Nat.zero_add] at this
    rw [this]
    simp [List.getElem?_eq_getElem hi]
  · rw [Array.getElem?_eq_none (by omega)]
    simp; omega
/-- a part of it -/
theorem Ob.mid {a b c : List Value} (h : Ob w g o (a ++ b ++ c)) : Ob w g (o + a.length) b := by
  obtain ⟨F, t, h1, h2, h3⟩ := h
  refine ⟨F, t, h1, by simp at h2; omega, fun j u hj => ?_⟩
  have hl : j < b.length := (List.getElem?_eq_some_iff.1 hj).1
  have := h3 (a.length + j) u (by rw [List.append_assoc, List.getElem?_append_right (by omega), Nat.add_sub_cancel_left, List.getElem?_append_left hl]; exact hj)
  rwa [← Nat.add_assoc] at this
theorem Ob.fst {a c : List Value} (h : Ob w g o (a ++ c)) : Ob w g o a := by
  have : Ob w g o ([] ++ a ++ c) := by simpa using h
  simpa using this.mid
theorem Ob.snd {a c : List Value} (h : Ob w g o (a ++ c)) : Ob w g (o + a.length) c := by
  have : Ob w g o (a ++ c ++ []) := by simpa using h
  exact this.mid
theorem Ob.join (h : Ob w g o cs) (k : Ob w g (o + cs.length) ds) : Ob w g o (cs ++ ds) := by
  obtain ⟨F, t, h1, h2, h3⟩ := h
  obtain ⟨F', t', k1, k2, k3⟩ := k
  rw [h1] at k1
  simp only [Option.some.injEq, Obj.cells.injEq] at k1
  obtain ⟨rfl, _⟩ := k1
  refine ⟨F, t, h1, by simp; omega, fun j u hj => ?_⟩
  by_cases hl : j < cs.length
  · rw [List.getElem?_append_left hl] at hj
    exact h3 j u hj
  · rw [List.getElem?_append_right (by omega)] at hj
    have := k3 _ u hj
    rwa [show o + cs.length + (j - cs.length) = o + j by omega] at this
theorem Ob.rd {α : Type} {K : Knd α} {l : List α} (h : Ob w g o (flt K l)) : RdK K w g o l := rd_flt fun j u hj => h.at j u hj
theorem Part.refl (g o n : Nat) (w : World) : Part g o n w w := ⟨Only.refl _ _, fun F _ h => ⟨F, h, rfl, fun _ _ => rfl⟩⟩
theorem Part.trans (h : Part g o n w w') (k : Part g o n w' w'') : Part g o n w w'' :=
  ⟨h.only.trans k.only, fun F t hF => by
    obtain ⟨F', h1, h2, h3⟩ := h.row F t hF
    obtain ⟨F'', k1, k2, k3⟩ := k.row F' t h1
    exact ⟨F'', k1, k2.trans h2, fun i hi => (k3 i hi).trans (h3 i hi)⟩⟩
theorem Part.mono (h : Part g o n w w') (h1 : p ≤ o) (h2 : o + n ≤ p + m) : Part g p m w w' :=
  ⟨h.only, fun F t hF => by
    obtain ⟨F', a, b, c⟩ := h.row F t hF
    exact ⟨F', a, b, fun i hi => c i (by omega)⟩⟩
theorem Part.of_heap (o n : Nat) (h : Only (fun k => k = g) w w') (e : w'.heap[g]? = w.heap[g]?) : Part g o n w w' := ⟨h, fun F _ hF => ⟨F, e.trans hF, rfl, fun _ _ => rfl⟩⟩
theorem Part.of_below (o n : Nat) (hg : g < w.heap.size) (h : Below w.heap.size w w') : Part g o n w w' := Part.of_heap o n (Only.of_below _ h) (h.block g hg)
theorem Part.set (w : World) (g p : Nat) (u : Value) : Part g p 1 w (w.setCell ⟨g, p, none⟩ u) :=
  ⟨only_set (Only.refl _ _) _ _, fun F t hF => ⟨F.setIfInBounds p u, heap_setCell_same w g p F t u hF, by simp, fun i hi => by rw [Array.getElem?_setIfInBounds, if_neg (by omega)]⟩⟩
theorem Part.written (g : Nat) (vs : List Value) : ∀ (w : World) (p : Nat), Part g p vs.length w (wsets w g p vs) := by
  induction vs with
  | nil => intro w p; exact Part.refl _ _ _ _
  | cons v r ih =>
    intro w p
    exact ((Part.set w g p v).mono (Nat.le_refl _) (by simp only [List.length_cons]; omega)).trans ((ih (w.setCell ⟨g, p, none⟩ v) (p + 1)).mono (by omega) (by simp only [List.length_cons]; omega))
/-- a whole row is written anew, all but a part as it was -/
theorem Part.setRow {F F' : Array Value} {t : TypeId} (hF : w.heap[g]? = some (.cells F t (0, 0))) (hs : F'.size = F.size) (hi : ∀ i, i < o ∨ o + n ≤ i → F'[i]? = F[i]?) : Part g o n w (w.setRow g F') :=
  ⟨⟨rfl, rfl, rfl, by simp [World.setRow], fun k _ hk => setRow_other w g k _ hk⟩, fun G t' hG => by
    rw [hF] at hG
    simp only [Option.some.injEq, Obj.cells.injEq] at hG
    obtain ⟨rfl, rfl, _⟩ := hG
    exact ⟨F', setRow_heap w g _ _ _ _ hF, hs, hi⟩⟩
/-- what lies beside the part stays -/
theorem Ob.part (h : Ob w g p cs) (k : Part g o n w w') (hd : p + cs.length ≤ o ∨ o + n ≤ p) : Ob w' g p cs := by
  obtain ⟨F, t, h1, h2, h3⟩ := h
  obtain ⟨F', k1, k2, k3⟩ := k.row F t h1
  refine ⟨F', t, k1, by omega, fun j u hj => ?_⟩
  have hl : j < cs.length := (List.getElem?_eq_some_iff.1 hj).1
  rw [k3 _ (by omega)]
  exact h3 j u hj
theorem Ob.set (h : Ob w g o cs) (j : Nat) (hj : j < cs.length) (u : Value) : Ob (w.setCell ⟨g, o + j, none⟩ u) g o (cs.set j u) := by
  obtain ⟨F, t, h1, h2, h3⟩ := h
  refine ⟨F.setIfInBounds (o + j) u, t, heap_setCell_same w g (o + j) F t u h1, by simp; omega, fun i v hi => ?_⟩
  rw [List.getElem?_set] at hi
  rw [Array.getElem?_setIfInBounds]
  by_cases e : j = i
  · subst e
    rw [if_pos rfl, if_pos hj] at hi
    rw [if_pos rfl, if_pos (by omega)]
    exact hi
  · rw [if_neg e] at hi
    rw [if_neg (by omega)]
    exact h3 i v hi
theorem Ob.written (vs : List Value) : ∀ (w : World) (cs : List Value) (j : Nat), Ob w g o cs → j + vs.length ≤ cs.length → Ob (wsets w g (o + j) vs) g o (setsL cs j vs) := by
  induction vs with
  | nil => intro w cs j h _; exact h
  | cons v r ih =>
    intro w cs j h hl
    simp only [List.length_cons] at hl
    have := ih (w.setCell ⟨g, o + j, none⟩ v) (cs.set j v) (j + 1) (h.set j (by omega) v) (by simp; omega)
    rw [← Nat.add_assoc] at this
    exact this
/-- an element of a list that lies there is written, cell by cell -/
theorem Ob.elem {α : Type} {K : Knd α} {l : List α} (h : Ob w g o (flt K l)) (k : Nat) (hk : k < l.length) (x : α) : Ob (wsets w g (o + k * K.c) (K.cells x)) g o (flt K (l.set k x)) := by
  have hb : k * K.c + (K.cells x).length ≤ (flt K l).length := by
    rw [flt_length, K.len]
    have := Nat.mul_le_mul_right K.c hk
    rw [Nat.succ_mul] at this
    exact this
  have := Ob.written (K.cells x) w (flt K l) (k * K.c) h hb
  rw [setsL_eq _ _ _ hb, ← K.len x] at this
  rw [flt_set l k hk x, ← K.len x]
  exact this
end
section
variable {w w' w'' : World} {g o p n b : Nat}
theorem Part.drew (g o n : Nat) (w : World) : Part g o n w w.drew := Part.of_heap _ _ (Only.of_drew _ _) rfl
theorem Part.al (o n : Nat) (hg : g < w.heap.size) (x : Obj) : Part g o n w (w.alloc x) := Part.of_below _ _ hg (bel_al w x)
theorem Part.setIn (w : World) (h1 : o ≤ p) (h2 : p < o + n) (u : Value) : Part g o n w (w.setCell ⟨g, p, none⟩ u) := (Part.set w g p u).mono h1 (by omega)
/-- .. and then a block that was new is written -/
theorem Part.fresh (h : Part g o n w w') (k : Only (fun i => i = b) w' w'') (hb : w.heap.size ≤ b) (hg : g < w.heap.size) : Part g o n w w'' :=
  ⟨h.only.step k fun i hi e => absurd hi (by omega), fun F t hF => by
    obtain ⟨F', h1, h2, h3⟩ := h.row F t hF
    exact ⟨F', (k.block g (Nat.lt_of_lt_of_le hg h.only.size) (by omega)).trans h1, h2, h3⟩⟩
end
/-- a value of several cells is loaded from within a block -/
theorem run_loadVar_ob {P : Program} (w : World) (g o : Nat) (ty : TypeId) (cs : List Value) (d : TypeDesc) (hg : Ob w g o cs)
    (hu : P.underlying ty = some d) (hd : (match d with | .struct _ | .array _ _ => true | _ => false) = true) (hi : (P.info? ty).map (·.size) = some cs.length) :
    (loadVar ty ⟨g, o, none⟩).run P w = .ok (.agg cs.toArray) w := by
  have hl : (loadCells ⟨g, o, none⟩ cs.length).run P w = .ok cs.toArray w :=
    run_loadCells_list (P := P) w ⟨g, o, none⟩ cs (fun j v hv => by rw [add_at]; exact hg.at j v hv)
  cases hq : P.info? ty with
  | none => simp [hq] at hi
  | some i =>
    have hs : i.size = cs.length := by simpa [hq] using hi
    have hagg : (isAgg ty).run P w = .ok true w := by
      unfold isAgg
      rw [Sem.run_bind, run_underlying hu w]
      cases d <;> simp_all
    simp [loadVar, Sem.run_bind, hagg, sizeOf, typeInfo, hq, hs, hl]
theorem wpList_load_ob {P : Program} {ops : Array Oper} {rest : List Oper} {op : Oper} {a : Act} {w : World} {Q : Exit → Act → World → Prop} (hgd : op.guard = none) (ty : TypeId) (x : Operand) (ho : op.op = .load ty x)
    (g o : Nat) (hx : a.eval x = .pointer (some ⟨g, o, none⟩)) (cs : List Value) (d : TypeDesc) (hg : Ob w g o cs)
    (hu : P.underlying ty = some d) (hd : (match d with | .struct _ | .array _ _ => true | _ => false) = true) (hi : (P.info? ty).map (·.size) = some cs.length)
    (h : wpList P ops Q rest (a.put op.dst (.agg cs.toArray)) w) : wpList P ops Q (op :: rest) a w := by
  refine wpList_plain hgd fun _ hK => ?_
  unfold Oper.wp execOp
  simp only [ho, hx, Instr.loadAt, Instr.sureAddr, Sem.run_bind, Sem.run_pure, Result.andThen_ok, run_loadVar_ob w g o ty cs d hg hu hd hi]
  exact hK _ _ h
end Go.Proofs.Ytodgcfmacmfcpaa
