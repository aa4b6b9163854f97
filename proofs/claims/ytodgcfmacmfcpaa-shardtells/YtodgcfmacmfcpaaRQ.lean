/- Requests in blocks of their own. -/
import Derived.Test.YtodgcfmacmfcpaaTJ
namespace Go.Proofs.Ytodgcfmacmfcpaa
open Go.RowKit

/-- a request in block b -/
def reqO (c s k : Int) (key v old : ByteArray) : Obj := .cells #[.int .i64 c, .int .i64 s, .int .i64 k, .string key, .string v, .string old] 47
def ReqAt (w : World) (b : Nat) (c s k : Int) (key v old : ByteArray) : Prop := w.heap[b]? = some (reqO c s k key v old)
theorem ReqAt.cells {w : World} {b : Nat} {c s k : Int} {key v old : ByteArray} (h : ReqAt w b c s k key v old) : w.cell? ⟨b, 0, none⟩ = some (.int .i64 c) ∧ w.cell? ⟨b, 1, none⟩ = some (.int .i64 s) ∧ w.cell? ⟨b, 2, none⟩ = some (.int .i64 k) ∧ w.cell? ⟨b, 3, none⟩ = some (.string key) ∧ w.cell? ⟨b, 4, none⟩ = some (.string v) ∧ w.cell? ⟨b, 5, none⟩ = some (.string old) := by
  unfold ReqAt reqO at h
  rw [cell_of_row w _ 0 _ _ (0, 0) h, cell_of_row w _ 1 _ _ (0, 0) h, cell_of_row w _ 2 _ _ (0, 0) h, cell_of_row w _ 3 _ _ (0, 0) h, cell_of_row w _ 4 _ _ (0, 0) h, cell_of_row w _ 5 _ _ (0, 0) h]
  exact ⟨rfl, rfl, rfl, rfl, rfl, rfl⟩
theorem ReqAt.free {w : World} {b : Nat} {c s k : Int} {key v old : ByteArray} (h : ReqAt w b c s k key v old) : w.frozen? ⟨b, 0, none⟩ = false ∧ w.frozen? ⟨b, 1, none⟩ = false ∧ w.frozen? ⟨b, 2, none⟩ = false ∧ w.frozen? ⟨b, 3, none⟩ = false ∧ w.frozen? ⟨b, 4, none⟩ = false ∧ w.frozen? ⟨b, 5, none⟩ = false := by
  unfold ReqAt reqO at h
  simp [World.frozen?, h]
theorem ReqAt.below {w w' : World} {b : Nat} {c s k : Int} {key v old : ByteArray} (h : ReqAt w b c s k key v old) (hb : Below w.heap.size w w') : ReqAt w' b c s k key v old := (hb.block b (Array.getElem?_eq_some_iff.1 h).1).trans h
theorem set6 {W : World} {b g i : Nat} (hne : g ≠ b) (u0 u1 u2 u3 u4 u5 : Value) : ((((((W.setCell ⟨b, 0, none⟩ u0).setCell ⟨b, 1, none⟩ u1).setCell ⟨b, 2, none⟩ u2).setCell ⟨b, 3, none⟩ u3).setCell ⟨b, 4, none⟩ u4).setCell ⟨b, 5, none⟩ u5).cell? ⟨g, i, none⟩ = W.cell? ⟨g, i, none⟩ := by
  have o : Only (fun k => k = b) W ((((((W.setCell ⟨b, 0, none⟩ u0).setCell ⟨b, 1, none⟩ u1).setCell ⟨b, 2, none⟩ u2).setCell ⟨b, 3, none⟩ u3).setCell ⟨b, 4, none⟩ u4).setCell ⟨b, 5, none⟩ u5) := only_set (only_set (only_set (only_set (only_set (only_set (Only.refl _ _) _ _) _ _) _ _) _ _) _ _) _ _
  by_cases hg : g < W.heap.size
  · exact World.cell?_of_block (a := ⟨g, i, none⟩) (o.block g hg hne)
  · have e1 : W.heap[g]? = none := Array.getElem?_eq_none (by omega)
    have e2 : ∀ (V : World) (p : Addr) (u : Value), V.heap[g]? = none → (V.setCell p u).heap[g]? = none := fun V p u h => by
      have hs : (V.setCell p u).heap.size = V.heap.size := by simp [World.setCell]
      rw [Array.getElem?_eq_none_iff] at h ⊢
      omega
    refine World.cell?_of_block (a := ⟨g, i, none⟩) ?_
    show _ = W.heap[g]?
    rw [e1]
    exact e2 _ _ _ (e2 _ _ _ (e2 _ _ _ (e2 _ _ _ (e2 _ _ _ (e2 _ _ _ e1)))))
theorem set_row1 {W : World} {b i : Nat} {cur : Array Value} {t : TypeId} (h : W.heap[b]? = some (.cells cur t (0, 0))) (u : Value) : (W.setCell ⟨b, i, none⟩ u).heap[b]? = some (.cells (cur.setIfInBounds i u) t (0, 0)) := by
  rw [setCell_eq_setRow W b _ _ _ _ _ h, setRow_heap W b _ _ _ _ h]
theorem req_set6 {W : World} {b : Nat} {c s k : Int} {key v old : ByteArray} (h : ReqAt W b c s k key v old) (c' s' k' : Int) (key' v' old' : ByteArray) :
    ReqAt ((((((W.setCell ⟨b, 0, none⟩ (.int .i64 c')).setCell ⟨b, 1, none⟩ (.int .i64 s')).setCell ⟨b, 2, none⟩ (.int .i64 k')).setCell ⟨b, 3, none⟩ (.string key')).setCell ⟨b, 4, none⟩ (.string v')).setCell ⟨b, 5, none⟩ (.string old')) b c' s' k' key' v' old' := by
  unfold ReqAt reqO at h ⊢
  rw [set_row1 (set_row1 (set_row1 (set_row1 (set_row1 (set_row1 h _) _) _) _) _) _]
  rfl
theorem req_end {W : World} {a : Nat} {c0 s0 k0 : Int} {key0 v0 old0 : ByteArray} (h : ReqAt W a c0 s0 k0 key0 v0 old0) (c s k : Int) (key v old : ByteArray) :
    let V := (((((W.setCell ⟨a, 0, none⟩ (.int .i64 c)).setCell ⟨a, 1, none⟩ (.int .i64 s)).setCell ⟨a, 2, none⟩ (.int .i64 k)).setCell ⟨a, 3, none⟩ (.string key)).setCell ⟨a, 4, none⟩ (.string v)).setCell ⟨a, 5, none⟩ (.string old)
    V.cell? ⟨a, 0, none⟩ = some (.int .i64 c) ∧ V.cell? ⟨a, 1, none⟩ = some (.int .i64 s) ∧ V.cell? ⟨a, 2, none⟩ = some (.int .i64 k) ∧ V.cell? ⟨a, 3, none⟩ = some (.string key) ∧ V.cell? ⟨a, 4, none⟩ = some (.string v) ∧ V.cell? ⟨a, 5, none⟩ = some (.string old) := (req_set6 h c s k key v old).cells
theorem req_set1 {W : World} {b : Nat} {c s k : Int} {key v old : ByteArray} (h : ReqAt W b c s k key v old) (i : Nat) (u : Value) {c' s' k' : Int} {key' v' old' : ByteArray}
    (e : (#[.int .i64 c, .int .i64 s, .int .i64 k, .string key, .string v, .string old] : Array Value).setIfInBounds i u = #[.int .i64 c', .int .i64 s', .int .i64 k', .string key', .string v', .string old']) : ReqAt (W.setCell ⟨b, i, none⟩ u) b c' s' k' key' v' old' := by
  unfold ReqAt reqO at h ⊢
  rw [set_row1 h u, e]
theorem only_set6 {W : World} {b : Nat} (u0 u1 u2 u3 u4 u5 : Value) : Only (fun k => k = b) W ((((((W.setCell ⟨b, 0, none⟩ u0).setCell ⟨b, 1, none⟩ u1).setCell ⟨b, 2, none⟩ u2).setCell ⟨b, 3, none⟩ u3).setCell ⟨b, 4, none⟩ u4).setCell ⟨b, 5, none⟩ u5) := only_set (only_set (only_set (only_set (only_set (only_set (Only.refl _ _) _ _) _ _) _ _) _ _) _ _) _ _
end Go.Proofs.Ytodgcfmacmfcpaa
