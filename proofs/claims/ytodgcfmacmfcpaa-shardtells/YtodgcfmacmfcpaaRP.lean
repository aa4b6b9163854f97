/- Raw operations in blocks of their own. -/
import Derived.Test.YtodgcfmacmfcpaaTJ
namespace Go.Proofs.Ytodgcfmacmfcpaa
open Go.RowKit

/-- a raw operation in block g -/
def rawV (x : RawO) : Array Value := #[.int .i64 x.kind, .int .i64 x.key, .int .i64 x.value, .int .i64 x.old, .int .i64 x.client, .int .i64 x.seq, .int .i64 x.bend, .string x.text]
def RawAt (w : World) (g : Nat) (x : RawO) : Prop := w.heap[g]? = some (.cells (rawV x) 59 (0, 0))
theorem RawAt.below {w w' : World} {g : Nat} {x : RawO} (h : RawAt w g x) (hb : Below w.heap.size w w') : RawAt w' g x := (hb.block g (Array.getElem?_eq_some_iff.1 h).1).trans h
theorem RawAt.cells {w : World} {g : Nat} {x : RawO} (h : RawAt w g x) : w.cell? ⟨g, 0, none⟩ = some (.int .i64 x.kind) ∧ w.cell? ⟨g, 1, none⟩ = some (.int .i64 x.key) ∧ w.cell? ⟨g, 2, none⟩ = some (.int .i64 x.value) ∧ w.cell? ⟨g, 3, none⟩ = some (.int .i64 x.old) ∧ w.cell? ⟨g, 4, none⟩ = some (.int .i64 x.client) ∧ w.cell? ⟨g, 5, none⟩ = some (.int .i64 x.seq) ∧ w.cell? ⟨g, 6, none⟩ = some (.int .i64 x.bend) ∧ w.cell? ⟨g, 7, none⟩ = some (.string x.text) := by
  rw [cell_of_row w _ 0 _ _ (0, 0) h, cell_of_row w _ 1 _ _ (0, 0) h, cell_of_row w _ 2 _ _ (0, 0) h, cell_of_row w _ 3 _ _ (0, 0) h, cell_of_row w _ 4 _ _ (0, 0) h, cell_of_row w _ 5 _ _ (0, 0) h, cell_of_row w _ 6 _ _ (0, 0) h, cell_of_row w _ 7 _ _ (0, 0) h]
  exact ⟨rfl, rfl, rfl, rfl, rfl, rfl, rfl, rfl⟩
end Go.Proofs.Ytodgcfmacmfcpaa
