/- known, same. -/
import Derived.Test.YtodgcfmacmfcpaaTG
namespace Go.Proofs.Ytodgcfmacmfcpaa
open Go.RowKit

theorem Do_eq (g : Nat) (l : List Pr) (kind : Int) (key v old : ByteArray) (w : World) (h : TabAt w g l) (l' : List Pr) (a : Int) (y : ByteArray) (hd : doS l kind key v old = (l', a, y)) :
    Calls Try.prog 30 #[.pointer (some ⟨g, 0, none⟩), .agg #[.int .i64 kind, .string key, .string v, .string old]] w fun e w' =>
      e = .returned (.agg #[.int .i64 a, .string y]) ∧ TabAt w' g l' ∧ Only (fun k => k = g) w w' := by
  have := Do_any g l kind key v old w h
  rw [hd] at this
  exact this
theorem known1 : doS [] 2 ⟨#[97]⟩ ⟨#[49]⟩ ⟨#[]⟩ = ([(⟨#[97]⟩, ⟨#[49]⟩)], 0, ⟨#[]⟩) := by kernel_rfl
theorem known2 : doS [(⟨#[97]⟩, ⟨#[49]⟩)] 4 ⟨#[97]⟩ ⟨#[50]⟩ ⟨#[51]⟩ = ([(⟨#[97]⟩, ⟨#[49]⟩)], 6, ⟨#[49]⟩) := by kernel_rfl
def ansO (a : Int) (y : ByteArray) : Obj := .cells #[.int .i64 a, .string y] 29
/-- an answer in block g -/
def AnsAt (w : World) (g : Nat) (a : Int) (y : ByteArray) : Prop := w.heap[g]? = some (.cells #[.int .i64 a, .string y] 29 (0, 0))
theorem AnsAt.cells {w : World} {g : Nat} {a : Int} {y : ByteArray} (h : AnsAt w g a y) : w.cell? ⟨g, 0, none⟩ = some (.int .i64 a) ∧ w.cell? ⟨g, 1, none⟩ = some (.string y) := by
  rw [cell_of_row w _ 0 _ _ (0, 0) h, cell_of_row w _ 1 _ _ (0, 0) h]
  exact ⟨rfl, rfl⟩
theorem AnsAt.only {w w' : World} {g b : Nat} {a : Int} {y : ByteArray} (h : AnsAt w g a y) (o : Only (fun k => k = b) w w') (hb : b ≠ g) : AnsAt w' g a y :=
  (o.block g (Array.getElem?_eq_some_iff.1 h).1 (fun e => hb e.symm)).trans h
theorem AnsAt.below {w w' : World} {g : Nat} {a : Int} {y : ByteArray} (h : AnsAt w g a y) (o : Below w.heap.size w w') : AnsAt w' g a y :=
  (o.block g (Array.getElem?_eq_some_iff.1 h).1).trans h
end Go.Proofs.Ytodgcfmacmfcpaa
