/- A table in its block: finding, inserting, removing. -/
import Derived.Test.YtodgcfmacmfcpaaTA
import Derived.Test.YtodgcfmacmfcpaaEO
import Derived.Deep.RegionWith
namespace Go.Proofs.Ytodgcfmacmfcpaa
open Go.RowKit

/-- the cells of a table with the pairs l, and z behind them -/
def tcells (l z : List Pr) : List Value := flat (l ++ z) ++ [.int .i64 l.length]
/-- a table in block g has the pairs l -/
def TabAt (w : World) (g : Nat) (l : List Pr) : Prop :=
  ∃ z : List Pr, l.length + z.length = 8 ∧ Rise l ∧ w.heap[g]? = some (.cells (tcells l z).toArray 26 (0, 0))
theorem tcells_length {l z : List Pr} (h : l.length + z.length = 8) : (tcells l z).length = 17 := by
  simp [tcells, flat_length]; omega
theorem TabAt.few {w : World} {g : Nat} {l : List Pr} (h : TabAt w g l) : l.length ≤ 8 := by obtain ⟨z, hz, _⟩ := h; omega
theorem TabAt.rise {w : World} {g : Nat} {l : List Pr} (h : TabAt w g l) : Rise l := by obtain ⟨z, hz, h, _⟩ := h; exact h
theorem TabAt.lt {w : World} {g : Nat} {l : List Pr} (h : TabAt w g l) : g < w.heap.size := by obtain ⟨z, hz, _, h⟩ := h; exact (Array.getElem?_eq_some_iff.1 h).1
theorem TabAt.used {w : World} {g : Nat} {l : List Pr} (h : TabAt w g l) : w.cell? ⟨g, 16, none⟩ = some (.int .i64 l.length) := by
  obtain ⟨z, hz, _, h⟩ := h
  rw [cell_of_row w g 16 _ _ (0, 0) h]
  have e : (flat (l ++ z)).length = 16 := by rw [flat_length, List.length_append]; omega
  simp only [tcells, List.getElem?_toArray]
  rw [List.getElem?_append_right (by omega), e]; rfl
theorem TabAt.rd {w : World} {g : Nat} {l : List Pr} (h : TabAt w g l) : RdPr w g 0 l := by
  obtain ⟨z, hz, _, h⟩ := h
  intro k hk
  have e : (flat (l ++ z)).length = 16 := by rw [flat_length, List.length_append]; omega
  rw [cell_of_row w g _ _ _ (0, 0) h, cell_of_row w g _ _ _ (0, 0) h]
  simp only [tcells, List.getElem?_toArray]
  rw [List.getElem?_append_left (by omega), List.getElem?_append_left (by omega), show 0 + k * 2 = 2 * k by omega, flat_key _ k (by simp; omega), flat_val _ k (by simp; omega), List.getElem_append_left hk]
  exact ⟨rfl, rfl⟩
theorem TabAt.unfrozen {w : World} {g : Nat} {l : List Pr} (h : TabAt w g l) (o : Nat) : w.frozen? ⟨g, o, none⟩ = false := by
  obtain ⟨z, hz, _, h⟩ := h
  simp [World.frozen?, h]
theorem TabAt.heap {w w' : World} {g : Nat} {l : List Pr} (h : TabAt w g l) (e : w'.heap[g]? = w.heap[g]?) : TabAt w' g l := by
  obtain ⟨z, hz, hr, h⟩ := h
  exact ⟨z, hz, hr, e.trans h⟩
theorem TabAt.below {w w' : World} {g : Nat} {l : List Pr} (h : TabAt w g l) (e : Below w.heap.size w w') : TabAt w' g l := h.heap (e.block g h.lt)

/-- a table that lies from cell fo of block g on -/
def TabO (w : World) (g fo : Nat) (l : List Pr) : Prop := ∃ z : List Pr, l.length + z.length = 8 ∧ Rise l ∧ Ob w g fo (tcells l z)
theorem TabAt.o {w : World} {g : Nat} {l : List Pr} (h : TabAt w g l) : TabO w g 0 l := by
  obtain ⟨z, h1, h2, h3⟩ := h
  exact ⟨z, h1, h2, by have := Ob.whole h3; simpa using this⟩
/-- where the block is its own alone -/
theorem TabO.alone {w w' : World} {g : Nat} {l l' : List Pr} (h : TabAt w g l) (h' : TabO w' g 0 l') (hp : Part g 0 17 w w') : TabAt w' g l' := by
  obtain ⟨z, h1, _, h3⟩ := h
  obtain ⟨F', k1, k2, _⟩ := hp.row _ _ h3
  obtain ⟨z', m1, m2, m3⟩ := h'
  have e : F'.size = (tcells l' z').length := by rw [k2, List.size_toArray, tcells_length h1, tcells_length m1]
  rw [m3.full k1 e] at k1
  exact ⟨z', m1, m2, k1⟩
section
variable {w w' : World} {g fo p n : Nat} {l : List Pr}
theorem TabO.few (h : TabO w g fo l) : l.length ≤ 8 := by obtain ⟨z, hz, _⟩ := h; omega
theorem TabO.rise (h : TabO w g fo l) : Rise l := by obtain ⟨z, hz, h, _⟩ := h; exact h
theorem TabO.lt (h : TabO w g fo l) : g < w.heap.size := by obtain ⟨z, hz, _, h⟩ := h; exact h.lt
theorem TabO.used (h : TabO w g fo l) : w.cell? ⟨g, fo + 16, none⟩ = some (.int .i64 l.length) := by
  obtain ⟨z, hz, _, h⟩ := h
  have e : (flat (l ++ z)).length = 16 := by rw [flat_length, List.length_append]; omega
  refine h.at 16 _ ?_
  unfold tcells
  rw [List.getElem?_append_right (by omega), e]; rfl
theorem TabO.rd (h : TabO w g fo l) : RdPr w g fo l := by
  obtain ⟨z, hz, _, h⟩ := h
  intro k hk
  have e : (flat (l ++ z)).length = 16 := by rw [flat_length, List.length_append]; omega
  constructor
  · refine h.at (k * 2) _ ?_
    unfold tcells
    rw [List.getElem?_append_left (by omega), Nat.mul_comm, flat_key _ k (by simp; omega), List.getElem_append_left hk]
  · refine h.at (k * 2 + 1) _ ?_
    unfold tcells
    rw [List.getElem?_append_left (by omega), Nat.mul_comm, flat_val _ k (by simp; omega), List.getElem_append_left hk]
theorem TabO.unfrozen (h : TabO w g fo l) (i : Nat) : w.frozen? ⟨g, i, none⟩ = false := by obtain ⟨z, hz, _, h⟩ := h; exact h.free i
theorem TabO.below (h : TabO w g fo l) (e : Below w.heap.size w w') : TabO w' g fo l := by obtain ⟨z, hz, hr, h⟩ := h; exact ⟨z, hz, hr, h.below e⟩
theorem TabO.apart {S : Nat → Prop} (h : TabO w g fo l) (e : Only S w w') (hn : ¬ S g) : TabO w' g fo l := by obtain ⟨z, hz, hr, h⟩ := h; exact ⟨z, hz, hr, h.apart e hn⟩
theorem TabO.part (h : TabO w g fo l) (k : Part g p n w w') (hd : fo + 17 ≤ p ∨ p + n ≤ fo) : TabO w' g fo l := by obtain ⟨z, hz, hr, h⟩ := h; exact ⟨z, hz, hr, h.part k (by rw [tcells_length hz]; exact hd)⟩
end
theorem find_o (g fo : Nat) (l : List Pr) (key : ByteArray) (w : World) (h : TabO w g fo l) :
    Calls Try.prog 50 #[.pointer (some ⟨g, fo, none⟩), .string key] w fun e w' => e = .returned (.tuple #[.int .i64 (lb key l), .bool (has key l)]) ∧ Below w.heap.size w w' := by
  have hu := h.used
  have hn := h.few
  have hg := h.lt
  have HR : Hid (Rise l) := h.rise
  have HC : Hid (RdPr w g fo l) := h.rd
  clear h
  have hn2 : (l.length : Int) ≤ 8 := by omega
  go_enter Try.func50, Try.ntmps50
  go_wp2_with fail
  go_region_with (go_at_call 60; refine (search_any g fo 8 l key w.drew hg hn HR.out HC.out).mono ?_; rintro e w2 ⟨rfl, hw2⟩)
  all_goals
    go_wp2
    go_ret2
    exact ⟨rfl, (bel_drewN w 1).trans hw2⟩
theorem find_any (g : Nat) (l : List Pr) (key : ByteArray) (w : World) (h : TabAt w g l) :
    Calls Try.prog 50 #[.pointer (some ⟨g, 0, none⟩), .string key] w fun e w' => e = .returned (.tuple #[.int .i64 (lb key l), .bool (has key l)]) ∧ Below w.heap.size w w' := find_o g 0 l key w h.o
end Go.Proofs.Ytodgcfmacmfcpaa
