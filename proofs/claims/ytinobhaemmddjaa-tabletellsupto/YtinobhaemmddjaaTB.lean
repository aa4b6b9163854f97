/- A table in its block: finding, inserting, removing. -/
import Derived.Test.YtinobhaemmddjaaTA
import Derived.Deep.RegionWith
namespace Go.Proofs.Ytinobhaemmddjaa
open Go.RowKit

/-- the cells of a table with the pairs l, and z behind them -/
def tcells (l z : List Pr) : List Value := flat (l ++ z) ++ [.int .i64 l.length]
/-- a table in block g has the pairs l -/
def TabAt (w : World) (g : Nat) (l : List Pr) : Prop :=
  ∃ z : List Pr, l.length + z.length = 8 ∧ Rise l ∧ w.heap[g]? = some (.cells (tcells l z).toArray 26 (0, 0))
theorem tcells_length {l z : List Pr} (h : l.length + z.length = 8) : (tcells l z).length = 17 := by
  simp [tcells, flat_length]; omega
theorem TabAt.few {w : World} {g : Nat} {l : List Pr} (h : TabAt w g l) : l.length ≤ 8 := by obtain ⟨z, hz, _⟩ := h; omega
theorem TabAt.rise {w : World} {g : Nat} {l : List Pr} (h : TabAt w g l) : Rise l := by obtain ⟨z, hz, h, _⟩ := h; exact h
theorem TabAt.lt {w : World} {g : Nat} {l : List Pr} (h : TabAt w g l) : g < w.heap.size := by obtain ⟨z, hz, _, h⟩ := h; exact (Array.getElem?_eq_some_iff.1 h).1
theorem TabAt.used {w : World} {g : Nat} {l : List Pr} (h : TabAt w g l) : w.cell? ⟨g, 16, none⟩ = some (.int .i64 l.length) := by
  obtain ⟨z, hz, _, h⟩ := h
  rw [cell_of_row w g 16 _ _ (0, 0) h]
  have e : (flat (l ++ z)).length = 16 := by rw [flat_length, List.length_append]; omega
  simp only [tcells, List.getElem?_toArray]
  rw [List.getElem?_append_right (by omega), e]; rfl
theorem TabAt.rd {w : World} {g : Nat} {l : List Pr} (h : TabAt w g l) : RdPr w g 0 l := by
  obtain ⟨z, hz, _, h⟩ := h
  intro k hk
  have e : (flat (l ++ z)).length = 16 := by rw [flat_length, List.length_append]; omega
  rw [cell_of_row w g _ _ _ (0, 0) h, cell_of_row w g _ _ _ (0, 0) h]
  simp only [tcells, List.getElem?_toArray]
  rw [List.getElem?_append_left (by omega), List.getElem?_append_left (by omega), show 0 + k * 2 = 2 * k by omega, flat_key _ k (by simp; omega), flat_val _ k (by simp; omega), List.getElem_append_left hk]
  exact ⟨rfl, rfl⟩
theorem TabAt.unfrozen {w : World} {g : Nat} {l : List Pr} (h : TabAt w g l) (o : Nat) : w.frozen? ⟨g, o, none⟩ = false := by
  obtain ⟨z, hz, _, h⟩ := h
  simp [World.frozen?, h]
theorem TabAt.heap {w w' : World} {g : Nat} {l : List Pr} (h : TabAt w g l) (e : w'.heap[g]? = w.heap[g]?) : TabAt w' g l := by
  obtain ⟨z, hz, hr, h⟩ := h
  exact ⟨z, hz, hr, e.trans h⟩
theorem TabAt.below {w w' : World} {g : Nat} {l : List Pr} (h : TabAt w g l) (e : Below w.heap.size w w') : TabAt w' g l := h.heap (e.block g h.lt)

theorem bel_drewN (w : World) (n : Nat) : Below w.heap.size w (w.drewN n) := ⟨rfl, rfl, rfl, Nat.le_refl _, fun _ _ => rfl⟩
theorem find_any (g : Nat) (l : List Pr) (key : ByteArray) (w : World) (h : TabAt w g l) :
    Calls Try.prog 23 #[.pointer (some ⟨g, 0, none⟩), .string key] w fun e w' => e = .returned (.tuple #[.int .i64 (lb key l), .bool (has key l)]) ∧ Below w.heap.size w w' := by
  have hu := h.used
  have hn := h.few
  have hg := h.lt
  have HR : Hid (Rise l) := h.rise
  have HC : Hid (RdPr w g 0 l) := h.rd
  clear h
  have hn2 : (l.length : Int) ≤ 8 := by omega
  go_enter Try.func23, Try.ntmps23
  go_wp2_with fail
  go_region_with (go_at_call 30; refine (search_any g 0 8 l key w.drew hg hn HR.out HC.out).mono ?_; rintro e w2 ⟨rfl, hw2⟩)
  all_goals
    go_wp2
    go_ret2
    exact ⟨rfl, (bel_drewN w 1).trans hw2⟩
end Go.Proofs.Ytinobhaemmddjaa
