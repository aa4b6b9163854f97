/- wal: Open, Records -/
import Derived.Test.YtjhcldccogpoaaaWA
namespace Go.Proofs.Ytjhcldccogpoaaa
open Go.RowKit

/-- what Open leaves of a disk -/
def openS (l : List UInt8) (s : Nat) : List UInt8 × Nat := if (readS sum8 l).2 < l.length then (l.take (readS sum8 l).2, (readS sum8 l).2) else (l, s)
section
variable {N : Nat → Prop} {w w' W : World} {lg g s : Nat} {l : List UInt8}
/-- a log is made of a disk -/
theorem LK.made (h : DK N w g l s) : LK (fun i => N i ∧ ¬ (w.heap.size ≤ i ∧ i < w.heap.size + 1)) (w.alloc (.cells #[.pointer (some ⟨g, 0, none⟩)] 39)) w.heap.size g l s := by
  have := h.shrink (w' := w.alloc (.cells #[.pointer (some ⟨g, 0, none⟩)] 39)) ((Below.refl _ _).alloc (Nat.le_refl _) _)
  rw [show (w.alloc (.cells #[.pointer (some ⟨g, 0, none⟩)] 39)).heap.size = w.heap.size + 1 from by simp] at this
  exact ⟨this, LogAt.made w g, fun x => x.2 ⟨Nat.le_refl _, Nat.lt_succ_self _⟩⟩

set_option maxHeartbeats 400000 in
theorem Open_dk (h : DK N w g l s) {l' : List UInt8} {s' : Nat} (hl : openS l s = (l', s')) :
    Calls Try.prog 6 #[.pointer (some ⟨g, 0, none⟩)] w fun e w' => ∃ lg, e = .returned (.pointer (some ⟨lg, 0, none⟩)) ∧ w.heap.size ≤ lg ∧ ∃ N' : Nat → Prop, LK N' w' lg g l' s' ∧ (∀ i, N' i → N i) ∧ Only N w w' := by
  obtain ⟨rs, u, hR⟩ : ∃ rs u, readS sum8 l = (rs, u) := ⟨_, _, rfl⟩
  have hu : u ≤ l.length := by have := (readS_le sum8 l.length l (Nat.le_refl _)).1; rw [hR] at this; exact this
  have HR : Hid (readS sum8 l = (rs, u)) := hR
  have HL : Hid ((if u < l.length then (l.take u, u) else (l, s)) = (l', s')) := by show _ = _; rw [← hl, openS, hR]
  have h64 := h.sizes.2
  clear hR hl
  go_enter Try.func6, Try.ntmps6
  go_wp2_with fail
  refine (Bytes_dk h).mono ?_
  rintro e w1 ⟨ao1, cp1, rfl, hown1, hb1⟩
  have hD1 := h.below hb1
  have hR1 := ownsRow.rd hown1
  have HO1 : Hid (Only N w w1) := Only.of_below _ hb1
  clear h hown1 hb1
  go_wp2_with fail
  refine (Read_n _ _ _ l w1 hR1 (by omega) HR.out rfl).mono ?_
  rintro e w2 ⟨ao2, cp2, rfl, _, hb2⟩
  have hD2 := hD1.below hb2
  have hR2 := rd_call hR1 hb2
  have HO2 : Hid (Only N w w2) := HO1.out.trans (Only.of_below _ hb2)
  have hcp := hR2.2.1
  clear hD1 hR1 HO1 hb2
  by_cases hlt : u < l.length
  · have hT := hR2.till u hu
    rw [← Bs_take] at hT
    have hlu : (l.take u).length = u := by rw [List.length_take]; omega
    have HLU : Hid ((l.take u).length = u) := hlu
    have hl2 : Hid (l.take u = l' ∧ u = s') := by have := HL.out; rw [if_pos hlt] at this; exact Prod.mk.inj this
    have hdec : decide ((l.take u).length ≤ 65536) = true := decide_eq_true (by omega)
    have HD : Hid (decide ((l.take u).length ≤ 65536) = true) := hdec
    clear hlu hdec HL
    go_wp2_with fail
    refine (Swap_dk hD2 hT HD.out (l' := l.take u) (s' := u) (by rw [if_pos rfl, HLU.out])).mono ?_
    rintro e w3 ⟨rfl, hD3, hO3⟩
    have HO3 : Hid (Only N w w3) := HO2.out.trans hO3
    clear hD2 hR2 HO2 hO3 hT
    go_wp2
    go_ret
    have hK := LK.made hD3
    rw [hl2.out.1, hl2.out.2] at hK
    exact ⟨_, rfl, HO3.out.size, _, hK, fun i hi => hi.1, HO3.out.trans (Only.of_alloc _ _ _)⟩
  · have hl2 : Hid (l = l' ∧ s = s') := by have := HL.out; rw [if_neg hlt] at this; exact Prod.mk.inj this
    clear HL
    go_wp2
    go_ret
    have hK := LK.made hD2
    rw [hl2.out.1, hl2.out.2] at hK
    exact ⟨_, rfl, HO2.out.size, _, hK, fun i hi => hi.1, HO2.out.trans (Only.of_alloc _ _ _)⟩

set_option maxHeartbeats 400000 in
theorem Records_lk (h : LK N w lg g l s) {rs : List (List UInt8)} {u n : Nat} (hR : readS sum8 l = (rs, u)) (hn : rs.length = n) :
    Calls Try.prog 26 #[.pointer (some ⟨lg, 0, none⟩)] w fun e w' => ∃ ao' cap', e = .returned (.slice ao' n cap') ∧ OwnLL w.heap.size w' (.slice ao' n cap') n rs ∧ Below w.heap.size w w' := by
  have hc := h.cell
  have hD := h.dk
  have h64 := h.sizes.2
  have HR : Hid (readS sum8 l = (rs, u)) := hR
  have HN : Hid (rs.length = n) := hn
  clear h hR hn
  go_enter Try.func26, Try.ntmps26
  go_wp2_with fail
  refine (Bytes_dk hD).mono ?_
  rintro e w1 ⟨ao1, cp1, rfl, hown1, hb1⟩
  have hR1 := ownsRow.rd hown1
  clear hD hown1
  go_wp2_with fail
  refine (Read_n _ _ _ l w1 hR1 (by omega) HR.out HN.out).mono ?_
  rintro e w2 ⟨ao2, cp2, rfl, hown2, hb2⟩
  go_wp2
  go_ret
  obtain ⟨vs, hv1, hv2⟩ := hown2
  exact ⟨ao2, cp2, rfl, ⟨vs, own_mono hv1 hb1.size, hv2.1, fun k v r h1 h2 => by obtain ⟨a, c, e, ho⟩ := hv2.2 k v r h1 h2; exact ⟨a, c, e, own_mono ho hb1.size⟩⟩, bel_call hb1 hb2⟩
end
end Go.Proofs.Ytjhcldccogpoaaa
