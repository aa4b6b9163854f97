/- Few; what is cut short -/
import Derived.Test.YtnmpagnibhaocaaN
namespace Go.Proofs.Ytnmpagnibhaocaa
open Go.RowKit

theorem cut_enc (x : Nat) : ∀ k, k < (enc x).length → ((enc x).take k).findIdx? endB = none := by
  induction x using Nat.strongRecOn with
  | ind x ih =>
    intro k hk
    by_cases hx : x < 128
    · rw [enc_small hx] at hk ⊢
      simp at hk
      subst hk
      rfl
    · rw [enc_large (by omega)] at hk ⊢
      cases k with
      | zero => rfl
      | succ k =>
        rw [List.take_succ_cons, List.findIdx?_cons, endB_hi (Nat.mod_lt _ (by omega)), ih (x / 128) (by omega) k (by simpa using hk)]
        rfl
set_option maxHeartbeats 400000 in
theorem Few_gen (ao : Option Addr) (n cap : Nat) (l : List UInt8) (m : Nat) (w : World) (h : Rd w.heap.size w ao n cap (Bs l)) (hb : n ≤ 140737488355328 ∨ m ≤ 140737488355328) :
    Calls Try.prog 19 #[.slice ao n cap, .int .i64 m] w fun e w' => ∃ ao' cap', e = .returned (.slice ao' (l.take m).length cap') ∧ w'.ownsRow w.heap.size 5 1 (.slice ao' (l.take m).length cap') (l.take m).length (Bs (l.take m)) ∧ Below w.heap.size w w' := by
  have hl : l.length = n := by rw [← Bs_length]; exact h.1
  subst hl
  have hcp := h.2.1
  by_cases hlt : m < l.length
  · have hT := h.till m (by omega)
    rw [← Bs_take] at hT
    have HL : Hid (m = (l.take m).length) := by show _ = _; simp; omega
    go_enter Try.func19, Try.ntmps19
    go_wp2_with (at_builtin; refine appB rfl _ _ _ rfl _ _ _ _ rfl (own_built w _) _ m (Bs (l.take m)) rfl ?src (by omega) (by simp) ?_)
    case src => exact (hT.later ((Below.refl _ _).alloc (Nat.le_refl _) _)).src Try.underlying22 (Bs_one _)
    intro ao' cap' w' hown _ hbel
    have HF : Hid (w'.ownsRow w.heap.size 5 1 (.slice ao' (l.take m).length cap') (l.take m).length (Bs (l.take m))) := by
      show World.ownsRow _ _ _ _ _ _ _
      rw [← HL.out]
      simpa using hown
    clear hown
    go_wp2
    go_ret
    exact ⟨ao', cap', ret_slice (by rw [← HL.out]), HF.out, ((Below.refl _ _).alloc (Nat.le_refl _) _).trans hbel⟩
  · have HL : Hid (l.take m = l) := List.take_of_length_le (by omega)
    rw [HL.out]
    go_enter Try.func19, Try.ntmps19
    go_wp2_with (at_builtin; refine appB rfl _ _ _ rfl _ _ _ _ rfl (own_built w _) _ l.length (Bs l) rfl ?src (by omega) (by simp) ?_)
    case src => exact (h.later ((Below.refl _ _).alloc (Nat.le_refl _) _)).src Try.underlying22 (Bs_one _)
    intro ao' cap' w' hown _ hbel
    have HF : Hid (w'.ownsRow w.heap.size 5 1 (.slice ao' l.length cap') l.length (Bs l)) := by
      show World.ownsRow _ _ _ _ _ _ _
      simpa using hown
    clear hown
    go_wp2
    go_ret
    exact ⟨ao', cap', rfl, HF.out, ((Below.refl _ _).alloc (Nat.le_refl _) _).trans hbel⟩
theorem Few_any (ao : Option Addr) (n cap : Nat) (l : List UInt8) (m : Nat) (w : World) (h : Rd w.heap.size w ao n cap (Bs l)) (hb : n ≤ 140737488355328) :
    Calls Try.prog 19 #[.slice ao n cap, .int .i64 m] w fun e w' => ∃ ao' cap', e = .returned (.slice ao' (l.take m).length cap') ∧ w'.ownsRow w.heap.size 5 1 (.slice ao' (l.take m).length cap') (l.take m).length (Bs (l.take m)) ∧ Below w.heap.size w w' := Few_gen ao n cap l m w h (.inl hb)
theorem Few_eq (ao : Option Addr) (n cap : Nat) (l : List UInt8) (m : Nat) (w : World) (h : Rd w.heap.size w ao n cap (Bs l)) (hb : n ≤ 140737488355328) {r : List UInt8} (hS : l.take m = r) :
    Calls Try.prog 19 #[.slice ao n cap, .int .i64 m] w fun e w' => ∃ ao' cap', e = .returned (.slice ao' r.length cap') ∧ w'.ownsRow w.heap.size 5 1 (.slice ao' r.length cap') r.length (Bs r) ∧ Below w.heap.size w w' := by
  have := Few_any ao n cap l m w h hb
  rw [hS] at this
  exact this
end Go.Proofs.Ytnmpagnibhaocaa
