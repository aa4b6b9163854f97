/- Few; what is cut short -/
import Derived.Test.YtjhcldccogpoaaaN
namespace Go.Proofs.Ytjhcldccogpoaaa
open Go.RowKit

theorem cut_enc (x : Nat) : ∀ k, k < (enc x).length → ((enc x).take k).findIdx? endB = none := by
  induction x using Nat.strongRecOn with
  | ind x ih =>
    intro k hk
    by_cases hx : x < 128
    · rw [enc_small hx] at hk ⊢
      simp at hk
      subst hk
      rfl
    · rw [enc_large (by omega)] at hk ⊢
      cases k with
      | zero => rfl
      | succ k =>
        rw [List.take_succ_cons, List.findIdx?_cons, endB_hi (Nat.mod_lt _ (by omega)), ih (x / 128) (by omega) k (by simpa using hk)]
        rfl
end Go.Proofs.Ytjhcldccogpoaaa
