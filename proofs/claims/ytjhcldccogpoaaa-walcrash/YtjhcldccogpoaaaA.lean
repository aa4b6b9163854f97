/- Walks of the small functions: ends, outside, Pick, Num, May. -/
import Derived.Test.YtjhcldccogpoaaaGA
namespace Go.Proofs.Ytjhcldccogpoaaa
open Go.RowKit

theorem and128 (c : Nat) (h : c < 256) : (bits .and .u8 (c : Int) 128 == 0) = decide (c < 128) := by
  rw [show (128 : Int) = ((128 : Nat) : Int) from rfl, u8_and_nat c 128 h (by omega)]
  have : ∀ k : Fin 256, (((k.1 &&& 128 : Nat) : Int) == 0) = decide (k.1 < 128) := by decide +kernel
  exact this ⟨c, h⟩

def endB (c : UInt8) : Bool := decide (c.toNat < 128)

set_option maxHeartbeats 400000 in
theorem ends_any (c : UInt8) (w : World) :
    Calls Try.prog 62 #[.int .u8 c.toNat] w fun e w' => e = .returned (.bool (endB c)) ∧ w' = w := by
  have hc := UInt8.toNat_lt c
  go_enter Try.func62, Try.ntmps62
  go_wp2
  go_ret
  exact ⟨by rw [and128 _ hc]; rfl, rfl⟩

def outB (n : Int) : Bool := decide (n < 0) || decide (4611686018427387903 < n)
theorem outB_no {n : Int} (h0 : 0 ≤ n) (h1 : n ≤ 4611686018427387903) : outB n = false := by simp [outB]; omega
theorem outB_lo {n : Int} (h0 : n < 0) : outB n = true := by simp [outB]; omega
theorem outB_hi {n : Int} (h0 : 4611686018427387903 < n) : outB n = true := by simp [outB]; omega

set_option maxHeartbeats 400000 in
theorem outside_any (n : Int) (w : World) :
    Calls Try.prog 54 #[.int .i64 n] w fun e w' => e = .returned (.bool (outB n)) ∧ w' = w := by
  by_cases h0 : n < 0
  · have H : Hid (outB n = true) := outB_lo h0
    go_enter Try.func54, Try.ntmps54
    go_wp2
    go_ret
    exact ⟨ret_bool H.out.symm, rfl⟩
  · by_cases h1 : 4611686018427387903 < n
    · have H : Hid (outB n = true) := outB_hi h1
      go_enter Try.func54, Try.ntmps54
      go_wp2
      go_ret
      exact ⟨ret_bool H.out.symm, rfl⟩
    · have H : Hid (outB n = false) := outB_no (by omega) (by omega)
      go_enter Try.func54, Try.ntmps54
      go_wp2
      go_ret
      exact ⟨ret_bool H.out.symm, rfl⟩


end Go.Proofs.Ytjhcldccogpoaaa
