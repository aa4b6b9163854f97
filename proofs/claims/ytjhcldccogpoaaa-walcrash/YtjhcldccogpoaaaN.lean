/- What was put is taken again: plain mathematics of the bytes; the calls with their answers given -/
import Derived.Test.YtjhcldccogpoaaaG
namespace Go.Proofs.Ytjhcldccogpoaaa
open Go.RowKit

theorem endB_lo {n : Nat} (h : n < 128) : endB (UInt8.ofNat n) = true := by simp [endB]; omega
theorem endB_hi {n : Nat} (h : n < 128) : endB (UInt8.ofNat (n + 128)) = false := by simp [endB]; omega

/-- the first byte that ends is the number's last -/
theorem find_enc (x : Nat) : ∀ r, (enc x ++ r).findIdx? endB = some ((enc x).length - 1) := by
  induction x using Nat.strongRecOn with
  | ind x ih =>
    intro r
    by_cases hx : x < 128
    · rw [enc_small hx]
      simp [List.findIdx?_cons, endB_lo hx]
    · rw [enc_large (by omega), List.cons_append, List.findIdx?_cons, endB_hi (Nat.mod_lt _ (by omega)), ih (x / 128) (by omega) r]
      have := enc_pos (x / 128)
      simp
      omega
theorem val_enc (x : Nat) : val (enc x) = x := by
  induction x using Nat.strongRecOn with
  | ind x ih =>
    by_cases hx : x < 128
    · rw [enc_small hx]; simp [val]; omega
    · rw [enc_large (by omega), val, ih (x / 128) (by omega)]
      simp
      omega
/-- the last byte is 0 of 0 alone -/
theorem last_enc (x : Nat) (h : 0 < x) : ∀ r, (enc x ++ r)[(enc x).length - 1]? ≠ some 0 := by
  induction x using Nat.strongRecOn with
  | ind x ih =>
    intro r
    by_cases hx : x < 128
    · rw [enc_small hx]
      simp
      intro e
      have := congrArg UInt8.toNat e
      simp at this
      omega
    · rw [enc_large (by omega), List.cons_append, List.length_cons, Nat.add_sub_cancel]
      have hp := enc_pos (x / 128)
      rw [show (enc (x / 128)).length = ((enc (x / 128)).length - 1) + 1 from by omega, List.getElem?_cons_succ]
      exact ih (x / 128) (by omega) (by omega) r

theorem first_enc (x : Nat) (hx : x ≤ 4611686018427387903) (r : List UInt8) : firstS (enc x ++ r) = ((x : Int), (enc x).length, 0) := by
  have hf := find_enc x r
  have hp := enc_pos x
  have hl := enc_le 9 x (by omega) (by omega)
  have hi : ¬ 9 ≤ (enc x).length - 1 := by omega
  have ht : (enc x ++ r).take ((enc x).length - 1 + 1) = enc x := by
    rw [show (enc x).length - 1 + 1 = (enc x).length from by omega, List.take_left]
  have hz : ¬ (0 < (enc x).length - 1 ∧ (enc x ++ r)[(enc x).length - 1]? = some 0) := by
    rintro ⟨h1, h2⟩
    rcases Nat.eq_zero_or_pos x with rfl | h0
    · rw [enc_small (by omega)] at h1; simp at h1
    · exact last_enc x h0 r h2
  rw [firstS_ok hf hi hz (by rw [ht, val_enc]; omega), ht, val_enc, show (enc x).length - 1 + 1 = (enc x).length from by omega]
theorem take_enc (x : Nat) (hx : x ≤ 4611686018427387903) (r : List UInt8) : takeS (enc x ++ r) = ((x : Int), r, 0) := by
  rw [takeS_ok (first_enc x hx r), List.drop_left]

theorem Take_eq (ao : Option Addr) (n cap : Nat) (l : List UInt8) (w : World) (h : Rd w.heap.size w ao n cap (Bs l)) (hb : n ≤ 140737488355328) {x er : Int} {r : List UInt8} (hS : takeS l = (x, r, er)) :
    Calls Try.prog 50 #[.slice ao n cap] w fun e w' => ∃ ao' cap', e = .returned (.tuple #[.int .i64 x, .slice ao' r.length cap', .int .i64 er]) ∧
      Rd w'.heap.size w' ao' r.length cap' (Bs r) ∧ Below w.heap.size w w' := by
  have := Take_any ao n cap l w h hb
  rw [hS] at this
  exact this
theorem Put_eq (ao : Option Addr) (n cap : Nat) (l : List UInt8) (ao2 : Option Addr) (n2 cap2 : Nat) (ns : List Int) (w : World)
    (h : Rd w.heap.size w ao n cap (Bs l)) (h2 : Rd w.heap.size w ao2 n2 cap2 (Is ns)) (hb : n + 9 * n2 ≤ 140737488355328) {r : List UInt8} (hS : putS l ns = r) :
    Calls Try.prog 45 #[.slice ao n cap, .slice ao2 n2 cap2] w fun e w' => ∃ ao' cap', e = .returned (.slice ao' r.length cap') ∧
      Rd w'.heap.size w' ao' r.length cap' (Bs r) ∧ Below w.heap.size w w' := by
  have := Put_any ao n cap l ao2 n2 cap2 ns w h h2 hb
  rw [hS] at this
  refine this.mono ?_
  rintro e w' ⟨ao', cap', he, h1, h2⟩
  exact ⟨ao', cap', he, ownsRow.rd h1, h2⟩
end Go.Proofs.Ytjhcldccogpoaaa
