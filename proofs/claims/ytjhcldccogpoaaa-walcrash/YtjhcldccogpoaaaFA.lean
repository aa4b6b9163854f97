/- frame.sumOf, bytes.Equal -/
import Derived.Test.YtjhcldccogpoaaaFM
import Derived.Test.YtjhcldccogpoaaaHC
namespace Go.Proofs.Ytjhcldccogpoaaa
open Go.RowKit

theorem mk8 (w : World) : (Instr.makeSlice 23 (.int .i64 8) (.int .i64 8)).run Try.prog w = .ok (.slice (some ⟨w.heap.size, 0, none⟩) 8 8) (w.alloc (.cells #[.int .u8 0, .int .u8 0, .int .u8 0, .int .u8 0, .int .u8 0, .int .u8 0, .int .u8 0, .int .u8 0] 5)) := mkB 8 (by omega) w

theorem eight_cells (t : Nat) (h : t < 18446744073709551616) : Bs (eightN t) = [.int .u8 ((t : Int) / 72057594037927936), .int .u8 ((t : Int) / 281474976710656 % 256), .int .u8 ((t : Int) / 1099511627776 % 256), .int .u8 ((t : Int) / 4294967296 % 256), .int .u8 ((t : Int) / 16777216 % 256), .int .u8 ((t : Int) / 65536 % 256), .int .u8 ((t : Int) / 256 % 256), .int .u8 ((t : Int) % 256)] := by
  simp [Bs, eightN]
  omega

theorem eight_cells2 (t : Nat) : Bs (eightN t) = [.int .u8 ((t : Int) / 256 / 256 / 256 / 256 / 256 / 256 / 256 % 256), .int .u8 ((t : Int) / 256 / 256 / 256 / 256 / 256 / 256 % 256), .int .u8 ((t : Int) / 256 / 256 / 256 / 256 / 256 % 256), .int .u8 ((t : Int) / 256 / 256 / 256 / 256 % 256), .int .u8 ((t : Int) / 256 / 256 / 256 % 256), .int .u8 ((t : Int) / 256 / 256 % 256), .int .u8 ((t : Int) / 256 % 256), .int .u8 ((t : Int) % 256)] := by
  simp [Bs, eightN]
  omega

set_option maxHeartbeats 1000000 in
theorem sumOf_any (ao : Option Addr) (n cap : Nat) (l : List UInt8) (w : World) (h : Rd w.heap.size w ao n cap (Bs l)) :
    Calls Try.prog 46 #[.slice ao n cap] w fun e w' => ∃ ao' cap', e = .returned (.slice ao' 8 cap') ∧ w'.ownsRow w.heap.size 5 1 (.slice ao' 8 cap') 8 (Bs (sum8 l)) ∧ Below w.heap.size w w' := by
  have hl : l.length = n := by rw [← Bs_length]; exact h.1
  have hcm : n ≤ maxLen := Nat.le_trans h.2.1 h.2.2.1
  unfold maxLen at hcm
  have hst := run_str _ _ _ _ _ h
  obtain ⟨t, ht⟩ : ∃ t : Nat, sumOf [str l] = t := ⟨_, rfl⟩
  have h64 : t < 18446744073709551616 := by rw [← ht]; exact sumOf_lt _
  have HT : Hid (((sumOf [str l] : Nat) : Int) = t) := by show _ = _; rw [ht]
  have H8 : Hid (sum8 l = eightN t) := by show _ = _; rw [sum8_def, ht]
  have hsz : (str l).size ≤ 9223372036854775807 := by rw [rd_str]; omega
  have HSZ : Hid (∀ s ∈ [str l], s.size ≤ 9223372036854775807) := by intro s hs; rw [List.mem_singleton] at hs; rw [hs]; exact hsz
  generalize str l = S at *
  clear ht h hl
  go_enter Try.func46, Try.ntmps46
  go_wp2_with fail
  refine (Sum_eq _ _ _ [S] _ _ (by exact Rd.strs w [S] _ rfl (by simp)) HSZ.out HT.out).mono ?_
  rintro e w1 ⟨rfl, hw1⟩
  have hb1 := bel_eq (Below.refl _ _) hw1
  clear hw1 HT HSZ hst
  have hmk := mk8
  go_wp2
  refine wp_loop_rounds 9 ?_
  rw [rounds_succ]
  go_wp2
  rw [rounds_succ]
  go_wp2
  rw [rounds_succ]
  go_wp2
  rw [rounds_succ]
  go_wp2
  rw [rounds_succ]
  go_wp2
  rw [rounds_succ]
  go_wp2
  rw [rounds_succ]
  go_wp2
  rw [rounds_succ]
  go_wp2
  rw [rounds_succ]
  go_wp2
  go_ret
  refine ⟨_, _, rfl, ?_, hb1.alloc hb1.size _⟩
  rw [H8.out, eight_cells t h64]
  exact World.ownsRow_lit w1 _ 8 hb1.size (by decide) rfl

set_option maxHeartbeats 1000000 in
theorem eight_any (t : Nat) (w : World) (h64 : t < 18446744073709551616) :
    Calls Try.prog 39 #[.int .u64 t] w fun e w' => ∃ ao' cap', e = .returned (.slice ao' 8 cap') ∧ w'.ownsRow w.heap.size 5 1 (.slice ao' 8 cap') 8 (Bs (eightN t)) ∧ Below w.heap.size w w' := by
  have hmk := mk8
  have H8 : Hid (Bs (eightN t) = [.int .u8 ((t : Int) / 256 / 256 / 256 / 256 / 256 / 256 / 256 % 256), .int .u8 ((t : Int) / 256 / 256 / 256 / 256 / 256 / 256 % 256), .int .u8 ((t : Int) / 256 / 256 / 256 / 256 / 256 % 256), .int .u8 ((t : Int) / 256 / 256 / 256 / 256 % 256), .int .u8 ((t : Int) / 256 / 256 / 256 % 256), .int .u8 ((t : Int) / 256 / 256 % 256), .int .u8 ((t : Int) / 256 % 256), .int .u8 ((t : Int) % 256)]) := eight_cells2 t
  go_enter Try.func39, Try.ntmps39
  go_wp2
  refine wp_loop_rounds 9 ?_
  rw [rounds_succ]
  go_wp2
  rw [rounds_succ]
  go_wp2
  rw [rounds_succ]
  go_wp2
  rw [rounds_succ]
  go_wp2
  rw [rounds_succ]
  go_wp2
  rw [rounds_succ]
  go_wp2
  rw [rounds_succ]
  go_wp2
  rw [rounds_succ]
  go_wp2
  rw [rounds_succ]
  go_wp2
  go_ret
  refine ⟨_, _, rfl, ?_, (Below.refl _ _).alloc (Nat.le_refl _) _⟩
  rw [H8.out]
  exact World.ownsRow_lit w _ 8 (Nat.le_refl _) (by decide) rfl

theorem str_beq (a b : List UInt8) : ((str a).toList == (str b).toList) = decide (a = b) := by
  rw [str_toList, str_toList]
  by_cases h : a = b
  · subst h; simp
  · rw [decide_eq_false h, beq_eq_false_iff_ne]; exact h

set_option maxHeartbeats 400000 in
theorem Equal_any (ao : Option Addr) (n cap : Nat) (l : List UInt8) (ao2 : Option Addr) (n2 cap2 : Nat) (l2 : List UInt8) (w : World) (h : Rd w.heap.size w ao n cap (Bs l)) (h2 : Rd w.heap.size w ao2 n2 cap2 (Bs l2)) :
    Calls Try.prog 51 #[.slice ao n cap, .slice ao2 n2 cap2] w fun e w' => e = .returned (.bool (decide (l = l2))) ∧ w' = w := by
  have h1 := run_str _ _ _ _ _ h
  have h2 := run_str _ _ _ _ _ h2
  have H : Hid (((str l).toList == (str l2).toList) = decide (l = l2)) := str_beq l l2
  go_enter Try.func51, Try.ntmps51
  go_wp2
  go_ret
  exact ⟨ret_bool H.out, rfl⟩
end Go.Proofs.Ytjhcldccogpoaaa
