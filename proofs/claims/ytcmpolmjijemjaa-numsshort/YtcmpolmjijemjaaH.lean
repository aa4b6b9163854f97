/- the law NumsShort: its walk -/
import Derived.Test.YtcmpolmjijemjaaG
namespace Go.Proofs.Ytcmpolmjijemjaa
open Go.RowKit

theorem u8_ofNat_inj {a b : Nat} (ha : a < 256) (hb : b < 256) (h : UInt8.ofNat a = UInt8.ofNat b) : a = b := by
  have := congrArg UInt8.toNat h
  simp at this
  omega
theorem enc_inj (a : Nat) : ∀ b, enc a = enc b → a = b := by
  induction a using Nat.strongRecOn with
  | ind a ih =>
    intro b h
    by_cases ha : a < 128 <;> by_cases hb : b < 128
    · rw [enc_small ha, enc_small hb] at h
      exact u8_ofNat_inj (by omega) (by omega) (List.cons.inj h).1
    · rw [enc_small ha, enc_large (by omega)] at h
      have := u8_ofNat_inj (by omega) (by omega) (List.cons.inj h).1
      omega
    · rw [enc_small hb, enc_large (by omega)] at h
      have := u8_ofNat_inj (by omega) (by omega) (List.cons.inj h).1
      omega
    · rw [enc_large (n := a) (by omega), enc_large (n := b) (by omega)] at h
      have h1 := u8_ofNat_inj (by omega) (by omega) (List.cons.inj h).1
      have h2 := ih (a / 128) (by omega) (b / 128) (List.cons.inj h).2
      omega
theorem enc_len_mono (a : Nat) : ∀ b, a ≤ b → (enc a).length ≤ (enc b).length := by
  induction a using Nat.strongRecOn with
  | ind a ih =>
    intro b h
    by_cases ha : a < 128
    · rw [enc_small ha]; have := enc_pos b; simp; omega
    · rw [enc_large (by omega), enc_large (show 128 ≤ b by omega)]
      have := ih (a / 128) (by omega) (b / 128) (by omega)
      simp; omega

theorem put_one {x : Nat} (h : x ≤ 4611686018427387903) : putS [] [(x : Int)] = enc x := by
  rw [putS_ok (by simp [outB]; omega)]
  simp [encs]

set_option maxHeartbeats 1000000 in
theorem short_walk (a b : Int) (w : World) : Calls Try.prog 6 #[.int .i64 a, .int .i64 b] w fun e w' => e = .returned (.bool true) ∧ Below w.heap.size w w' := by
  go_enter Try.func6, Try.ntmps6
  go_wp2_with fail
  refine (May_any a _).mono ?_
  rintro e w ⟨x, rfl, hx0, hx1, rfl⟩
  go_wp2_with fail
  refine (May_any b _).mono ?_
  rintro e w ⟨y, rfl, hy0, hy1, rfl⟩
  obtain ⟨x, rfl⟩ := Int.eq_ofNat_of_zero_le hx0
  obtain ⟨y, rfl⟩ := Int.eq_ofNat_of_zero_le hy0
  go_wp2_with fail
  refine (Put_any none 0 0 [] _ _ _ [(x : Int)] _ (Rd.nil _ _) (by exact Rd.built w (Is [(x : Int)]) 3 (by unfold maxLen; simp [Is])) (by omega)).mono ?_
  rw [put_one (by omega)]
  rintro e w1 ⟨ao1, cp1, rfl, hown, hbel⟩
  have hR1 := ownsRow.rd hown
  have hb1 := (((Below.refl w.heap.size w).alloc (Nat.le_refl _) _).trans (hbel.mono (by simp)))
  clear hown hbel
  go_wp2_with fail
  refine (Put_any none 0 0 [] _ _ _ [(y : Int)] _ (Rd.nil _ _) (by exact Rd.built w1 (Is [(y : Int)]) 3 (by unfold maxLen; simp [Is])) (by omega)).mono ?_
  rw [put_one (by omega)]
  rintro e w2 ⟨ao2, cp2, rfl, hown, hbel⟩
  have hR2 := ownsRow.rd hown
  have hb2 := (((Below.refl w1.heap.size w1).alloc (Nat.le_refl _) _).trans (hbel.mono (by simp)))
  have hR1' := (hR1.later hb2).mono hb2.size
  have hb := hb1.trans (hb2.mono hb1.size)
  clear hown hbel hR1 hb1 hb2
  have hp := enc_pos x
  have hbx := enc_le 9 x (by omega) (by omega)
  have hby := enc_le 9 y (by omega) (by omega)
  generalize hEx : enc x = E1 at *
  generalize hEy : enc y = E2 at *
  have HX : Hid (enc x = E1) := hEx
  have HY : Hid (enc y = E2) := hEy
  clear hEx hEy
  go_wp2
  go_loop [9, 10] (fun n k => ∃ m c : Nat, n = .int .i64 c ∧ k = .int .i64 m ∧ c ≤ 9 ∧ m ≤ 4611686018427387903 ∧ ((m = 0 ∧ c = E1.length) ∨ (0 < m ∧ c + (enc m).length = E1.length))) (fun _ k => (intOf k).toNat)
  case atStart =>
    refine ⟨x / 128, 1, rfl, by go_num, by omega, by omega, ?_⟩
    by_cases h : x < 128
    · left
      have := HX.out
      rw [enc_small h] at this
      exact ⟨by omega, by rw [← this]; rfl⟩
    · right
      have := HX.out
      rw [enc_large (by omega)] at this
      exact ⟨by omega, by rw [← this]; simp; omega⟩
  case round =>
    obtain ⟨m, c, rfl, rfl, hc9, hm, hmc⟩ := hrel
    rcases hmc with ⟨h0, h1⟩ | ⟨h0, h1⟩
    · have HC : Hid (c = E1.length) := h1
      have hm0 : m ≤ 0 := by omega
      clear h0 h1
      go_wp2_with fail
      refine (known_any _).mono ?_
      rintro e w3 ⟨rfl, hb3⟩
      have hs1 := run_str _ _ _ _ _ (hR1'.later hb3)
      have hs2 := run_str _ _ _ _ _ (hR2.later hb3)
      have hbb := hb.trans (hb3.mono hb.size)
      have hst := str_toList
      have hcl : ((E1.length : Int) == (c : Int)) = true := by rw [HC.out]; simp
      rcases Nat.lt_trichotomy y x with hlt | heq | hgt
      · have hxy : ((x : Int) == (y : Int)) = false := by rw [beq_eq_false_iff_ne]; omega
        have hne : (E1 == E2) = false := by
          rw [beq_eq_false_iff_ne]
          intro h
          have := enc_inj x y (by rw [HX.out, HY.out, h])
          omega
        go_wp2
        go_ret
        exact ⟨rfl, hbb⟩
      · have heq' : (E1 == E2) = true := by
          rw [beq_iff_eq, ← HX.out, ← HY.out, heq]
        have hle : E1.length ≤ E2.length := by rw [← HX.out, ← HY.out, heq]; exact Nat.le_refl _
        subst heq
        go_wp2
        go_ret
        exact ⟨rfl, hbb⟩
      · have hxy : ((x : Int) == (y : Int)) = false := by rw [beq_eq_false_iff_ne]; omega
        have hne : (E1 == E2) = false := by
          rw [beq_eq_false_iff_ne]
          intro h
          have := enc_inj x y (by rw [HX.out, HY.out, h])
          omega
        have hle : E1.length ≤ E2.length := by rw [← HX.out, ← HY.out]; exact enc_len_mono x y (by omega)
        go_wp2
        go_ret
        exact ⟨rfl, hbb⟩
    · have H1 : Hid (c + (enc m).length = E1.length) := h1
      have h2 := enc_pos m
      have hc8 : c ≤ 8 := by omega
      clear h1 h2
      go_wp2
      go_round
      case rel =>
        refine ⟨m / 128, c + 1, by go_num, by go_num, by omega, by omega, ?_⟩
        have h1 := H1.out
        by_cases h : m < 128
        · left
          rw [enc_small h] at h1
          exact ⟨by omega, by simpa using h1⟩
        · right
          rw [enc_large (by omega)] at h1
          simp at h1
          exact ⟨by omega, by omega⟩
      case measure => simp [intOf]; omega
end Go.Proofs.Ytcmpolmjijemjaa
