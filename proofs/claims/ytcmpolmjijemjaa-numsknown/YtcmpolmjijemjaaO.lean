/- the law NumsKnown: its walk -/
import Derived.Test.YtcmpolmjijemjaaN
namespace Go.Proofs.Ytcmpolmjijemjaa
open Go.RowKit

theorem enc_ge (k n : Nat) (h : 128 ^ k ≤ n) : k < (enc n).length := by
  induction k generalizing n with
  | zero => exact enc_pos n
  | succ k ih =>
    have hp : 128 ≤ n := by
      have : 0 < 128 ^ k := Nat.pow_pos (by omega)
      rw [Nat.pow_succ] at h; omega
    rw [enc_large hp]
    have := ih (n / 128) (by rw [Nat.pow_succ] at h; omega)
    simp; omega
theorem most_len : (enc 4611686018427387903).length = 9 := by
  have h1 := enc_ge 8 4611686018427387903 (by decide)
  have h2 := enc_le 9 4611686018427387903 (by decide) (by omega)
  omega
theorem most_take : takeS (enc 4611686018427387903) = (4611686018427387903, [], 0) := by
  have := take_enc 4611686018427387903 (Nat.le_refl _) []
  rwa [List.append_nil] at this
theorem known_text : ([9] : List UInt8) ++ textsOf [⟨#[97, 98]⟩, ⟨#[]⟩] = [9, 2, 97, 98, 0] := by
  have h1 : enc 2 = [2] := enc_small (by omega)
  have h2 : enc 0 = [0] := enc_small (by omega)
  have e1 : textOf ⟨#[97, 98]⟩ = [2, 97, 98] := by
    show enc 2 ++ _ = _
    rw [h1]; rfl
  have e2 : textOf ⟨#[]⟩ = [0] := by
    show enc 0 ++ _ = _
    rw [h2]; rfl
  simp [textsOf, e1, e2]
theorem max8 : 8 ≤ maxLen := by unfold maxLen; omega

set_option maxRecDepth 100000 in
set_option maxHeartbeats 2000000 in
theorem known_walk (w : World) : Calls Try.prog 3 #[] w fun e w' => e = .returned (.bool true) ∧ Below w.heap.size w w' := by
  go_enter Try.func3, Try.ntmps3
  go_wp2_with fail
  refine (Put_eq none 0 0 [] _ _ _ [4611686018427387903] _ (Rd.nil _ _) (by exact Rd.built w (Is [4611686018427387903]) 3 (by unfold maxLen; simp [Is])) (by omega) (put_one (x := 4611686018427387903) (by omega))).mono ?_
  rintro e w1 ⟨ao1, cp1, rfl, hR1, hbel⟩
  have hb1 := bel_new (Below.refl w.heap.size w) hbel
  clear hbel
  rw [most_len] at hR1
  have hml := most_len
  go_wp2_with fail
  refine (Take_eq _ _ _ _ _ hR1 (by omega) most_take).mono ?_
  rintro e w2 ⟨ao2, cp2, rfl, _, hbel⟩
  have hb2 := bel_call hb1 hbel
  clear hbel hR1 hb1 hml
  go_wp2_with fail
  refine (Take_eq _ _ _ [128, 0] _ (by exact Rd.built w2 (Bs [128, 0]) 5 (by unfold maxLen; simp [Bs])) (by omega) (show takeS [128, 0] = (0, [], 2) by decide +kernel)).mono ?_
  rintro e w3 ⟨ao3, cp3, rfl, _, hbel⟩
  have hb3 := bel_new hb2 hbel
  clear hbel hb2
  go_wp2_with fail
  refine (Take_eq _ _ _ [128] _ (by exact Rd.built w3 (Bs [128]) 5 (by unfold maxLen; simp [Bs])) (by omega) (show takeS [128] = (0, [], 3) by decide +kernel)).mono ?_
  rintro e w4 ⟨ao4, cp4, rfl, _, hbel⟩
  have hb4 := bel_new hb3 hbel
  clear hbel hb3
  go_wp2_with fail
  refine (Take_eq _ _ _ [255, 255, 255, 255, 255, 255, 255, 255, 64] _ (by exact Rd.built w4 (Bs [255, 255, 255, 255, 255, 255, 255, 255, 64]) 5 (by unfold maxLen; simp [Bs])) (by omega) (show takeS [255, 255, 255, 255, 255, 255, 255, 255, 64] = (0, [], 2) by decide +kernel)).mono ?_
  rintro e w5 ⟨ao5, cp5, rfl, _, hbel⟩
  have hb5 := bel_new hb4 hbel
  clear hbel hb4
  go_wp2_with fail
  refine (Take_eq _ _ _ [255, 255, 255, 255, 255, 255, 255, 255, 255, 255, 255] _ (by exact Rd.built w5 (Bs [255, 255, 255, 255, 255, 255, 255, 255, 255, 255, 255]) 5 (by unfold maxLen; simp [Bs])) (by omega) (show takeS [255, 255, 255, 255, 255, 255, 255, 255, 255, 255, 255] = (0, [], 3) by decide +kernel)).mono ?_
  rintro e w6 ⟨ao6, cp6, rfl, _, hbel⟩
  have hb6 := bel_new hb5 hbel
  clear hbel hb5
  go_wp2_with fail
  refine (Takes_eq _ _ _ [1, 2, 3] 2 _ (by exact Rd.built w6 (Bs [1, 2, 3]) 5 (by unfold maxLen; simp [Bs])) (by omega) (show takesS [1, 2, 3] 2 = ([1, 2], [3], 0) by decide +kernel)).mono ?_
  rintro e w7 ⟨ao7, cp7, ao7', cp7', rfl, hL7, _, hbel⟩
  have hb7 := bel_new hb6 hbel
  clear hbel hb6
  go_wp2_with fail
  refine (Takes_eq _ _ _ [1] (-4) _ (by exact Rd.built w7 (Bs [1]) 5 (by unfold maxLen; simp [Bs])) (by omega) (show takesS [1] (-4) = ([], [1], 0) by decide +kernel)).mono ?_
  rintro e w8 ⟨ao8, cp8, ao8', cp8', rfl, _, _, hbel⟩
  have hb8 := bel_new hb7 hbel
  have hL8 := rd_new hL7 hbel
  clear hbel hb7 hL7
  have hsz : (w8.alloc (.cells #[.int .u8 9] 5)).heap.size = w8.heap.size + 1 := by simp
  have hBt := Rd.built (w8.alloc (.cells #[.int .u8 9] 5)) (Ss [⟨#[97, 98]⟩, ⟨#[]⟩]) 9 (by unfold maxLen; simp [Ss])
  rw [hsz] at hBt
  go_wp2_with fail
  refine (Text_eq _ _ _ [9] _ _ _ [⟨#[97, 98]⟩, ⟨#[]⟩] _ (by exact rd_alloc (Rd.built w8 (Bs [9]) 5 (by unfold maxLen; simp [Bs]))) (by exact hBt) (by decide) known_text).mono ?_
  rintro e w9 ⟨ao9, cp9, rfl, hRt, hbel⟩
  have hb9 := bel_new (hb8.alloc hb8.size _) hbel
  have hL9 := rd_new (rd_alloc hL8) hbel
  clear hbel hb8 hL8 hsz hBt
  have hcp : 5 ≤ cp9 := hRt.2.1
  have hcp1 : ¬ cp9 = 1 := by omega
  obtain ⟨bt, ot, rfl, _, _⟩ := hRt.atSome (by decide)
  have hRt' : Rd w9.heap.size w9 (some ⟨bt, ot + 1, none⟩) 4 (cp9 - 1) (Bs [2, 97, 98, 0]) := by
    have := hRt.from 1 (by decide)
    rw [if_neg hcp1] at this
    exact this
  go_wp2_with fail
  refine (TakeText_eq _ _ _ [2, 97, 98, 0] _ hRt' (by omega) (show takeTextS [2, 97, 98, 0] = ([97, 98], [0], 0) by decide +kernel)).mono ?_
  rintro e w10 ⟨ao10, cp10, rfl, _, hbel⟩
  have hb10 := bel_call hb9 hbel
  have hL10 := rd_call hL9 hbel
  have hT10 := rd_call hRt hbel
  clear hbel hb9 hL9 hRt hRt'
  go_wp2_with fail
  refine (TakeText_eq _ _ _ [3, 97, 98] _ (by exact Rd.built w10 (Bs [3, 97, 98]) 5 (by unfold maxLen; simp [Bs])) (by omega) (show takeTextS [3, 97, 98] = ([], [], 3) by decide +kernel)).mono ?_
  rintro e w11 ⟨ao11, cp11, rfl, _, hbel⟩
  have hb11 := bel_new hb10 hbel
  have hL11 := rd_new hL10 hbel
  have hT11 := rd_new hT10 hbel
  clear hbel hb10 hL10 hT10
  go_wp2_with fail
  refine (known_any _).mono ?_
  rintro e w12 ⟨rfl, hbel⟩
  have hb12 := bel_call hb11 hbel
  have hL12 := rd_call hL11 hbel
  have hT12 := rd_call hT11 hbel
  clear hbel hb11 hL11 hT11
  obtain ⟨bl, ol, rfl, _, hcl⟩ := hL12.atSome (by decide)
  have hc1 : w12.cell? ⟨bl, ol + 1, none⟩ = some (.int .i64 2) := hcl 1 _ rfl
  clear hcl
  have hs12 : (convert 22 9 (.slice (some ⟨bt, ot, none⟩) 5 cp9)).run Try.prog w12 = .ok (.string (str [9, 2, 97, 98, 0])) w12 := run_str _ _ _ _ _ hT12
  have hst1 := str_toList [9, 2, 97, 98, 0]
  have hst2 := str_toList [97, 98]
  go_wp2_with fail
  refine (Put_eq _ _ _ [4] none 0 0 [] _ (by exact Rd.built w12 (Bs [4]) 5 (by unfold maxLen; simp [Bs])) (Rd.nil _ _) (by omega) (show putS [4] [] = [4] from rfl)).mono ?_
  rintro e w13 ⟨ao13, cp13, rfl, _, hbel⟩
  have hb13 := bel_new hb12 hbel
  clear hbel hb12 hL12 hT12 hs12 hc1
  have hsz : (w13.alloc (.cells #[.int .u8 4] 5)).heap.size = w13.heap.size + 1 := by simp
  have hBt := Rd.built (w13.alloc (.cells #[.int .u8 4] 5)) (Is [1, -1]) 3 (by unfold maxLen; simp [Is])
  rw [hsz] at hBt
  go_wp2_with fail
  refine (Put_eq _ _ _ [4] _ _ _ [1, -1] _ (by exact rd_alloc (Rd.built w13 (Bs [4]) 5 (by unfold maxLen; simp [Bs]))) (by exact hBt) (by omega) (show putS [4] [1, -1] = [] from putS_bad (by decide))).mono ?_
  rintro e w14 ⟨ao14, cp14, rfl, _, hbel⟩
  have hb14 := bel_new (hb13.alloc hb13.size _) hbel
  clear hbel hb13 hsz hBt
  go_wp2_with fail
  refine (Put_eq none 0 0 [] _ _ _ [4611686018427387904] _ (Rd.nil _ _) (by exact Rd.built w14 (Is [4611686018427387904]) 3 (by unfold maxLen; simp [Is])) (by omega) (show putS [] [4611686018427387904] = [] from putS_bad (by decide))).mono ?_
  rintro e w15 ⟨ao15, cp15, rfl, _, hbel⟩
  have hb15 := bel_new hb14 hbel
  clear hbel hb14
  go_wp2
  go_ret
  exact ⟨rfl, hb15⟩
end Go.Proofs.Ytcmpolmjijemjaa
