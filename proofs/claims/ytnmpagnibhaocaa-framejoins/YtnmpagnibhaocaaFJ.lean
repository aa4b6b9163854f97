/- FrameJoins: the walk -/
import Derived.Test.YtnmpagnibhaocaaFI
namespace Go.Proofs.Ytnmpagnibhaocaa
open Go.RowKit

theorem str_cat (a b : List UInt8) : str a ++ str b = str (a ++ b) := by
  have : (str a ++ str b).data = (str (a ++ b)).data := by
    rw [← Array.toList_inj]; simp [str]
  cases h1 : str a ++ str b; cases h2 : str (a ++ b); simp_all
theorem str_size (l : List UInt8) : (str l).size = l.length := rd_str
theorem joins_read (L : List (List UInt8)) (m0 : List UInt8) (rest : List (List UInt8)) (hL : ∀ r ∈ L, r.length ≤ 4000) (hm : m0.length ≤ 4000) (p : Nat) (hp : p < 8 + m0.length) (x y : UInt8) (hy : ¬ y = 0)
    (hx : (framesF sum8 L ++ framesF sum8 (m0 :: rest))[(framesF sum8 L).length + ((enc m0.length).length + p)]? = some x) :
    readS sum8 ((framesF sum8 L ++ framesF sum8 (m0 :: rest)).set ((framesF sum8 L).length + ((enc m0.length).length + p)) (x ^^^ y)) = (L, (framesF sum8 L).length) := by
  rw [framesF_cons] at hx ⊢
  rw [List.getElem?_append_right (by omega), Nat.add_sub_cancel_left] at hx
  rw [List.set_append_right _ _ (by omega), Nat.add_sub_cancel_left]
  exact readS_frames sum8 sum8_length L hL _ (turned_none m0 _ hm p hp x y hx hy)
theorem some_cons {ls : List (List UInt8)} (h : 0 < ls.length) : ∃ m0 rest, someS ls = m0 :: rest := by
  cases ls with
  | nil => simp at h
  | cons a r => exact ⟨a.take 200, (r.take 7).map (·.take 200), by simp [someS]⟩

set_option maxRecDepth 100000 in
set_option maxHeartbeats 2000000 in
theorem frameJoins_walk (ao : Option Addr) (n cap : Nat) (l : List (List UInt8)) (ao' : Option Addr) (n' cap' : Nat) (m : List (List UInt8)) (a : Int) (y : UInt8) (w : World) (h : RdLL w.heap.size w ao n cap l) (h' : RdLL w.heap.size w ao' n' cap' m) :
    Calls Try.prog 6 #[.slice ao n cap, .slice ao' n' cap', .int .i64 a, .int .u8 y.toNat] w fun e w' => e = .returned (.bool true) ∧ Below w.heap.size w w' := by
  have hn' := h'.len
  subst hn'
  obtain ⟨L, hL⟩ : ∃ L, someS l = L := ⟨_, rfl⟩
  obtain ⟨M, hM⟩ : ∃ M, someS m = M := ⟨_, rfl⟩
  have HL : Hid (someS l = L) := hL
  have HM : Hid (someS m = M) := hM
  have hL8 : L.length ≤ 8 := by rw [← hL]; exact someS_len l
  have hM8 : M.length ≤ 8 := by rw [← hM]; exact someS_len m
  have HL2 : Hid (∀ r ∈ L, r.length ≤ 200) := by show ∀ r ∈ L, _; rw [← hL]; exact someS_le l
  have HM2 : Hid (∀ r ∈ M, r.length ≤ 200) := by show ∀ r ∈ M, _; rw [← hM]; exact someS_le m
  obtain ⟨A, hA⟩ : ∃ A, framesF sum8 L = A := ⟨_, rfl⟩
  obtain ⟨D, hD⟩ : ∃ D, framesF sum8 M = D := ⟨_, rfl⟩
  have hAl : A.length ≤ 1736 := by rw [← hA]; have := frames_few L HL2.out; omega
  have hDl : D.length ≤ 1736 := by rw [← hD]; have := frames_few M HM2.out; omega
  have HA : Hid ([] ++ framesF sum8 L = A) := hA
  have HD : Hid ([] ++ framesF sum8 M = D) := hD
  obtain ⟨C, hC⟩ : ∃ C, A ++ D = C := ⟨_, rfl⟩
  have HC : Hid (A ++ framesF sum8 M = C) := by show _ = _; rw [hD]; exact hC
  have HCl : Hid (C.length = A.length + D.length) := by show _ = _; rw [← hC, List.length_append]
  have hCle : C.length ≤ 3472 := by rw [HCl.out]; omega
  have hcat : str A ++ str D = str C := by rw [str_cat, hC]
  have hsA := str_size A
  have hsD := str_size D
  have HH : Hid (RdLL w.heap.size w ao n cap l) := h
  have HH' : Hid (RdLL w.heap.size w ao' m.length cap' m) := h'
  have HCC : Hid (framesF sum8 L ++ framesF sum8 M = C) := by show _ = _; rw [hA, hD]; exact hC
  have HA0 : Hid (framesF sum8 L = A) := hA
  clear hL hM hA hD hC h h'
  go_enter Try.func6, Try.ntmps6
  go_wp2_with fail
  refine (some_any _ _ _ l w HH.out HL.out).mono ?_
  rintro e w1 ⟨ao1, cp1, rfl, hown1, hb1⟩
  have hR1 := hown1.rd
  clear hown1
  go_wp2_with fail
  refine (Lay_n none 0 0 [] _ _ _ L w1 (Rd.nil _ _) hR1 HA.out rfl (by omega)).mono ?_
  rintro e w2 ⟨ao2, cp2, rfl, hown2, hb2⟩
  have hB2 := bel_call hb1 hb2
  have hRA2 := ownsRow.rd hown2
  clear hb1 hb2 hR1 hown2
  go_wp2_with fail
  refine (some_any _ _ _ m w2 ((HH'.out.later hB2).mono hB2.size) HM.out).mono ?_
  rintro e w3 ⟨ao3, cp3, rfl, hown3, hb3⟩
  have hR3 := hown3.rd
  have hB3 := bel_call hB2 hb3
  have hRA3 := rd_call hRA2 hb3
  clear hown3 hb3 hRA2 hB2
  go_wp2_with fail
  refine (Lay_n none 0 0 [] _ _ _ M w3 (Rd.nil _ _) hR3 HD.out rfl (by omega)).mono ?_
  rintro e w4 ⟨ao4, cp4, rfl, hown4, hb4⟩
  have hB4 := bel_call hB3 hb4
  have hRA4 := rd_call hRA3 hb4
  have hRD4 := ownsRow.rd hown4
  clear hown4 hb4 hRA3 hB3 hR3
  go_wp2_with fail
  refine (some_any _ _ _ m w4 ((HH'.out.later hB4).mono hB4.size) HM.out).mono ?_
  rintro e w5 ⟨ao5, cp5, rfl, hown5, hb5⟩
  have hR5 := hown5.rd
  have hB5 := bel_call hB4 hb5
  have hRA5 := rd_call hRA4 hb5
  have hRD5 := rd_call hRD4 hb5
  clear hown5 hb5 hRA4 hRD4 hB4
  go_wp2_with fail
  refine (Lay_n _ _ _ A _ _ _ M w5 hRA5 hR5 HC.out rfl (by omega)).mono ?_
  rintro e w6 ⟨ao6, cp6, rfl, hown6, hb6⟩
  have hB6 := bel_call hB5 hb6
  have hRA6 := rd_call hRA5 hb6
  have hRD6 := rd_call hRD5 hb6
  have hown6' := own_mono hown6 hB5.size
  clear hown6 hb6 hRA5 hRD5 hB5 hR5
  go_wp2_with fail
  refine (known_any w6).mono ?_
  rintro e w7 ⟨rfl, hb7⟩
  have hB7 := bel_call hB6 hb7
  have hsA7 := run_str _ _ _ _ _ (rd_call hRA6 hb7)
  have hsD7 := run_str _ _ _ _ _ (rd_call hRD6 hb7)
  have hown7 := own_below hown6' hb7
  have hsC7 := run_str _ _ _ _ _ (ownsRow.rd hown7)
  have hq : ((str C).toList != (str C).toList) = false := by simp
  clear hb7 hRA6 hRD6 hown6' hB6
  by_cases hm0 : m.length = 0
  · have hm1 : (m.length : Int) = 0 := by omega
    go_wp2
    go_ret
    exact ⟨rfl, hB7⟩
  · by_cases hy0 : y = 0
    · have hy1 : ((y.toNat : Int) == 0) = true := by rw [hy0]; rfl
      have hm1 : 0 < (m.length : Int) := by omega
      go_wp2
      go_ret
      exact ⟨rfl, hB7⟩
    · have hy1 : ((y.toNat : Int) == 0) = false := by
        rw [beq_eq_false_iff_ne]
        intro h
        exact hy0 (UInt8.toNat_inj.1 (by simpa using h))
      have hm1 : ((m.length : Int) == 0) = false := by rw [beq_eq_false_iff_ne]; omega
      obtain ⟨m0, rest, hmr⟩ := some_cons (ls := m) (by omega)
      have HMR : Hid (M = m0 :: rest) := by show _ = _; rw [← HM.out]; exact hmr
      have hM0 : 0 < M.length := by rw [HMR.out]; simp
      have hMi : M[0]? = some m0 := by rw [HMR.out]; rfl
      have HMi : Hid (M[0]? = some m0) := hMi
      have hml : m0.length ≤ 200 := HM2.out m0 (List.mem_of_getElem? hMi)
      obtain ⟨F, hF⟩ : ∃ F, framesF sum8 [m0] = F := ⟨_, rfl⟩
      have HF : Hid ([] ++ framesF sum8 [m0] = F) := hF
      obtain ⟨E, hE⟩ : ∃ E, (enc m0.length).length = E := ⟨_, rfl⟩
      have HFL : Hid (F.length = E + 8 + m0.length) := by show _ = _; rw [← hF, framesF_one, frameF_length sum8 sum8_length, hE]
      have hE9 : E ≤ 9 := by rw [← hE]; exact enc_le 9 _ (by omega) (by omega)
      have l1 := pick_lo a (m0.length + 8) (by omega)
      have l2 := pick_hi a (m0.length + 8) (by omega)
      obtain ⟨p, hp⟩ : ∃ p : Nat, pick a (m0.length + 8) = (p : Int) := ⟨(pick a (m0.length + 8)).toNat, by omega⟩
      have hp8 : p < 8 + m0.length := by omega
      have HPk : Hid (pick a (m0.length + 8) = (p : Int)) := hp
      have hin : A.length + (E + p) < C.length := by
        have h1 : D.length = F.length + (framesF sum8 rest).length := by
          rw [← show [] ++ framesF sum8 M = D from HD.out, List.nil_append, HMR.out, framesF_cons, List.length_append, ← hF, framesF_one]
        rw [HCl.out, h1, HFL.out]; omega
      obtain ⟨x, hx⟩ : ∃ x, C[A.length + (E + p)]? = some x := ⟨C[A.length + (E + p)], List.getElem?_eq_getElem _⟩
      have HX : Hid (C[A.length + (E + p)]? = some x) := hx
      have HRd : Hid (readS sum8 (C.set (A.length + (E + p)) (x ^^^ y)) = (L, A.length)) := by
        show _ = _
        have hcc := HCC.out
        rw [HMR.out] at hcc
        have := joins_read L m0 rest (fun r hr => Nat.le_trans (HL2.out r hr) (by omega)) (by omega) p hp8 x y hy0 (by rw [hcc, HA0.out, hE]; exact hx)
        rw [hcc, HA0.out, hE] at this
        exact this
      have HXOR : Hid (bits .xor .u8 (x.toNat : Int) (y.toNat : Int) = ((x ^^^ y).toNat : Int)) := u8_xor x y
      clear hmr hMi hF hE l1 l2 hp hx hm0 hy0
      go_wp2_with fail
      refine (some_any _ _ _ m w7 ((HH'.out.later hB7).mono hB7.size) HM.out).mono ?_
      rintro e w8 ⟨ao8, cp8, rfl, hown8, hb8⟩
      have hB8 := bel_call hB7 hb8
      have hC8 := own_below hown7 hb8
      obtain ⟨b8, o8, rfl, _, hc8⟩ := hown8.rd.at (by omega)
      obtain ⟨a9, p9, hd9, hR9⟩ := hc8 0 m0 HMi.out
      rw [Nat.add_zero] at hd9
      clear hown8 hb8 hown7 hB7 hc8 hsA7 hsD7 hsC7 hcat hsA hsD hq
      go_wp2_with fail
      refine (Lay_n none 0 0 [] _ _ _ [m0] _ (Rd.nil _ _) (by exact RdLL.built w8 a9 p9 m0 _ rfl hR9) HF.out HFL.out (by omega)).mono ?_
      rintro e w9 ⟨ao9, cp9, rfl, _, hb9⟩
      have hB9 := bel_new hB8 hb9
      have hC9 := own_new hC8 hb9
      clear hb9 hC8 hB8 hR9 hd9
      go_wp2_with fail
      refine (some_any _ _ _ m w9 ((HH'.out.later hB9).mono hB9.size) HM.out).mono ?_
      rintro e w10 ⟨ao10, cp10, rfl, hown10, hb10⟩
      have hB10 := bel_call hB9 hb10
      have hC10 := own_below hC9 hb10
      obtain ⟨b10, o10, rfl, _, hc10⟩ := hown10.rd.at (by omega)
      obtain ⟨a11, p11, hd11, _⟩ := hc10 0 m0 HMi.out
      rw [Nat.add_zero] at hd11
      clear hown10 hb10 hC9 hB9 hc10
      go_upto_region 10 with fail
      go_cut [14] (fun v wc => v = .int .i64 ((E + p : Nat) : Int) ∧ wc = w10)
      case first =>
        go_wp2_with fail
        refine (Pick_eq a _ _ w10 (by omega) (by omega) HPk.out).mono ?_
        rintro e w10 ⟨rfl, rfl⟩
        go_wp2
        go_meet
        case rel => exact ⟨by go_num, rfl⟩
      case rest =>
        obtain ⟨rfl, rfl⟩ := hcut
        generalize E + p = q at *
        obtain ⟨g, cg, hform⟩ := Go.Joins.ownsRow_form hC10 (by omega)
        cases hform
        have hcell := hC10.cellAt (A.length + q) (by omega)
        rw [show (Bs C)[A.length + q]? = some (.int .u8 x.toNat) from by simp [Bs, HX.out]] at hcell
        have hfz := hC10.frozenAt (A.length + q)
        have hst := hC10.stored (A.length + q) (.int .u8 ((x ^^^ y).toNat : Int))
        rw [Bs_set] at hst
        obtain ⟨hC11, hg11⟩ := hst
        have hB11 := hB10.grown hg11 hB10.size (fun k hk => by cases hk; exact (hC10.lt g rfl).1)
        clear hC10 hg11 hd11
        go_wp2_with fail
        rw [HXOR.out]
        generalize wc.setCell ⟨g, A.length + q, none⟩ (.int .u8 ((x ^^^ y).toNat : Int)) = w11 at *
        refine (Read_n _ _ _ (C.set (A.length + q) (x ^^^ y)) w11 (ownsRow.rd hC11) (by omega) HRd.out rfl).mono ?_
        rintro e w12 ⟨ao12, cp12, rfl, _, hb12⟩
        have hB12 := bel_call hB11 hb12
        clear hB11 hb12 hC11
        go_wp2_with fail
        refine (some_any _ _ _ l w12 ((HH.out.later hB12).mono hB12.size) HL.out).mono ?_
        rintro e w13 ⟨ao13, cp13, rfl, _, hb13⟩
        have hB13 := bel_call hB12 hb13
        go_wp2
        go_ret
        exact ⟨rfl, hB13⟩
end Go.Proofs.Ytnmpagnibhaocaa
