/- FrameTells: the walk -/
import Derived.Test.YtnmpagnibhaocaaFQ
namespace Go.Proofs.Ytnmpagnibhaocaa
open Go.RowKit

theorem run_idx (cs : Array Value) (k : Nat) (c : Value) (w : World) (hk : k < 2) (hc : cs[k]? = some c) : (Instr.index 31 (.agg cs) (.int .i64 k)).run Try.prog w = .ok c w := by
  obtain ⟨i0, hi, hz0, hz1, hz2⟩ := info_parts Try.info22
  unfold Instr.index
  simp [asIntOf, part, sizeOf, typeInfo, hi, hz1, hc, hk]
theorem run_idx0 (a b : Value) (w : World) : (Instr.index 31 (.agg #[a, b]) (.int .i64 0)).run Try.prog w = .ok a w := run_idx #[a, b] 0 a w (by omega) rfl
theorem run_idx1 (a b : Value) (w : World) : (Instr.index 31 (.agg #[a, b]) (.int .i64 1)).run Try.prog w = .ok b w := run_idx #[a, b] 1 b w (by omega) rfl
attribute [local go_sem ↓] run_idx0 run_idx1

theorem refFrames_n (ao : Option Addr) (n cap : Nat) (l : List UInt8) (w : World) (h : Rd w.heap.size w ao n cap (Bs l)) (hb : n ≤ 52776558133248) {rs : List (List UInt8)} {u : Nat} (hR : readS sum8 l = (rs, u)) :
    Calls Try.prog 14 #[.slice ao n cap] w fun e w' => ∃ ao' cap', e = .returned (.tuple #[.slice ao' rs.length cap', .int .i64 (u : Nat)]) ∧ OwnLL w.heap.size w' (.slice ao' rs.length cap') rs.length rs ∧ Below w.heap.size w w' :=
  refFrames_any ao n cap l w h hb hR

set_option maxRecDepth 100000 in
set_option maxHeartbeats 4000000 in
theorem frameTells_walk (aob : Option Addr) (nb cb : Nat) (b : List UInt8) (ao : Option Addr) (n cap : Nat) (l : List (List UInt8)) (aor : Option Addr) (nr cr : Nat) (raw : List UInt8) (a : Int) (y : UInt8) (cut : Int) (w : World)
    (hb : Rd w.heap.size w aob nb cb (Bs b)) (h : RdLL w.heap.size w ao n cap l) (hr : Rd w.heap.size w aor nr cr (Bs raw)) (hbl : nb ≤ 1048576) (hrl : nr ≤ 1048576) :
    Calls Try.prog 4 #[.slice aob nb cb, .slice ao n cap, .slice aor nr cr, .int .i64 a, .int .u8 y.toNat, .int .i64 cut] w fun e w' => e = .returned (.bool true) ∧ Below w.heap.size w w' := by
  have hnb : b.length = nb := by rw [← Bs_length]; exact hb.1
  subst hnb
  have hnr : raw.length = nr := by rw [← Bs_length]; exact hr.1
  subst hnr
  obtain ⟨R, hR⟩ : ∃ R, someS l = R := ⟨_, rfl⟩
  have HS : Hid (someS l = R) := hR
  have hR8 : R.length ≤ 8 := by rw [← hR]; exact someS_len l
  have HR2 : Hid (∀ r ∈ R, r.length ≤ 200) := by show ∀ r ∈ R, _; rw [← hR]; exact someS_le l
  obtain ⟨K, hK⟩ : ∃ K, framesF sum8 R = K := ⟨_, rfl⟩
  have HK : Hid ([] ++ framesF sum8 R = K) := hK
  have hKl : K.length ≤ 1736 := by rw [← hK]; have := frames_few R HR2.out; omega
  obtain ⟨X, hX⟩ : ∃ X, b ++ K = X := ⟨_, rfl⟩
  have HX : Hid (b ++ framesF sum8 R = X) := by show _ = _; rw [hK]; exact hX
  have hXl : X.length ≤ 1050312 := by rw [← hX, List.length_append]; omega
  have HH : Hid (RdLL w.heap.size w ao n cap l) := h
  have HHb : Hid (Rd w.heap.size w aob b.length cb (Bs b)) := hb
  have HHr : Hid (Rd w.heap.size w aor raw.length cr (Bs raw)) := hr
  clear hR hK hX h hb hr
  go_enter Try.func4, Try.ntmps4
  go_wp2_with fail
  refine (some_any _ _ _ l w HH.out HS.out).mono ?_
  rintro e w1 ⟨ao1, cp1, rfl, hown1, hb1⟩
  have hR1 := hown1.rd
  clear hown1
  go_wp2_with fail
  refine (Lay_n _ _ _ b _ _ _ R w1 ((HHb.out.later hb1).mono hb1.size) hR1 HX.out rfl (by omega)).mono ?_
  rintro e w2 ⟨ao2, cp2, rfl, hown2, hb2⟩
  have hB2 := bel_call hb1 hb2
  have HX2 : Hid (Rd w2.heap.size w2 ao2 X.length cp2 (Bs X)) := ownsRow.rd hown2
  have HH2 : Hid (RdLL w2.heap.size w2 ao n cap l) := (HH.out.later hB2).mono hB2.size
  have HHb2 : Hid (Rd w2.heap.size w2 aob b.length cb (Bs b)) := rd_call HHb.out hB2
  clear hb1 hb2 hR1 hown2
  go_upto_region 2 with fail
  go_cut [33] (fun v wx => v = .bool false ∧ Below w2.heap.size w2 wx)
  case first =>
    have tokA : True := trivial
    have hs2 := run_str _ _ _ _ _ HX2.out.drew
    go_region_with (first
      | (have tA := tokA; go_at_call 11; refine (some_any _ _ _ l w2.drew (HH2.out.later (Below.refl _ _).drew) HS.out).mono ?_; rintro e w3 ⟨ao3, cp3, rfl, hown3, hb3⟩; have hb3' := below_undrew hb3; have hR3 := hown3.rd; have hX3 := rd_call HX2.out hb3'; have hs3 := run_str _ _ _ _ _ hX3; have hRb3 := rd_call HHb2.out hb3'; clear tokA tA hown3; have tokB : True := trivial)
      | (have tB := tokB; go_at_call 12; refine (refFrame_any _ _ _ b _ _ _ R w3 hRb3 hR3 HX.out (by omega)).mono ?_; rintro e w4 ⟨ao4, cp4, rfl, hown4, hb4⟩; have hs4 := run_str _ _ _ _ _ (ownsRow.rd hown4); have hs5 := run_str _ _ _ _ _ (rd_call hX3 hb4); clear tokB tB))
    all_goals
      go_wp2
      go_meet
      case rel => exact ⟨by simp, bel_call hb3' hb4⟩
  case rest =>
    obtain ⟨rfl, hb3⟩ := hcut
    obtain ⟨w3, rfl⟩ : ∃ w3 : World, w3 = wc := ⟨_, rfl⟩
    have hB3 := bel_call hB2 hb3
    clear HX2 HH2 HHb2 hb3 hB2
    go_wp2_with fail
    refine (some_any _ _ _ l w3 ((HH.out.later hB3).mono hB3.size) HS.out).mono ?_
    rintro e w4 ⟨ao4, cp4, rfl, hown4, hb4⟩
    have hR4 := hown4.rd
    have hB4 := bel_call hB3 hb4
    clear hown4 hb4 hB3
    go_wp2_with fail
    refine (refFrame_any none 0 0 [] _ _ _ R w4 (Rd.nil _ _) hR4 HK.out (by omega)).mono ?_
    rintro e w5 ⟨ao5, cp5, rfl, hown5, hb5⟩
    have hB5 := bel_call hB4 hb5
    have hown5' := own_mono hown5 hB4.size
    clear hown5 hb5 hB4 hR4
    go_upto_region 5 with fail
    go_cut [44] (fun v wx => ∃ c : Bool, v = .bool c ∧ (c = true → 0 < K.length) ∧ wx = w5)
    case first =>
      by_cases hk0 : K.length = 0
      · go_wp2
        go_meet
        case rel => exact ⟨false, rfl, by simp, rfl⟩
      · have hk1 : 0 < (K.length : Int) := by omega
        go_wp2
        go_meet
        case rel => exact ⟨_, rfl, fun _ => by omega, rfl⟩
    case rest =>
      obtain ⟨c, rfl, hc, rfl⟩ := hcut
      obtain ⟨w5, rfl⟩ : ∃ w5 : World, w5 = wc := ⟨_, rfl⟩
      go_upto_if 44 with fail
      go_cut [14] (fun v wx => v = .slice ao5 K.length cp5 ∧ (∃ Y, Y.length = K.length ∧ wx.ownsRow w.heap.size 5 1 v K.length (Bs Y)) ∧ Below w.heap.size w wx)
      case first =>
        cases c with
        | false =>
          go_wp2
          go_meet
          case rel => exact ⟨rfl, ⟨K, rfl, hown5'⟩, hB5⟩
        | true =>
          have hk1 : 0 < K.length := hc rfl
          obtain ⟨g, cg, hform⟩ := Go.Joins.ownsRow_form hown5' hk1
          cases hform
          go_wp2_with fail
          have g1 := pick_lo (wrap64 (a.tdiv 3)) (K.length : Int) (by omega)
          have g2 := pick_hi (wrap64 (a.tdiv 3)) (K.length : Int) (by omega)
          refine (Pick_any _ _ _ (by omega) (by omega)).mono ?_
          rintro e w5 ⟨rfl, rfl⟩
          obtain ⟨p, hp⟩ := Int.eq_ofNat_of_zero_le g1
          rw [hp] at g2 ⊢
          have hpl : p < K.length := by omega
          obtain ⟨x, hx⟩ : ∃ x, K[p]? = some x := ⟨K[p], List.getElem?_eq_getElem _⟩
          have hcell : w5.cell? ⟨g, p, none⟩ = some (.int .u8 x.toNat) := (hown5'.cellAt p (by omega)).trans (by simp [Bs, hx])
          have hfz := hown5'.frozenAt p
          have hst := hown5'.stored p (.int .u8 ((x ^^^ y).toNat : Int))
          rw [Bs_set] at hst
          have HO : Hid ((w5.setCell ⟨g, p, none⟩ (.int .u8 ((x ^^^ y).toNat : Int))).ownsRow w.heap.size 5 1 (.slice (some ⟨g, 0, none⟩) K.length cp5) K.length (Bs (K.set p (x ^^^ y)))) := hst.1
          have HBl : Hid (Below w.heap.size w (w5.setCell ⟨g, p, none⟩ (.int .u8 ((x ^^^ y).toNat : Int)))) := hB5.grown hst.2 hB5.size (fun k hk => by cases hk; exact (hown5'.lt g rfl).1)
          have HXOR : Hid (bits .xor .u8 (x.toNat : Int) (y.toNat : Int) = ((x ^^^ y).toNat : Int)) := u8_xor x y
          clear hst hx g1 hp hown5'
          go_wp2
          go_meet
          case rel =>
            rw [HXOR.out]
            exact ⟨rfl, ⟨K.set p (x ^^^ y), by simp, HO.out⟩, HBl.out⟩
      case rest =>
        obtain ⟨rfl, ⟨Y, hYl, hown6⟩, hB6⟩ := hcut
        obtain ⟨w6, rfl⟩ : ∃ w6 : World, w6 = wc := ⟨_, rfl⟩
        have HRY : Hid (Rd w6.heap.size w6 ao5 K.length cp5 (Bs Y)) := ownsRow.rd hown6
        have hcpY := HRY.out.2.1
        have HYL : Hid (Y.length = K.length) := hYl
        clear hown6 hown5' hB5 hc hYl
        go_upto_region 7 with fail
        go_cut [58] (fun v wx => ∃ c : Bool, v = .bool c ∧ wx = w6)
        case first =>
          go_wp2
          go_meet
          case rel => exact ⟨_, rfl, rfl⟩
        case rest =>
          obtain ⟨c2, rfl, rfl⟩ := hcut
          obtain ⟨w6, rfl⟩ : ∃ w6 : World, w6 = wc := ⟨_, rfl⟩
          go_upto_if 58 with fail
          go_cut [14] (fun v wx => (∃ ao' cp' Z, v = .slice ao' (List.length Z) cp' ∧ Rd w6.heap.size w6 ao' Z.length cp' (Bs Z) ∧ Z.length ≤ 1736) ∧ wx = w6)
          case first =>
            cases c2 with
            | false =>
              go_wp2
              go_meet
              case rel => exact ⟨⟨ao5, cp5, Y, by rw [HYL.out], by rw [HYL.out]; exact HRY.out, by rw [HYL.out]; exact hKl⟩, rfl⟩
            | true =>
              go_wp2_with fail
              have g1 := pick_lo (wrap64 (cut.tdiv 2)) ((K.length : Int) + 1) (by omega)
              have g2 := pick_hi (wrap64 (cut.tdiv 2)) ((K.length : Int) + 1) (by omega)
              refine (Pick_any _ _ _ (by omega) (by omega)).mono ?_
              rintro e w6 ⟨rfl, rfl⟩
              obtain ⟨p, hp⟩ := Int.eq_ofNat_of_zero_le g1
              rw [hp] at g2 ⊢
              have hpl : p ≤ K.length := by omega
              have hT := HRY.out.till p hpl
              rw [← Bs_take] at hT
              have HTL : Hid (p = (Y.take p).length) := by show _ = _; rw [List.length_take, HYL.out]; omega
              clear g1 hp
              go_wp2
              go_meet
              case rel => exact ⟨⟨ao5, cp5, Y.take p, by rw [← HTL.out], by rw [← HTL.out]; exact hT, by rw [← HTL.out]; omega⟩, rfl⟩
          case rest =>
            obtain ⟨⟨aoZ, cpZ, Z, rfl, hRZ, hZl⟩, rfl⟩ := hcut
            obtain ⟨w6, rfl⟩ : ∃ w6 : World, w6 = wc := ⟨_, rfl⟩
            have HRZ : Hid (Rd w6.heap.size w6 aoZ Z.length cpZ (Bs Z)) := hRZ
            have HRr : Hid (Rd w6.heap.size w6 aor raw.length cr (Bs raw)) := rd_call HHr.out hB6
            clear HRY HYL hRZ hcpY
            go_wp2_with fail
            go_loopw [70] (fun i wr => ∃ k : Nat, k ≤ 2 ∧ i = .int .i64 k ∧ Below w6.heap.size w6 wr) (fun i _ => 2 - (intOf i).toNat)
            case atStart => exact ⟨0, by omega, rfl, Below.refl _ _⟩
            case round =>
              obtain ⟨k, hk, rfl, hbk⟩ := hrel
              by_cases hlt : k < 2
              · go_upto_region 11 with fail
                go_cut [16] (fun v wc => ∃ (ao : Option Addr) (cp : Nat) (V : List UInt8), v = .slice ao V.length cp ∧ Rd wc.heap.size wc ao V.length cp (Bs V) ∧ V.length ≤ 1048576 ∧ wc = wr)
                case first =>
                  have q0 := rd_call HRZ.out hbk
                  have q1 := rd_call HRr.out hbk
                  rcases (show k = 0 ∨ k = 1 from by omega) with rfl | rfl
                  · go_wp2
                    go_meet
                    case rel => exact ⟨aoZ, cpZ, Z, rfl, q0, by omega, rfl⟩
                  · go_wp2
                    go_meet
                    case rel => exact ⟨aor, cr, raw, rfl, q1, by omega, rfl⟩
                case rest =>
                  obtain ⟨ao8, cp8, V, rfl, RV, hV, rfl⟩ := hcut
                  obtain ⟨wr, rfl⟩ : ∃ wr : World, wr = wc := ⟨_, rfl⟩
                  obtain ⟨⟨P, u⟩, hP⟩ : ∃ t, readS sum8 V = t := ⟨_, rfl⟩
                  have HP : Hid (readS sum8 V = (P, u)) := hP
                  have hPl : P.length ≤ 1048576 := by have := readS_le sum8 V.length V (Nat.le_refl _); rw [hP] at this; have h1 := this.1; have h2 := this.2.1; simp only at h1 h2; omega
                  clear hP
                  go_wp2_with fail
                  refine (Read_n _ _ _ V wr RV (by omega) HP.out rfl).mono ?_
                  rintro e wa ⟨aoa, cpa, rfl, owna, hba⟩
                  have RVa := rd_call RV hba
                  have hbka := bel_call hbk hba
                  have Ra := owna.rd
                  clear RV owna hba hbk
                  go_wp2_with fail
                  refine (refFrames_n _ _ _ V wa RVa (by omega) HP.out).mono ?_
                  rintro e wb ⟨aob', cpb, rfl, ownb, hbb⟩
                  have hbkb := bel_call hbka hbb
                  have HRa : Hid (RdLL wb.heap.size wb aoa P.length cpa P) := (Ra.later hbb).mono hbb.size
                  have HRb : Hid (RdLL wb.heap.size wb aob' P.length cpb P) := ownb.rd
                  clear RVa Ra ownb hbb hbka
                  go_wp2
                  obtain ⟨wo, rfl⟩ : ∃ wo : World, wo = wr := ⟨_, rfl⟩
                  go_loopw [95] (fun i wr => ∃ j : Nat, j ≤ P.length ∧ i = .int .i64 j ∧ Below wb.heap.size wb wr) (fun i _ => P.length - (intOf i).toNat)
                  case atStart => exact ⟨0, Nat.zero_le _, rfl, Below.refl _ _⟩
                  case round =>
                    obtain ⟨j, hj, rfl, hbw⟩ := hrel
                    by_cases hjl : j < P.length
                    · obtain ⟨b1, o1, rfl, hb1, hc1⟩ := HRa.out.at (by omega)
                      obtain ⟨b2, o2, rfl, hb2, hc2⟩ := HRb.out.at (by omega)
                      obtain ⟨r, hr⟩ : ∃ r, P[j]? = some r := ⟨P[j], List.getElem?_eq_getElem _⟩
                      obtain ⟨a3, p3, hd3, hR3⟩ := hc1 j r hr
                      obtain ⟨a4, p4, hd4, hR4⟩ := hc2 j r hr
                      have hcA : wr.cell? ⟨b1, o1 + j, none⟩ = some (.slice a3 r.length p3) := (hbw.cell (p := ⟨b1, o1 + j, none⟩) hb1).trans hd3
                      have hcB : wr.cell? ⟨b2, o2 + j, none⟩ = some (.slice a4 r.length p4) := (hbw.cell (p := ⟨b2, o2 + j, none⟩) hb2).trans hd4
                      have hs3 := run_str _ _ _ _ _ (hR3.later hbw).drew
                      have hs4 := run_str _ _ _ _ _ (hR4.later hbw).drew
                      have hbw2 := hbw.drew
                      have hm1 : (j : Int) < (P.length : Int) := by omega
                      clear hc1 hc2 hd3 hd4 hR3 hR4 hr
                      go_wp2_with fail
                      go_region
                      all_goals
                        go_wp2
                        go_roundw
                        case rel => exact ⟨j + 1, by omega, by go_num, hbw2⟩
                        case measure => simp [intOf]; omega
                    · have hbl := bel_call hbkb hbw
                      go_wp2
                      go_roundw
                      case rel => exact ⟨k + 1, by omega, by go_num, hbl⟩
                      case measure => simp [intOf]; omega
              · have hbk2 := bel_call hB6 hbk
                go_wp2_with fail
                refine (known_any _).mono ?_
                rintro e wz ⟨rfl, hbel⟩
                have hbz := bel_call hbk2 hbel
                go_wp2
                go_ret
                exact ⟨rfl, hbz⟩
end Go.Proofs.Ytnmpagnibhaocaa
