/- the law NumsTells: its walk -/
import Derived.Test.YtcmpolmjijemjaaX
namespace Go.Proofs.Ytcmpolmjijemjaa
open Go.RowKit

set_option maxRecDepth 100000 in
set_option maxHeartbeats 1000000 in
theorem numbers_any (ao0 : Option Addr) (n0 c0 : Nat) (l0 : List Int) (w : World) (R0 : Rd w.heap.size w ao0 n0 c0 (Is l0)) :
    Calls Try.prog 14 #[.slice ao0 n0 c0] w fun e w' => ∃ (ns : List Int) (ao' : Option Addr) (cap' : Nat), ns.length ≤ 12 ∧ e = .returned (.slice ao' ns.length cap') ∧ Rd w'.heap.size w' ao' ns.length cap' (Is ns) ∧ Below w.heap.size w w' := by
  have e0 : l0.length = n0 := by rw [← Is_length]; exact R0.1
  subst e0
  have hcm : l0.length ≤ maxLen := Nat.le_trans R0.2.1 R0.2.2.1
  unfold maxLen at hcm
  obtain ⟨B, hB⟩ : ∃ B, B = w.heap.size := ⟨_, rfl⟩
  have hBw : B ≤ w.heap.size := by omega
  rw [← hB] at R0 ⊢
  clear hB
  go_enter Try.func14, Try.ntmps14
  go_wp2
  go_loopw [3, 4] (fun v i wr => ∃ (k : Nat) (ms : List Int) (ao' : Option Addr) (cp' : Nat), k ≤ l0.length ∧ k ≤ 12 ∧ i = .int .i64 k ∧ ms.length = k ∧ v = .slice ao' ms.length cp' ∧
      wr.ownsRow B 3 1 v ms.length (Is ms) ∧ Below B w wr)
    (fun _ i _ => l0.length - (intOf i).toNat)
  case atStart => exact ⟨0, [], none, 0, Nat.zero_le _, Nat.zero_le _, rfl, rfl, rfl, World.ownsRow_nil _ _ _ _, Below.refl _ _⟩
  case round =>
    obtain ⟨k, ms, ao3, cp3, hk, hk12, rfl, hms, rfl, hown, hbel⟩ := hrel
    have hsz := hbel.size
    by_cases hlt : k < l0.length ∧ k < 12
    · obtain ⟨hlt, hlt12⟩ := hlt
      obtain ⟨b, off, rfl, hbB, hcells⟩ := R0.atSome (by omega)
      obtain ⟨x, hx⟩ : ∃ x, l0[k]? = some x := ⟨l0[k], List.getElem?_eq_getElem _⟩
      have hc : wr.cell? ⟨b, off + k, none⟩ = some (.int .i64 x) := (hbel.cell (p := ⟨b, off + k, none⟩) hbB).trans (hcells k _ (by simp [Is, hx]))
      have HMS : Hid (ms.length = k) := hms
      have hmsb : ms.length ≤ 12 := by omega
      clear hcells hx hms
      go_wp2_with fail
      refine (Num_any _ _).mono ?_
      rintro e wr ⟨y, rfl, rfl⟩
      go_wp2_with (at_builtin; refine appI rfl _ _ _ rfl _ _ _ _ rfl (hown.alloc _) _ 1 [_] rfl (src_one _ Try.underlying27 _ 3 rfl) (by omega) (by simp; omega) ?_)
      intro ao4 cp4 w4 hown4 _ hbel4
      have HF : Hid (w4.ownsRow B 3 1 (.slice ao4 (ms.length + 1) cp4) (ms ++ [y]).length (Is (ms ++ [y]))) := by
        show World.ownsRow _ _ _ _ _ _ _
        rw [Is_append, List.length_append]
        exact hown4
      have hbel5 := (hbel.alloc (by omega) _).trans hbel4
      clear hown4 hbel4
      go_wp2
      go_roundw
      case rel => exact ⟨k + 1, ms ++ [y], ao4, cp4, by omega, by omega, by go_num, by simp [HMS.out], by simp, HF.out, hbel5⟩
      case measure => simp [intOf]; omega
    · have hNb : ms.length ≤ 12 := by omega
      clear hms
      have hx : (l0.length : Int) ≤ k ∨ ((k : Int) < l0.length ∧ (12 : Int) ≤ k) := by omega
      rcases hx with hx | ⟨hx, hx2⟩
      all_goals
        go_wp2
        go_ret
        exact ⟨ms, ao3, cp3, hNb, rfl, ownsRow.rd hown, hbel⟩

theorem Try.info22 : (Try.prog.info? 22).map (fun i => (i.zero, i.size, i.bytes)) = some (some (.slice none 0 0), 1, 24) := by kernel_rfl
theorem run_idx (cs : Array Value) (k : Nat) (c : Value) (w : World) (hk : k < 3) (hc : cs[k]? = some c) : (Instr.index 39 (.agg cs) (.int .i64 k)).run Try.prog w = .ok c w := by
  obtain ⟨i0, hi, hz0, hz1, hz2⟩ := info_parts Try.info22
  unfold Instr.index
  simp [asIntOf, part, sizeOf, typeInfo, hi, hz1, hc, hk]
theorem run_idx0 (a b c : Value) (w : World) : (Instr.index 39 (.agg #[a, b, c]) (.int .i64 0)).run Try.prog w = .ok a w := run_idx #[a, b, c] 0 a w (by omega) rfl
theorem run_idx1 (a b c : Value) (w : World) : (Instr.index 39 (.agg #[a, b, c]) (.int .i64 1)).run Try.prog w = .ok b w := run_idx #[a, b, c] 1 b w (by omega) rfl
theorem run_idx2 (a b c : Value) (w : World) : (Instr.index 39 (.agg #[a, b, c]) (.int .i64 2)).run Try.prog w = .ok c w := run_idx #[a, b, c] 2 c w (by omega) rfl
attribute [local go_sem ↓] run_idx0 run_idx1 run_idx2

theorem refTakes_eq (ao : Option Addr) (n cap : Nat) (b : List UInt8) (count : Int) (w : World) (h : Rd w.heap.size w ao n cap (Bs b)) (hb : n ≤ 17592186044416) (hcount : count ≤ 1000) {l : List Int} {r : List UInt8} {er : Int} (hS : takesS b count = (l, r, er)) :
    Calls Try.prog 19 #[.slice ao n cap, .int .i64 count] w fun e w' => ∃ ao1 c1 ao2 c2, e = .returned (.tuple #[.slice ao1 l.length c1, .slice ao2 r.length c2, .int .i64 er]) ∧
      Rd w'.heap.size w' ao1 l.length c1 (Is l) ∧ Rd w'.heap.size w' ao2 r.length c2 (Bs r) ∧ Below w.heap.size w w' := by
  have := refTakes_any ao n cap b count w h hb hcount
  rw [hS] at this
  exact this
theorem refTakeText_eq (ao : Option Addr) (n cap : Nat) (l : List UInt8) (w : World) (h : Rd w.heap.size w ao n cap (Bs l)) (hb : n ≤ 140737488355328) {t r : List UInt8} {er : Int} (hS : takeTextS l = (t, r, er)) :
    Calls Try.prog 20 #[.slice ao n cap] w fun e w' => ∃ ao' cap', e = .returned (.tuple #[.string (str t), .slice ao' r.length cap', .int .i64 er]) ∧ Rd w'.heap.size w' ao' r.length cap' (Bs r) ∧ Below w.heap.size w w' := by
  have := refTakeText_any ao n cap l w h hb
  rw [hS] at this
  exact this

set_option maxRecDepth 100000 in
set_option maxHeartbeats 4000000 in
theorem tells_walk (ao0 : Option Addr) (n0 c0 : Nat) (b : List UInt8) (ao1 : Option Addr) (n1 c1 : Nat) (l : List Int) (ao2 : Option Addr) (n2 c2 : Nat) (ss : List ByteArray) (ao3 : Option Addr) (n3 c3 : Nat) (raw : List UInt8) (count cut : Int) (w : World)
    (R0 : Rd w.heap.size w ao0 n0 c0 (Bs b)) (e0 : b.length = n0) (R1 : Rd w.heap.size w ao1 n1 c1 (Is l)) (R2 : Rd w.heap.size w ao2 n2 c2 (Ss ss)) (e2 : ss.length = n2) (R3 : Rd w.heap.size w ao3 n3 c3 (Bs raw)) (e3 : raw.length = n3)
    (hb0 : n0 ≤ 1048576) (hb2 : n2 + bytesIn ss ≤ 1048576) (hb3 : n3 ≤ 1048576) :
    Calls Try.prog 4 #[.slice ao0 n0 c0, .slice ao1 n1 c1, .slice ao2 n2 c2, .slice ao3 n3 c3, .int .i64 count, .int .i64 cut] w fun e w' => e = .returned (.bool true) ∧ Below w.heap.size w w' := by
  subst e0
  subst e2
  subst e3
  go_enter Try.func4, Try.ntmps4
  go_wp2_with fail
  refine (numbers_any _ _ _ l _ R1).mono ?_
  rintro e w1 ⟨ns, ao4, cp4, hns, rfl, Rn1, hb1⟩
  have Rb1 := rd_call R0 hb1
  have Rs1 := rd_call R2 hb1
  have Rw1 := rd_call R3 hb1
  go_wp2_with fail
  refine (Put_any _ _ _ b _ _ _ ns _ Rb1 Rn1 (by omega)).mono ?_
  rintro e w2 ⟨ao5, cp5, rfl, hown5, hbel⟩
  have Rx2 := ownsRow.rd hown5
  have hb2' := bel_call hb1 hbel
  have Rb2 := rd_call Rb1 hbel
  have Rs2 := rd_call Rs1 hbel
  have Rw2 := rd_call Rw1 hbel
  have Rn2 := rd_call Rn1 hbel
  clear hbel hown5 hb1 Rb1 Rs1 Rw1 Rn1
  have hpl : (putS b ns).length ≤ 2097152 := by
    unfold putS
    split
    · simp
    · rename_i hany
      have := encs_le ns (in_of_any (by simpa using hany))
      rw [List.length_append]; omega
  have htl := textsOf_le ss (by omega)
  have htt : (b ++ textsOf ss).length ≤ 16777216 := by rw [List.length_append]; omega
  go_wp2_with fail
  refine (refPut_any _ _ _ b _ _ _ ns _ Rb2 Rn2 (by omega)).mono ?_
  rintro e w3 ⟨ao6, cp6, rfl, hown6, hbel⟩
  have Ry3 := ownsRow.rd hown6
  have hb3' := bel_call hb2' hbel
  have Rb3 := rd_call Rb2 hbel
  have Rs3 := rd_call Rs2 hbel
  have Rw3 := rd_call Rw2 hbel
  have Rx3 := rd_call Rx2 hbel
  clear hbel hown6 hb2' Rb2 Rs2 Rw2 Rn2 Rx2
  go_wp2_with fail
  refine (Text_eq _ _ _ b _ _ _ ss _ Rb3 Rs3 (by omega) rfl).mono ?_
  rintro e w4 ⟨ao7, cp7, rfl, Rt4, hbel⟩
  have hb4' := bel_call hb3' hbel
  have Rb4 := rd_call Rb3 hbel
  have Rs4 := rd_call Rs3 hbel
  have Rw4 := rd_call Rw3 hbel
  have Rx4 := rd_call Rx3 hbel
  have Ry4 := rd_call Ry3 hbel
  clear hbel hb3' Rb3 Rs3 Rw3 Rx3 Ry3
  have HREF := refText_any _ _ _ b _ _ _ ss w4.drew Rb4.drew Rs4.drew (by omega)
  have HREF2 : Hid _ := HREF
  clear HREF
  generalize b ++ textsOf ss = TT at *
  generalize putS b ns = PP at *
  have hst := str_toList
  have hsx := run_str _ _ _ _ _ Rx4.drew
  have hsy := run_str _ _ _ _ _ Ry4.drew
  have hst4 := run_str _ _ _ _ _ Rt4.drew
  go_upto_region 5 with fail
  go_cut [62] (fun v wc => v = .bool false ∧ Below w4.heap.size w4 wc)
  case first =>
    go_region_with (go_at_call 16; refine Calls.mono HREF2.out ?_; rintro e w5 ⟨ao8, cp8, rfl, Rz5, hbel5⟩; have hs5 := run_str _ _ _ _ _ Rz5; have hs6 := run_str _ _ _ _ _ (Rt4.drew.later hbel5))
    all_goals
      go_wp2
      go_meet
      case rel => exact ⟨rfl, below_undrew hbel5⟩
  case rest =>
    obtain ⟨rfl, hbc⟩ := hcut
    have hb5' := bel_call hb4' hbc
    have Rw5 := rd_call Rw4 hbc
    have Ry5 := rd_call Ry4 hbc
    have Rt5 := rd_call Rt4 hbc
    clear hb4' Rb4 Rs4 Rw4 Rx4 Ry4 Rt4 HREF2 hsx hsy hst4 hbc
    have g1 := pick_lo count 8 (by omega)
    have g2 := pick_hi count 8 (by omega)
    go_wp2_with fail
    refine (Pick_any _ _ _ (by omega) (by omega)).mono ?_
    rintro e w5 ⟨rfl, rfl⟩
    generalize pick count 8 = ct at *
    have g3 := pick_lo cut ((PP.length : Int) + 1) (by omega)
    have g4 := pick_hi cut ((PP.length : Int) + 1) (by omega)
    go_wp2_with fail
    refine (Pick_any _ _ _ (by omega) (by omega)).mono ?_
    rintro e w5 ⟨rfl, rfl⟩
    obtain ⟨kk, hkk⟩ := Int.eq_ofNat_of_zero_le g3
    rw [hkk] at g4 ⊢
    clear hkk g3
    have hkl : kk ≤ PP.length := by omega
    have hcp6 := Ry5.2.1
    have Ryk := Ry5.till kk hkl
    rw [← Bs_take] at Ryk
    have HKL : Hid (kk = (PP.take kk).length) := by show _ = _; simp; omega
    obtain ⟨ws, rfl⟩ : ∃ ws : World, ws = w5 := ⟨_, rfl⟩
    clear R0 R1 R2 R3
    go_wp2_with fail
    go_loopw [76] (fun i wr => ∃ k : Nat, k ≤ 3 ∧ i = .int .i64 k ∧ Below ws.heap.size ws wr) (fun i _ => 3 - (intOf i).toNat)
    case atStart => exact ⟨0, by omega, rfl, Below.refl _ _⟩
    case round =>
      obtain ⟨k, hk, rfl, hbk⟩ := hrel
      by_cases hlt : k < 3
      · go_upto_region 10 with fail
        go_cut [18] (fun v wc => ∃ (ao : Option Addr) (cp : Nat) (Z : List UInt8), v = .slice ao Z.length cp ∧ Rd wc.heap.size wc ao Z.length cp (Bs Z) ∧ Z.length ≤ 16777216 ∧ wc = wr)
        case first =>
          have q0 := rd_call Rw5 hbk
          have q1 := rd_call Ryk hbk
          have q2 := rd_call Rt5 hbk
          rcases (show k = 0 ∨ k = 1 ∨ k = 2 from by omega) with rfl | rfl | rfl
          · go_wp2
            go_meet
            case rel => exact ⟨ao3, c3, raw, rfl, q0, by omega, rfl⟩
          · go_wp2
            go_meet
            case rel => exact ⟨ao6, cp6, PP.take kk, by rw [← HKL.out], by rw [← HKL.out]; exact q1, by rw [← HKL.out]; omega, rfl⟩
          · go_wp2
            go_meet
            case rel => exact ⟨ao7, cp7, TT, rfl, q2, htt, rfl⟩
        case rest =>
          obtain ⟨ao8, cp8, Z, rfl, RZ, hZ, rfl⟩ := hcut
          obtain ⟨⟨p, r1, er1⟩, hS1⟩ : ∃ t, takeS Z = t := ⟨_, rfl⟩
          obtain ⟨⟨L, r2, er2⟩, hS2⟩ : ∃ t, takesS Z (ct - 1) = t := ⟨_, rfl⟩
          obtain ⟨⟨tx, r3, er3⟩, hS3⟩ : ∃ t, takeTextS Z = t := ⟨_, rfl⟩
          have HS1 : Hid _ := hS1
          have HS2 : Hid _ := hS2
          have HS3 : Hid _ := hS3
          clear hS1 hS2 hS3
          go_wp2_with fail
          refine (Take_eq _ _ _ Z _ RZ (by omega) HS1.out).mono ?_
          rintro e wa ⟨aoa, cpa, rfl, Ra, hbel⟩
          have hba := bel_call hbk hbel
          have RZa := rd_call RZ hbel
          clear hbel RZ
          go_wp2_with fail
          refine (refTake_eq _ _ _ Z _ RZa (by omega) HS1.out).mono ?_
          rintro e wb ⟨aob, cpb, rfl, Rb0, hbel⟩
          have Rb := ownsRow.rd Rb0
          have hbb := bel_call hba hbel
          have RZb := rd_call RZa hbel
          have Ra' := rd_call Ra hbel
          clear hbel RZa Ra Rb0 hba
          go_wp2_with fail
          refine (Takes_eq _ _ _ Z _ _ RZb (by omega) HS2.out).mono ?_
          rintro e wc2 ⟨aoc, cpc, aoc', cpc', rfl, Rc, Rc', hbel⟩
          have hbc := bel_call hbb hbel
          have RZc := rd_call RZb hbel
          have Rac := rd_call Ra' hbel
          have Rbc := rd_call Rb hbel
          clear hbel RZb Ra' Rb hbb
          go_wp2_with fail
          refine (refTakes_eq _ _ _ Z _ _ RZc (by omega) (by omega) HS2.out).mono ?_
          rintro e wd ⟨aod, cpd, aod', cpd', rfl, Rdd, Rd', hbel⟩
          have hbd := bel_call hbc hbel
          have RZd := rd_call RZc hbel
          have Rad := rd_call Rac hbel
          have Rbd := rd_call Rbc hbel
          have Rcd := rd_call Rc hbel
          have Rcd' := rd_call Rc' hbel
          clear hbel RZc Rac Rbc Rc Rc' hbc
          go_wp2_with fail
          refine (TakeText_eq _ _ _ Z _ RZd (by omega) HS3.out).mono ?_
          rintro e we ⟨aoe, cpe, rfl, Re, hbel⟩
          have hbe := bel_call hbd hbel
          have RZe := rd_call RZd hbel
          have Rae := rd_call Rad hbel
          have Rbe := rd_call Rbd hbel
          have Rce := rd_call Rcd hbel
          have Rce' := rd_call Rcd' hbel
          have Rde := rd_call Rdd hbel
          have Rde' := rd_call Rd' hbel
          clear hbel RZd Rad Rbd Rcd Rcd' Rdd Rd' hbd
          go_wp2_with fail
          refine (refTakeText_eq _ _ _ Z _ RZe (by omega) HS3.out).mono ?_
          rintro e wf ⟨aof, cpf, rfl, Rf, hbel⟩
          have hbf := bel_call hbe hbel
          have s1 := run_str _ _ _ _ _ (Rae.later hbel)
          have s2 := run_str _ _ _ _ _ (Rbe.later hbel)
          have s3 := run_str _ _ _ _ _ (Rce'.later hbel)
          have s4 := run_str _ _ _ _ _ (Rde'.later hbel)
          have s5 := run_str _ _ _ _ _ (Re.later hbel)
          have s6 := run_str _ _ _ _ _ Rf
          have Rc2 := rd_call Rce hbel
          have Rd2 := rd_call Rde hbel
          clear hbel RZe Rae Rbe Rce Rce' Rde Rde' Re Rf hbe
          go_wp2_with fail
          obtain ⟨wo, rfl⟩ : ∃ wo : World, wo = wc := ⟨_, rfl⟩
          go_loopw [37, 170] (fun _ i wr => ∃ j : Nat, j ≤ L.length ∧ i = .int .i64 j ∧ Below wf.heap.size wf wr) (fun _ i _ => L.length - (intOf i).toNat)
          case atStart => exact ⟨0, Nat.zero_le _, rfl, Below.refl _ _⟩
          case round =>
            obtain ⟨j, hj, rfl, hbw⟩ := hrel
            have hLm : L.length ≤ 9223372036854775807 := by have h1 := Rc2.2.1; have h2 := Rc2.2.2.1; unfold maxLen at h2; omega
            by_cases hjl : j < L.length
            · obtain ⟨b1, o1, rfl, hB1, hcell1⟩ := Rc2.atSome (by omega)
              obtain ⟨b2, o2, rfl, hB2, hcell2⟩ := Rd2.atSome (by omega)
              obtain ⟨x, hx⟩ : ∃ x, L[j]? = some x := ⟨L[j], List.getElem?_eq_getElem _⟩
              have hc1 : wr.cell? ⟨b1, o1 + j, none⟩ = some (.int .i64 x) := (hbw.cell (p := ⟨b1, o1 + j, none⟩) hB1).trans (hcell1 j _ (by simp [Is, hx]))
              have hc2 : wr.cell? ⟨b2, o2 + j, none⟩ = some (.int .i64 x) := (hbw.cell (p := ⟨b2, o2 + j, none⟩) hB2).trans (hcell2 j _ (by simp [Is, hx]))
              have hik : (j : Int) < (L.length : Int) := by omega
              clear hcell1 hcell2 hx
              go_wp2_with fail
              go_quiet (fail)
              go_wp2
              go_roundw
              case rel => exact ⟨j + 1, by omega, by go_num, below_drewN hbw _⟩
              case measure => simp [intOf]; omega
            · have hbl := bel_call hbf hbw
              go_wp2
              go_roundw
              case rel => exact ⟨k + 1, by omega, by go_num, hbl⟩
              case measure => simp [intOf]; omega
      · have hbk2 := bel_call hb5' hbk
        go_wp2_with fail
        refine (known_any _).mono ?_
        rintro e wz ⟨rfl, hbel⟩
        have hbz := bel_call hbk2 hbel
        go_wp2
        go_ret
        exact ⟨rfl, hbz⟩
end Go.Proofs.Ytcmpolmjijemjaa
