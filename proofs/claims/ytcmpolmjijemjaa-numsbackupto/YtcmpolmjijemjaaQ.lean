/- the law NumsBack: its walk -/
import Derived.Test.YtcmpolmjijemjaaP
import Derived.BigQuiet
import Derived.Deep.QuietTactic
import Derived.Deep.DeepCutAuto
import Derived.Deep.CutBlock
namespace Go.Proofs.Ytcmpolmjijemjaa
open Go.RowKit

theorem str_data (s : ByteArray) : str s.data.toList = s := by
  cases s; simp [str]
theorem textsOf_drop {ss : List ByteArray} {k : Nat} {x : ByteArray} (h : ss[k]? = some x) : textsOf (ss.drop k) = textOf x ++ textsOf (ss.drop (k + 1)) := by
  obtain ⟨h1, h2⟩ := List.getElem?_eq_some_iff.1 h
  rw [List.drop_eq_getElem_cons h1, h2]
  simp [textsOf]
theorem textsOf_drop_le (l : List ByteArray) (k : Nat) : (textsOf (l.drop k)).length ≤ (textsOf l).length := by
  have : textsOf l = textsOf (l.take k) ++ textsOf (l.drop k) := by rw [← textsOf_append, List.take_append_drop]
  rw [this]; simp
theorem TakeText_str (ao : Option Addr) (n cap : Nat) (l : List UInt8) (w : World) (h : Rd w.heap.size w ao n cap (Bs l)) (hb : n ≤ 140737488355328) {s : ByteArray} {r : List UInt8} {er : Int} (hS : takeTextS l = (s.data.toList, r, er)) :
    Calls Try.prog 12 #[.slice ao n cap] w fun e w' => ∃ ao' cap', e = .returned (.tuple #[.string s, .slice ao' r.length cap', .int .i64 er]) ∧ Rd w'.heap.size w' ao' r.length cap' (Bs r) ∧ Below w.heap.size w w' := by
  have := TakeText_eq ao n cap l w h hb hS
  rw [str_data] at this
  exact this
theorem encs_pos (l : List Int) (h : 0 < l.length) : 0 < (encs l).length := by
  cases l with
  | nil => simp at h
  | cons x r =>
    have := enc_pos x.toNat
    rw [show encs (x :: r) = enc x.toNat ++ encs r from by simp [encs], List.length_append]
    omega
theorem mem_snoc {ms : List Int} {x : Int} (h : ∀ y ∈ ms, 0 ≤ y ∧ y ≤ 4611686018427387903) (h0 : 0 ≤ x) (h1 : x ≤ 4611686018427387903) : ∀ y ∈ ms ++ [x], 0 ≤ y ∧ y ≤ 4611686018427387903 := by
  intro y hy
  rcases List.mem_append.1 hy with hy | hy
  · exact h y hy
  · simp at hy; subst hy; exact ⟨h0, h1⟩

set_option maxRecDepth 100000 in
set_option maxHeartbeats 4000000 in
theorem back_walk (ao0 : Option Addr) (n0 c0 : Nat) (l0 : List Int) (ao1 : Option Addr) (n1 c1 : Nat) (ss : List ByteArray) (ao2 : Option Addr) (n2 c2 : Nat) (bh : List UInt8) (cut : Int) (w : World)
    (R0 : Rd w.heap.size w ao0 n0 c0 (Is l0)) (e0 : l0.length = n0) (R1 : Rd w.heap.size w ao1 n1 c1 (Ss ss)) (e1 : ss.length = n1) (R2 : Rd w.heap.size w ao2 n2 c2 (Bs bh)) (e2 : bh.length = n2)
    (hb0 : n0 ≤ 1048576) (hb1 : n1 + bytesIn ss ≤ 1048576) (hb2 : n2 ≤ 1048576) :
    Calls Try.prog 5 #[.slice ao0 n0 c0, .slice ao1 n1 c1, .slice ao2 n2 c2, .int .i64 cut] w fun e w' => e = .returned (.bool true) ∧ Below w.heap.size w w' := by
  subst e0
  subst e1
  subst e2
  obtain ⟨B, hB⟩ : ∃ B, B = w.heap.size := ⟨_, rfl⟩
  have hBw : B ≤ w.heap.size := by omega
  rw [← hB] at R0 R1 R2 ⊢
  clear hB
  go_enter Try.func5, Try.ntmps5
  go_upto_block 0 with fail
  go_cut [9] (fun v wc => ∃ (ms : List Int) (ao' : Option Addr) (cp' : Nat), ms.length ≤ 12 ∧ Hid (∀ y ∈ ms, 0 ≤ y ∧ y ≤ 4611686018427387903) ∧ v = .slice ao' ms.length cp' ∧ wc.ownsRow B 3 1 v ms.length (Is ms) ∧ Below B w wc)
  case first =>
    go_wp2_with fail
    go_loopw [9, 10] (fun v i wr => ∃ (k : Nat) (ms : List Int) (ao' : Option Addr) (cp' : Nat), k ≤ l0.length ∧ k ≤ 12 ∧ i = .int .i64 k ∧ ms.length = k ∧ Hid (∀ y ∈ ms, 0 ≤ y ∧ y ≤ 4611686018427387903) ∧ v = .slice ao' ms.length cp' ∧
        wr.ownsRow B 3 1 v ms.length (Is ms) ∧ Below B w wr)
      (fun _ i _ => l0.length - (intOf i).toNat)
    case atStart => exact ⟨0, [], none, 0, Nat.zero_le _, Nat.zero_le _, rfl, rfl, (by intro y hy; simp at hy), rfl, World.ownsRow_nil _ _ _ _, Below.refl _ _⟩
    case round =>
      obtain ⟨k, ms, ao3, cp3, hk, hk12, rfl, hms, HM, rfl, hown, hbel⟩ := hrel
      have hsz := hbel.size
      by_cases hlt : k < l0.length ∧ k < 12
      · obtain ⟨hlt, hlt12⟩ := hlt
        obtain ⟨b, off, rfl, hbB, hcells⟩ := R0.atSome (by omega)
        obtain ⟨x, hx⟩ : ∃ x, l0[k]? = some x := ⟨l0[k], List.getElem?_eq_getElem _⟩
        have hc : wr.cell? ⟨b, off + k, none⟩ = some (.int .i64 x) := (hbel.cell (p := ⟨b, off + k, none⟩) hbB).trans (hcells k _ (by simp [Is, hx]))
        have HMS : Hid (ms.length = k) := hms
        have hmsb : ms.length ≤ 12 := by omega
        clear hcells hx hms
        go_wp2_with fail
        refine (May_any _ _).mono ?_
        rintro e wr ⟨y, rfl, hy0, hy1, rfl⟩
        go_wp2_with (at_builtin; refine appI rfl _ _ _ rfl _ _ _ _ rfl (hown.alloc _) _ 1 [_] rfl (src_one _ Try.underlying27 _ 3 rfl) (by omega) (by simp; omega) ?_)
        intro ao4 cp4 w4 hown4 _ hbel4
        have HF : Hid (w4.ownsRow B 3 1 (.slice ao4 (ms.length + 1) cp4) (ms ++ [y]).length (Is (ms ++ [y]))) := by
          show World.ownsRow _ _ _ _ _ _ _
          rw [Is_append, List.length_append]
          exact hown4
        have hbel5 := (hbel.alloc (by omega) _).trans hbel4
        clear hown4 hbel4
        go_wp2
        go_roundw
        case rel => exact ⟨k + 1, ms ++ [y], ao4, cp4, by omega, by omega, by go_num, by simp [HMS.out], mem_snoc HM.out hy0 hy1, by simp, HF.out, hbel5⟩
        case measure => simp [intOf]; omega
      · have hNb : ms.length ≤ 12 := by omega
        clear hms
        have hx : (l0.length : Int) ≤ k ∨ ((k : Int) < l0.length ∧ (12 : Int) ≤ k) := by omega
        rcases hx with hx | ⟨hx, hx2⟩
        all_goals
          go_wp2
          go_meet
          case rel => exact ⟨ms, ao3, cp3, hNb, HM, rfl, hown, hbel⟩
  case rest =>
    obtain ⟨ms, ao3, cp3, hNb, HM, rfl, hown, hbel⟩ := hcut
    have hsz := hbel.size
    have Rm := (ownsRow.rd hown)
    have R1' := (R1.later hbel).mono (show B ≤ wc.heap.size by omega)
    have R2' := (R2.later hbel).mono (show B ≤ wc.heap.size by omega)
    clear hown R1 R2 R0
    have hel := encs_le ms HM.out
    have htl := textsOf_le ss (by omega)
    have HP : Hid (putS [] ms = encs ms) := putS_ok (any_of_in HM.out)
    go_wp2_with fail
    refine (Put_eq none 0 0 [] _ _ _ ms _ (Rd.nil _ _) Rm (by omega) HP.out).mono ?_
    rintro e w1 ⟨ao4, cp4, rfl, Rp, hbel1⟩
    have hb1' := hbel.trans (hbel1.mono (by omega))
    have Rm1 := rd_call Rm hbel1
    have Rs1 := rd_call R1' hbel1
    have Rb1 := rd_call R2' hbel1
    clear Rm R1' R2' hbel1 hbel
    go_wp2_with fail
    refine (Text_eq _ _ _ _ _ _ _ ss _ Rp Rs1 (by omega) rfl).mono ?_
    rintro e w2 ⟨ao5, cp5, rfl, Rd2, hbel2⟩
    have hb2' := hb1'.trans (hbel2.mono (by have := hb1'.size; omega))
    have Rm2 := rd_call Rm1 hbel2
    have Rs2 := rd_call Rs1 hbel2
    have Rb2 := rd_call Rb1 hbel2
    have Rp2 := rd_call Rp hbel2
    clear Rm1 Rs1 Rb1 Rp hbel2 hb1'
    have hdl : (encs ms ++ textsOf ss).length ≤ 16777216 := by rw [List.length_append]; omega
    have HD : Hid (∀ r : List UInt8, takesS (encs ms ++ textsOf ss ++ r) (ms.length : Int) = (ms, textsOf ss ++ r, 0)) := by
      intro r
      show takesA [] _ _ = _
      rw [Int.toNat_natCast, List.append_assoc, takes_encs ms HM.out]
      rfl
    generalize hD : encs ms ++ textsOf ss = D at *
    have HTK : Hid (D.take D.length = D) := List.take_length
    go_wp2_with fail
    refine (Few_eq _ _ _ D _ _ Rd2 (by omega) HTK.out).mono ?_
    rintro e w3 ⟨ao6, cp6, rfl, hown3, hbel3⟩
    have hb3' := hb2'.trans (hbel3.mono (by have := hb2'.size; omega))
    have Rm3 := rd_call Rm2 hbel3
    have Rs3 := rd_call Rs2 hbel3
    have Rb3 := rd_call Rb2 hbel3
    have Rp3 := rd_call Rp2 hbel3
    have hsz3 := hbel3.size
    have hsz2 := hb2'.size
    go_wp2_with (at_builtin; refine appB rfl _ _ _ rfl _ _ _ _ rfl hown3 _ bh.length (Bs bh) rfl (Rb3.src Try.underlying22 (Bs_one bh)) (by omega) hsz3 ?_)
    intro ao7 cp7 w4 hown4 _ hbel4
    have Rq4 : Rd w4.heap.size w4 ao7 (D.length + bh.length) cp7 (Bs (D ++ bh)) := by
      rw [Bs_append]
      exact ownsRow.rd hown4
    have hbk4 := (Below.refl w2.heap.size w2).trans (hbel3.trans hbel4)
    have hb4' := hb2'.trans (hbk4.mono (by omega))
    have Rm4 := rd_call Rm2 hbk4
    have Rs4 := rd_call Rs2 hbk4
    have Rb4 := rd_call Rb2 hbk4
    have Rp4 := rd_call Rp2 hbk4
    clear Rm2 Rs2 Rb2 Rp2 Rm3 Rs3 Rb3 Rp3 hown3 hown4 hbel3 hbel4 hbk4 hb2' hb3' Rd2 hsz3 hsz2
    go_wp2_with fail
    refine (Takes_eq _ _ _ (D ++ bh) _ _ Rq4 (by omega) (HD.out bh)).mono ?_
    rintro e w5 ⟨ao8, cp8, ao9, cp9, rfl, Rx5, Rr5, hbel5⟩
    have hb5' := hb4'.trans (hbel5.mono (by have := hb4'.size; omega))
    have Rm5 := rd_call Rm4 hbel5
    have Rs5 := rd_call Rs4 hbel5
    have Rb5 := rd_call Rb4 hbel5
    have Rp5 := rd_call Rp4 hbel5
    clear Rm4 Rs4 Rb4 Rp4 Rq4 hbel5 hb4'
    go_wp2_with fail
    refine (known_any _).mono ?_
    rintro e w6 ⟨rfl, hbel6⟩
    have hb6' := hb5'.trans (hbel6.mono (by have := hb5'.size; omega))
    have Rm6 := rd_call Rm5 hbel6
    have Rs6 := rd_call Rs5 hbel6
    have Rb6 := rd_call Rb5 hbel6
    have Rp6 := rd_call Rp5 hbel6
    have Rx6 := rd_call Rx5 hbel6
    have Rr6 := rd_call Rr5 hbel6
    clear Rm5 Rs5 Rb5 Rp5 Rx5 Rr5 hbel6 hb5'
    go_upto_block 2 with fail
    go_cut [] (fun wc => Below w6.heap.size w6 wc)
    case first =>
      go_wp2_with fail
      go_loopw [77] (fun i wr => ∃ k : Nat, k ≤ ms.length ∧ i = .int .i64 k ∧ Below w6.heap.size w6 wr) (fun i _ => ms.length - (intOf i).toNat)
      case atStart => exact ⟨0, Nat.zero_le _, rfl, Below.refl _ _⟩
      case round =>
        obtain ⟨k, hk, rfl, hbw⟩ := hrel
        by_cases hlt : k < ms.length
        · obtain ⟨b1, o1, rfl, hB1, hcell1⟩ := Rm6.atSome (by omega)
          obtain ⟨b2, o2, rfl, hB2, hcell2⟩ := Rx6.atSome (by omega)
          obtain ⟨x, hx⟩ : ∃ x, ms[k]? = some x := ⟨ms[k], List.getElem?_eq_getElem _⟩
          have hc1 : wr.cell? ⟨b1, o1 + k, none⟩ = some (.int .i64 x) := (hbw.cell (p := ⟨b1, o1 + k, none⟩) hB1).trans (hcell1 k _ (by simp [Is, hx]))
          have hc2 : wr.cell? ⟨b2, o2 + k, none⟩ = some (.int .i64 x) := (hbw.cell (p := ⟨b2, o2 + k, none⟩) hB2).trans (hcell2 k _ (by simp [Is, hx]))
          have hik : (k : Int) < (ms.length : Int) := by omega
          clear hcell1 hcell2 hx
          go_wp2_with fail
          go_quiet (fail)
          go_wp2
          go_roundw
          case rel => exact ⟨k + 1, by omega, by go_num, below_drewN hbw _⟩
          case measure => simp [intOf]; omega
        · go_wp2
          go_meet
          case rel => exact hbw
    case rest =>
      have hbs6 := hcut.size
      have Rs7 := rd_call Rs6 hcut
      have Rr7 := rd_call Rr6 hcut
      have Rb7 := rd_call Rb6 hcut
      have Rp7 := rd_call Rp6 hcut
      have Rm7 := rd_call Rm6 hcut
      have hb7' := hb6'.trans (hcut.mono (by have := hb6'.size; omega))
      clear Rs6 Rr6 Rb6 Rp6 Rm6 Rx6 hcut hb6' hbs6
      obtain ⟨w7, rfl⟩ : ∃ w7 : World, w7 = wc := ⟨_, rfl⟩
      go_upto_block 4 with fail
      go_cut [14] (fun v wc => ∃ ao cp, v = .slice ao bh.length cp ∧ Rd wc.heap.size wc ao bh.length cp (Bs bh) ∧ Below w7.heap.size w7 wc)
      case first =>
        go_wp2_with fail
        go_loopw [14, 92] (fun v i wr => ∃ (k : Nat) (ao' : Option Addr) (cp' : Nat), k ≤ ss.length ∧ i = .int .i64 k ∧ v = .slice ao' (textsOf (ss.drop k) ++ bh).length cp' ∧
            Rd wr.heap.size wr ao' (textsOf (ss.drop k) ++ bh).length cp' (Bs (textsOf (ss.drop k) ++ bh)) ∧ Below w7.heap.size w7 wr) (fun _ i _ => ss.length - (intOf i).toNat)
        case atStart => exact ⟨0, ao9, cp9, Nat.zero_le _, rfl, by simp, Rr7, Below.refl _ _⟩
        case round =>
          obtain ⟨k, ao10, cp10, hk, rfl, rfl, Rk, hbk⟩ := hrel
          by_cases hlt : k < ss.length
          · obtain ⟨b1, o1, rfl, hB1, hcell1⟩ := Rs7.atSome (by omega)
            obtain ⟨x, hx⟩ : ∃ x, ss[k]? = some x := ⟨ss[k], List.getElem?_eq_getElem _⟩
            have hc1 : wr.cell? ⟨b1, o1 + k, none⟩ = some (.string x) := (hbk.cell (p := ⟨b1, o1 + k, none⟩) hB1).trans (hcell1 k _ (by simp [Ss, hx]))
            have HTT : Hid (takeTextS (textsOf (ss.drop k) ++ bh) = (x.data.toList, textsOf (ss.drop (k + 1)) ++ bh, 0)) := by
              show _ = _
              rw [textsOf_drop hx, List.append_assoc]
              exact takeText_textOf x (by have := bytesIn_le ss x (List.mem_of_getElem? hx); omega) _
            have hkl : (textsOf (ss.drop k) ++ bh).length ≤ 140737488355328 := by
              have := textsOf_drop_le ss k
              rw [List.length_append]; omega
            generalize hG : textsOf (ss.drop k) ++ bh = G at *
            clear hcell1 hx hG
            go_wp2_with fail
            refine (TakeText_str _ _ _ G _ Rk hkl HTT.out).mono ?_
            rintro e w8 ⟨ao11, cp11, rfl, Rk2, hbel8⟩
            have hbk2 := hbk.trans (hbel8.mono hbk.size)
            generalize hG2 : textsOf (ss.drop (k + 1)) ++ bh = G2 at *
            have HG2 : Hid (textsOf (ss.drop (k + 1)) ++ bh = G2) := hG2
            clear hG2 hbel8
            go_wp2
            go_roundw
            case rel => exact ⟨k + 1, ao11, cp11, by omega, by go_num, by rw [HG2.out], by rw [HG2.out]; exact Rk2, hbk2⟩
            case measure => simp [intOf]; omega
          · have HE : Hid (textsOf (ss.drop k) ++ bh = bh) := by
              show _ = _
              rw [List.drop_eq_nil_of_le (by omega)]; rfl
            have hbhl : (textsOf (ss.drop k) ++ bh).length = bh.length := by rw [HE.out]
            rw [HE.out] at Rk
            go_wp2
            go_meet
            case rel => exact ⟨ao10, cp10, by rw [HE.out], Rk, hbk⟩
      case rest =>
        obtain ⟨ao10, cp10, rfl, Rk, hbk⟩ := hcut
        have Rb8 := rd_call Rb7 hbk
        have Rp8 := rd_call Rp7 hbk
        have hb8' := hb7'.trans (hbk.mono (by have := hb7'.size; omega))
        have hst := str_toList
        clear Rs7 Rr7 Rb7 Rp7 Rm7 hbk hb7'
        by_cases hpos : 0 < ms.length
        · have hep := encs_pos ms hpos
          have g1 := pick_lo cut (encs ms).length (by omega)
          have g2 := pick_hi cut (encs ms).length (by omega)
          have HC : Hid (∀ k, k < (encs ms).length → takesS ((encs ms).take k) (ms.length : Int) = ([], [], 3)) := by
            intro k hk
            show takesA [] _ _ = _
            rw [Int.toNat_natCast]
            exact takes_cut ms HM.out [] k hk
          go_wp2_with fail
          refine (Pick_any _ _ _ (by omega) (by omega)).mono ?_
          rintro e w8 ⟨rfl, rfl⟩
          obtain ⟨kk, hkk⟩ := Int.eq_ofNat_of_zero_le g1
          rw [hkk] at g2 ⊢
          clear hkk g1
          have hkl : kk < (encs ms).length := by omega
          have hcp4 := Rp8.2.1
          have RT := Rp8.till kk (by omega)
          rw [← Bs_take] at RT
          generalize encs ms = E at *
          clear hD
          go_wp2_with fail
          refine (Takes_eq _ _ _ (E.take kk) _ _ RT (by omega) (HC.out kk hkl)).mono ?_
          rintro e w9 ⟨ao12, cp12, ao13, cp13, rfl, _, _, hbel9⟩
          have hb9' := hb8'.trans (hbel9.mono (by have := hb8'.size; omega))
          have hs1 := run_str _ _ _ _ _ (Rk.later hbel9)
          have hs2 := run_str _ _ _ _ _ (Rb8.later hbel9)
          go_wp2
          go_ret
          exact ⟨by simp, hb9'⟩
        · have hs1 := run_str _ _ _ _ _ Rk
          have hs2 := run_str _ _ _ _ _ Rb8
          go_wp2
          go_ret
          exact ⟨by simp, hb8'⟩
end Go.Proofs.Ytcmpolmjijemjaa
