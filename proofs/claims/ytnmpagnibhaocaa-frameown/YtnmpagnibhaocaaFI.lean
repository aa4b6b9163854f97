/- FrameCut: the walk -/
import Derived.Test.YtnmpagnibhaocaaFG
import Derived.Deep.DeepCutAuto
import Derived.Deep.CutBlock
namespace Go.Proofs.Ytnmpagnibhaocaa
open Go.RowKit

theorem frames_few (ls : List (List UInt8)) (h : ∀ r ∈ ls, r.length ≤ 200) : (framesF sum8 ls).length ≤ 217 * ls.length := by
  induction ls with
  | nil => simp [framesF]
  | cons r ls ih =>
    have h1 := ih (fun x hx => h x (List.mem_cons_of_mem _ hx))
    have h2 := h r List.mem_cons_self
    have h3 := frameF_le sum8 sum8_length r (by omega)
    rw [framesF_cons, List.length_append, List.length_cons]
    omega

set_option maxRecDepth 100000 in
set_option maxHeartbeats 2000000 in
theorem frameCut_walk (ao : Option Addr) (n cap : Nat) (ls : List (List UInt8)) (cut : Int) (w : World) (h : RdLL w.heap.size w ao n cap ls) :
    Calls Try.prog 5 #[.slice ao n cap, .int .i64 cut] w fun e w' => e = .returned (.bool true) ∧ Below w.heap.size w w' := by
  obtain ⟨R, hR⟩ : ∃ R, someS ls = R := ⟨_, rfl⟩
  have HS : Hid (someS ls = R) := hR
  have hR8 : R.length ≤ 8 := by rw [← hR]; exact someS_len ls
  have HR2 : Hid (∀ r ∈ R, r.length ≤ 200) := by show ∀ r ∈ R, _; rw [← hR]; exact someS_le ls
  have HR4 : Hid (∀ r ∈ R, r.length ≤ 4000) := fun r hr => Nat.le_trans (HR2.out r hr) (by omega)
  obtain ⟨K, hK⟩ : ∃ K, framesF sum8 R = K := ⟨_, rfl⟩
  have HK : Hid (framesF sum8 R = K) := hK
  have HK0 : Hid ([] ++ framesF sum8 R = K) := hK
  have hKl : K.length ≤ 1736 := by rw [← hK]; have := frames_few R HR2.out; omega
  have l1 := pick_lo cut (K.length + 1) (by omega)
  have l2 := pick_hi cut (K.length + 1) (by omega)
  obtain ⟨k, hk⟩ : ∃ k : Nat, pick cut (K.length + 1) = (k : Int) := ⟨(pick cut (K.length + 1)).toNat, by omega⟩
  have hkK : k ≤ K.length := by omega
  have HPk : Hid (pick cut (K.length + 1) = (k : Int)) := hk
  clear hR hK l1 l2 hk
  go_enter Try.func5, Try.ntmps5
  go_wp2_with fail
  refine (some_any _ _ _ ls w h HS.out).mono ?_
  rintro e w1 ⟨ao1, cp1, rfl, hown1, hb1⟩
  have hR1 := hown1.rd
  clear hown1
  go_wp2_with fail
  refine (Lay_n none 0 0 [] _ _ _ R w1 (Rd.nil _ _) hR1 HK0.out rfl (by omega)).mono ?_
  rintro e w2 ⟨ao2, cp2, rfl, hown2, hb2⟩
  have hB2 := bel_call hb1 hb2
  have HRR : Hid (RdLL w2.heap.size w2 ao1 R.length cp1 R) := (hR1.later hb2).mono hb2.size
  have HRK : Hid (Rd w2.heap.size w2 ao2 K.length cp2 (Bs K)) := ownsRow.rd hown2
  have hcpK := HRK.out.2.1
  clear hb1 hb2 hR1 hown2 h
  go_wp2_with fail
  refine (Pick_eq cut _ _ w2 (by omega) (by omega) HPk.out).mono ?_
  rintro e w2 ⟨rfl, rfl⟩
  go_upto_block 0 with fail
  go_cut [8, 9] (fun a b wc => ∃ m t : Nat, a = .int .i64 t ∧ b = .int .i64 m ∧ m ≤ R.length ∧ t ≤ k ∧ Hid (t = (framesF sum8 (R.take m)).length) ∧ Hid (R.length ≤ m ∨ ∃ r, R[m]? = some r ∧ k < (framesF sum8 (R.take m)).length + (frameF sum8 r).length) ∧ Below w2.heap.size w2 wc)
  case first =>
    go_wp2_with fail
    go_loopw [8, 9] (fun a b wr => ∃ m t : Nat, a = .int .i64 t ∧ b = .int .i64 m ∧ m ≤ R.length ∧ t ≤ k ∧ Hid (t = (framesF sum8 (R.take m)).length) ∧ Below w2.heap.size w2 wr)
      (fun _ i _ => R.length - (intOf i).toNat)
    case atStart => exact ⟨0, 0, rfl, rfl, Nat.zero_le _, Nat.zero_le _, rfl, Below.refl _ _⟩
    case round =>
      obtain ⟨m, t, rfl, rfl, hm, ht, HT, hbel⟩ := hrel
      by_cases hlt : m < R.length
      · obtain ⟨b, off, rfl, hbB, hcells⟩ := HRR.out.at (by omega)
        obtain ⟨r, hr⟩ : ∃ r, R[m]? = some r := ⟨R[m], List.getElem?_eq_getElem _⟩
        obtain ⟨aor, cpr, hcr, hRr⟩ := hcells m r hr
        have hc : wr.cell? ⟨b, off + m, none⟩ = some (.slice aor r.length cpr) := (hbel.cell (p := ⟨b, off + m, none⟩) hbB).trans hcr
        have HRr : Hid (Rd wr.heap.size wr aor r.length cpr (Bs r)) := (hRr.later hbel).mono hbel.size
        have HX : Hid (R[m]? = some r) := hr
        obtain ⟨F, hF⟩ : ∃ F, framesF sum8 [r] = F := ⟨_, rfl⟩
        have HF : Hid ([] ++ framesF sum8 [r] = F) := hF
        have HFL : Hid ((frameF sum8 r).length = F.length) := by show _ = _; rw [← hF, framesF_one]
        have hFl : F.length ≤ 217 := by
          have h2 := HR2.out r (List.mem_of_getElem? hr)
          have h3 := frameF_le sum8 sum8_length r (by omega)
          rw [← HFL.out]; omega
        clear hcells hcr hr hRr hF
        go_wp2_with fail
        refine (Lay_n none 0 0 [] _ _ _ [r] _ (Rd.nil _ _) (by exact RdLL.built wr aor cpr r _ rfl HRr.out) HF.out rfl (by omega)).mono ?_
        rintro e w3 ⟨ao3, cp3, rfl, _, hb3⟩
        have hbel3 : Below w2.heap.size w2 w3 := bel_new hbel hb3
        clear hb3
        by_cases hgt : k < t + F.length
        · have HE : Hid (∃ r, R[m]? = some r ∧ k < (framesF sum8 (R.take m)).length + (frameF sum8 r).length) := ⟨r, HX.out, by rw [← HT.out, HFL.out]; exact hgt⟩
          go_wp2
          go_meet
          case rel => exact ⟨m, t, rfl, rfl, hm, ht, HT, .inr HE.out, hbel3⟩
        · go_wp2
          go_roundw
          case rel =>
            refine ⟨m + 1, t + F.length, by go_num, by go_num, by omega, by omega, ?_, hbel3⟩
            show _ = _
            rw [framesF_snoc sum8 HX.out, List.length_append, HFL.out, ← HT.out]
          case measure => simp [intOf]; omega
      · go_wp2
        go_meet
        case rel => exact ⟨m, t, rfl, rfl, hm, ht, HT, .inl (by omega), hbel⟩
  case rest =>
    obtain ⟨m, t, rfl, rfl, hm, ht, HT, HE, hbel⟩ := hcut
    obtain ⟨w3, rfl⟩ : ∃ w3 : World, w3 = wc := ⟨_, rfl⟩
    have hB3 : Below w.heap.size w w3 := bel_call hB2 hbel
    have HRR3 : Hid (RdLL w3.heap.size w3 ao1 R.length cp1 R) := (HRR.out.later hbel).mono hbel.size
    have HRK3 : Hid (Rd w3.heap.size w3 ao2 K.length cp2 (Bs K)) := (HRK.out.later hbel).mono hbel.size
    have hTK := HRK3.out.till k hkK
    rw [← Bs_take] at hTK
    have HRD : Hid (readS sum8 (K.take k) = (R.take m, t)) := by
      show _ = _
      rw [← HK.out, readS_cut sum8 sum8_length R HR4.out k m (by rw [← HT.out]; exact ht) HE.out, ← HT.out]
    have HML : Hid ((R.take m).length = m) := by show _ = _; rw [List.length_take]; omega
    clear HRR HRK hB2 hbel
    go_wp2_with fail
    refine (Read_n _ _ _ (K.take k) w3 hTK (by omega) HRD.out HML.out).mono ?_
    rintro e w4 ⟨ao4, cp4, rfl, hown4, hb4⟩
    have hB4 := bel_call hB3 hb4
    have HRR4 : Hid (RdLL w4.heap.size w4 ao1 R.length cp1 R) := (HRR3.out.later hb4).mono hb4.size
    have HRK4 : Hid (Rd w4.heap.size w4 ao2 K.length cp2 (Bs K)) := (HRK3.out.later hb4).mono hb4.size
    have HM4 : Hid (RdLL w4.heap.size w4 ao4 m cp4 (R.take m)) := hown4.rd
    clear HRR3 HRK3 hB3 hb4 hown4 hTK
    go_wp2_with fail
    refine (known_any w4).mono ?_
    rintro e w5 ⟨rfl, hb5⟩
    have hB5 := bel_call hB4 hb5
    have HRR5 : Hid (RdLL w5.heap.size w5 ao1 R.length cp1 R) := (HRR4.out.later hb5).mono hb5.size
    have HRK5 : Hid (Rd w5.heap.size w5 ao2 K.length cp2 (Bs K)) := (HRK4.out.later hb5).mono hb5.size
    have HM5 : Hid (RdLL w5.heap.size w5 ao4 m cp4 (R.take m)) := (HM4.out.later hb5).mono hb5.size
    clear HRR4 HRK4 hB4 hb5 HM4
    go_wp2
    go_loopw [68] (fun i wr => ∃ j : Nat, j ≤ m ∧ i = .int .i64 j ∧ Below w5.heap.size w5 wr) (fun i _ => m - (intOf i).toNat)
    case atStart => exact ⟨0, Nat.zero_le _, rfl, Below.refl _ _⟩
    case round =>
      obtain ⟨j, hj, rfl, hbel⟩ := hrel
      by_cases hlt : j < m
      · obtain ⟨b1, o1, rfl, hb1, hc1⟩ := HRR5.out.at (by omega)
        obtain ⟨b2, o2, rfl, hb2, hc2⟩ := HM5.out.at (by omega)
        obtain ⟨r, hr⟩ : ∃ r, R[j]? = some r := ⟨R[j], List.getElem?_eq_getElem _⟩
        obtain ⟨a3, p3, hd3, hR3⟩ := hc1 j r hr
        obtain ⟨a4, p4, hd4, hR4⟩ := hc2 j r (by rw [List.getElem?_take, if_pos hlt]; exact hr)
        have hcA : wr.cell? ⟨b1, o1 + j, none⟩ = some (.slice a3 r.length p3) := (hbel.cell (p := ⟨b1, o1 + j, none⟩) hb1).trans hd3
        have hcB : wr.cell? ⟨b2, o2 + j, none⟩ = some (.slice a4 r.length p4) := (hbel.cell (p := ⟨b2, o2 + j, none⟩) hb2).trans hd4
        have hs3 := run_str _ _ _ _ _ (hR3.later hbel).drew
        have hs4 := run_str _ _ _ _ _ (hR4.later hbel).drew
        have hbel2 : Below w5.heap.size w5 wr.drew := hbel.drew
        have hm1 : (j : Int) < (m : Int) := by omega
        have hm2 : (j : Int) < (R.length : Int) := by omega
        clear hc1 hc2 hd3 hd4 hR3 hR4 hr
        go_wp2_with fail
        go_region
        all_goals
          go_wp2
          go_roundw
          case rel => exact ⟨j + 1, by omega, by go_num, hbel2⟩
          case measure => simp [intOf]; omega
      · have HRK6 : Hid (Rd wr.heap.size wr ao2 K.length cp2 (Bs K)) := (HRK5.out.later hbel).mono hbel.size
        have hB6 := bel_call hB5 hbel
        have HRA : Hid (readS sum8 K = (R, K.length)) := by
          show _ = _
          rw [← HK.out, readS_all sum8 sum8_length R HR4.out]
        go_wp2_with fail
        refine (Read_n _ _ _ K wr HRK6.out (by omega) HRA.out rfl).mono ?_
        rintro e w7 ⟨ao7, cp7, rfl, _, hb7⟩
        have hB7 := bel_call hB6 hb7
        go_wp2
        go_ret
        exact ⟨rfl, hB7⟩
end Go.Proofs.Ytnmpagnibhaocaa
