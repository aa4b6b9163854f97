/- SessionLast: the walk. -/
import Derived.Test.YtaffgddjmolfgaaSM
import Derived.Test.YtaffgddjmolfgaaSD
namespace Go.Proofs.Ytaffgddjmolfgaa
open Go.RowKit

/-- sessions and a map, side by side -/
structure SMp (w0 w : World) (gs b : Nat) (M : List Se) : Prop where
  tab : SesAt w gs M
  map : MapM w b M
  bel : Below w0.heap.size w0 w
  g1 : w0.heap.size ≤ gs
  b1 : w0.heap.size ≤ b
  ne : gs ≠ b
section
variable {w0 w w' : World} {gs b : Nat} {M : List Se}
theorem SMp.below (h : SMp w0 w gs b M) (hb : Below w.heap.size w w') : SMp w0 w' gs b M := ⟨h.tab.below hb, h.map.below hb, bel_call h.bel hb, h.g1, h.b1, h.ne⟩
end
theorem all_last {M : List Se} (hI : SInv M) {x : Se} (hx : x ∈ allS M) : ∃ k : Nat, k < 4 ∧ x.cl = (k : Int) ∧ lastS M (k : Int) = x := by
  obtain ⟨k, hk, rfl, hp⟩ := (mem_all hI).1 hx
  rcases hI.last (k : Int) with e | e
  · rw [e] at hp; simp [Se.z] at hp
  · exact ⟨k, hk, e.1, rfl⟩
theorem fld_sq (a b c : Int) (v : ByteArray) (W : World) : (Instr.field 26 (.agg #[.int .i64 a, .int .i64 b, .int .i64 c, .string v]) 1).run Try.prog W = .ok (.int .i64 b) W := by kernel_rfl
attribute [local go_sem ↓] fld_sq
set_option maxRecDepth 20000 in
set_option maxHeartbeats 40000000 in
theorem SessionLast_any (ao0 : Option Addr) (n0 c0 : Nat) (l0 : List RawN) (w : World) (h0 : RdG 4 RawN.Q w.heap.size w ao0 n0 c0 l0) :
    Calls Try.prog 5 #[.slice ao0 n0 c0] w fun e w' => e = .returned (.bool true) ∧ Below w.heap.size w w' := by
  have H0 : Hid (RdG 4 RawN.Q w.heap.size w ao0 n0 c0 l0) := h0
  obtain ⟨hl1, hm1⟩ := h0.lens
  subst hl1
  clear h0
  have HI : Hid (SMp w ((w.alloc zeroSO).alloc (.map #[] 0)) w.heap.size (w.heap.size + 1) zeroS) := by
    have h := MapM.made (w.alloc zeroSO)
    rw [size_al] at h
    exact ⟨SesAt.below (SesAt.zero (alloc_new w _)) (bel_al _ _), h, bel_al2 w _ _, Nat.le_refl _, by omega, by omega⟩
  unfold zeroSO at HI
  have hmm := @run_makeMap Try.prog
  go_enter Try.func5, Try.ntmps5
  go_wp2_with fail
  clear hmm
  go_loopw [16] (fun i wr => ∃ (j : Nat) (M : List Se), j ≤ l0.length ∧ i = .int .i64 j ∧ SMp w wr w.heap.size (w.heap.size + 1) M) (fun i _ => l0.length - (intOf i).toNat)
  case atStart => exact ⟨0, zeroS, Nat.zero_le _, rfl, HI.out⟩
  case round =>
    obtain ⟨j, M, hj, rfl, hS⟩ := hrel
    clear HI
    have HS : Hid (SMp w wr w.heap.size (w.heap.size + 1) M) := hS
    have hbel := hS.bel
    clear hS
    by_cases hlt : j < l0.length
    · obtain ⟨b, off, rfl, hb, hc⟩ := rawn_cells H0.out (by omega)
      obtain ⟨r, hr⟩ : ∃ r, l0[j] = r := ⟨_, rfl⟩
      obtain ⟨q0, q1, q2, q3⟩ := hc wr hbel j r (by rw [← hr]; exact List.getElem?_eq_getElem hlt)
      have hji : (j : Int) < (l0.length : Int) := by omega
      clear hc hr hbel
      go_upto_region 7 with (go_at_call 12; refine (sess_any _ _ _ _ _).mono ?_; rintro e w5 ⟨⟨xa, xb, xc, xd⟩, rfl, hb5⟩; unfold seV; simp only; have H5 : Hid (SMp w w5 w.heap.size (w.heap.size + 1) M) := HS.out.below (bel_call (bel_al wr _) hb5); clear hb5)
      have H6 : Hid (∃ w6 ob, w6 = w5.alloc (.cells #[.int .i64 xa, .int .i64 xb, .int .i64 xc, .string xd] 26) ∧ w5.heap.size = ob ∧ SMp w w6 w.heap.size (w.heap.size + 1) M ∧ SeAt w6 ob ⟨xa, xb, xc, xd⟩ ∧ w.heap.size + 1 < ob) := ⟨_, _, rfl, rfl, H5.out.below (bel_al w5 _), alloc_new w5 _, H5.out.map.lt⟩
      obtain ⟨w6, ob, e6, eb, I6, S6, hob⟩ := H6.out
      rw [← e6, eb]
      have HS6 : Hid (SMp w w6 w.heap.size (w.heap.size + 1) M) := I6
      have HB6 : Hid (SeAt w6 ob ⟨xa, xb, xc, xd⟩) := S6
      obtain ⟨o0, o1, o2, o3⟩ := S6.cells
      simp only at o0 o1 o2 o3
      have hmb := I6.map
      have HIM : Hid (SInv M) := I6.tab.1
      obtain ⟨bm, hbm⟩ : ∃ bm, mayS M ⟨xa, xb, xc, xd⟩ = bm := ⟨_, rfl⟩
      have HM : Hid (mayS M ⟨xa, xb, xc, xd⟩ = bm) := hbm
      clear H6 e6 eb H5 I6 S6 hbm q0 q1 q2 q3
      go_cut [8] (fun v wx => v = .bool bm ∧ wx = w6)
      case first =>
        cases hm : mayC xa with
        | true =>
          obtain ⟨k, hk, rfl⟩ := may_nat hm
          obtain ⟨y, hy⟩ : ∃ y, lastS M (k : Int) = y := ⟨_, rfl⟩
          have hrun := hmb.look hk hy
          unfold seV at hrun
          have hk4 : (k : Int) < 4 := by omega
          have HE : Hid (bm = decide (y.sq < xb)) := by show _ = _; rw [← HM.out]; unfold mayS; simp only [hm, hy, Bool.true_and]
          clear hy hmb
          go_wp2
          go_meet
          case rel => exact ⟨by rw [HE.out], rfl⟩
        | false =>
          have HE : Hid (bm = false) := by show _ = _; rw [← HM.out]; unfold mayS; simp only [hm, Bool.false_and]
          clear hmb
          by_cases h1 : 0 ≤ xa
          · have h2 : ¬ xa < 4 := by
              intro h2
              unfold mayC at hm
              rw [decide_eq_true h1, decide_eq_true h2] at hm
              cases hm
            go_wp2
            go_meet
            case rel => exact ⟨by rw [HE.out], rfl⟩
          · go_wp2
            go_meet
            case rel => exact ⟨by rw [HE.out], rfl⟩
      case rest =>
      obtain ⟨rfl, hwc⟩ := hcut
      obtain rfl : w6 = wc := hwc.symm
      obtain ⟨M', hM'⟩ : ∃ M', noteS M ⟨xa, xb, xc, xd⟩ = M' := ⟨_, rfl⟩
      have hT6 : SesAt w6 w.heap.size M := HS6.out.tab
      clear hmb
      go_wp2_with fail
      refine (Note_eq w.heap.size M xa xb xc xd _ hT6 M' bm hM' HM.out).mono ?_
      rintro e w7 ⟨rfl, hT, hO⟩
      have HM7 : Hid (MapM w7 (w.heap.size + 1) M ∧ SesAt w7 w.heap.size M' ∧ Below w.heap.size w w7) := ⟨HS6.out.map.heap (hO.block _ HS6.out.map.lt (by omega)), hT, HS6.out.bel.trans (hO.below (fun i e => by omega) HS6.out.bel.size)⟩
      obtain ⟨o0', o1', o2', o3'⟩ := (HB6.out.only hO (by omega)).cells
      simp only at o0' o1' o2' o3'
      have HMM : Hid (noteS M ⟨xa, xb, xc, xd⟩ = M') := hM'
      clear hT hO hT6 hM' o0 o1 o2 o3
      cases bm with
      | true =>
        have hm2 := HM.out
        simp only [mayS, Bool.and_eq_true, decide_eq_true_eq] at hm2
        obtain ⟨hcm, hltm⟩ := hm2
        obtain ⟨k, hk, rfl⟩ := may_nat hcm
        have HE : Hid (M' = M.set k ⟨(k : Int), xb, xc, xd⟩ ∧ hasS ⟨(k : Int), xb, xc, xd⟩ = true) := by
          have h0 : 0 ≤ (lastS M (k : Int)).sq := by
            rcases HIM.out.last (k : Int) with e | e
            · rw [e]; exact Int.le_refl _
            · omega
          refine ⟨?_, decide_eq_true (by simp only; omega)⟩
          rw [← HMM.out]; unfold noteS; rw [HM.out, if_pos rfl]; rfl
        clear hcm hltm
        go_wp2_with (at_mapUpdate; go_loud (refine put_mapM rfl _ _ _ rfl rfl HM7.out.1 HIM.out hk ⟨(k : Int), xb, xc, xd⟩ HE.out.2 rfl rfl ?_; intro w8 hM8 hO8; have HM8 : Hid (SMp w w8 w.heap.size (w.heap.size + 1) M') := ⟨HM7.out.2.1.heap (hO8.block _ HM7.out.2.1.lt (by omega)), by rw [HE.out.1]; exact hM8, HM7.out.2.2.trans (hO8.below (fun i e => by omega) HM7.out.2.2.size), Nat.le_refl _, by omega, by omega⟩; clear hM8 hO8))
        refine ⟨⟨j + 1, M', hlt, by go_num, HM8.out⟩, by simp [intOf]; omega⟩
      | false =>
        have HE : Hid (M' = M) := by show _ = _; rw [← HMM.out]; unfold noteS; rw [HM.out]; rfl
        go_wp2
        refine ⟨⟨j + 1, M', hlt, by go_num, ⟨HM7.out.2.1, by rw [HE.out]; exact HM7.out.1, HM7.out.2.2, Nat.le_refl _, by omega, by omega⟩⟩, by simp [intOf]; omega⟩
    · clear hbel
      go_wp2_with fail
      refine (All_any w.heap.size M wr HS.out.tab).mono ?_
      rintro e w2 ⟨ao, cap, rfl, hown, hb⟩
      have HS2 : Hid (SMp w w2 w.heap.size (w.heap.size + 1) M) := HS.out.below hb
      have HR2 : Hid (SeR w2 ao cap (allS M)) := hown.arK.mono fun _ _ _ => trivial
      clear hown hb HS
      go_wp2_with fail
      refine (knownS_any w2).mono ?_
      rintro e w3 ⟨rfl, hb⟩
      have HS3 : Hid (SMp w w3 w.heap.size (w.heap.size + 1) M) := HS2.out.below hb
      have HR3 : Hid (SeR w3 ao cap (allS M)) := HR2.out.below hb
      have hlen := fun ty => HS3.out.map.len ty
      have hfew : (allS M).length ≤ 4 := by have := List.length_filter_le hasS M; rw [HS3.out.tab.1.1] at this; exact this
      clear hb HS2 HR2
      go_wp2_with fail
      clear hlen
      go_loopw [62] (fun i wx => ∃ j : Nat, j ≤ (allS M).length ∧ i = .int .i64 j ∧ SMp w wx w.heap.size (w.heap.size + 1) M ∧ SeR wx ao cap (allS M)) (fun i _ => (allS M).length - (intOf i).toNat)
      case atStart => exact ⟨0, Nat.zero_le _, rfl, HS3.out, HR3.out⟩
      case round =>
        obtain ⟨p, hp, rfl, hS4, hR4⟩ := hrel
        have HS4 : Hid (SMp w wr w.heap.size (w.heap.size + 1) M) := hS4
        have HR4 : Hid (SeR wr ao cap (allS M)) := hR4
        clear hS4 hR4 HS3 HR3
        by_cases hlt2 : p < (allS M).length
        · obtain ⟨b, off, rfl, hb, _, hrd⟩ := HR4.out.at (by omega)
          obtain ⟨c0', c1', c2', c3'⟩ := hrd.se p hlt2
          obtain ⟨k, hk, hcl, hla⟩ := all_last HS4.out.tab.1 (List.getElem_mem hlt2)
          have hri := List.pairwise_iff_getElem.1 (all_rise HS4.out.tab.1)
          obtain ⟨x, hx⟩ : ∃ x, (allS M)[p] = x := ⟨_, rfl⟩
          rw [hx] at c0' c1' c2' c3' hcl hla
          obtain ⟨xa, xb, xc, xd⟩ := x
          simp only at hcl c0' c1' c2' c3'
          subst hcl
          have hpi : (p : Int) < ((allS M).length : Int) := by omega
          go_upto_region 19 with fail
          have H5 : Hid (∃ w5 ob, w5 = wr.alloc (.cells #[.int .i64 (k : Int), .int .i64 xb, .int .i64 xc, .string xd] 26) ∧ wr.heap.size = ob ∧ SMp w w5 w.heap.size (w.heap.size + 1) M ∧ SeAt w5 ob ⟨k, xb, xc, xd⟩ ∧ SeR w5 (some ⟨b, off, none⟩) cap (allS M) ∧ RdK seK w5 b off (allS M)) := ⟨_, _, rfl, rfl, HS4.out.below (bel_al wr _), alloc_new wr _, HR4.out.below (bel_al wr _), hrd.below (bel_al wr _) hb⟩
          obtain ⟨w5, ob, e5, eb, I5, S5, R5, D5⟩ := H5.out
          rw [← e5, eb]
          have HS5 : Hid (SMp w w5 w.heap.size (w.heap.size + 1) M ∧ SeR w5 (some ⟨b, off, none⟩) cap (allS M)) := ⟨I5, R5⟩
          obtain ⟨o0, o1, o2, o3⟩ := S5.cells
          simp only at o0 o1 o2 o3
          have hrun := (MapM.below I5.map ((Below.refl _ _).drew)).look hk hla
          unfold seV at hrun
          simp only at hrun
          clear H5 e5 eb I5 S5 R5 c0' c1' c2' c3' hrd hla HS4 HR4
          cases p with
          | zero =>
            clear hri D5
            go_region
            all_goals
              go_wp2
              exact ⟨⟨1, by omega, rfl, HS5.out.1.below (Below.refl _ _).drew, HS5.out.2.below (Below.refl _ _).drew⟩, by simp [intOf]; omega⟩
          | succ q =>
            have hq : q < (allS M).length := by omega
            obtain ⟨d0, _, _, _⟩ := D5.se q hq
            have hlt3 := hri q (q + 1) hq hlt2 (by omega)
            rw [hx] at hlt3
            obtain ⟨zc, hzc⟩ : ∃ zc, (allS M)[q].cl = zc := ⟨_, rfl⟩
            rw [hzc] at d0 hlt3
            simp only at hlt3
            have hqi : (q : Int) < ((allS M).length : Int) := by omega
            clear hri D5 hx hzc
            go_region
            all_goals
              go_wp2
              exact ⟨⟨q + 1 + 1, by omega, rfl, HS5.out.1.below (Below.refl _ _).drew, HS5.out.2.below (Below.refl _ _).drew⟩, by simp [intOf]; omega⟩
        · have hB : Below w.heap.size w wr := HS4.out.bel
          go_wp2
          go_ret
          exact ⟨rfl, hB⟩
end Go.Proofs.Ytaffgddjmolfgaa
