/- DiskTells: the walk -/
import Derived.Test.YtlbjkeijakefcaaDU
import Derived.Deep.DeepCutAuto
import Derived.Deep.CutBlock
namespace Go.Proofs.Ytlbjkeijakefcaa
open Go.RowKit

set_option maxRecDepth 100000 in
set_option maxHeartbeats 4000000 in
theorem diskTells_walk (ao : Option Addr) (n cap : Nat) (l : List Raw4) (w : World) (h : RdG 3 Raw4.Q w.heap.size w ao n cap l) :
    Calls Try.prog 4 #[.slice ao n cap] w fun e w' => e = .returned (.bool true) ∧ Below w.heap.size w w' := by
  have hn : l.length = n := h.1
  subst hn
  have hlm : l.length ≤ maxLen := Nat.le_trans h.2.1 h.2.2.1
  unfold maxLen at hlm
  have HH : Hid (RdG 3 Raw4.Q w.heap.size w ao l.length cap l) := h
  clear h
  go_enter Try.func4, Try.ntmps4
  go_wp2_with fail
  refine (New_any w).mono ?_
  rintro e w1 ⟨rfl, hw1⟩
  have HW1 : Hid (w1 = w.alloc (.cells #[.slice none 0 0, .int .i64 0] 45)) := hw1
  clear hw1
  go_wp2_with fail
  obtain ⟨w2, hw2⟩ : ∃ w2, w2 = w1.alloc (.cells #[.slice none 0 0, .int .i64 0] 33) := ⟨_, rfl⟩
  rw [← hw2]
  have hT2 := Two.made w w1 w2 HW1.out hw2
  have hB2 : Below w.heap.size w w2 := by rw [hw2, HW1.out]; exact bel_two w _ _
  clear hw2 HW1
  refine (known_any w2).mono ?_
  rintro e w3 ⟨rfl, hb3⟩
  have hT3 := hT2.below hb3
  have hB3 := bel_call hB2 hb3
  clear hT2 hB2 hb3
  go_wp2
  go_loopw [20] (fun i wr => ∃ (k : Nat) (L : List UInt8) (s : Nat), k ≤ l.length ∧ i = .int .i64 k ∧ Two (fun i => w.heap.size ≤ i) wr w.heap.size w1.heap.size L s L s ∧ Below w.heap.size w wr) (fun i _ => l.length - (intOf i).toNat)
  case atStart => exact ⟨0, [], 0, Nat.zero_le _, rfl, hT3, hB3⟩
  case round =>
    clear hT3 hB3
    obtain ⟨k, L, s, hk, rfl, hT, hB⟩ := hrel
    by_cases hlt : k < l.length
    · obtain ⟨b, off, rfl, hbB, hcells⟩ := HH.out.atSome (by omega)
      obtain ⟨x, hx⟩ : ∃ x, l[k]? = some x := ⟨l[k], List.getElem?_eq_getElem _⟩
      obtain ⟨cs, hcl, ⟨aoP, nP, cpP, rfl, hP⟩, hcs⟩ := hcells k x hx
      have hc0 : wr.cell? ⟨b, off + k * 3, none⟩ = some (.int .i64 x.what) := (hB.cell (p := ⟨b, off + k * 3, none⟩) hbB).trans (hcs 0 _ rfl)
      have hc1 : wr.cell? ⟨b, off + k * 3 + 1, none⟩ = some (.int .i64 x.n) := (hB.cell (p := ⟨b, off + k * 3 + 1, none⟩) hbB).trans (hcs 1 _ rfl)
      have hc2 : wr.cell? ⟨b, off + k * 3 + 2, none⟩ = some (.slice aoP nP cpP) := (hB.cell (p := ⟨b, off + k * 3 + 2, none⟩) hbB).trans (hcs 2 _ rfl)
      have HP : Hid (RdLL w.heap.size w aoP nP cpP x.parts) := hP
      clear hcells hx hcs hP hcl
      go_wp2_with fail
      obtain ⟨w4, hw4⟩ : ∃ w4, w4 = wr.alloc (.cells #[.int .i64 x.what, .int .i64 x.n, .slice aoP nP cpP] 36) := ⟨_, rfl⟩
      rw [← hw4]
      have hb4 : Below wr.heap.size wr w4 := by rw [hw4]; exact (Below.refl _ _).alloc (Nat.le_refl _) _
      have hq4 : w4.heap[wr.heap.size]? = some (.cells #[.int .i64 x.what, .int .i64 x.n, .slice aoP nP cpP] 36 (0, 0)) := by rw [hw4]; exact heap_alloc_new wr _
      have hs4 : wr.heap.size < w4.heap.size := by rw [hw4]; simp
      have hB4 := bel_call hB hb4
      clear hw4 hc0 hc1 hc2
      obtain ⟨R, hR⟩ : ∃ R, someS x.parts = R := ⟨_, rfl⟩
      have HS : Hid (someS x.parts = R) := hR
      have hRC : (cat R).length ≤ 360 := by rw [← hR]; exact someS_cat x.parts
      clear hR
      refine (some_any _ _ _ x.parts w4 ((HP.out.later hB4).mono hB4.size) HS.out).mono ?_
      rintro e w5 ⟨ao5, cp5, rfl, hown5, hb5⟩
      have hB5 := bel_call hB4 hb5
      have hb45 : Below wr.heap.size wr w5 := hb4.trans (hb5.mono (by omega))
      have hT5 := hT.shrink hb45
      have hq5 := (hb5.block _ hs4).trans hq4
      have hx0 : w5.cell? ⟨wr.heap.size, 0, none⟩ = some (.int .i64 x.what) := by rw [cell_of_row w5 _ 0 _ _ (0, 0) hq5]; rfl
      have hx1 : w5.cell? ⟨wr.heap.size, 1, none⟩ = some (.int .i64 x.n) := by rw [cell_of_row w5 _ 1 _ _ (0, 0) hq5]; rfl
      have HPR : Hid (RdLLP (fun i => w4.heap.size ≤ i ∧ i < w5.heap.size) w5 ao5 R.length cp5 R) := hown5.rdP fun i h1 h2 => ⟨h1, h2⟩
      have hs5 := hb5.size
      have hsr := hB.size
      have HB5 : Hid (Below w.heap.size w w5) := hB5
      obtain ⟨gx, hgx⟩ : ∃ gx, gx = wr.heap.size := ⟨_, rfl⟩
      rw [← hgx] at hx0 hx1 hT5 hs4 hsr ⊢
      clear hT hB hb4 hB4 hb45 hb5 hown5 hq4 hq5 hB5 hgx
      obtain ⟨p, hp⟩ : ∃ p, pick x.what 8 = p := ⟨_, rfl⟩
      have HPK : Hid (pick x.what 8 = p) := hp
      have hp0 : 0 ≤ p := by rw [← hp]; exact pick_lo _ _ (by omega)
      have hp8 : p < 8 := by rw [← hp]; exact pick_hi _ _ (by omega)
      clear hp
      go_wp2_with fail
      refine (Pick_eq _ _ _ (by omega) (by omega) HPK.out).mono ?_
      rintro e wq ⟨rfl, hwq⟩
      subst wq
      go_upto_block 2 with fail
      go_cut [] (fun wx => ∃ (L : List UInt8) (s : Nat), Two (fun i => w.heap.size ≤ i) wx w.heap.size w1.heap.size L s L s ∧ Below w.heap.size w wx)
      case first =>
        by_cases h0 : p = 0
        · subst h0
          go_wp2_with fail
          refine (Sync_tw hT5).mono ?_
          rintro e w6 ⟨rfl, hT6, hO6⟩
          have hB6 := HB5.out.trans (hO6.below (fun i hi => hi.1) HB5.out.size)
          clear hT5 hO6
          go_wp2_with fail
          refine (refSync_tw hT6).mono ?_
          rintro e w7 ⟨rfl, hT7, hO7⟩
          have hB7 := hB6.trans (hO7.below (fun i hi => hi.1) hB6.size)
          clear hT6 hO7 hB6
          go_wp2
          go_meet
          case rel => exact ⟨L, L.length, hT7.mono fun i hi => hi.1, hB7⟩
        · by_cases h1 : p = 1
          · subst h1
            have hn0 := pick_lo x.n 90 (by omega)
            have hn9 := pick_hi x.n 90 (by omega)
            obtain ⟨y, hy⟩ : ∃ y, pick x.n 90 = y := ⟨_, rfl⟩
            have HY : Hid (pick x.n 90 = y) := hy
            rw [hy] at hn0 hn9
            clear hy
            go_wp2_with fail
            refine (Pick_eq _ _ _ (by omega) (by omega) HY.out).mono ?_
            rintro e wq ⟨rfl, hwq⟩
            subst wq
            obtain ⟨q, hq⟩ : ∃ q, kept (y - 2) (L.length - s) = q := ⟨_, rfl⟩
            go_wp2_with fail
            refine (Crash_tw hT5 (y - 2) hq).mono ?_
            rintro e w6 ⟨rfl, hT6, hO6⟩
            have hB6 := HB5.out.trans (hO6.below (fun i hi => hi.1) HB5.out.size)
            clear hT5 hO6
            go_wp2_with fail
            refine (refCrash_tw hT6 (y - 2) hq).mono ?_
            rintro e w7 ⟨rfl, hT7, hO7⟩
            have hB7 := hB6.trans (hO7.below (fun i hi => hi.1) hB6.size)
            clear hT6 hO7 hB6 hq
            go_wp2
            go_meet
            case rel => exact ⟨_, _, hT7.mono fun i hi => hi.1, hB7⟩
          · by_cases h2 : p = 2
            · subst h2
              obtain ⟨y, hy⟩ : ∃ y, pick x.n 100 = y := ⟨_, rfl⟩
              have hn0 := pick_lo x.n 100 (by omega)
              have hn9 := pick_hi x.n 100 (by omega)
              have HY : Hid (pick x.n 100 = y) := hy
              rw [hy] at hn0 hn9
              obtain ⟨m, rfl⟩ : ∃ m : Nat, y = (m : Int) := ⟨y.toNat, by omega⟩
              obtain ⟨Z, hZ⟩ : ∃ Z, List.replicate m (0 : UInt8) = Z := ⟨_, rfl⟩
              have HZL : Hid (Z.length = m) := by show _ = _; rw [← hZ, List.length_replicate]
              have mk1 := mkZ m (by omega) Z hZ
              clear hy hZ
              go_wp2_with fail
              refine (Pick_eq _ _ _ (by omega) (by omega) HY.out).mono ?_
              rintro e wq ⟨rfl, hwq⟩
              subst wq
              have hgx5 : gx < w5.heap.size := by omega
              have hx6 : (w5.alloc (.cells (Bs Z).toArray 5)).cell? ⟨gx, 1, none⟩ = some (.int .i64 x.n) := (((Below.refl _ w5).alloc (Nat.le_refl _) _).cell (p := ⟨gx, 1, none⟩) hgx5).trans hx1
              go_wp2_with fail
              obtain ⟨w6, hw6⟩ : ∃ w6, w6 = w5.alloc (.cells (Bs Z).toArray 5) := ⟨_, rfl⟩
              rw [← hw6] at hx6 ⊢
              have hZ6 : RdP (fun i => w5.heap.size ≤ i) w6 (some ⟨w5.heap.size, 0, none⟩) m m (Bs Z) := by
                rw [hw6]
                have := Rd.long w5 Z m HZL.out (by omega)
                rw [HZL.out] at this
                exact ⟨this, fun a e _ => by cases e; exact Nat.le_refl _⟩
              have hb6 : Below w5.heap.size w5 w6 := by rw [hw6]; exact (Below.refl _ _).alloc (Nat.le_refl _) _
              have HB6 : Hid (Below w5.heap.size w5 w6) := hb6
              clear hw6 mk1 hb6
              refine (Pick_any _ _ _ (by omega) (by omega)).mono ?_
              rintro e wq ⟨rfl, hwq⟩
              subst wq
              go_upto_if 63 with fail
              go_cut [9] (fun v wx => ∃ (ao : Option Addr) (n cp : Nat) (Y : List UInt8), v = .slice ao n cp ∧ RdP (fun i => w5.heap.size ≤ i) wx ao n cp (Bs Y) ∧ Below w5.heap.size w5 wx)
              case first =>
                go_wp2_with fail
                · obtain ⟨z, hz⟩ : ∃ z, pick (wrap64 (x.n.tdiv 9)) 100 = z := ⟨_, rfl⟩
                  have hz0 := pick_lo (wrap64 (x.n.tdiv 9)) 100 (by omega)
                  have hz9 := pick_hi (wrap64 (x.n.tdiv 9)) 100 (by omega)
                  have HY2 : Hid (pick (wrap64 (x.n.tdiv 9)) 100 = z) := hz
                  rw [hz] at hz0 hz9
                  obtain ⟨m2, rfl⟩ : ∃ m2 : Nat, z = (m2 : Int) := ⟨z.toNat, by omega⟩
                  obtain ⟨Z2, hZ2⟩ : ∃ Z2, List.replicate (65486 + m2) (0 : UInt8) = Z2 := ⟨_, rfl⟩
                  have HZL2 : Hid (Z2.length = 65486 + m2) := by show _ = _; rw [← hZ2, List.length_replicate]
                  have mk2 : ∀ W : World, (Instr.makeSlice 26 (.int .i64 (65486 + (m2 : Int))) (.int .i64 (65486 + (m2 : Int)))).run Try.prog W = .ok (.slice (some ⟨W.heap.size, 0, none⟩) (65486 + m2) (65486 + m2)) (W.alloc (.cells (Bs Z2).toArray 5)) := by
                    intro W
                    have := mkZ (65486 + m2) (by omega) Z2 hZ2 W
                    rw [show ((65486 + m2 : Nat) : Int) = 65486 + (m2 : Int) by omega] at this
                    exact this
                  clear hz hZ2
                  refine (Pick_eq _ _ _ (by omega) (by omega) HY2.out).mono ?_
                  rintro e wq ⟨rfl, hwq⟩
                  subst wq
                  go_wp2
                  go_meet
                  case rel =>
                    refine ⟨_, _, _, Z2, rfl, ?_, HB6.out.alloc HB6.out.size _⟩
                    have := Rd.long w6 Z2 (65486 + m2) HZL2.out (by omega)
                    rw [HZL2.out] at this
                    exact ⟨this, fun a e _ => by cases e; exact HB6.out.size⟩
                · go_meet
                  case rel => exact ⟨_, _, _, Z, rfl, hZ6, HB6.out⟩
              case rest =>
                obtain ⟨ao7, n7, cp7, Y, rfl, hY, hb7⟩ := hcut
                obtain ⟨w7, rfl⟩ : ∃ w7 : World, w7 = wc := ⟨_, rfl⟩
                have hT7 := hT5.shrink hb7
                have hB7 := bel_call HB5.out hb7
                have hY7 : RdP (fun i => w5.heap.size ≤ i ∧ i < w7.heap.size) w7 ao7 n7 cp7 (Bs Y) := hY.mono fun i h1 h2 => ⟨h2, h1⟩
                clear hY hb7 HB6 hT5 hx6 hZ6
                by_cases hfit : Y.length ≤ 65536
                · have HF : Hid (decide (Y.length ≤ 65536) = true) := decide_eq_true hfit
                  go_wp2_with fail
                  refine (Swap_tw hT7 hY7.1 HF.out rfl).mono ?_
                  rintro e w8 ⟨rfl, hT8, hO8⟩
                  have hY8 := hY7.only hO8 (fun i hi hn => hn.2 hi)
                  have hB8 := hB7.trans (hO8.below (fun i hi => hi.1.1) hB7.size)
                  clear hT7 hY7 hB7 hO8
                  go_wp2_with fail
                  refine (refSwap_tw hT8 hY8.1 HF.out rfl).mono ?_
                  rintro e w9 ⟨rfl, hT9, hO9⟩
                  have hB9 := hB8.trans (hO9.below (fun i hi => hi.1.1) hB8.size)
                  clear hT8 hY8 hB8 hO9
                  go_wp2
                  go_meet
                  case rel => exact ⟨_, _, hT9.mono fun i hi => hi.1.1, hB9⟩
                · have HF : Hid (decide (Y.length ≤ 65536) = false) := decide_eq_false hfit
                  go_wp2_with fail
                  refine (Swap_tw hT7 hY7.1 HF.out rfl).mono ?_
                  rintro e w8 ⟨rfl, hT8, hO8⟩
                  have hY8 := hY7.only hO8 (fun i hi hn => hn.2 hi)
                  have hB8 := hB7.trans (hO8.below (fun i hi => hi.1.1) hB7.size)
                  clear hT7 hY7 hB7 hO8
                  go_wp2_with fail
                  refine (refSwap_tw hT8 hY8.1 HF.out rfl).mono ?_
                  rintro e w9 ⟨rfl, hT9, hO9⟩
                  have hB9 := hB8.trans (hO9.below (fun i hi => hi.1.1) hB8.size)
                  clear hT8 hY8 hB8 hO9
                  go_wp2
                  go_meet
                  case rel => exact ⟨_, _, hT9.mono fun i hi => hi.1.1, hB9⟩
            · have hgd : ∀ i, (w4.heap.size ≤ i ∧ i < w5.heap.size) → ¬ (w.heap.size ≤ i ∧ ¬ (gx ≤ i ∧ i < w5.heap.size)) := by intro i h1 h2; omega
              have HGD : Hid (∀ i, (w4.heap.size ≤ i ∧ i < w5.heap.size) → ¬ (w.heap.size ≤ i ∧ ¬ (gx ≤ i ∧ i < w5.heap.size))) := hgd
              clear hgd
              by_cases hfit : fitsB L R = true
              · have HF : Hid (fitsB L R = true) := hfit
                clear hfit
                go_wp2_with fail
                refine (Append_tw hT5 HPR.out HGD.out HF.out rfl).mono ?_
                rintro e w8 ⟨rfl, hT8, hO8⟩
                have hP8 := HPR.out.only hO8 HGD.out
                have hB8 := HB5.out.trans (hO8.below (fun i hi => hi.1) HB5.out.size)
                clear hT5 hO8
                go_wp2_with fail
                refine (refAppend_tw hT8 hP8 HGD.out (by omega) HF.out rfl).mono ?_
                rintro e w9 ⟨rfl, hT9, hO9⟩
                have hB9 := hB8.trans (hO9.below (fun i hi => hi.1) hB8.size)
                clear hT8 hP8 hB8 hO9
                go_wp2
                go_meet
                case rel => exact ⟨_, _, hT9.mono fun i hi => hi.1, hB9⟩
              · have HF : Hid (fitsB L R = false) := Bool.eq_false_iff.2 hfit
                clear hfit
                go_wp2_with fail
                refine (Append_tw hT5 HPR.out HGD.out HF.out rfl).mono ?_
                rintro e w8 ⟨rfl, hT8, hO8⟩
                have hP8 := HPR.out.only hO8 HGD.out
                have hB8 := HB5.out.trans (hO8.below (fun i hi => hi.1) HB5.out.size)
                clear hT5 hO8
                go_wp2_with fail
                refine (refAppend_tw hT8 hP8 HGD.out (by omega) HF.out rfl).mono ?_
                rintro e w9 ⟨rfl, hT9, hO9⟩
                have hB9 := hB8.trans (hO9.below (fun i hi => hi.1) hB8.size)
                clear hT8 hP8 hB8 hO9
                go_wp2
                go_meet
                case rel => exact ⟨_, _, hT9.mono fun i hi => hi.1, hB9⟩
      case rest =>
        clear hT5 hx0 hx1 HPR HB5 hRC HS hs4 hs5 hsr
        obtain ⟨L2, s2, hT6, hB6⟩ := hcut
        obtain ⟨w6, rfl⟩ : ∃ w6 : World, w6 = wc := ⟨_, rfl⟩
        have HTd : Hid (Two (fun i => w.heap.size ≤ i) w6.drew w.heap.size w1.heap.size L2 s2 L2 s2) := hT6.below (Below.refl _ _).drew
        obtain ⟨aoR, cpR, c0, c1, cR⟩ : ∃ aoR cpR, w6.cell? ⟨w1.heap.size, 0, none⟩ = some (.slice aoR L2.length cpR) ∧ w6.cell? ⟨w1.heap.size, 1, none⟩ = some (.int .i64 s2) ∧ Hid (Rd w6.heap.size w6 aoR L2.length cpR (Bs L2)) := by
          obtain ⟨_, _, _, _, h2, _⟩ := hT6
          obtain ⟨ao, cp, a, b, _, _, r⟩ := h2.cells
          exact ⟨ao, cp, a, b, r⟩
        have hg1 : w1.heap.size < w6.heap.size := World.block_lt_of_cell? w6 ⟨w1.heap.size, 0, none⟩ c0
        have hsR := run_str _ _ _ _ _ cR.out.drew
        have HC0 : Hid (w6.cell? ⟨w1.heap.size, 0, none⟩ = some (.slice aoR L2.length cpR)) := c0
        have HC1 : Hid (w6.cell? ⟨w1.heap.size, 1, none⟩ = some (.int .i64 s2)) := c1
        go_upto_region 25 with fail
        go_cut [97] (fun v wx => v = .bool false ∧ Below w6.heap.size w6 wx)
        case rest =>
          obtain ⟨rfl, hb7⟩ := hcut
          clear c0 c1 cR hsR HC0 HC1 hg1 HTd
          go_wp2
          go_roundw
          case rel => exact ⟨k + 1, L2, s2, by omega, by go_num, hT6.below hb7, bel_call hB6 hb7⟩
          case measure => simp [intOf]; omega
        case first =>
        have tokA : True := trivial
        go_region_with (first
          | (have tA := tokA; go_at_call 13; refine (Size_tw HTd.out).mono ?_; rintro e wq ⟨rfl, hwq⟩; subst wq; clear tokA tA; have tokB : True := trivial)
          | (have tB := tokB; go_at_call 21; refine (Synced_tw HTd.out).mono ?_; rintro e wq ⟨rfl, hwq⟩; subst wq; clear tokB tB; have tokC : True := trivial)
          | (have tC := tokC; go_at_call 10; refine (Bytes_tw HTd.out).mono ?_; rintro e w7 ⟨ao7, cp7, rfl, hown7, hb7⟩; have hb7' := below_undrew hb7; have hs7 := run_str _ _ _ _ _ (ownsRow.rd hown7); have hsR7 := run_str _ _ _ _ _ (rd_call cR.out hb7'); have c07 := (hb7'.cell (p := ⟨w1.heap.size, 0, none⟩) hg1).trans HC0.out; have c17 := (hb7'.cell (p := ⟨w1.heap.size, 1, none⟩) hg1).trans HC1.out; clear tokC tC))
        all_goals
          go_wp2
          go_meet
          case rel => exact ⟨by simp, hb7'⟩
    · go_wp2
      go_ret
      exact ⟨rfl, hB⟩
end Go.Proofs.Ytlbjkeijakefcaa
