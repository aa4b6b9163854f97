/- TableValue: the walk. -/
import Derived.Test.YtinobhaemmddjaaTJ
namespace Go.Proofs.Ytinobhaemmddjaa
open Go.RowKit

/-- the pairs of raw numbers -/
def pairsS (xs : List Int) : List Pr := xs.map fun x => (keyS x, valS (wrap64 (x.tdiv 16)))
/-- what operations make of the pairs -/
def opsS (l : List Pr) (os : List RawO) : List Pr := os.foldl (fun l x => (doS l (oKind x.kind) (keyS x.key) (oVal x.kind x.value) (oOld x.kind x.old)).1) l
theorem pairsS_length (xs : List Int) : (pairsS xs).length = xs.length := by simp [pairsS]
theorem pairsS_next (xs : List Int) (j : Nat) (h : j < xs.length) : pairsS (xs.take (j + 1)) = pairsS (xs.take j) ++ [(keyS xs[j], valS (wrap64 (xs[j].tdiv 16)))] := by
  unfold pairsS
  rw [List.take_succ_eq_append_getElem h, List.map_append]
  rfl
theorem opsS_next (l : List Pr) (os : List RawO) (j : Nat) (h : j < os.length) : opsS l (os.take (j + 1)) = (doS (opsS l (os.take j)) (oKind os[j].kind) (keyS os[j].key) (oVal os[j].kind os[j].value) (oOld os[j].kind os[j].old)).1 := by
  unfold opsS
  rw [List.take_succ_eq_append_getElem h, List.foldl_append]
  rfl
set_option maxRecDepth 20000 in
set_option maxHeartbeats 4000000 in
theorem TableValue_any (ao0 : Option Addr) (n0 c0 : Nat) (l0 : List Int) (ao1 : Option Addr) (n1 c1 : Nat) (l1 : List RawO) (ao2 : Option Addr) (n2 c2 : Nat) (l2 : List RawO) (w : World)
    (h0 : Rd w.heap.size w ao0 n0 c0 (Is l0)) (hn0 : n0 ≤ 1048576) (h1 : RdG 8 RawO.Q w.heap.size w ao1 n1 c1 l1) (h2 : RdG 8 RawO.Q w.heap.size w ao2 n2 c2 l2) :
    Calls Try.prog 6 #[.slice ao0 n0 c0, .slice ao1 n1 c1, .slice ao2 n2 c2] w fun e w' => e = .returned (.bool true) ∧ Below w.heap.size w w' := by
  have hl0 : l0.length = n0 := by have := h0.1; simpa [Is] using this
  subst hl0
  have H0 : Hid (Rd w.heap.size w ao0 l0.length c0 (Is l0)) := h0
  have H1 : Hid (RdG 8 RawO.Q w.heap.size w ao1 n1 c1 l1) := h1
  have H2 : Hid (RdG 8 RawO.Q w.heap.size w ao2 n2 c2 l2) := h2
  clear h0 h1 h2
  go_enter Try.func6, Try.ntmps6
  go_wp2_with fail
  go_loopw [7, 25] (fun v i wr => ∃ (j : Nat) (ao : Option Addr) (cap : Nat), j ≤ l0.length ∧ i = .int .i64 j ∧ v = .slice ao j cap ∧ OwnPr w.heap.size wr ao cap (pairsS (l0.take j)) ∧ Below w.heap.size w wr) (fun _ i _ => l0.length - (intOf i).toNat)
  case atStart => exact ⟨0, none, 0, Nat.zero_le _, rfl, rfl, OwnPr.nil _ _, Below.refl _ _⟩
  case round =>
    obtain ⟨j, ao, cap, hj, rfl, rfl, hown, hbel⟩ := hrel
    by_cases hlt : j < l0.length
    · obtain ⟨b, off, rfl, hb, hc⟩ := H0.out.atSome (by omega)
      have hx : (Is l0)[j]? = some (.int .i64 l0[j]) := by simp [Is, hlt]
      have hc0 : wr.cell? ⟨b, off + j, none⟩ = some (.int .i64 l0[j]) := (hbel.cell (p := ⟨b, off + j, none⟩) hb).trans (hc j _ hx)
      obtain ⟨x, hxj⟩ : ∃ x, l0[j] = x := ⟨_, rfl⟩
      rw [hxj] at hc0
      have hm1 : (j : Int) < (l0.length : Int) := by omega
      go_wp2_with first | (go_at_call 14; refine (Key_any _ _).mono ?_; rintro e w' ⟨rfl, rfl⟩) | (go_at_call 15; refine (Value_any _ _).mono ?_; rintro e w' ⟨rfl, rfl⟩) | (at_builtin; refine appP1 rfl _ _ rfl w.heap.size ao cap j _ rfl (by simp [pairsS]; omega) hown _ _ rfl (by simp [pairsS]; omega) hbel.size ?_; intro ao' cap' w1 hown1 hg1 hb1)
      refine ⟨⟨j + 1, ao', cap', hlt, by go_num, rfl, ?_, hbel.trans hb1⟩, by simp [intOf]; omega⟩
      rw [pairsS_next l0 j hlt, hxj]
      exact hown1
    · obtain rfl : j = l0.length := by omega
      rw [List.take_length] at hown
      have hR := hown.rd
      have HBel : Hid (Below w.heap.size w wr) := hbel
      clear hown hlt hj H0
      go_wp2_with fail
      obtain ⟨L, hL⟩ : ∃ L, putsS [] (pairsS l0) = L := ⟨_, rfl⟩
      refine (Of_any _ _ _ _ _ (pairsS_length l0) hR).mono ?_
      rintro e w1 ⟨z, rfl, hz, hr, hb⟩
      rw [hL] at hz hr ⊢
      obtain ⟨C, hC, hi, h17, h1, HT⟩ := rows_of hz hr
      rw [hC]
      have hB1 := bel_call HBel.out hb
      have hn1 := new_zero w1
      unfold zeroT at hn1
      clear hC hz hr hL hR hb
      go_wp2_with first | (refine wpList_store_row rfl 26 _ _ rfl w1.heap.size C rfl rfl 26 _ hn1 hi h17.out h1 ?_; obtain ⟨w2, hw2⟩ : ∃ w2, w2 = (w1.alloc zeroT).setRow w1.heap.size C := ⟨_, rfl⟩; obtain ⟨hc2, hb2, hs2⟩ := store_new hw2; have hn2 := new_zero w2; unfold zeroT at hw2 hn2; rw [← hw2]; clear hw2 hn1) | (refine wpList_load_row rfl 26 _ rfl w1.heap.size rfl 26 C (0, 0) _ hc2 Try.underlying26 rfl hi ?_) | (refine wpList_store_row rfl 26 _ _ rfl w2.heap.size C rfl rfl 26 _ hn2 hi h17.out h1 ?_; obtain ⟨w3, hw3⟩ : ∃ w3, w3 = (w2.alloc zeroT).setRow w2.heap.size C := ⟨_, rfl⟩; obtain ⟨hc3, hb3, hs3⟩ := store_new hw3; unfold zeroT at hw3; rw [← hw3]; clear hw3 hn2)
      have HT2 := HT _ _ hc2
      have HB3 : Hid (Below w.heap.size w w3) := (hB1.trans (hb2.mono hB1.size)).trans (hb3.mono (Nat.le_trans hB1.size hb2.size))
      have hc23 : w3.heap[w1.heap.size]? = some (.cells C 26 (0, 0)) := (hb3.block _ hs2).trans hc2
      have hg1 : Hid (w.heap.size ≤ w1.heap.size) := hB1.size
      have hg2 : Hid (w1.heap.size < w2.heap.size) := hs2
      obtain ⟨gt, hgt⟩ : ∃ gt, w1.heap.size = gt := ⟨_, rfl⟩
      obtain ⟨gu, hgu⟩ : ∃ gu, w2.heap.size = gu := ⟨_, rfl⟩
      have HTL : Hid (∀ (w : World) (g : Nat), w.heap[g]? = some (.cells C 26 (0, 0)) → TabAt w g L) := HT
      rw [hgt] at hc23 hg1 hg2 ⊢
      rw [hgu] at hc3 hg2 hs3 ⊢
      clear hB1 hb2 hb3 HBel hs2 hc2 HT2 hgt hgu HT
      refine (Pairs_any gt L w3 (HTL.out _ _ hc23)).mono ?_
      rintro e w4 ⟨ao4, cap4, rfl, hown, hb⟩
      have hR := hown.rd
      have hct4 := (hb.block gt (Array.getElem?_eq_some_iff.1 hc23).1).trans hc23
      have hcu4 := (hb.block gu hs3).trans hc3
      have HB4 : Hid (Below w.heap.size w w4) := bel_call HB3.out hb
      clear hown hb HB3 hc23 hc3 hs3
      go_wp2_with fail
      obtain ⟨V, hV⟩ : ∃ V, putsS [] L = V := ⟨_, rfl⟩
      refine (Of_any _ _ _ _ _ rfl hR).mono ?_
      rintro e w5 ⟨z, rfl, hz, hr, hb⟩
      rw [hV] at hz hr ⊢
      obtain ⟨CV, hC, hiv, h17v, h1v, HTV⟩ := rows_of hz hr
      rw [hC]
      have hn5 := new_zero w5
      unfold zeroT at hn5
      have HB5 : Hid (Below w.heap.size w w5) := bel_call HB4.out hb
      have hct5 := (hb.block gt (Array.getElem?_eq_some_iff.1 hct4).1).trans hct4
      have hcu5 := (hb.block gu (Array.getElem?_eq_some_iff.1 hcu4).1).trans hcu4
      clear hC hz hr hR hb HB4 hct4 hcu4 hV
      go_wp2_with (refine wpList_store_row rfl 26 _ _ rfl w5.heap.size CV rfl rfl 26 _ hn5 hiv h17v.out h1v ?_; obtain ⟨w6, hw6⟩ : ∃ w6, w6 = (w5.alloc zeroT).setRow w5.heap.size CV := ⟨_, rfl⟩; obtain ⟨hc6, hb6, hs6⟩ := store_new hw6; unfold zeroT at hw6; rw [← hw6]; clear hw6 hn5)
      have hct6 := (hb6.block gt (Array.getElem?_eq_some_iff.1 hct5).1).trans hct5
      have hcu6 := (hb6.block gu (Array.getElem?_eq_some_iff.1 hcu5).1).trans hcu5
      have HB6 : Hid (Below w.heap.size w w6) := bel_call HB5.out hb6
      have hg5 : Hid (gu < w5.heap.size) := (Array.getElem?_eq_some_iff.1 hcu5).1
      obtain ⟨gv, hgv⟩ : ∃ gv, w5.heap.size = gv := ⟨_, rfl⟩
      rw [hgv] at hc6 hg5 hs6 ⊢
      have hTV := HTV _ _ hc6
      clear hct5 hcu5 hb6 HB5 hgv hc6 HTV hiv h17v h1v
      refine (Pairs_any gt L w6 (HTL.out _ _ hct6)).mono ?_
      rintro e w7 ⟨aow, capw, rfl, hown, hb⟩
      have hct7 := (hb.block gt (Array.getElem?_eq_some_iff.1 hct6).1).trans hct6
      have hcu7 := (hb.block gu (Array.getElem?_eq_some_iff.1 hcu6).1).trans hcu6
      have hTV7 := hTV.below hb
      have HB7 : Hid (Below w.heap.size w w7) := bel_call HB6.out hb
      have HW7 : Hid (PrA (fun i => w6.heap.size ≤ i ∧ i < w7.heap.size) w7 aow capw L) := hown.prA
      have HCT : Hid (w7.heap[gt]? = some (.cells C 26 (0, 0))) := hct7
      have HTU : Hid (TabAt w7 gu L) := HTL.out _ _ hcu7
      have HTV : Hid (TabAt w7 gv V) := hTV7
      have hs6h : Hid (gv < w6.heap.size) := hs6
      obtain ⟨hl1, hm1⟩ := H1.out.len
      subst hl1
      clear hct6 hcu6 hTV hct7 hcu7 hTV7 HB6 hb hown hs6
      go_wp2_with fail
      go_loopw [47] (fun i wr => ∃ (j : Nat), j ≤ l1.length ∧ i = .int .i64 j ∧ TabAt wr gu (opsS L (l1.take j)) ∧ Only (fun k => k = gu) w7 wr) (fun i _ => l1.length - (intOf i).toNat)
      case atStart => exact ⟨0, Nat.zero_le _, rfl, HTU.out, Only.refl _ _⟩
      case round =>
        obtain ⟨j, hj, rfl, hT, hO⟩ := hrel
        have hgw : Hid (w.heap.size ≤ gu) := by have := hg1.out; have := hg2.out; show _ ≤ _; omega
        have hBr : Below w.heap.size w wr := HB7.out.trans (hO.below (fun i e => by have := hgw.out; omega) HB7.out.size)
        by_cases hlt : j < l1.length
        · obtain ⟨b, off, rfl, hb, hc⟩ := raw_cells H1.out (by omega)
          obtain ⟨x, hx⟩ : ∃ x, l1[j] = x := ⟨_, rfl⟩
          obtain ⟨q0, q1, q2, q3, q4, q5, q6, q7⟩ := hc wr hBr j x (by rw [← hx]; exact List.getElem?_eq_getElem hlt)
          have hm2 : (j : Int) < (l1.length : Int) := by omega
          have HO : Hid (Only (fun k => k = gu) w7 wr) := hO
          have HTr : Hid (TabAt wr gu (opsS L (l1.take j))) := hT
          have HNX : Hid (opsS L (l1.take (j + 1)) = _) := opsS_next L l1 j hlt
          rw [hx] at HNX
          have HBR : Hid (Below w.heap.size w wr) := hBr
          clear hc hT hO hx hBr HTV HCT HW7
          go_wp2_with first | (go_at_call 22; refine (Op_any _ _ _ _ _).mono ?_; rintro e w8 ⟨rfl, hb8⟩; have HO8 : Hid (Only (fun k => k = gu) w7 w8) := (HO.out.trans (Only.of_alloc _ wr _)).trans (Only.of_below _ hb8); have HT8 : Hid (TabAt w8 gu _) := (HTr.out.below (bel_al wr _)).below hb8; clear hb8) | (go_at_call 9; refine (Do_any gu _ _ _ _ _ w8 HT8.out).mono ?_; rintro e w9 ⟨rfl, hT9, hO9⟩)
          refine ⟨⟨j + 1, hlt, by go_num, by rw [HNX.out]; exact hT9, HO8.out.trans hO9⟩, by simp [intOf]; omega⟩
        · obtain rfl : j = l1.length := by omega
          rw [List.take_length] at hT
          have HCT8 : Hid (wr.heap[gt]? = some (.cells C 26 (0, 0))) := (hO.block gt (Array.getElem?_eq_some_iff.1 HCT.out).1 (by have := hg2.out; omega)).trans HCT.out
          have HTV8 : Hid (TabAt wr gv V) := HTV.out.heap (hO.block gv HTV.out.lt (by have := hg5.out; omega))
          have HW8 : Hid (PrA (fun i => w6.heap.size ≤ i ∧ i < w7.heap.size) wr aow capw L) := HW7.out.only hO (fun i hi e => by have := hi.1; have := hs6h.out; have := hg5.out; omega)
          have HTU8 : Hid (TabAt wr gu (opsS L l1)) := hT
          have HBR : Hid (Below w.heap.size w wr) := hBr
          have hs78 : Hid (w7.heap.size ≤ wr.heap.size) := hO.size
          obtain ⟨w8, hw8⟩ : ∃ w8 : World, w8 = wr := ⟨_, rfl⟩
          rw [← hw8] at HCT8 HTV8 HW8 HTU8 HBR hs78 ⊢
          clear hT hO hBr HCT HTV HW7 HTU HB7 hw8
          go_wp2_with fail
          refine (Pairs_any gt L w8 (HTL.out _ _ HCT8.out)).mono ?_
          rintro e w9 ⟨aol, capl, rfl, hown, hb⟩
          have HCT9 : Hid (w9.heap[gt]? = some (.cells C 26 (0, 0))) := (hb.block gt (Array.getElem?_eq_some_iff.1 HCT8.out).1).trans HCT8.out
          have HTV9 : Hid (TabAt w9 gv V) := HTV8.out.below hb
          have HTU9 : Hid (TabAt w9 gu (opsS L l1)) := HTU8.out.below hb
          have HW9 : Hid (PrA (fun i => w6.heap.size ≤ i ∧ i < w7.heap.size) w9 aow capw L) := HW8.out.below hb
          have HB9 : Hid (Below w.heap.size w w9) := bel_call HBR.out hb
          have HL9 : Hid (0 < L.length → ∃ g cur, aol = some ⟨g, 0, none⟩ ∧ w8.heap.size ≤ g ∧ g < w9.heap.size ∧ w9.heap[g]? = some (.cells cur 23 (0, 0)) ∧ 2 * L.length ≤ cur.size) := fun h => hown.row h
          have hLm : L.length ≤ 8 := (HTL.out _ _ HCT8.out).few
          have hs8 : Hid (gv < w8.heap.size) := HTV8.out.lt
          have hcapl := hown.caps
          clear hown hb HCT8 HTV8 HW8 HTU8 HBR
          go_wp2_with fail
          go_loopw [65] (fun i wr => ∃ (j : Nat), j ≤ L.length ∧ i = .int .i64 j ∧ Only (fun k => w8.heap.size ≤ k ∧ k < w9.heap.size) w9 wr ∧ (0 < L.length → ∃ g cur, aol = some ⟨g, 0, none⟩ ∧ w8.heap.size ≤ g ∧ g < w9.heap.size ∧ wr.heap[g]? = some (.cells cur 23 (0, 0)) ∧ 2 * L.length ≤ cur.size)) (fun i _ => L.length - (intOf i).toNat)
          case atStart => exact ⟨0, Nat.zero_le _, rfl, Only.refl _ _, HL9.out⟩
          case round =>
            obtain ⟨j, hj, rfl, hO, hrow⟩ := hrel
            by_cases hlt : j < L.length
            · obtain ⟨g, cur, rfl, hg8, hg9, hcur, hsz⟩ := hrow (by omega)
              obtain ⟨⟨v, hv⟩, hfz, cur', hcur', hsz'⟩ := row_set hcur (k := j * 2 + 1) (by omega) (.string ⟨#[111, 116, 104, 101, 114]⟩)
              have HC' : Hid ((wr.setCell ⟨g, j * 2 + 1, none⟩ (.string ⟨#[111, 116, 104, 101, 114]⟩)).heap[g]? = some (.cells cur' 23 (0, 0))) := hcur'
              have HO : Hid (Only (fun k => w8.heap.size ≤ k ∧ k < w9.heap.size) w9 wr) := hO
              have hm2 : (j : Int) < (L.length : Int) := by omega
              clear hcur hcur' hrow hO HL9
              go_wp2_with fail
              refine ⟨⟨j + 1, hlt, by go_num, HO.out.trans (Only.of_set wr ⟨g, j * 2 + 1, none⟩ _ ⟨hg8, hg9⟩), fun _ => ⟨g, cur', rfl, hg8, hg9, HC'.out, by omega⟩⟩, by simp [intOf]; omega⟩
            · obtain rfl : j = L.length := by omega
              have HCTA : Hid (wr.heap[gt]? = some (.cells C 26 (0, 0))) := (hO.block gt (Array.getElem?_eq_some_iff.1 HCT9.out).1 (by have := hg2.out; have := hg5.out; have := hs8.out; omega)).trans HCT9.out
              have HTVA : Hid (TabAt wr gv V) := HTV9.out.heap (hO.block gv HTV9.out.lt (by have := hs8.out; omega))
              have HTUA : Hid (TabAt wr gu (opsS L l1)) := HTU9.out.heap (hO.block gu HTU9.out.lt (by have := hg5.out; have := hs8.out; omega))
              have HWA : Hid (PrA (fun i => w6.heap.size ≤ i ∧ i < w7.heap.size) wr aow capw L) := HW9.out.only hO (fun i hi e => by have := hi.2; have := hs78.out; omega)
              have HBA : Hid (Below w.heap.size w wr) := HB9.out.trans (hO.below (fun i e => by have := hg1.out; have := hg2.out; have := hg5.out; have := hs8.out; omega) HB9.out.size)
              obtain ⟨wA, hwA⟩ : ∃ wA : World, wA = wr := ⟨_, rfl⟩
              rw [← hwA] at HCTA HTVA HTUA HWA HBA ⊢
              obtain ⟨hl2, hm2⟩ := H2.out.len
              subst hl2
              clear hO hrow HCT9 HTV9 HTU9 HW9 HB9 HL9 hwA hlt hj hcapl
              go_wp2_with fail
              go_loopw [75] (fun i wr => ∃ (j : Nat), j ≤ l2.length ∧ i = .int .i64 j ∧ TabAt wr gv (opsS V (l2.take j)) ∧ Only (fun k => k = gv) wA wr) (fun i _ => l2.length - (intOf i).toNat)
              case atStart => exact ⟨0, Nat.zero_le _, rfl, HTVA.out, Only.refl _ _⟩
              case round =>
                obtain ⟨j, hj, rfl, hT, hO⟩ := hrel
                have hgw : Hid (w.heap.size ≤ gv) := by have := hg1.out; have := hg2.out; have := hg5.out; show _ ≤ _; omega
                have hBr : Below w.heap.size w wr := HBA.out.trans (hO.below (fun i e => by have := hgw.out; omega) HBA.out.size)
                by_cases hlt : j < l2.length
                · obtain ⟨b, off, rfl, hb, hc⟩ := raw_cells H2.out (by omega)
                  obtain ⟨x, hx⟩ : ∃ x, l2[j] = x := ⟨_, rfl⟩
                  obtain ⟨q0, q1, q2, q3, q4, q5, q6, q7⟩ := hc wr hBr j x (by rw [← hx]; exact List.getElem?_eq_getElem hlt)
                  have hm3 : (j : Int) < (l2.length : Int) := by omega
                  have HO : Hid (Only (fun k => k = gv) wA wr) := hO
                  have HTr : Hid (TabAt wr gv (opsS V (l2.take j))) := hT
                  have HNX : Hid (opsS V (l2.take (j + 1)) = _) := opsS_next V l2 j hlt
                  rw [hx] at HNX
                  clear hc hT hO hx hBr HTVA HCTA HWA HTUA
                  go_wp2_with first | (go_at_call 22; refine (Op_any _ _ _ _ _).mono ?_; rintro e wB ⟨rfl, hb8⟩; have HO8 : Hid (Only (fun k => k = gv) wA wB) := (HO.out.trans (Only.of_alloc _ wr _)).trans (Only.of_below _ hb8); have HT8 : Hid (TabAt wB gv _) := (HTr.out.below (bel_al wr _)).below hb8; clear hb8) | (go_at_call 9; refine (Do_any gv _ _ _ _ _ wB HT8.out).mono ?_; rintro e wC ⟨rfl, hT9, hO9⟩)
                  refine ⟨⟨j + 1, hlt, by go_num, by rw [HNX.out]; exact hT9, HO8.out.trans hO9⟩, by simp [intOf]; omega⟩
                · have hctB : wr.heap[gt]? = some (.cells C 26 (0, 0)) := (hO.block gt (Array.getElem?_eq_some_iff.1 HCTA.out).1 (by have := hg2.out; have := hg5.out; omega)).trans HCTA.out
                  have HTUB : Hid (TabAt wr gu (opsS L l1)) := HTUA.out.heap (hO.block gu HTUA.out.lt (by have := hg5.out; omega))
                  have HWB : Hid (PrA (fun i => w6.heap.size ≤ i ∧ i < w7.heap.size) wr aow capw L) := HWA.out.only hO (fun i hi e => by have := hi.1; have := hs6h.out; omega)
                  have HBB : Hid (Below w.heap.size w wr) := hBr
                  obtain ⟨wB, hwB⟩ : ∃ wB : World, wB = wr := ⟨_, rfl⟩
                  rw [← hwB] at hctB HTUB HWB HBB ⊢
                  have hnB := new_zero wB
                  unfold zeroT at hnB
                  clear hT hO hBr HTVA HCTA HWA HTUA hwB HBA
                  go_wp2_with first | (refine wpList_load_row rfl 26 _ rfl gt rfl 26 C (0, 0) _ hctB Try.underlying26 rfl hi ?_) | (refine wpList_store_row rfl 26 _ _ rfl wB.heap.size C rfl rfl 26 _ hnB hi h17.out h1 ?_; obtain ⟨wC, hwC⟩ : ∃ wC, wC = (wB.alloc zeroT).setRow wB.heap.size C := ⟨_, rfl⟩; obtain ⟨hcC, hbC, hsC⟩ := store_new hwC; unfold zeroT at hwC; rw [← hwC]; clear hwC hnB)
                  have HCTC : Hid (wC.heap[gt]? = some (.cells C 26 (0, 0))) := (hbC.block gt (Array.getElem?_eq_some_iff.1 hctB).1).trans hctB
                  have HTUC : Hid (TabAt wC gu (opsS L l1)) := HTUB.out.below hbC
                  have HWC : Hid (PrA (fun i => w6.heap.size ≤ i ∧ i < w7.heap.size) wC aow capw L) := HWB.out.below hbC
                  have HBC : Hid (Below w.heap.size w wC) := bel_call HBB.out hbC
                  have HTWC : Hid (TabAt wC wB.heap.size L) := HTL.out _ _ hcC
                  have hguB : Hid (gu < wB.heap.size) := HTUB.out.lt
                  have hBB : Hid (w.heap.size ≤ wB.heap.size) := HBB.out.size
                  have hWB2 : Hid (0 < L.length → w7.heap.size ≤ wB.heap.size ∨ True) := fun _ => .inr trivial
                  have HWD : Hid (∀ i, (w6.heap.size ≤ i ∧ i < w7.heap.size) → i < wB.heap.size → True) := fun _ _ _ => trivial
                  obtain ⟨gw, hgw⟩ : ∃ gw, wB.heap.size = gw := ⟨_, rfl⟩
                  have HWC2 : Hid (PrA (fun i => i ≠ gw) wC aow capw L) := by
                    have := HWB.out
                    refine ⟨this.1, this.2.1, fun hl => ?_⟩
                    obtain ⟨g, off, a, b, c, d⟩ := this.2.2 hl
                    exact ⟨g, off, a, Nat.lt_of_lt_of_le b hbC.size, by omega, d.heap (hbC.block g b)⟩
                  rw [hgw] at HTWC hguB hBB ⊢
                  clear hWB2 HWD HWC hctB HTUB HWB HBB hbC hcC hsC hgw
                  go_loopw [93] (fun i wr => ∃ (j : Nat), j ≤ l1.length ∧ i = .int .i64 j ∧ TabAt wr gw (opsS L (l1.take j)) ∧ Only (fun k => k = gw) wC wr) (fun i _ => l1.length - (intOf i).toNat)
                  case atStart => exact ⟨0, Nat.zero_le _, rfl, HTWC.out, Only.refl _ _⟩
                  case round =>
                    obtain ⟨j, hj, rfl, hT, hO⟩ := hrel
                    have hBr : Below w.heap.size w wr := HBC.out.trans (hO.below (fun i e => by have := hBB.out; omega) HBC.out.size)
                    by_cases hlt : j < l1.length
                    · obtain ⟨b, off, rfl, hb, hc⟩ := raw_cells H1.out (by omega)
                      obtain ⟨x, hx⟩ : ∃ x, l1[j] = x := ⟨_, rfl⟩
                      obtain ⟨q0, q1, q2, q3, q4, q5, q6, q7⟩ := hc wr hBr j x (by rw [← hx]; exact List.getElem?_eq_getElem hlt)
                      have hm3 : (j : Int) < (l1.length : Int) := by omega
                      have HO : Hid (Only (fun k => k = gw) wC wr) := hO
                      have HTr : Hid (TabAt wr gw (opsS L (l1.take j))) := hT
                      have HNX : Hid (opsS L (l1.take (j + 1)) = _) := opsS_next L l1 j hlt
                      rw [hx] at HNX
                      clear hc hT hO hx hBr HCTC HWC2 HTUC
                      go_wp2_with first | (go_at_call 22; refine (Op_any _ _ _ _ _).mono ?_; rintro e wD ⟨rfl, hb8⟩; have HO8 : Hid (Only (fun k => k = gw) wC wD) := (HO.out.trans (Only.of_alloc _ wr _)).trans (Only.of_below _ hb8); have HT8 : Hid (TabAt wD gw _) := (HTr.out.below (bel_al wr _)).below hb8; clear hb8) | (go_at_call 9; refine (Do_any gw _ _ _ _ _ wD HT8.out).mono ?_; rintro e wE ⟨rfl, hT9, hO9⟩)
                      refine ⟨⟨j + 1, hlt, by go_num, by rw [HNX.out]; exact hT9, HO8.out.trans hO9⟩, by simp [intOf]; omega⟩
                    · obtain rfl : j = l1.length := by omega
                      rw [List.take_length] at hT
                      have HTT : Hid (TabAt wr gt L) := HTL.out _ _ ((hO.block gt (Array.getElem?_eq_some_iff.1 HCTC.out).1 (by have := hg2.out; have := hguB.out; omega)).trans HCTC.out)
                      have HTU : Hid (TabAt wr gu (opsS L l1)) := HTUC.out.heap (hO.block gu HTUC.out.lt (by have := hguB.out; omega))
                      have HW : Hid (PrA (fun i => i ≠ gw) wr aow capw L) := HWC2.out.only hO (fun i h e => h e)
                      have HTW : Hid (TabAt wr gw (opsS L l1)) := hT
                      have HB : Hid (Below w.heap.size w wr) := hBr
                      obtain ⟨wD, hwD⟩ : ∃ wD : World, wD = wr := ⟨_, rfl⟩
                      rw [← hwD] at HTT HTU HW HTW HB ⊢
                      clear hT hO hBr HCTC HWC2 HTUC HTWC HBC hwD hi h1 h17 HTL
                      go_wp2_with fail
                      refine (known_any _).mono ?_
                      rintro e x1 ⟨rfl, hb⟩
                      have HTT1 : Hid (TabAt x1 gt L) := HTT.out.below hb
                      have HTU1 : Hid (TabAt x1 gu (opsS L l1)) := HTU.out.below hb
                      have HTW1 : Hid (TabAt x1 gw (opsS L l1)) := HTW.out.below hb
                      have HW1 : Hid (PrR x1 aow capw L) := HW.out.rd.below hb
                      have HB1 : Hid (Below w.heap.size w x1) := bel_call HB.out hb
                      clear HTT HTU HTW HW HB hb
                      go_wp2_with fail
                      refine (Pairs_any gt L x1 HTT1.out).mono ?_
                      rintro e x2 ⟨ap, cp, rfl, hown, hb⟩
                      have hRp := hown.rd
                      have HTU2 : Hid (TabAt x2 gu (opsS L l1)) := HTU1.out.below hb
                      have HTW2 : Hid (TabAt x2 gw (opsS L l1)) := HTW1.out.below hb
                      have HW2 : Hid (PrR x2 aow capw L) := HW1.out.below hb
                      have HB2 : Hid (Below w.heap.size w x2) := bel_call HB1.out hb
                      clear HTT1 HTU1 HTW1 HW1 HB1 hb hown
                      go_wp2_with fail
                      refine (same_any _ _ _ _ _ _ L L x2 rfl rfl hRp HW2.out rfl).mono ?_
                      rintro e x3 ⟨rfl, hb⟩
                      have HTU3 : Hid (TabAt x3 gu (opsS L l1)) := HTU2.out.below hb
                      have HTW3 : Hid (TabAt x3 gw (opsS L l1)) := HTW2.out.below hb
                      have HB3 : Hid (Below w.heap.size w x3) := bel_call HB2.out hb
                      clear HTU2 HTW2 HW2 HB2 hb hRp
                      obtain ⟨U, hU⟩ : ∃ U, opsS L l1 = U := ⟨_, rfl⟩
                      rw [hU] at HTU3 HTW3
                      clear hU
                      go_wp2_with fail
                      refine (Pairs_any gw U x3 HTW3.out).mono ?_
                      rintro e x4 ⟨aq, cq, rfl, hown, hb⟩
                      have hRq := hown.rd
                      have HTU4 : Hid (TabAt x4 gu U) := HTU3.out.below hb
                      have HB4 : Hid (Below w.heap.size w x4) := bel_call HB3.out hb
                      clear HTU3 HTW3 HB3 hb hown
                      go_wp2_with fail
                      refine (Pairs_any gu U x4 HTU4.out).mono ?_
                      rintro e x5 ⟨ar, cr, rfl, hown, hb⟩
                      have hRr := hown.rd
                      have hRq5 := hRq.below hb
                      have HB5 : Hid (Below w.heap.size w x5) := bel_call HB4.out hb
                      clear HTU4 HB4 hb hown hRq
                      go_wp2_with fail
                      refine (same_any _ _ _ _ _ _ U U x5 rfl rfl hRq5 hRr rfl).mono ?_
                      rintro e x6 ⟨rfl, hb⟩
                      have HB6 : Hid (Below w.heap.size w x6) := bel_call HB5.out hb
                      clear hb
                      go_wp2_with fail
                      go_ret
                      exact ⟨rfl, HB6.out⟩
end Go.Proofs.Ytinobhaemmddjaa
