/- ShardImage: the walk. -/
import Derived.Test.YtodgcfmacmfcpaaYT
namespace Go.Proofs.Ytodgcfmacmfcpaa
open Go.RowKit

theorem Image_q (g fo : Nat) (T : List Pr) (S : List Se) (id ep : Int) (w : World) (h : ShO w g fo T S id ep) (n m : Nat) (r : List Se) (hn : T.length = n) (hr : allS S = r) (hm : r.length = m) :
    Calls Try.prog 11 #[.pointer (some ⟨g, fo, none⟩)] w fun e w' => ∃ ao cap bo cap2, e = .returned (.agg #[.int .i64 id, .int .i64 ep, .slice ao n cap, .slice bo m cap2]) ∧ OwnI w.heap.size w' ao cap T bo cap2 r ∧ Below w.heap.size w w' := by
  subst hn hr hm; exact Image_o g fo T S id ep w h
/-- an image of one's own in block b: its lists lie from block q on, below b -/
structure Yo (w : World) (b q : Nat) (id ep : Int) (ao : Option Addr) (cap : Nat) (bo : Option Addr) (cap2 : Nat) (n m : Nat) : Prop where
  im : ImAt w b id ep (.slice ao n cap) (.slice bo m cap2)
  ow : ∃ T S, OwnI q w ao cap T bo cap2 S ∧ T.length = n ∧ S.length = m
  un : ∀ a, (ao = some a → a.block < b) ∧ (bo = some a → a.block < b)
section
variable {w w' : World} {b q : Nat} {id ep : Int} {ao bo : Option Addr} {cap cap2 n m : Nat} {T : List Pr} {S : List Se}
theorem Yo.below (h : Yo w b q id ep ao cap bo cap2 n m) (hb : Below w.heap.size w w') : Yo w' b q id ep ao cap bo cap2 n m :=
  ⟨h.im.below hb, by obtain ⟨T, S, h1, h2⟩ := h.ow; exact ⟨T, S, h1.below hb, h2⟩, h.un⟩
theorem Xi.up {T : List Pr} {S : List Se} (h : Xi w b q id ep ao cap T bo cap2 S n m) {q' : Nat} (hq : q ≤ q') : Xi w b q' id ep ao cap T bo cap2 S n m := ⟨h.im, h.ps.wide fun i _ h2 => by omega, h.xs.mono fun i _ h2 => by omega, h.n, h.m, Nat.lt_of_lt_of_le h.lt hq⟩
theorem OwnI.yo {B : Nat} (h : OwnI B w ao cap T bo cap2 S) (hq : q ≤ B) (hn : T.length = n) (hm : S.length = m) : Yo (w.alloc (.cells #[.int .i64 id, .int .i64 ep, .slice ao n cap, .slice bo m cap2] 41)) w.heap.size q id ep ao cap bo cap2 n m :=
  ⟨alloc_new w _, ⟨T, S, (h.below (bel_al w _)).lower hq, hn, hm⟩, fun a => ⟨fun e => (h.ps.under a e).2, fun e => (h.xs.under a e).2⟩⟩
theorem Yo.pairs (h : Yo w b q id ep ao cap bo cap2 n m) {p : Nat} (hp : p < n) : ∃ g, ao = some ⟨g, 0, none⟩ ∧ q ≤ g ∧ g < b ∧ g < w.heap.size ∧ (∃ u, w.cell? ⟨g, p * 2 + 1, none⟩ = some u) ∧ w.frozen? ⟨g, p * 2 + 1, none⟩ = false ∧ ∀ v, Yo (w.setCell ⟨g, p * 2 + 1, none⟩ (.string v)) b q id ep ao cap bo cap2 n m := by
  obtain ⟨T, S, hO, rfl, rfl⟩ := h.ow
  obtain ⟨g, e, h1, h2, h3, h4, h5⟩ := hO.ps.set hp
  have hgb := (h.un ⟨g, 0, none⟩).1 e
  simp only at hgb
  refine ⟨g, e, h1, hgb, h2, h3, h4, fun v => ?_⟩
  have o := Only.of_set (S := fun k => k = g) w ⟨g, p * 2 + 1, none⟩ (.string v) rfl
  refine ⟨h.im.only o (by omega), ⟨_, S, ⟨h5 v, hO.xs.apart o (fun g' e' hx => ?_), hO.ne⟩, by rw [List.length_modify], rfl⟩, h.un⟩
  exact hO.ne ⟨g, 0, none⟩ ⟨g', 0, none⟩ e e' hx.symm
theorem Yo.sess (h : Yo w b q id ep ao cap bo cap2 n m) {p : Nat} (hp : p < m) : ∃ g, bo = some ⟨g, 0, none⟩ ∧ q ≤ g ∧ g < b ∧ g < w.heap.size ∧ (∃ u, w.cell? ⟨g, p * 4 + 1, none⟩ = some u) ∧ w.frozen? ⟨g, p * 4 + 1, none⟩ = false ∧ ∀ v, Yo (w.setCell ⟨g, p * 4 + 1, none⟩ (.int .i64 v)) b q id ep ao cap bo cap2 n m := by
  obtain ⟨T, S, hO, rfl, rfl⟩ := h.ow
  obtain ⟨g, e, h1, h2, h3, h4, h5⟩ := hO.xs.seqs hp
  have hgb := (h.un ⟨g, 0, none⟩).2 e
  simp only at hgb
  refine ⟨g, e, h1, hgb, h2, h3, h4, fun v => ?_⟩
  have o := Only.of_set (S := fun k => k = g) w ⟨g, p * 4 + 1, none⟩ (.int .i64 v) rfl
  refine ⟨h.im.only o (by omega), ⟨T, _, ⟨hO.ps.apart o (fun g' e' hx => ?_), h5 v, hO.ne⟩, rfl, by rw [List.length_set]⟩, h.un⟩
  exact hO.ne ⟨g', 0, none⟩ ⟨g, 0, none⟩ e' e hx
end
/-- all that stands ahead of the asks -/
structure All8 (w0 w : World) (bx gs by_ gt : Nat) (T : List Pr) (S : List Se) (id ep : Int) (xa : Option Addr) (xc : Nat) (xb : Option Addr) (xd : Nat) (ya : Option Addr) (yc : Nat) (yb : Option Addr) (yd : Nat) (n m : Nat) : Prop where
  d : Dd w0 w gs gt T S id ep
  x : Xi w bx gs id ep xa xc T xb xd (allS S) n m
  y : Yo w by_ (gs + 1) id ep ya yc yb yd n m
  o : by_ < gt
section
variable {w0 w w' : World} {bx gs by_ gt : Nat} {T : List Pr} {S : List Se} {id ep : Int} {xa xb ya yb : Option Addr} {xc xd yc yd n m : Nat}
theorem All8.below (h : All8 w0 w bx gs by_ gt T S id ep xa xc xb xd ya yc yb yd n m) (hb : Below w.heap.size w w') : All8 w0 w' bx gs by_ gt T S id ep xa xc xb xd ya yc yb yd n m := ⟨h.d.below hb, h.x.below hb, h.y.below hb, h.o⟩
theorem All8.pairs {w0 w : World} {bx gs by_ gt : Nat} {T : List Pr} {S : List Se} {id ep : Int} {xa xb yb : Option Addr} {xc xd yc yd n m : Nat} {ya : Option Addr} (h : All8 w0 w bx gs by_ gt T S id ep xa xc xb xd ya yc yb yd n m) {g p : Nat} {u : Value} (h1 : gs + 1 ≤ g) (h2 : g < by_) (h3 : Yo (w.setCell ⟨g, p, none⟩ u) by_ (gs + 1) id ep ya yc yb yd n m) : All8 w0 (w.setCell ⟨g, p, none⟩ u) bx gs by_ gt T S id ep xa xc xb xd ya yc yb yd n m :=
  have o := Only.of_set (S := fun k => k = g) w ⟨g, p, none⟩ u rfl
  ⟨h.d.wr o (by omega) (by have := h.o; omega), h.x.only o (fun i e => by omega), h3, h.o⟩
end
theorem known_w {w1 W : World} (hB : Below w1.heap.size w1 W) : Calls Try.prog 12 #[] W fun e w' => e = .returned (.bool true) ∧ Below w1.heap.size w1 w' := (knownH_any W).mono fun _ _ ⟨h1, h2⟩ => ⟨h1, bel_call hB h2⟩
set_option maxRecDepth 20000 in
set_option maxHeartbeats 8000000 in
theorem ShardImage_any (k epoch : Int) (ao : Option Addr) (n c : Nat) (l : List RawO) (ao2 : Option Addr) (n2 c2 : Nat) (l2 : List RawO) (w : World) (h0 : RdG 8 RawO.Q w.heap.size w ao n c l) (h2 : RdG 8 RawO.Q w.heap.size w ao2 n2 c2 l2) :
    Calls Try.prog 6 #[.int .i64 k, .int .i64 epoch, .slice ao n c, .slice ao2 n2 c2] w fun e w' => e = .returned (.bool true) ∧ Below w.heap.size w w' := by
  obtain ⟨id, hid⟩ : ∃ id, pick k 6 = id := ⟨_, rfl⟩
  obtain ⟨ep, hep⟩ : ∃ ep, 1 + pick epoch 6 = ep := ⟨_, rfl⟩
  have hii : inS id 0 5 = true := by
    have l1 := pick_lo k 6 (by omega)
    have l2 := pick_hi k 6 (by omega)
    unfold inS; rw [decide_eq_true (by omega), decide_eq_true (by omega)]; rfl
  have hee : inS ep 1 1099511627776 = true := by
    have l1 := pick_lo epoch 6 (by omega)
    have l2 := pick_hi epoch 6 (by omega)
    unfold inS; rw [decide_eq_true (by omega), decide_eq_true (by omega)]; rfl
  have HIE : Hid (inS id 0 5 = true ∧ inS ep 1 1099511627776 = true) := ⟨hii, hee⟩
  have H2 : Hid (RdG 8 RawO.Q w.heap.size w ao2 n2 c2 l2) := h2
  obtain ⟨hl2, hm2⟩ := h2.len
  subst hl2
  have HQ0 : Hid (RdG 8 RawO.Q w.heap.size w ao n c l) := h0
  have HID : Hid (pick k 6 = id ∧ 1 + pick epoch 6 = ep) := ⟨hid, hep⟩
  clear h0 h2 hid hep hii hee
  go_enter Try.func6, Try.ntmps6
  go_wp2_with fail
  refine (HImage_fine k epoch ao n c l 0 0 id ep _ HQ0.out rfl (by omega) HID.out.1 HID.out.2).mono ?_
  rintro e w1 ⟨T, S, xa, xc, xb, xd, rfl, hF, hO, hb⟩
  obtain ⟨n1, hn1⟩ : ∃ n, T.length = n := ⟨_, rfl⟩
  obtain ⟨m1, hm1⟩ : ∃ n, (allS S).length = n := ⟨_, rfl⟩
  rw [hn1, hm1]
  have HF : Hid (Fine T S ∧ T.length = n1 ∧ (allS S).length = m1 ∧ n1 ≤ 8) := ⟨hF, hn1, hm1, by have := hF.few; omega⟩
  have HX : Hid (∃ w2 bx, w1.alloc (.cells #[.int .i64 id, .int .i64 ep, .slice xa n1 xc, .slice xb m1 xd] 41) = w2 ∧ w1.heap.size = bx ∧ Xi w2 bx (bx + 1) id ep xa xc T xb xd (allS S) n1 m1 ∧ Below w.heap.size w w2 ∧ w.heap.size ≤ bx) :=
    ⟨_, _, rfl, rfl, hO.xi (by omega) hn1 hm1, bel_call hb (bel_al w1 _), hb.size⟩
  clear hF hn1 hm1 hO hb HQ0 HID
  go_upto_region 2 with fail
  obtain ⟨w2, bx, e1, e2, X2, B2, L2⟩ := HX.out
  rw [e1, e2]
  have H3 : Hid (Xi w2 bx (bx + 1) id ep xa xc T xb xd (allS S) n1 m1 ∧ Below w.heap.size w w2 ∧ w.heap.size ≤ bx) := ⟨X2, B2, L2⟩
  obtain ⟨q0, q1, q2, q3⟩ := X2.im.cells
  clear HX e1 e2 X2 B2 L2
  go_wp2_with fail
  refine (ShOf_eq xa n1 xc T xb m1 xd (allS S) id ep _ HF.out.2.1 H3.out.1.rd.ps HF.out.2.2.1 H3.out.1.rd.xs T S HF.out.1.puts HF.out.1.notes).mono ?_
  rintro e w3 ⟨C, rfl, hC, hb3⟩
  obtain ⟨hi, h35, h1⟩ := hC.rows
  have hn3 := alloc_new w3 zeroH
  unfold zeroH at hn3
  have HC : Hid (ShC C T S id ep ∧ Xi w3 bx (bx + 1) id ep xa xc T xb xd (allS S) n1 m1 ∧ Below w.heap.size w w3 ∧ w.heap.size ≤ bx) := ⟨hC, H3.out.1.below hb3, bel_call H3.out.2.1 hb3, H3.out.2.2⟩
  clear hC hb3 H3 q0 q1 q2 q3
  have tokA : True := trivial
  go_wp2_with (have _t := tokA; refine wpList_store_row rfl 36 _ _ rfl w3.heap.size C rfl rfl 36 _ hn3 hi h35.out h1 ?_; obtain ⟨w4, hw4⟩ : ∃ w4, w4 = (w3.alloc zeroH).setRow w3.heap.size C := ⟨_, rfl⟩; have HN := store_newH HC.out.1 hw4; unfold zeroH at hw4; rw [← hw4]; clear hw4 hn3 tokA _t)
  obtain ⟨gs, hgs⟩ : ∃ gs, w3.heap.size = gs := ⟨_, rfl⟩
  have H4 : Hid (ShO w4 gs 0 T S id ep ∧ Xi w4 bx gs id ep xa xc T xb xd (allS S) n1 m1 ∧ Below w.heap.size w w4 ∧ w.heap.size ≤ bx ∧ bx < gs ∧ gs < w4.heap.size) := by
    subst hgs
    have hx := HC.out.2.1.im.lt
    exact ⟨HN.1, (HC.out.2.1.up hx).below HN.2.1, bel_call HC.out.2.2.1 HN.2.1, HC.out.2.2.2, hx, HN.2.2⟩
  rw [hgs]
  clear HN HC hi h35 h1 hgs
  refine (Image_q gs 0 T S id ep _ H4.out.1 n1 m1 _ HF.out.2.1 rfl HF.out.2.2.1).mono ?_
  rintro e w5 ⟨ya, yc, yb, yd, rfl, hO, hb⟩
  have H5 : Hid (∃ w6 bz, w5.alloc (.cells #[.int .i64 id, .int .i64 ep, .slice ya n1 yc, .slice yb m1 yd] 41) = w6 ∧ w5.heap.size = bz ∧ ShO w6 gs 0 T S id ep ∧ Xi w6 bx gs id ep xa xc T xb xd (allS S) n1 m1 ∧ Below w.heap.size w w6 ∧ w.heap.size ≤ bx ∧ bx < gs ∧ gs < bz ∧ Yo w6 bz (gs + 1) id ep ya yc yb yd n1 m1 ∧ RdI w6 ya yc T yb yd (allS S)) :=
    ⟨_, _, rfl, rfl, (H4.out.1.below hb).below (bel_al w5 _), (H4.out.2.1.below hb).below (bel_al w5 _), bel_call (bel_call H4.out.2.2.1 hb) (bel_al w5 _), H4.out.2.2.2.1, H4.out.2.2.2.2.1, Nat.lt_of_lt_of_le H4.out.2.2.2.2.2 hb.size, hO.yo H4.out.2.2.2.2.2 HF.out.2.1 HF.out.2.2.1, (hO.below (bel_al w5 _)).rd⟩
  clear hO hb H4
  go_upto_region 4 with fail
  obtain ⟨w6, bz, e1, e2, H6⟩ := H5.out
  rw [e1, e2]
  obtain ⟨q0, q1, q2, q3⟩ := H6.2.2.2.2.2.2.1.im.cells
  have H6 : Hid _ := H6
  clear H5 e1 e2
  go_wp2_with fail
  refine (ShOf_eq ya n1 yc T yb m1 yd (allS S) id ep _ HF.out.2.1 H6.out.2.2.2.2.2.2.2.ps HF.out.2.2.1 H6.out.2.2.2.2.2.2.2.xs T S HF.out.1.puts HF.out.1.notes).mono ?_
  rintro e w7 ⟨C, rfl, hC, hb3⟩
  obtain ⟨hi, h35, h1⟩ := hC.rows
  have hn3 := alloc_new w7 zeroH
  unfold zeroH at hn3
  have HC : Hid (ShC C T S id ep ∧ ShO w7 gs 0 T S id ep ∧ Xi w7 bx gs id ep xa xc T xb xd (allS S) n1 m1 ∧ Below w.heap.size w w7 ∧ w.heap.size ≤ bx ∧ bx < gs ∧ gs < bz ∧ Yo w7 bz (gs + 1) id ep ya yc yb yd n1 m1) := ⟨hC, H6.out.1.below hb3, H6.out.2.1.below hb3, bel_call H6.out.2.2.1 hb3, H6.out.2.2.2.1, H6.out.2.2.2.2.1, H6.out.2.2.2.2.2.1, H6.out.2.2.2.2.2.2.1.below hb3⟩
  clear hC hb3 H6 q0 q1 q2 q3
  have tokA : True := trivial
  go_upto_region 5 with (have _t := tokA; refine wpList_store_row rfl 36 _ _ rfl w7.heap.size C rfl rfl 36 _ hn3 hi h35.out h1 ?_; obtain ⟨w8, hw8⟩ : ∃ w4, w4 = (w7.alloc zeroH).setRow w7.heap.size C := ⟨_, rfl⟩; have HN := store_newH HC.out.1 hw8; unfold zeroH at hw8; rw [← hw8]; clear hw8 hn3 tokA _t)
  obtain ⟨gt, hgt⟩ : ∃ gs, w7.heap.size = gs := ⟨_, rfl⟩
  have H8 : Hid (All8 w w8 bx gs bz gt T S id ep xa xc xb xd ya yc yb yd n1 m1) := by
    subst hgt
    obtain ⟨_, c1, c2, c3, c4, c5, c6, c7⟩ := HC.out
    exact ⟨⟨c1.below HN.2.1, HN.1, bel_call c3 HN.2.1, by omega, c1.lt⟩, c2.below HN.2.1, c7.below HN.2.1, c7.im.lt⟩
  rw [hgt]
  clear HN HC hi h35 h1 hgt
  obtain ⟨q0, q1, q2, q3⟩ := H8.out.y.im.cells
  go_wp2_with fail
  go_loopw [34] (fun i wr => ∃ j : Nat, j ≤ n1 ∧ i = .int .i64 j ∧ All8 w wr bx gs bz gt T S id ep xa xc xb xd ya yc yb yd n1 m1) (fun i _ => n1 - (intOf i).toNat)
  case atStart => exact ⟨0, Nat.zero_le _, rfl, H8.out⟩
  case round =>
    obtain ⟨j, hj, rfl, hS⟩ := hrel
    have HS : Hid (All8 w wr bx gs bz gt T S id ep xa xc xb xd ya yc yb yd n1 m1) := hS
    have hn8 : (n1 : Int) ≤ 8 := by have := HF.out.2.2.2; omega
    clear q0 q1 q2 q3
    by_cases hlt : j < n1
    · obtain ⟨q0, q1, q2, q3⟩ := hS.y.im.cells
      obtain ⟨g, rfl, hg1, hg2, hg3, ⟨u, hu⟩, hfz, hset⟩ := hS.y.pairs hlt
      have HP := hS.pairs hg1 hg2 (hset ⟨#[111, 116, 104, 101, 114]⟩)
      have HP : Hid _ := HP
      have hji : (j : Int) < (n1 : Int) := by omega
      clear hset hS
      go_wp2
      exact ⟨⟨j + 1, hlt, by go_num, HP.out⟩, by simp [intOf]; omega⟩
    · obtain ⟨q0, q1, q2, q3⟩ := hS.y.im.cells
      have hji : ¬ (j : Int) < (n1 : Int) := by omega
      clear hS H8
      go_upto_region 10 with fail
      go_wp2_with fail
      go_loopw [46] (fun i wq => ∃ p : Nat, p ≤ m1 ∧ i = .int .i64 p ∧ All8 w wq bx gs bz gt T S id ep xa xc xb xd ya yc yb yd n1 m1) (fun i _ => m1 - (intOf i).toNat)
      case atStart => exact ⟨0, Nat.zero_le _, rfl, HS.out⟩
      case round =>
        obtain ⟨p, hp, rfl, hS⟩ := hrel
        have HSS : Hid (All8 w _ bx gs bz gt T S id ep xa xc xb xd ya yc yb yd n1 m1) := hS
        have hm8 : (m1 : Int) ≤ 8 := by have h := HF.out.2.2.1; have h3 := allS_few HF.out.1.inv; omega
        clear q0 q1 q2 q3 HS
        by_cases hlt2 : p < m1
        · obtain ⟨q0, q1, q2, q3⟩ := hS.y.im.cells
          obtain ⟨g, rfl, hg1, hg2, hg3, ⟨u, hu⟩, hfz, hset⟩ := hS.y.sess hlt2
          have HP := hS.pairs hg1 hg2 (hset 99)
          have HP : Hid _ := HP
          have hpi : (p : Int) < (m1 : Int) := by omega
          clear hset hS
          go_wp2
          exact ⟨⟨p + 1, hlt2, by go_num, HP.out⟩, by simp [intOf]; omega⟩
        · have hpi : ¬ (p : Int) < (m1 : Int) := by omega
          clear hS
          go_upto_region 15 with fail
          obtain ⟨q0, q1, q2, q3⟩ := HSS.out.x.im.cells
          have hn8 : (n1 : Int) ≤ 8 := by have := HF.out.2.2.2; omega
          have hwn : IntKind.i64.wrap (1 + (n1 : Int)) = 1 + (n1 : Int) := by rw [IntKind.wrap_i64]; omega
          have hcm : (n1 : Int) + 1 = 1 + (n1 : Int) := by omega
          have HRT : Hid (rightI id ep T (allS S) = true) := HF.out.1.right HIE.out.1 HIE.out.2
          go_cut [75] (fun v wx => v = .bool false ∧ Below wr.heap.size wr wx)
          case first =>
            go_region_held3 (fun w' => w'.cell? ⟨bx, 0, none⟩ = some (.int .i64 id) ∧ w'.cell? ⟨bx, 1, none⟩ = some (.int .i64 ep) ∧ w'.cell? ⟨bx, 2, none⟩ = some (.slice xa n1 xc) ∧ w'.cell? ⟨bx, 3, none⟩ = some (.slice xb m1 xd)) (first | (refine ⟨?_, ?_, ?_, ?_⟩ <;> with_reducible assumption) | go_keep) (first
              | (go_at_call 12; refine (known_w (w1 := wr) (by first | exact (Below.refl _ _).drew | assumption)).mono ?_; rintro e v1 ⟨rfl, hb1⟩; obtain ⟨k0, k1, k2, k3⟩ := (HSS.out.x.below hb1).im.cells)
              | (go_at_call 14; refine (Right8_eq id ep xa xc T xb xd (allS S) n1 m1 v1 HF.out.2.1 HF.out.2.2.1 (HSS.out.x.below hb1).rd HRT.out).mono ?_; rintro e v2 ⟨rfl, hb2'⟩; have hb2 := bel_call hb1 hb2'; obtain ⟨k0, k1, k2, k3⟩ := (HSS.out.x.below hb2).im.cells; clear hb2' hb1)
              | (go_at_call 11; refine (Image_q gs 0 T S id ep v2 (HSS.out.d.s.below hb2) n1 m1 _ HF.out.2.1 rfl HF.out.2.2.1).mono ?_; rintro e v3 ⟨ia, ic, ib, ie, rfl, hO3, hb3'⟩; have hb3 := bel_call hb2 hb3'; obtain ⟨k0, k1, k2, k3⟩ := (HSS.out.x.below hb3).im.cells; have HO3 := hO3.rd; clear hb3' hb2 hO3)
              | (go_at_call 22; refine (SameI_any id ep ia ic ib ie xa xc xb xd n1 m1 T (allS S) v3 HF.out.2.1 HF.out.2.2.1 HO3 (HSS.out.x.below hb3).rd).mono ?_; rintro e v4 ⟨rfl, hb4'⟩; have hb4 := bel_call hb3 hb4'; obtain ⟨k0, k1, k2, k3⟩ := (HSS.out.x.below hb4).im.cells; clear hb4' hb3 HO3)
              | (go_at_call 20; refine (Weight_o gs 0 T S id ep v4 (HSS.out.d.s.below hb4) n1 HF.out.2.1).mono ?_; rintro e v5 ⟨rfl, rfl⟩; rw [hcm]))
            all_goals
              go_wp2
              go_meet
              case rel => exact ⟨rfl, hb4⟩
          case rest =>
          obtain ⟨rfl, hB⟩ := hcut
          have HD : Hid (Dd w wc gs gt T S id ep) := HSS.out.d.below hB
          have HFF : Hid (Fine T S) := HF.out.1
          clear q0 q1 q2 q3 hB HSS HRT HF hn8 hwn hcm hpi hm8 hji
          go_wp2_with fail
          go_loopw [78] (fun i wq => ∃ (p : Nat) (T : List Pr) (S : List Se), p ≤ l2.length ∧ i = .int .i64 p ∧ Dd w wq gs gt T S id ep ∧ Fine T S) (fun i _ => l2.length - (intOf i).toNat)
          case atStart => exact ⟨0, T, S, Nat.zero_le _, rfl, HD.out, HFF.out⟩
          case round =>
            obtain ⟨q, T', S', hq, rfl, hD, hF⟩ := hrel
            have HE : Hid (Dd w _ gs gt T' S' id ep ∧ Fine T' S') := ⟨hD, hF⟩
            clear HD HFF
            by_cases hlq : q < l2.length
            · obtain ⟨b, off, rfl, hb, hcl⟩ := raw_cells H2.out (by omega)
              obtain ⟨r, hr⟩ : ∃ r, l2[q] = r := ⟨_, rfl⟩
              obtain ⟨q0, q1, q2, q3, q4, q5, q6, q7⟩ := hcl _ hD.bel q r (by rw [← hr]; exact List.getElem?_eq_getElem hlq)
              have hqi : (q : Int) < (l2.length : Int) := by omega
              obtain ⟨rk, ry, rv, ro, rc, rs, rb, rt⟩ := r
              simp only at q0 q1 q2 q3 q4 q5 q6 q7
              clear hcl hr hD hF
              go_wp2_with fail
              refine (Req_any ⟨rk, ry, rv, ro, rc, rs, rb, rt⟩ _).mono ?_
              rintro e w5 ⟨⟨qc, qs, qk, qy, qv, qo, rfl⟩, hb5⟩
              have hd5 := (HE.out.1.below (bel_al _ _)).below hb5
              have X5 : Hid (∃ w6 bq, w5.alloc (.cells #[.int .i64 qc, .int .i64 qs, .int .i64 qk, .string qy, .string qv, .string qo] 47) = w6 ∧ w5.heap.size = bq ∧ Dd w w6 gs gt T' S' id ep ∧ ReqAt w6 bq qc qs qk qy qv qo ∧ gt < bq) := ⟨_, _, rfl, rfl, hd5.below (bel_al w5 _), alloc_new w5 _, hd5.t.lt⟩
              clear hb5 hd5 q0 q1 q2 q3 q4 q5 q6 q7
              go_upto_region 21 with fail
              obtain ⟨w6, bq, e1, e2, D6, R6, L6⟩ := X5.out
              rw [e1, e2]
              obtain ⟨q0, q1, q2, q3, q4, q5⟩ := R6.cells
              have H6 : Hid (Dd w w6 gs gt T' S' id ep ∧ ReqAt w6 bq qc qs qk qy qv qo ∧ gt < bq) := ⟨D6, R6, L6⟩
              obtain ⟨⟨T2, S2, a, y, f⟩, hA⟩ : ∃ R, askS T' S' qc qs qk qy qv qo = R := ⟨_, rfl⟩
              have HA : Hid (_ = _) := hA
              clear X5 e1 e2 D6 R6 L6 hA
              go_wp2_with fail
              refine (Ask_eq gs 0 T' S' id ep _ _ _ _ _ _ _ H6.out.1.s _ _ _ _ _ HA.out).mono ?_
              rintro e w7 ⟨rfl, hSh, hP⟩
              have X7 : Hid (∃ w8 ba, w7.alloc (.cells #[.int .i64 a, .string y] 29) = w8 ∧ w7.heap.size = ba ∧ ShO w8 gs 0 T2 S2 id ep ∧ ShO w8 gt 0 T' S' id ep ∧ ReqAt w8 bq qc qs qk qy qv qo ∧ AnsAt w8 ba a y ∧ Below w.heap.size w w8 ∧ w.heap.size ≤ gs ∧ gs < gt ∧ gt < bq ∧ bq < ba) := by
                have h1 := H6.out.1.b0
                have h2 := H6.out.1.b1
                have h3 := H6.out.2.2
                have hR7 : ReqAt w7 bq qc qs qk qy qv qo := (hP.only.block bq (obj_lt H6.out.2.1) (by omega)).trans H6.out.2.1
                have hB7 : Below w.heap.size w w7 := H6.out.1.bel.trans (hP.only.below (fun i e => by omega) H6.out.1.bel.size)
                exact ⟨_, _, rfl, rfl, hSh.below (bel_al w7 _), (H6.out.1.t.apart hP.only (by omega)).below (bel_al w7 _), hR7.below (bel_al w7 _), alloc_new w7 _, bel_call hB7 (bel_al w7 _), h1, h2, h3, obj_lt hR7⟩
              clear hSh hP H6 q0 q1 q2 q3 q4 q5
              go_upto_region 22 with fail
              obtain ⟨w8, ba, e1, e2, H8⟩ := X7.out
              rw [e1, e2]
              obtain ⟨q0, q1, q2, q3, q4, q5⟩ := H8.2.2.1.cells
              have H8 : Hid _ := H8
              clear X7 e1 e2
              go_wp2_with fail
              refine (Ask_eq gt 0 T' S' id ep _ _ _ _ _ _ _ H8.out.2.1 _ _ _ _ _ HA.out).mono ?_
              rintro e w9 ⟨rfl, hSh, hP⟩
              have X9 : Hid (∃ wx bc, w9.alloc (.cells #[.int .i64 a, .string y] 29) = wx ∧ w9.heap.size = bc ∧ Dd w wx gs gt T2 S2 id ep ∧ AnsAt wx ba a y ∧ AnsAt wx bc a y) := by
                obtain ⟨s1, t1, r1, a1, b1, h1, h2, h3, h4⟩ := H8.out
                have hB9 : Below w.heap.size w w9 := b1.trans (hP.only.below (fun i e => by omega) b1.size)
                exact ⟨_, _, rfl, rfl, ⟨(s1.apart hP.only (by omega)).below (bel_al w9 _), hSh.below (bel_al w9 _), bel_call hB9 (bel_al w9 _), h1, h2⟩, (a1.only hP.only (by omega)).below (bel_al w9 _), alloc_new w9 _⟩
              have HF2 : Hid (Fine T2 S2) := HE.out.2.ask HA.out
              clear hSh hP H8 q0 q1 q2 q3 q4 q5 HA HE
              go_upto_region 23 with fail
              obtain ⟨wx, bc, e1, e2, DX, A1, A2⟩ := X9.out
              rw [e1, e2]
              obtain ⟨a0, a1⟩ := A1.cells
              obtain ⟨c0, c1⟩ := A2.cells
              have HX : Hid (Dd w wx gs gt T2 S2 id ep) := DX
              clear X9 e1 e2 DX A1 A2
              go_wp2
              exact ⟨⟨q + 1, T2, S2, hlq, by go_num, HX.out, HF2.out⟩, by simp [intOf]; omega⟩
            · have hqi : ¬ (q : Int) < (l2.length : Int) := by omega
              clear hD hF
              obtain ⟨nT, hnT⟩ : ∃ n, T'.length = n := ⟨_, rfl⟩
              obtain ⟨nS, hnS⟩ : ∃ n, (allS S').length = n := ⟨_, rfl⟩
              have HN : Hid (T'.length = nT ∧ (allS S').length = nS) := ⟨hnT, hnS⟩
              have HRT : Hid (rightI id ep T' (allS S') = true) := HE.out.2.right HIE.out.1 HIE.out.2
              clear hnT hnS
              go_wp2_with fail
              refine (Image_q gs 0 T' S' id ep _ HE.out.1.s nT nS _ HN.out.1 rfl HN.out.2).mono ?_
              rintro e v1 ⟨ia, ic, ib, ie, rfl, hO1, hb1⟩
              have H1 : Hid (RdI v1 ia ic T' ib ie (allS S') ∧ Dd w v1 gs gt T' S' id ep) := ⟨hO1.rd, HE.out.1.below hb1⟩
              clear hO1 hb1
              go_wp2_with fail
              refine (Image_q gt 0 T' S' id ep _ H1.out.2.t nT nS _ HN.out.1 rfl HN.out.2).mono ?_
              rintro e v2 ⟨ja, jc, jb, je, rfl, hO2, hb2⟩
              have H3 : Hid (RdI v2 ia ic T' ib ie (allS S') ∧ RdI v2 ja jc T' jb je (allS S') ∧ Dd w v2 gs gt T' S' id ep) := ⟨H1.out.1.below hb2, hO2.rd, H1.out.2.below hb2⟩
              clear hO2 hb2 H1
              go_wp2_with fail
              refine (SameI_any id ep ia ic ib ie ja jc jb je nT nS T' (allS S') _ HN.out.1 HN.out.2 H3.out.1 H3.out.2.1).mono ?_
              rintro e v3 ⟨rfl, hb3⟩
              have H4 : Hid (Dd w v3 gs gt T' S' id ep) := H3.out.2.2.below hb3
              clear hb3 H3
              go_wp2_with fail
              refine (Image_q gs 0 T' S' id ep _ H4.out.s nT nS _ HN.out.1 rfl HN.out.2).mono ?_
              rintro e v4 ⟨ka, kc, kb, ke, rfl, hO4, hb4⟩
              have H5 : Hid (RdI v4 ka kc T' kb ke (allS S') ∧ Dd w v4 gs gt T' S' id ep) := ⟨hO4.rd, H4.out.below hb4⟩
              clear hO4 hb4 H4
              go_wp2_with fail
              refine (Right8_eq id ep ka kc T' kb ke (allS S') nT nS _ HN.out.1 HN.out.2 H5.out.1 HRT.out).mono ?_
              rintro e v5 ⟨rfl, hb5⟩
              have H6 : Hid (Dd w v5 gs gt T' S' id ep) := H5.out.2.below hb5
              clear hb5 H5
              go_wp2
              go_ret
              exact ⟨rfl, H6.out.bel⟩
end Go.Proofs.Ytodgcfmacmfcpaa
