/- ShardTells: the walk. -/
import Derived.Test.YtodgcfmacmfcpaaZB
import Derived.Test.YtodgcfmacmfcpaaZC
import Derived.Test.YtodgcfmacmfcpaaYT
namespace Go.Proofs.Ytodgcfmacmfcpaa
open Go.RowKit

theorem raw_later {w w' : World} {ao : Option Addr} {n c : Nat} {l : List RawO} (h : RdG 8 RawO.Q w.heap.size w ao n c l) (hB : Below w.heap.size w w') : RdG 8 RawO.Q w'.heap.size w' ao n c l := by
  obtain ⟨g1, g2, g3, g4, g5⟩ := h
  refine ⟨g1, g2, g3, g4, ?_⟩
  rcases g5 with rfl | ⟨b, off, e, hb, hc⟩
  · exact .inl rfl
  · refine .inr ⟨b, off, e, Nat.lt_of_lt_of_le hb hB.size, fun k x hx => ?_⟩
    obtain ⟨cs, h1, h2, h3⟩ := hc k x hx
    exact ⟨cs, h1, h2, fun j u hj => (hB.cell (p := ⟨b, off + k * 8 + j, none⟩) hb).trans (h3 j u hj)⟩
/-- a shard, and the plain words' one beside it, alike -/
structure Sr (w0 w : World) (gs gr : Nat) (T : List Pr) (S : List Se) (id ep : Int) : Prop where
  s : ShO w gs 0 T S id ep
  r : RSh gs w gr T S id ep
  bel : Below w0.heap.size w0 w
  b0 : w0.heap.size ≤ gs
  b1 : gs < gr
theorem Sr.below {w0 w w' : World} {gs gr : Nat} {T : List Pr} {S : List Se} {id ep : Int} (h : Sr w0 w gs gr T S id ep) (hb : Below w.heap.size w w') : Sr w0 w' gs gr T S id ep := ⟨h.s.below hb, h.r.below hb, bel_call h.bel hb, h.b0, h.b1⟩
theorem Image_q2 (g fo : Nat) (T : List Pr) (S : List Se) (id ep : Int) (w : World) (h : ShO w g fo T S id ep) (n m : Nat) (hn : T.length = n) (hm : (allS S).length = m) :
    Calls Try.prog 11 #[.pointer (some ⟨g, fo, none⟩)] w fun e w' => ∃ ao cap bo cap2, e = .returned (.agg #[.int .i64 id, .int .i64 ep, .slice ao n cap, .slice bo m cap2]) ∧ RdI w' ao cap T bo cap2 (allS S) ∧ Below w.heap.size w w' := by
  subst hn hm; exact (Image_o g fo T S id ep w h).mono fun _ _ ⟨a, b, c, d, h1, h2, h3⟩ => ⟨a, b, c, d, h1, h2.rd, h3⟩
theorem ImageR_q2 (N g : Nat) (T : List Pr) (S : List Se) (id ep : Int) (w : World) (h : RSh N w g T S id ep) (n m : Nat) (hn : T.length = n) (hm : (allS S).length = m) :
    Calls Try.prog 23 #[.pointer (some ⟨g, 0, none⟩)] w fun e w' => ∃ ao cap bo cap2, e = .returned (.agg #[.int .i64 id, .int .i64 ep, .slice ao n cap, .slice bo m cap2]) ∧ RdI w' ao cap T bo cap2 (allS S) ∧ Below w.heap.size w w' := by
  subst hn hm; exact (ImageR_o N g T S id ep w h).mono fun _ _ ⟨a, b, c, d, h1, h2, h3⟩ => ⟨a, b, c, d, h1, h2.rd, h3⟩
theorem Right8_w {w1 W : World} (hB : Below w1.heap.size w1 W) {id ep : Int} {ao : Option Addr} {cap : Nat} {T : List Pr} {bo : Option Addr} {cap2 : Nat} {S : List Se} {n m : Nat} (hn : T.length = n) (hm : S.length = m) (h : RdI w1 ao cap T bo cap2 S) {r : Bool} (hr : rightI id ep T S = r) :
    Calls Try.prog 14 #[.agg #[.int .i64 id, .int .i64 ep, .slice ao n cap, .slice bo m cap2]] W fun e w' => e = .returned (.bool r) ∧ Below w1.heap.size w1 w' := (Right8_eq id ep ao cap T bo cap2 S n m W hn hm (h.below hB) hr).mono fun _ _ ⟨h1, h2⟩ => ⟨h1, bel_call hB h2⟩
theorem RightI_w {w1 W : World} (hB : Below w1.heap.size w1 W) {id ep : Int} {ao : Option Addr} {cap : Nat} {T : List Pr} {bo : Option Addr} {cap2 : Nat} {S : List Se} {n m : Nat} (hn : T.length = n) (hm : S.length = m) (h : RdI w1 ao cap T bo cap2 S) {r : Bool} (hr : rightI id ep T S = r) :
    Calls Try.prog 16 #[.agg #[.int .i64 id, .int .i64 ep, .slice ao n cap, .slice bo m cap2]] W fun e w' => e = .returned (.bool r) ∧ Below w1.heap.size w1 w' := (RightI_any id ep ao cap T bo cap2 S n m W hn hm (h.below hB) hr).mono fun _ _ ⟨h1, h2⟩ => ⟨h1, bel_call hB h2⟩
set_option maxRecDepth 20000 in
set_option maxHeartbeats 8000000 in
theorem ShardTells_any (k epoch : Int) (ao : Option Addr) (n c : Nat) (l : List RawO) (bend : Int) (ao2 : Option Addr) (n2 c2 : Nat) (l2 : List RawO) (w : World) (h0 : RdG 8 RawO.Q w.heap.size w ao n c l) (h2 : RdG 8 RawO.Q w.heap.size w ao2 n2 c2 l2) :
    Calls Try.prog 4 #[.int .i64 k, .int .i64 epoch, .slice ao n c, .int .i64 bend, .slice ao2 n2 c2] w fun e w' => e = .returned (.bool true) ∧ Below w.heap.size w w' := by
  obtain ⟨id, hid⟩ : ∃ id, pick k 6 = id := ⟨_, rfl⟩
  obtain ⟨ep, hep⟩ : ∃ ep, 1 + pick epoch 6 = ep := ⟨_, rfl⟩
  have H2 : Hid (RdG 8 RawO.Q w.heap.size w ao2 n2 c2 l2) := h2
  obtain ⟨hl2, hm2⟩ := h2.len
  subst hl2
  have HQ0 : Hid (RdG 8 RawO.Q w.heap.size w ao n c l) := h0
  have HID : Hid (pick k 6 = id ∧ 1 + pick epoch 6 = ep) := ⟨hid, hep⟩
  clear h0 h2 hid hep
  go_enter Try.func4, Try.ntmps4
  go_wp2_with fail
  refine (HImage_any k epoch ao n c l bend _ HQ0.out).mono ?_
  rintro e w1 ⟨yi, ye, yn, ym, TY, SY, ya, yc, yb, yd, rfl, hyn, hym, hO, hb⟩
  obtain ⟨ry, hry⟩ : ∃ r, rightI yi ye TY SY = r := ⟨_, rfl⟩
  have HX : Hid (∃ w2 bz, w1.alloc (.cells #[.int .i64 yi, .int .i64 ye, .slice ya yn yc, .slice yb ym yd] 41) = w2 ∧ w1.heap.size = bz ∧ ImAt w2 bz yi ye (.slice ya yn yc) (.slice yb ym yd) ∧ RdI w2 ya yc TY yb yd SY ∧ Below w.heap.size w w2) :=
    ⟨_, _, rfl, rfl, alloc_new w1 _, (hO.below (bel_al w1 _)).rd, bel_call hb (bel_al w1 _)⟩
  have HR : Hid (rightI yi ye TY SY = ry ∧ TY.length = yn ∧ SY.length = ym) := ⟨hry, hyn, hym⟩
  clear hry hyn hym hO hb
  go_upto_region 2 with fail
  obtain ⟨w2, bz, e1, e2, X2, R2, B2⟩ := HX.out
  rw [e1, e2]
  have H3 : Hid (ImAt w2 bz yi ye (.slice ya yn yc) (.slice yb ym yd) ∧ RdI w2 ya yc TY yb yd SY ∧ Below w.heap.size w w2) := ⟨X2, R2, B2⟩
  obtain ⟨q0, q1, q2, q3⟩ := X2.cells
  clear HX e1 e2 X2 R2 B2
  go_cut [31] (fun v wx => v = .bool false ∧ Below w2.heap.size w2 wx)
  case first =>
    have tokA : True := trivial
    cases ry
    all_goals
      go_region_held3 (fun w' => w'.cell? ⟨bz, 0, none⟩ = some (.int .i64 yi) ∧ w'.cell? ⟨bz, 1, none⟩ = some (.int .i64 ye) ∧ w'.cell? ⟨bz, 2, none⟩ = some (.slice ya yn yc) ∧ w'.cell? ⟨bz, 3, none⟩ = some (.slice yb ym yd)) (first | (refine ⟨?_, ?_, ?_, ?_⟩ <;> with_reducible assumption) | go_keep) (first
        | (go_at_call 14; refine (Right8_w (w1 := w2) (by first | exact (Below.refl _ _).drew | assumption) HR.out.2.1 HR.out.2.2 H3.out.2.1 HR.out.1).mono ?_; rintro e v1 ⟨rfl, hb1⟩; obtain ⟨k0, k1, k2, k3⟩ := (H3.out.1.below hb1).cells)
        | (go_at_call 16; refine (RightI_w (w1 := w2) (by first | exact (Below.refl _ _).drew | assumption) HR.out.2.1 HR.out.2.2 H3.out.2.1 HR.out.1).mono ?_; rintro e v2 ⟨rfl, hb2⟩; obtain ⟨k0, k1, k2, k3⟩ := (H3.out.1.below hb2).cells))
      all_goals
        go_wp2
        go_meet
        case rel => exact ⟨rfl, hb2⟩
  case rest =>
  obtain ⟨rfl, hB⟩ := hcut
  have HB3 : Hid (Below w.heap.size w wc) := bel_call H3.out.2.2 hB
  clear hB H3 HR q0 q1 q2 q3
  go_wp2_with fail
  refine (HImage_fine k epoch ao n c l 0 0 id ep _ (raw_later HQ0.out HB3.out) rfl (by omega) HID.out.1 HID.out.2).mono ?_
  rintro e w3 ⟨T, S, xa, xc, xb, xd, rfl, hF, hO, hb⟩
  obtain ⟨n1, hn1⟩ : ∃ n, T.length = n := ⟨_, rfl⟩
  obtain ⟨m1, hm1⟩ : ∃ n, (allS S).length = n := ⟨_, rfl⟩
  rw [hn1, hm1]
  have HF : Hid (Fine T S ∧ T.length = n1 ∧ (allS S).length = m1) := ⟨hF, hn1, hm1⟩
  have HX : Hid (∃ w4 bx, w3.alloc (.cells #[.int .i64 id, .int .i64 ep, .slice xa n1 xc, .slice xb m1 xd] 41) = w4 ∧ w3.heap.size = bx ∧ ImAt w4 bx id ep (.slice xa n1 xc) (.slice xb m1 xd) ∧ RdI w4 xa xc T xb xd (allS S) ∧ Below w.heap.size w w4 ∧ w.heap.size ≤ bx) :=
    ⟨_, _, rfl, rfl, alloc_new w3 _, (hO.below (bel_al w3 _)).rd, bel_call (bel_call HB3.out hb) (bel_al w3 _), (bel_call HB3.out hb).size⟩
  clear hF hn1 hm1 hO hb HQ0 HID HB3
  go_upto_region 5 with fail
  obtain ⟨w4, bx, e1, e2, X4, R4, B4, L4⟩ := HX.out
  rw [e1, e2]
  have H5 : Hid (ImAt w4 bx id ep (.slice xa n1 xc) (.slice xb m1 xd) ∧ RdI w4 xa xc T xb xd (allS S) ∧ Below w.heap.size w w4 ∧ w.heap.size ≤ bx) := ⟨X4, R4, B4, L4⟩
  obtain ⟨q0, q1, q2, q3⟩ := X4.cells
  clear HX e1 e2 X4 R4 B4 L4
  go_wp2_with fail
  refine (ShOf_eq xa n1 xc T xb m1 xd (allS S) id ep _ HF.out.2.1 H5.out.2.1.ps HF.out.2.2 H5.out.2.1.xs T S HF.out.1.puts HF.out.1.notes).mono ?_
  rintro e w5 ⟨C, rfl, hC, hb3⟩
  obtain ⟨hi, h35, h1⟩ := hC.rows
  have hn3 := alloc_new w5 zeroH
  unfold zeroH at hn3
  have HC : Hid (ShC C T S id ep ∧ ImAt w5 bx id ep (.slice xa n1 xc) (.slice xb m1 xd) ∧ RdI w5 xa xc T xb xd (allS S) ∧ Below w.heap.size w w5 ∧ w.heap.size ≤ bx) := ⟨hC, H5.out.1.below hb3, H5.out.2.1.below hb3, bel_call H5.out.2.2.1 hb3, H5.out.2.2.2⟩
  clear hC hb3 H5 q0 q1 q2 q3
  have tokA : True := trivial
  go_upto_region 6 with (have _t := tokA; refine wpList_store_row rfl 36 _ _ rfl w5.heap.size C rfl rfl 36 _ hn3 hi h35.out h1 ?_; obtain ⟨w6, hw6⟩ : ∃ w4, w4 = (w5.alloc zeroH).setRow w5.heap.size C := ⟨_, rfl⟩; have HN := store_newH HC.out.1 hw6; unfold zeroH at hw6; rw [← hw6]; clear hw6 hn3 tokA _t)
  obtain ⟨gs, hgs⟩ : ∃ gs, w5.heap.size = gs := ⟨_, rfl⟩
  have H6 : Hid (ShO w6 gs 0 T S id ep ∧ ImAt w6 bx id ep (.slice xa n1 xc) (.slice xb m1 xd) ∧ RdI w6 xa xc T xb xd (allS S) ∧ Below w.heap.size w w6 ∧ w.heap.size ≤ gs) := by
    subst hgs
    exact ⟨HN.1, HC.out.2.1.below HN.2.1, HC.out.2.2.1.below HN.2.1, bel_call HC.out.2.2.2.1 HN.2.1, HC.out.2.2.2.1.size⟩
  rw [hgs]
  clear HN HC hi h35 h1 hgs
  obtain ⟨q0, q1, q2, q3⟩ := H6.out.2.1.cells
  go_wp2_with fail
  refine (ShardFrom_any gs xa n1 xc T xb m1 xd (allS S) id ep _ HF.out.2.1 H6.out.2.2.1.ps HF.out.2.2 H6.out.2.2.1.xs H6.out.1.lt).mono ?_
  rintro e w7 ⟨gr, rfl, hSh, hb, hg⟩
  rw [HF.out.1.puts, HF.out.1.notes] at hSh
  have H7 : Hid (Sr w w7 gs gr T S id ep) := ⟨H6.out.1.below hb, hSh, bel_call H6.out.2.2.2.1 hb, H6.out.2.2.2.2, by have := H6.out.1.lt; omega⟩
  have HFF : Hid (Fine T S) := HF.out.1
  clear hSh hb hg H6 HF q0 q1 q2 q3
  go_wp2_with fail
  go_loopw [42] (fun i wq => ∃ (p : Nat) (T : List Pr) (S : List Se), p ≤ l2.length ∧ i = .int .i64 p ∧ Sr w wq gs gr T S id ep ∧ Fine T S) (fun i _ => l2.length - (intOf i).toNat)
  case atStart => exact ⟨0, T, S, Nat.zero_le _, rfl, H7.out, HFF.out⟩
  case round =>
    obtain ⟨q, T', S', hq, rfl, hD, hF⟩ := hrel
    have HE : Hid (Sr w _ gs gr T' S' id ep ∧ Fine T' S') := ⟨hD, hF⟩
    clear H7 HFF
    by_cases hlq : q < l2.length
    · obtain ⟨b, off, rfl, hb, hcl⟩ := raw_cells H2.out (by omega)
      obtain ⟨r, hr⟩ : ∃ r, l2[q] = r := ⟨_, rfl⟩
      obtain ⟨q0, q1, q2, q3, q4, q5, q6, q7⟩ := hcl _ hD.bel q r (by rw [← hr]; exact List.getElem?_eq_getElem hlq)
      have hqi : (q : Int) < (l2.length : Int) := by omega
      obtain ⟨rk, ry', rv, ro, rc, rs, rb, rt⟩ := r
      simp only at q0 q1 q2 q3 q4 q5 q6 q7
      clear hcl hr hD hF
      go_wp2_with fail
      refine (Req_any ⟨rk, ry', rv, ro, rc, rs, rb, rt⟩ _).mono ?_
      rintro e w5 ⟨⟨qc, qs, qk, qy, qv, qo, rfl⟩, hb5⟩
      have hd5 := (HE.out.1.below (bel_al _ _)).below hb5
      have X5 : Hid (∃ w6 bq, w5.alloc (.cells #[.int .i64 qc, .int .i64 qs, .int .i64 qk, .string qy, .string qv, .string qo] 47) = w6 ∧ w5.heap.size = bq ∧ Sr w w6 gs gr T' S' id ep ∧ ReqAt w6 bq qc qs qk qy qv qo ∧ gr < bq) := ⟨_, _, rfl, rfl, hd5.below (bel_al w5 _), alloc_new w5 _, hd5.r.lt⟩
      clear hb5 hd5 q0 q1 q2 q3 q4 q5 q6 q7
      go_upto_region 11 with fail
      obtain ⟨w6, bq, e1, e2, D6, R6, L6⟩ := X5.out
      rw [e1, e2]
      obtain ⟨q0, q1, q2, q3, q4, q5⟩ := R6.cells
      have H6 : Hid (Sr w w6 gs gr T' S' id ep ∧ ReqAt w6 bq qc qs qk qy qv qo ∧ gr < bq) := ⟨D6, R6, L6⟩
      obtain ⟨⟨T2, S2, a, y, f⟩, hA⟩ : ∃ R, askS T' S' qc qs qk qy qv qo = R := ⟨_, rfl⟩
      have HA : Hid (_ = _) := hA
      clear X5 e1 e2 D6 R6 L6 hA
      go_wp2_with fail
      refine (Ask_eq gs 0 T' S' id ep _ _ _ _ _ _ _ H6.out.1.s _ _ _ _ _ HA.out).mono ?_
      rintro e w7 ⟨rfl, hSh, hP⟩
      have X7 : Hid (∃ w8 ba, w7.alloc (.cells #[.int .i64 a, .string y] 29) = w8 ∧ w7.heap.size = ba ∧ ShO w8 gs 0 T2 S2 id ep ∧ RSh gs w8 gr T' S' id ep ∧ ReqAt w8 bq qc qs qk qy qv qo ∧ AnsAt w8 ba a y ∧ Below w.heap.size w w8 ∧ w.heap.size ≤ gs ∧ gs < gr ∧ gr < bq ∧ bq < ba) := by
        have h1 := H6.out.1.b0
        have h2 := H6.out.1.b1
        have h3 := H6.out.2.2
        have hR7 : ReqAt w7 bq qc qs qk qy qv qo := (hP.only.block bq (obj_lt H6.out.2.1) (by omega)).trans H6.out.2.1
        have hB7 : Below w.heap.size w w7 := H6.out.1.bel.trans (hP.only.below (fun i e => by omega) H6.out.1.bel.size)
        exact ⟨_, _, rfl, rfl, hSh.below (bel_al w7 _), (H6.out.1.r.apart hP.only (by omega)).below (bel_al w7 _), hR7.below (bel_al w7 _), alloc_new w7 _, bel_call hB7 (bel_al w7 _), h1, h2, h3, obj_lt hR7⟩
      clear hSh hP H6 q0 q1 q2 q3 q4 q5
      go_upto_region 12 with fail
      obtain ⟨w8, ba, e1, e2, H8⟩ := X7.out
      rw [e1, e2]
      obtain ⟨q0, q1, q2, q3, q4, q5⟩ := H8.2.2.1.cells
      have H8 : Hid _ := H8
      clear X7 e1 e2
      go_wp2_with fail
      refine (askR_eq gs gr T' S' id ep _ _ _ _ _ _ _ H8.out.2.1 (by have := H8.out.1.lt; omega) _ _ _ _ _ HA.out).mono ?_
      rintro e w9 ⟨rfl, hSh, hP⟩
      have X9 : Hid (∃ wx bc, w9.alloc (.cells #[.int .i64 a, .string y] 29) = wx ∧ w9.heap.size = bc ∧ Sr w wx gs gr T2 S2 id ep ∧ AnsAt wx ba a y ∧ AnsAt wx bc a y) := by
        obtain ⟨s1, t1, r1, a1, b1, h1, h2, h3, h4⟩ := H8.out
        have hB9 : Below w.heap.size w w9 := b1.trans (hP.only.below (fun i e => by omega) b1.size)
        exact ⟨_, _, rfl, rfl, ⟨(s1.apart hP.only (by omega)).below (bel_al w9 _), hSh.below (bel_al w9 _), bel_call hB9 (bel_al w9 _), h1, h2⟩, (a1.only hP.only (by omega)).below (bel_al w9 _), alloc_new w9 _⟩
      have HF2 : Hid (Fine T2 S2) := HE.out.2.ask HA.out
      clear hSh hP H8 q0 q1 q2 q3 q4 q5 HA HE
      obtain ⟨nT, hnT⟩ : ∃ n, T2.length = n := ⟨_, rfl⟩
      obtain ⟨nS, hnS⟩ : ∃ n, (allS S2).length = n := ⟨_, rfl⟩
      have HN : Hid (T2.length = nT ∧ (allS S2).length = nS) := ⟨hnT, hnS⟩
      have hcm : (nT : Int) + 1 = 1 + (nT : Int) := by omega
      clear hnT hnS
      go_upto_region 13 with fail
      obtain ⟨wx, bc, e1, e2, DX, A1, A2⟩ := X9.out
      rw [e1, e2]
      obtain ⟨a0, a1⟩ := A1.cells
      obtain ⟨c0, c1⟩ := A2.cells
      have HX : Hid (Sr w wx gs gr T2 S2 id ep) := DX
      clear X9 e1 e2 DX A1 A2
      go_wp2_with first | (go_at_call 20; refine (Weight_o gs 0 T2 S2 id ep _ HX.out.s nT HN.out.1).mono ?_; rintro e w' ⟨rfl, rfl⟩; rw [hcm]) | (go_at_call 21; refine (WeightR_any gs gr T2 S2 id ep _ HX.out.r nT HN.out.1).mono ?_; rintro e w' ⟨rfl, rfl⟩)
      refine (Image_q2 gs 0 T2 S2 id ep _ HX.out.s nT nS HN.out.1 HN.out.2).mono ?_
      rintro e v1 ⟨ia, ic, ib, ie, rfl, hO1, hb1⟩
      have H1 : Hid (RdI v1 ia ic T2 ib ie (allS S2) ∧ Sr w v1 gs gr T2 S2 id ep) := ⟨hO1, HX.out.below hb1⟩
      clear hO1 hb1 HX a0 a1 c0 c1
      go_wp2_with fail
      refine (ImageR_q2 gs gr T2 S2 id ep _ H1.out.2.r nT nS HN.out.1 HN.out.2).mono ?_
      rintro e v2 ⟨ja, jc, jb, je, rfl, hO2, hb2⟩
      have H3 : Hid (RdI v2 ia ic T2 ib ie (allS S2) ∧ RdI v2 ja jc T2 jb je (allS S2) ∧ Sr w v2 gs gr T2 S2 id ep) := ⟨H1.out.1.below hb2, hO2, H1.out.2.below hb2⟩
      clear hO2 hb2 H1
      go_wp2_with fail
      refine (SameI_any id ep ia ic ib ie ja jc jb je nT nS T2 (allS S2) _ HN.out.1 HN.out.2 H3.out.1 H3.out.2.1).mono ?_
      rintro e v3 ⟨rfl, hb3⟩
      have H4 : Hid (Sr w v3 gs gr T2 S2 id ep) := H3.out.2.2.below hb3
      clear hb3 H3
      go_wp2
      exact ⟨⟨q + 1, T2, S2, hlq, by go_num, H4.out, HF2.out⟩, by simp [intOf]; omega⟩
    · have hqi : ¬ (q : Int) < (l2.length : Int) := by omega
      clear hD hF
      obtain ⟨nT, hnT⟩ : ∃ n, T'.length = n := ⟨_, rfl⟩
      obtain ⟨nS, hnS⟩ : ∃ n, (allS S').length = n := ⟨_, rfl⟩
      have HN : Hid (T'.length = nT ∧ (allS S').length = nS) := ⟨hnT, hnS⟩
      clear hnT hnS
      go_wp2_with fail
      refine (knownH_any _).mono ?_
      rintro e v0 ⟨rfl, hb0⟩
      have H0 : Hid (Sr w v0 gs gr T' S' id ep) := HE.out.1.below hb0
      clear hb0 HE
      go_wp2_with fail
      refine (Image_q2 gs 0 T' S' id ep _ H0.out.s nT nS HN.out.1 HN.out.2).mono ?_
      rintro e v1 ⟨ia, ic, ib, ie, rfl, hO1, hb1⟩
      have H1 : Hid (RdI v1 ia ic T' ib ie (allS S') ∧ Sr w v1 gs gr T' S' id ep) := ⟨hO1, H0.out.below hb1⟩
      clear hO1 hb1 H0
      go_wp2_with fail
      refine (ImageR_q2 gs gr T' S' id ep _ H1.out.2.r nT nS HN.out.1 HN.out.2).mono ?_
      rintro e v2 ⟨ja, jc, jb, je, rfl, hO2, hb2⟩
      have H3 : Hid (RdI v2 ia ic T' ib ie (allS S') ∧ RdI v2 ja jc T' jb je (allS S') ∧ Sr w v2 gs gr T' S' id ep) := ⟨H1.out.1.below hb2, hO2, H1.out.2.below hb2⟩
      clear hO2 hb2 H1
      go_wp2_with fail
      refine (SameI_any id ep ia ic ib ie ja jc jb je nT nS T' (allS S') _ HN.out.1 HN.out.2 H3.out.1 H3.out.2.1).mono ?_
      rintro e v3 ⟨rfl, hb3⟩
      have H4 : Hid (Sr w v3 gs gr T' S' id ep) := H3.out.2.2.below hb3
      clear hb3 H3
      go_wp2
      go_ret
      exact ⟨rfl, H4.out.bel⟩
end Go.Proofs.Ytodgcfmacmfcpaa
