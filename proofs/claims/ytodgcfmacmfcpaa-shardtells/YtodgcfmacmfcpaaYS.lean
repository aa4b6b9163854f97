/- Images of raw operations (osmosishand.Image), where they are not bent. -/
import Derived.Test.YtodgcfmacmfcpaaYQ
import Derived.Test.YtodgcfmacmfcpaaYR
namespace Go.Proofs.Ytodgcfmacmfcpaa
open Go.RowKit

theorem Req_rq (rk ry rv ro rc rs : Int) (rt : ByteArray) (w : World) {q : Rq} (hq : q = ⟨pick rc 4, 1 + pick rs 9, oKind rk, keyS ry, oVal rk rv, oOld rk ro⟩) :
    Calls Try.prog 18 #[.agg #[.int .i64 rk, .int .i64 ry, .int .i64 rv, .int .i64 ro, .int .i64 rc, .int .i64 rs, .int .i64 0, .string rt]] w fun e w' =>
      e = .returned (.agg #[.int .i64 q.c, .int .i64 q.s, .int .i64 q.k, .string q.key, .string q.v, .string q.old]) ∧ Below w.heap.size w w' := by
  subst hq
  exact Req_fine ⟨rk, ry, rv, ro, rc, rs, 0, rt⟩ rfl w
/-- what stands while the requests are made: the result's block N, the plain words' shard in block g -/
structure Mk (w0 w : World) (N g : Nat) (T : List Pr) (S : List Se) (id ep : Int) : Prop where
  sh : RSh N w g T S id ep
  fine : Fine T S
  im : ImAt w N 0 0 (.slice none 0 0) (.slice none 0 0)
  bel : Below w0.heap.size w0 w
  b0 : w0.heap.size ≤ N
  b1 : N < g
section
variable {w0 w w' : World} {N g : Nat} {T T' : List Pr} {S S' : List Se} {id ep : Int}
theorem Mk.below (h : Mk w0 w N g T S id ep) (hb : Below w.heap.size w w') : Mk w0 w' N g T S id ep := ⟨h.sh.below hb, h.fine, h.im.below hb, bel_call h.bel hb, h.b0, h.b1⟩
theorem Mk.turn (h : Mk w0 w N g T S id ep) (hS : RSh N w' g T' S' id ep) (hF : Fine T' S') (hP : Part g 0 35 w w') : Mk w0 w' N g T' S' id ep :=
  ⟨hS, hF, h.im.only hP.only (fun e => by have := h.b1; omega), h.bel.trans (hP.only.below (fun i e => by have := h.b0; have := h.b1; omega) h.bel.size), h.b0, h.b1⟩
end
set_option maxRecDepth 20000 in
set_option maxHeartbeats 8000000 in
theorem HImage_fine (k epoch : Int) (ao : Option Addr) (n c : Nat) (l : List RawO) (bend m : Int) (id ep : Int) (w : World) (h0 : RdG 8 RawO.Q w.heap.size w ao n c l) (hm : pick bend 14 = m) (h8 : m < 8) (hid : pick k 6 = id) (hep : 1 + pick epoch 6 = ep) :
    Calls Try.prog 15 #[.int .i64 k, .int .i64 epoch, .slice ao n c, .int .i64 bend] w fun e w' => ∃ T S ao' cap bo cap2, e = .returned (.agg #[.int .i64 id, .int .i64 ep, .slice ao' T.length cap, .slice bo (allS S).length cap2]) ∧ Fine T S ∧ OwnI w.heap.size w' ao' cap T bo cap2 (allS S) ∧ Below w.heap.size w w' := by
  have H0 : Hid (RdG 8 RawO.Q w.heap.size w ao n c l) := h0
  obtain ⟨hl1, hm1⟩ := h0.len
  subst hl1
  obtain ⟨e6, he6⟩ : ∃ e6, pick epoch 6 = e6 := ⟨_, rfl⟩
  have l3 := pick_lo epoch 6 (by omega)
  have l4 := pick_hi epoch 6 (by omega)
  have l5 := pick_lo bend 14 (by omega)
  rw [he6] at l3 l4
  rw [hm] at l5
  have HID : Hid (pick k 6 = id) := hid
  have HE6 : Hid (pick epoch 6 = e6) := he6
  have HEP : Hid (1 + e6 = ep) := by rw [he6] at hep; exact hep
  have HM : Hid (pick bend 14 = m) := hm
  have n8 : ¬ m = 8 := by omega
  have n9 : ¬ m = 9 := by omega
  have n10 : ¬ m = 10 := by omega
  have n11 : ¬ m = 11 := by omega
  have n12 : ¬ m = 12 := by omega
  have n13 : ¬ m = 13 := by omega
  have hw : IntKind.i64.wrap (1 + e6) = 1 + e6 := by rw [IntKind.wrap_i64]; omega
  have HI : Hid (∃ w1 : World, w.alloc (.cells #[.int .i64 0, .int .i64 0, .slice none 0 0, .slice none 0 0] 41) = w1 ∧ ImAt w1 w.heap.size 0 0 (.slice none 0 0) (.slice none 0 0) ∧ Below w.heap.size w w1) :=
    ⟨_, rfl, alloc_new w _, bel_al w _⟩
  clear h0 hid hep hm he6 h8
  go_enter Try.func15, Try.ntmps15
  go_upto_region 1 with fail
  obtain ⟨w1, e1, I1, B1⟩ := HI.out
  rw [e1]
  have HW : Hid (ImAt w1 w.heap.size 0 0 (.slice none 0 0) (.slice none 0 0) ∧ Below w.heap.size w w1) := ⟨I1, B1⟩
  have hlt := I1.lt
  clear HI e1 I1 B1
  have tokA : True := trivial
  go_wp2_with (go_at_call 24; first | (have _t := tokA; refine (Pick_eq _ _ _ (by omega) (by omega) HID.out).mono ?_; rintro e w' ⟨rfl, rfl⟩; clear tokA _t) | (refine (Pick_eq _ _ _ (by omega) (by omega) HE6.out).mono ?_; rintro e w' ⟨rfl, rfl⟩))
  rw [HEP.out]
  refine (ShardFrom_any w.heap.size none 0 0 [] none 0 0 [] id ep _ rfl (PrR.nil _) rfl (ArK.nil _ _ _) hlt).mono ?_
  rintro e w2 ⟨g, rfl, hSh, hb, hg⟩
  have HK : Hid (Mk w w2 w.heap.size g [] zeroS id ep) := ⟨hSh, Fine.zero, HW.out.1.below hb, bel_call HW.out.2 hb, Nat.le_refl _, by omega⟩
  clear hSh hb hg hlt
  go_wp2_with fail
  go_loopw [10] (fun i wr => ∃ (j : Nat) (T : List Pr) (S : List Se), j ≤ l.length ∧ j ≤ 12 ∧ i = .int .i64 j ∧ Mk w wr w.heap.size g T S id ep) (fun i _ => l.length - (intOf i).toNat)
  case atStart => exact ⟨0, [], zeroS, Nat.zero_le _, by omega, rfl, HK.out⟩
  case round =>
    obtain ⟨j, T, S, hj, hj12, rfl, hS⟩ := hrel
    have HS : Hid (Mk w wr w.heap.size g T S id ep) := hS
    by_cases hlt : j < l.length ∧ j < 12
    · obtain ⟨hlt1, hlt2⟩ := hlt
      obtain ⟨b, off, rfl, hb, hcl⟩ := raw_cells H0.out (by omega)
      obtain ⟨r, hr⟩ : ∃ r, l[j] = r := ⟨_, rfl⟩
      obtain ⟨q0, q1, q2, q3, q4, q5, q6, q7⟩ := hcl wr hS.bel j r (by rw [← hr]; exact List.getElem?_eq_getElem hlt1)
      have hji : (j : Int) < (l.length : Int) := by omega
      have hj12' : (j : Int) < 12 := by omega
      obtain ⟨rk, ry, rv, ro, rc, rs, rb, rt⟩ := r
      simp only at q0 q1 q2 q3 q4 q5 q6 q7
      obtain ⟨k3, hk3⟩ : ∃ k3, pick rk 3 = k3 := ⟨_, rfl⟩
      have m3 := pick_lo rk 3 (by omega)
      have m4 := pick_hi rk 3 (by omega)
      rw [hk3] at m3 m4
      have HK3 : Hid (pick rk 3 = k3) := hk3
      obtain ⟨q, hq⟩ : ∃ q : Rq, q = ⟨pick rc 4, 1 + pick rs 9, oKind (1 + k3), keyS ry, oVal (1 + k3) rv, oOld (1 + k3) ro⟩ := ⟨_, rfl⟩
      have HQ : Hid (q = _) := hq
      clear hcl hr hq hk3 hS HK
      go_wp2_with (go_at_call 24; refine (Pick_eq _ _ _ (by omega) (by omega) HK3.out).mono ?_; rintro e w' ⟨rfl, rfl⟩)
      refine (Req_rq (1 + k3) ry rv ro rc rs rt _ HQ.out).mono ?_
      rintro e w5 ⟨rfl, hb5⟩
      have H5 : Hid (Mk w w5 w.heap.size g T S id ep) := (HS.out.below (bel_al wr _)).below hb5
      obtain ⟨⟨T', S', a, y, f⟩, hA⟩ : ∃ R, askS T S q.c q.s q.k q.key q.v q.old = R := ⟨_, rfl⟩
      have HA : Hid (_ = _) := hA
      clear hb5 hA HQ HS q0 q1 q2 q3 q4 q5 q6 q7
      go_wp2_with fail
      refine (askR_eq w.heap.size g T S id ep _ _ _ _ _ _ _ H5.out.sh (by have := H5.out.sh.lt; have := H5.out.b1; omega) _ _ _ _ _ HA.out).mono ?_
      rintro e w6 ⟨rfl, hSh, hP⟩
      have H6 : Hid (Mk w w6 w.heap.size g T' S' id ep) := H5.out.turn hSh (H5.out.fine.ask HA.out) hP
      clear hSh hP H5
      go_wp2
      refine ⟨⟨j + 1, T', S', hlt1, hlt2, by go_num, H6.out⟩, by simp [intOf]; omega⟩
    · have hx : (¬ (j : Int) < (l.length : Int)) ∨ ((j : Int) < (l.length : Int) ∧ ¬ (j : Int) < 12) := by omega
      clear hlt hS HK
      rcases hx with hx | ⟨hx, hx2⟩
      all_goals
        go_wp2_with fail
        refine (ImageR_o w.heap.size g T S id ep _ HS.out.sh).mono ?_
        rintro e w3 ⟨ao', cap, bo, cap2, rfl, hO, hb⟩
        obtain ⟨n1, hn1⟩ : ∃ n, T.length = n := ⟨_, rfl⟩
        obtain ⟨n2, hn2⟩ : ∃ n, (allS S).length = n := ⟨_, rfl⟩
        rw [hn1, hn2]
        have HFN : Hid (Fine T S) := HS.out.fine
        have HN : Hid (T.length = n1 ∧ (allS S).length = n2) := ⟨hn1, hn2⟩
        have HX : Hid (∃ w4 b4, w3.alloc (.cells #[.int .i64 id, .int .i64 ep, .slice ao' n1 cap, .slice bo n2 cap2] 41) = w4 ∧ w3.heap.size = b4 ∧ ImAt w4 b4 id ep (.slice ao' n1 cap) (.slice bo n2 cap2) ∧ OwnI (w.heap.size + 1) w4 ao' cap T bo cap2 (allS S) ∧ ImAt w4 w.heap.size 0 0 (.slice none 0 0) (.slice none 0 0) ∧ Below w.heap.size w w4 ∧ w.heap.size ≠ b4) :=
          ⟨_, _, rfl, rfl, alloc_new w3 _, (hO.below (bel_al w3 _)).lower HS.out.im.lt, (HS.out.im.below hb).below (bel_al w3 _), bel_call (bel_call HS.out.bel hb) (bel_al w3 _), by have := (HS.out.im.below hb).lt; omega⟩
        clear hO hb hn1 hn2 HS
        go_upto_region 10 with fail
        obtain ⟨w4, b4, e4, eb4, I4, O4, R4, B4, N4⟩ := HX.out
        rw [e4, eb4]
        obtain ⟨i0, i1, i2, i3⟩ := I4.cells
        obtain ⟨r0, r1, r2, r3⟩ := R4.cells
        have rf := R4.free
        have HY : Hid (OwnI (w.heap.size + 1) w4 ao' cap T bo cap2 (allS S) ∧ ImAt w4 w.heap.size 0 0 (.slice none 0 0) (.slice none 0 0) ∧ Below w.heap.size w w4) := ⟨O4, R4, B4⟩
        clear HX e4 eb4 I4 O4 R4 B4
        go_wp2_with (go_at_call 24; refine (Pick_eq _ _ _ (by omega) (by omega) HM.out).mono ?_; rintro e w' ⟨rfl, rfl⟩)
        have hI := HY.out.2.1.set id ep (.slice ao' n1 cap) (.slice bo n2 cap2)
        clear r0 r1 r2 r3
        obtain ⟨r0, r1, r2, r3⟩ := hI.cells
        have hset := wsets_only w.heap.size [.int .i64 id, .int .i64 ep, .slice ao' n1 cap, .slice bo n2 cap2] w' 0
        have hO := HY.out.1
        have hB := HY.out.2.2
        refine bodyPost_ret (by simp [results, Try.results15, go_sem, r0, r1, r2, r3]; try rfl) rfl ?_
        exact ⟨T, S, ao', cap, bo, cap2, by rw [HN.out.1, HN.out.2], HFN.out, (hO.only hset (fun i h1 _ e => by omega)).lower (by omega), hB.trans (hset.below (fun i e => by omega) hB.size)⟩
end Go.Proofs.Ytodgcfmacmfcpaa
