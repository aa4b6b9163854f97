/- ShardOnce: the walk. -/
import Derived.Test.YtodgcfmacmfcpaaYI
import Derived.Test.YtodgcfmacmfcpaaYH
namespace Go.Proofs.Ytodgcfmacmfcpaa
open Go.RowKit

/-- two lists of elements of unlike kinds lie in blocks of their own -/
theorem own_ne {α β : Type} {K1 : Knd α} {K2 : Knd β} {B B' : Nat} {w : World} {ao bo : Option Addr} {cap cap2 n : Nat} {l : List α} {l2 : List β} (h : OwnK K1 B w ao cap l) (h2 : OwnK K2 B' w bo cap2 l2) (he : K1.e ≠ K2.e) (hn : l.length = n) :
    ∀ g, bo = some ⟨g, 0, none⟩ → ¬ (Value.slice ao n cap).ownBlock = some g := by
  subst hn
  rintro g rfl e
  rcases h.2 with ⟨e1, _⟩ | ⟨b, cp, cur, e1, _, hb, _⟩
  · rw [e1] at e; cases e
  · rw [e1] at e
    obtain rfl : b = g := by simpa [Value.ownBlock] using e
    rcases h2.2 with ⟨e2, _⟩ | ⟨b2, cp2, cur2, e2, _, hb2, _⟩
    · simp at e2
    · simp only [Value.slice.injEq, Option.some.injEq, Addr.mk.injEq] at e2
      obtain ⟨⟨rfl, _⟩, _⟩ := e2
      rw [hb] at hb2
      simp only [Option.some.injEq, Obj.cells.injEq] at hb2
      exact he hb2.2.1
theorem own_obj {α : Type} {K : Knd α} {B : Nat} {w : World} {ao : Option Addr} {cap n : Nat} {l : List α} (h : OwnK K B w ao cap l) {g : Nat} {cur : Array Value} {t : TypeId} {fr : Nat × Nat} (hg : w.heap[g]? = some (.cells cur t fr)) (he : K.e ≠ t) (hn : l.length = n) : ¬ (Value.slice ao n cap).ownBlock = some g := by
  subst hn
  intro e
  rcases h.2 with ⟨e1, _⟩ | ⟨b, cp, cur2, e1, _, hb, _⟩
  · rw [e1] at e; cases e
  · rw [e1] at e
    obtain rfl : b = g := by simpa [Value.ownBlock] using e
    rw [hb] at hg
    simp only [Option.some.injEq, Obj.cells.injEq] at hg
    exact he hg.2.1
theorem Image_w {w1 W : World} (hB : Below w1.heap.size w1 W) {g fo : Nat} {T : List Pr} {S : List Se} {id ep : Int} (h : ShO w1 g fo T S id ep) {n m : Nat} (hn : T.length = n) (hm : (allS S).length = m) :
    Calls Try.prog 11 #[.pointer (some ⟨g, fo, none⟩)] W fun e w' => ∃ ao cap bo cap2, e = .returned (.agg #[.int .i64 id, .int .i64 ep, .slice ao n cap, .slice bo m cap2]) ∧ OwnI W.heap.size w' ao cap T bo cap2 (allS S) ∧ Below w1.heap.size w1 w' :=
  (Image_eq g fo T S id ep W (h.below hB) n m _ hn rfl hm).mono fun _ _ ⟨ao, cap, bo, cap2, h1, h2, h3⟩ => ⟨ao, cap, bo, cap2, h1, h2, bel_call hB h3⟩
structure On (w0 w : World) (g gl B : Nat) (T : List Pr) (S S2 : List Se) (ho : Option Addr) (hc : Nat) (had : List Rq) (po : Option Addr) (tc : Nat) (told : List An) : Prop where
  sh : ShO w g 0 T S 0 1
  la : LastA w gl S2
  hd : OwnK rqK B w ho hc had
  tl : OwnK anK B w po tc told
  bel : Below w0.heap.size w0 w
  b1 : w0.heap.size ≤ g
  ne : g < gl
  lt : gl < B
  sz : B ≤ w.heap.size
section
variable {w0 w w' : World} {g gl B : Nat} {T T' : List Pr} {S S' S2 : List Se} {ho po : Option Addr} {hc tc : Nat} {had : List Rq} {told : List An}
theorem On.below (h : On w0 w g gl B T S S2 ho hc had po tc told) (hb : Below w.heap.size w w') : On w0 w' g gl B T S S2 ho hc had po tc told :=
  ⟨h.sh.below hb, h.la.below hb, h.hd.below hb, h.tl.below hb, bel_call h.bel hb, h.b1, h.ne, h.lt, Nat.le_trans h.sz hb.size⟩
theorem On.turn (h : On w0 w g gl B T S S2 ho hc had po tc told) (hS : ShO w' g 0 T' S' 0 1) (hP : Part g 0 35 w w') : On w0 w' g gl B T' S' S2 ho hc had po tc told :=
  ⟨hS, h.la.only hP.only (fun e => by have := h.ne; omega), h.hd.only hP.only (fun i h1 _ e => by have := h.ne; have := h.lt; omega), h.tl.only hP.only (fun i h1 _ e => by have := h.ne; have := h.lt; omega), h.bel.trans (hP.only.below (fun i e => by have := h.b1; omega) h.bel.size), h.b1, h.ne, h.lt, Nat.le_trans h.sz hP.only.size⟩
/-- the last numbers are written -/
theorem On.last (h : On w0 w g gl B T S S2 ho hc had po tc told) {S3 : List Se} (hL : LastA w' gl S3) (hO : Only (fun k => k = gl) w w') : On w0 w' g gl B T S S3 ho hc had po tc told :=
  ⟨h.sh.apart hO (fun e => by have := h.ne; omega), hL, h.hd.only hO (fun i h1 _ e => by have := h.lt; omega), h.tl.only hO (fun i h1 _ e => by have := h.lt; omega), h.bel.trans (hO.below (fun i e => by have := h.b1; have := h.ne; omega) h.bel.size), h.b1, h.ne, h.lt, Nat.le_trans h.sz hO.size⟩
theorem kinds_ne : rqK.e ≠ anK.e := by decide
/-- a request more -/
theorem On.addH (h : On w0 w g gl B T S S2 ho hc had po tc told) {n : Nat} (hn : had.length = n) {ho' : Option Addr} {hc' : Nat} {had' : List Rq} (hO : OwnK rqK B w' ho' hc' had') (hg : w.grownBy w' (Value.slice ho n hc).ownBlock) (hb : Below B w w') : On w0 w' g gl B T S S2 ho' hc' had' po tc told :=
  ⟨h.sh.apart (Only.of_grown hg fun k hk => hk) (fun e => by have := (h.hd.lt g (by rw [← hn] at e; exact e)).1; have := h.ne; have := h.lt; omega), h.la.only (Only.of_grown hg fun k hk => hk) (fun e => by have := (h.hd.lt gl (by rw [← hn] at e; exact e)).1; have := h.lt; omega), hO, h.tl.apart (Only.of_grown hg fun k hk => hk) (own_ne h.hd h.tl kinds_ne hn), h.bel.trans (hb.mono (by have := h.b1; have := h.ne; have := h.lt; omega)), h.b1, h.ne, h.lt, Nat.le_trans h.sz hb.size⟩
theorem On.addT (h : On w0 w g gl B T S S2 ho hc had po tc told) {n : Nat} (hn : told.length = n) {po' : Option Addr} {tc' : Nat} {told' : List An} (hO : OwnK anK B w' po' tc' told') (hg : w.grownBy w' (Value.slice po n tc).ownBlock) (hb : Below B w w') : On w0 w' g gl B T S S2 ho hc had po' tc' told' :=
  ⟨h.sh.apart (Only.of_grown hg fun k hk => hk) (fun e => by have := (h.tl.lt g (by rw [← hn] at e; exact e)).1; have := h.ne; have := h.lt; omega), h.la.only (Only.of_grown hg fun k hk => hk) (fun e => by have := (h.tl.lt gl (by rw [← hn] at e; exact e)).1; have := h.lt; omega), h.hd.apart (Only.of_grown hg fun k hk => hk) (own_ne h.tl h.hd (fun e => kinds_ne e.symm) hn), hO, h.bel.trans (hb.mono (by have := h.b1; have := h.ne; have := h.lt; omega)), h.b1, h.ne, h.lt, Nat.le_trans h.sz hb.size⟩
end
theorem raw_may (x : RawO) : askableS (pick x.client 4) (1 + pick x.seq 9) (oKind x.kind) (keyS x.key) (oVal x.kind x.value) (oOld x.kind x.old) = true := by
  have l1 := pick_lo x.client 4 (by omega)
  have l2 := pick_hi x.client 4 (by omega)
  have l3 := pick_lo x.seq 9 (by omega)
  have l4 := pick_hi x.seq 9 (by omega)
  unfold askableS inS
  rw [right_op, decide_eq_true (by omega), decide_eq_true (by omega), decide_eq_true (by omega), decide_eq_true (by omega)]
  rfl
theorem Req_let (rk ry rv ro rc rs : Int) (rt : ByteArray) (w : World) {q : Rq} (hq : q = ⟨pick rc 4, 1 + pick rs 9, oKind rk, keyS ry, oVal rk rv, oOld rk ro⟩) :
    Calls Try.prog 18 #[.agg #[.int .i64 rk, .int .i64 ry, .int .i64 rv, .int .i64 ro, .int .i64 rc, .int .i64 rs, .int .i64 0, .string rt]] w fun e w' =>
      e = .returned (.agg #[.int .i64 q.c, .int .i64 q.s, .int .i64 q.k, .string q.key, .string q.v, .string q.old]) ∧ Below w.heap.size w w' := by
  subst hq
  exact Req_fine ⟨rk, ry, rv, ro, rc, rs, 0, rt⟩ rfl w
theorem src_rq (w : World) (c s k : Int) (key v old : ByteArray) (b : Nat) (hb : w.heap.size = b) : SrcK rqK (w.alloc (.cells #[.int .i64 c, .int .i64 s, .int .i64 k, .string key, .string v, .string old] 47)) (some ⟨b, 0, none⟩) 1 1 [⟨c, s, k, key, v, old⟩] := by
  subst hb; exact SrcK.one (K := rqK) w ⟨c, s, k, key, v, old⟩
theorem src_an (w : World) (a : Int) (y : ByteArray) (b : Nat) (hb : w.heap.size = b) : SrcK anK (w.alloc (.cells #[.int .i64 a, .string y] 29)) (some ⟨b, 0, none⟩) 1 1 [⟨a, y⟩] := by
  subst hb; exact SrcK.one (K := anK) w ⟨a, y⟩
/-- what the Ask of a right request does -/
theorem ask_some (T : List Pr) (S : List Se) {q : Rq} (hA : askableS q.c q.s q.k q.key q.v q.old = true) : ∃ (T' : List Pr) (S' : List Se) (a : An) (f : Bool), askS T S q.c q.s q.k q.key q.v q.old = (T', S', a.why, a.val, f) ∧ f = decide ((lastS S q.c).sq < q.s) ∧ (f = true → S' = noteS S ⟨q.c, q.s, a.why, a.val⟩) ∧ (f = false → S' = S ∧ T' = T) := by
  by_cases h : (lastS S q.c).sq < q.s
  · obtain ⟨⟨T', a, y⟩, hd⟩ : ∃ D, doS T q.k q.key q.v q.old = D := ⟨_, rfl⟩
    exact ⟨T', _, ⟨a, y⟩, true, ask_fresh T S hA h hd, (decide_eq_true h).symm, fun _ => rfl, fun e => Bool.noConfusion e⟩
  · refine ⟨T, S, ⟨(askS T S q.c q.s q.k q.key q.v q.old).2.2.1, (askS T S q.c q.s q.k q.key q.v q.old).2.2.2.1⟩, false, ?_, (decide_eq_false h).symm, fun e => Bool.noConfusion e, fun _ => ⟨rfl, rfl⟩⟩
    unfold askS
    rw [if_pos hA]
    by_cases e : q.s = (lastS S q.c).sq
    · rw [if_pos e]
    · rw [if_neg e, if_pos (by omega)]
set_option maxRecDepth 20000 in
set_option maxHeartbeats 40000000 in
theorem ShardOnce_any (ao0 : Option Addr) (n0 c0 : Nat) (l0 : List RawO) (ao1 : Option Addr) (n1 c1 : Nat) (l1 : List Int) (w : World) (h0 : RdG 8 RawO.Q w.heap.size w ao0 n0 c0 l0) (sz : n0 * 72 ≤ 140737488351232) (h1 : Rd w.heap.size w ao1 n1 c1 (Is l1)) (e1 : l1.length = n1) :
    Calls Try.prog 5 #[.slice ao0 n0 c0, .slice ao1 n1 c1] w fun e w' => e = .returned (.bool true) ∧ Below w.heap.size w w' := by
  have H0 : Hid (RdG 8 RawO.Q w.heap.size w ao0 n0 c0 l0) := h0
  have H1 : Hid (Rd w.heap.size w ao1 n1 c1 (Is l1)) := h1
  obtain ⟨hl1, hm1⟩ := h0.len
  subst hl1
  subst e1
  have SZ : Hid (l0.length * 72 ≤ 140737488351232) := sz
  clear h0 h1 sz
  go_enter Try.func5, Try.ntmps5
  go_wp2_with fail
  refine (ShOf_nil 0 1 _).mono ?_
  rintro e w1 ⟨C, rfl, hC, hb1⟩
  obtain ⟨hi, h35, h1⟩ := hC.rows
  have hn1 := alloc_new w1 zeroH
  unfold zeroH at hn1
  have HC : Hid (ShC C [] zeroS 0 1 ∧ Below w.heap.size w w1) := ⟨hC, hb1⟩
  clear hC hb1
  have tokA : True := trivial
  go_wp2_with (have _t := tokA; refine wpList_store_row rfl 36 _ _ rfl w1.heap.size C rfl rfl 36 _ hn1 hi h35.out h1 ?_; obtain ⟨w2, hw2⟩ : ∃ w2, w2 = (w1.alloc zeroH).setRow w1.heap.size C := ⟨_, rfl⟩; have HN := store_newH HC.out.1 hw2; unfold zeroH at hw2; rw [← hw2]; clear hw2 hn1 tokA _t)
  have H2 : Hid (On w (w2.alloc (.cells #[.int .i64 0, .int .i64 0, .int .i64 0, .int .i64 0] 67)) w1.heap.size w2.heap.size (w2.heap.size + 1) [] zeroS zeroS none 0 [] none 0 []) :=
    ⟨HN.1.below (bel_al w2 _), alloc_new w2 _, OwnK.nil _ _ _, OwnK.nil _ _ _, bel_call (bel_call HC.out.2 HN.2.1) (bel_al w2 _), HC.out.2.size, HN.2.2, by omega, by rw [size_al]; exact Nat.le_refl _⟩
  clear HN HC hi h35 h1
  go_loopw [6, 7, 23] (fun v6 v7 i wr => ∃ (j : Nat) (T : List Pr) (S : List Se) (ho : Option Addr) (hc : Nat) (had : List Rq) (po : Option Addr) (tc : Nat) (told : List An), j ≤ l0.length ∧ i = .int .i64 j ∧ v6 = .slice ho had.length hc ∧ v7 = .slice po told.length tc ∧ had.length ≤ j ∧ On w wr w1.heap.size w2.heap.size (w2.heap.size + 1) T S S ho hc had po tc told ∧ Hads S had told) (fun _ _ i _ => l0.length - (intOf i).toNat)
  case atStart => exact ⟨0, [], zeroS, none, 0, [], none, 0, [], Nat.zero_le _, rfl, rfl, rfl, Nat.le_refl _, H2.out, Hads.nil _⟩
  case round =>
    obtain ⟨j, T, S, ho, hc, had, po, tc, told, hj, rfl, rfl, rfl, hhj, hS, hH⟩ := hrel
    obtain ⟨nh, hnh⟩ : ∃ nh, had.length = nh := ⟨_, rfl⟩
    obtain ⟨nt, hnt⟩ : ∃ nt, told.length = nt := ⟨_, rfl⟩
    have HS : Hid (On w wr w1.heap.size w2.heap.size (w2.heap.size + 1) T S S ho hc had po tc told) := hS
    have HH : Hid (Hads S had told ∧ had.length = nh ∧ told.length = nt ∧ nh ≤ j) := ⟨hH, hnh, hnt, by omega⟩
    rw [hnh, hnt]
    have hbel := hS.bel
    clear hS hH hnh hnt hhj H2
    by_cases hlt : j < l0.length
    · obtain ⟨b, off, rfl, hb, hcl⟩ := raw_cells H0.out (by omega)
      obtain ⟨r, hr⟩ : ∃ r, l0[j] = r := ⟨_, rfl⟩
      obtain ⟨q0, q1, q2, q3, q4, q5, q6, q7⟩ := hcl wr hbel j r (by rw [← hr]; exact List.getElem?_eq_getElem hlt)
      have hji : (j : Int) < (l0.length : Int) := by omega
      obtain ⟨q, hq⟩ : ∃ q : Rq, q = ⟨pick r.client 4, 1 + pick r.seq 9, oKind r.kind, keyS r.key, oVal r.kind r.value, oOld r.kind r.old⟩ := ⟨_, rfl⟩
      have hA := raw_may r
      have HA : Hid (askableS q.c q.s q.k q.key q.v q.old = true) := by subst hq; exact hA
      obtain ⟨rk, ry, rv, ro, rc, rs, rb, rt⟩ := r
      simp only at q0 q1 q2 q3 q4 q5 q6 q7
      have HQ : Hid (q = _) := hq
      clear hcl hr hbel hA hq
      go_wp2_with fail
      refine (Req_let rk ry rv ro rc rs rt _ HQ.out).mono ?_
      rintro e w5 ⟨rfl, hb5⟩
      have hO5 : On w w5 w1.heap.size w2.heap.size (w2.heap.size + 1) T S S ho hc had po tc told := (HS.out.below (bel_al wr _)).below hb5
      obtain ⟨T', S', a, f, hask, hf, hft, hff⟩ := ask_some T S HA.out
      have HF : Hid (f = decide ((lastS S q.c).sq < q.s) ∧ (f = true → S' = noteS S ⟨q.c, q.s, a.why, a.val⟩) ∧ (f = false → S' = S ∧ T' = T)) := ⟨hf, hft, hff⟩
      have HK : Hid (_ = _) := hask
      have HI : Hid (SInv S) := hO5.sh.2.1.1
      obtain ⟨kc, hkc, hkq⟩ := may_nat (ask_may HA.out).1
      have HKC : Hid (kc < 4 ∧ q.c = (kc : Int)) := ⟨hkc, hkq⟩
      have H5 : Hid (∃ w6 bq, w5.alloc (.cells #[.int .i64 q.c, .int .i64 q.s, .int .i64 q.k, .string q.key, .string q.v, .string q.old] 47) = w6 ∧ w5.heap.size = bq ∧ On w w6 w1.heap.size w2.heap.size (w2.heap.size + 1) T S S ho hc had po tc told ∧ ReqAt w6 bq q.c q.s q.k q.key q.v q.old ∧ w2.heap.size + 1 ≤ bq) := ⟨_, _, rfl, rfl, hO5.below (bel_al w5 _), alloc_new w5 _, hO5.sz⟩
      clear hb5 hO5 hask hf hft hff HQ HS q0 q1 q2 q3 q4 q5 q6 q7 hkc hkq
      go_upto_region 10 with fail
      obtain ⟨w6, bq, e6, eb6, I6, R6, L6⟩ := H5.out
      rw [e6, eb6]
      obtain ⟨q0, q1, q2, q3, q4, q5⟩ := R6.cells
      have H6 : Hid (On w w6 w1.heap.size w2.heap.size (w2.heap.size + 1) T S S ho hc had po tc told ∧ ReqAt w6 bq q.c q.s q.k q.key q.v q.old ∧ w2.heap.size + 1 ≤ bq) := ⟨I6, R6, L6⟩
      clear H5 e6 eb6 I6 R6 L6
      go_wp2_with fail
      refine (Ask_eq w1.heap.size 0 T S 0 1 _ _ _ _ _ _ _ H6.out.1.sh _ _ _ _ _ HK.out).mono ?_
      rintro e w7 ⟨rfl, hSh, hP⟩
      have hO7 := H6.out.1.turn hSh hP
      have hR7 : ReqAt w7 bq q.c q.s q.k q.key q.v q.old := (hP.only.block bq (obj_lt H6.out.2.1) (by have := H6.out.1.ne; have := H6.out.1.lt; have := H6.out.2.2; omega)).trans H6.out.2.1
      have H7 : Hid (∃ w8 ba, w7.alloc (.cells #[.int .i64 a.why, .string a.val] 29) = w8 ∧ w7.heap.size = ba ∧ On w w8 w1.heap.size w2.heap.size (w2.heap.size + 1) T' S' S ho hc had po tc told ∧ ReqAt w8 bq q.c q.s q.k q.key q.v q.old ∧ AnsAt w8 ba a.why a.val ∧ bq < ba ∧ w2.heap.size + 1 ≤ bq) := ⟨_, _, rfl, rfl, hO7.below (bel_al w7 _), hR7.below (bel_al w7 _), alloc_new w7 _, obj_lt hR7, H6.out.2.2⟩
      clear hSh hP hO7 hR7 H6 HK q0 q1 q2 q3 q4 q5
      go_upto_region 11 with fail
      obtain ⟨w8, ba, e8, eb8, I8, R8, A8, L8, L8'⟩ := H7.out
      rw [e8, eb8]
      have H8 : Hid (On w w8 w1.heap.size w2.heap.size (w2.heap.size + 1) T' S' S ho hc had po tc told ∧ ReqAt w8 bq q.c q.s q.k q.key q.v q.old ∧ AnsAt w8 ba a.why a.val ∧ bq < ba ∧ w2.heap.size + 1 ≤ bq) := ⟨I8, R8, A8, L8, L8'⟩
      clear H7 e8 eb8 I8 R8 A8 L8 L8'
      obtain ⟨q0, q1, q2, q3, q4, q5⟩ := H8.out.2.1.cells
      have hla := H8.out.1.la.at HKC.out.1
      have hk4 : (kc : Int) < 4 := by have := HKC.out.1; omega
      have hqc := HKC.out.2
      rw [hqc] at q0
      obtain ⟨ls, hls⟩ : ∃ ls, (lastS S (kc : Int)).sq = ls := ⟨_, rfl⟩
      rw [hls] at hla
      have HLS : Hid (f = decide (ls < q.s) ∧ (lastS S q.c).sq = ls) := ⟨by rw [HF.out.1, hqc, hls], by rw [hqc, hls]⟩
      obtain ⟨qs, hqs⟩ : ∃ qs, q.s = qs := ⟨_, rfl⟩
      rw [hqs] at q1 HLS
      have HQS : Hid (q.s = qs) := hqs
      clear hls hqc hqs
      go_cut [44] (fun v wx => v = .bool false ∧ wx = w8.drew)
      case first =>
        cases f with
        | true =>
          have hlt2 : ls < qs := of_decide_eq_true HLS.out.1.symm
          go_region
          all_goals
            go_wp2
            go_meet
            case rel => exact ⟨rfl, rfl⟩
        | false =>
          have hlt2 : ¬ ls < qs := of_decide_eq_false HLS.out.1.symm
          go_region
          all_goals
            go_wp2
            go_meet
            case rel => exact ⟨rfl, rfl⟩
      case rest =>
      obtain ⟨rfl, rfl⟩ := hcut
      go_upto_if 45 with fail
      go_cut [6, 7] (fun v6 v7 wx => ∃ (ho' : Option Addr) (hc' : Nat) (had' : List Rq) (po' : Option Addr) (tc' : Nat) (told' : List An), v6 = .slice ho' had'.length hc' ∧ v7 = .slice po' told'.length tc' ∧ had'.length ≤ j + 1 ∧ On w wx w1.heap.size w2.heap.size (w2.heap.size + 1) T' S' S' ho' hc' had' po' tc' told' ∧ Hads S' had' told')
      case first =>
        cases f with
        | false =>
          have HST : Hid (S' = S ∧ T' = T) := HF.out.2.2 rfl
          go_wp2
          go_meet
          case rel =>
            obtain ⟨rfl, rfl⟩ := HST.out
            exact ⟨ho, hc, had, po, tc, told, by rw [HH.out.2.1], by rw [HH.out.2.2.1], by have := HH.out.2; omega, H8.out.1.below (Below.refl _ _).drew, HH.out.1⟩
        | true =>
          have hlt2 : ls < qs := of_decide_eq_true HLS.out.1.symm
          have HST : Hid (S' = noteS S ⟨(kc : Int), qs, a.why, a.val⟩) := by have := HF.out.2.1 rfl; rw [HKC.out.2, HQS.out] at this; exact this
          have HQE : Hid ((⟨(kc : Int), qs, q.k, q.key, q.v, q.old⟩ : Rq) = q) := by show _ = _; rw [← HKC.out.2, ← HQS.out]
          have hset : LastA (w8.drew.setCell ⟨w2.heap.size, kc, none⟩ (.int .i64 qs)) w2.heap.size S' := by
            rw [HST.out]
            exact (H8.out.1.la.below (Below.refl _ _).drew).set HI.out (x := ⟨(kc : Int), qs, a.why, a.val⟩) HKC.out.1 rfl (by rw [← HKC.out.2, HLS.out.2]; exact hlt2)
          have hOs : Only (fun k => k = w2.heap.size) w8.drew (w8.drew.setCell ⟨w2.heap.size, kc, none⟩ (.int .i64 qs)) := only_set (Only.refl _ _) _ _
          have H9 : Hid (∃ w9, (w8.setCell ⟨w2.heap.size, kc, none⟩ (.int .i64 qs)).drew = w9 ∧ On w w9 w1.heap.size w2.heap.size (w2.heap.size + 1) T' S' S' ho hc had po tc told ∧ ReqAt w9 bq q.c q.s q.k q.key q.v q.old ∧ AnsAt w9 ba a.why a.val) :=
            ⟨_, rfl, (H8.out.1.below (Below.refl _ _).drew).last hset hOs, (hOs.block bq (obj_lt H8.out.2.1) (by have := H8.out.2.2.2.2; omega)).trans H8.out.2.1, (hOs.block ba (obj_lt H8.out.2.2.1) (by have := H8.out.2.2.2.2; have := H8.out.2.2.2.1; omega)).trans H8.out.2.2.1⟩
          have hfz := H8.out.1.la.free
          clear hset hOs
          go_upto_region 15 with fail
          obtain ⟨w9, e9, I9, R9, A9⟩ := H9.out
          rw [e9]
          have H10 : Hid (On w w9 w1.heap.size w2.heap.size (w2.heap.size + 1) T' S' S' ho hc had po tc told ∧ AnsAt w9 ba a.why a.val) := ⟨I9, A9⟩
          clear q0 q1 q2 q3 q4 q5 hla hfz
          obtain ⟨q0, q1, q2, q3, q4, q5⟩ := R9.cells
          have hfew : nh ≤ j ∧ (nh + 1 + (nh + 1) / 4 + 192) * 72 ≤ 281474976710656 ∧ nh = nt := by have h1 := HH.out; have h2 := SZ.out; have h3 := h1.1.1; omega
          have HFW : Hid (nh ≤ j ∧ (nh + 1 + (nh + 1) / 4 + 192) * 72 ≤ 281474976710656 ∧ nh = nt) := hfew
          have hs9 := I9.sz
          clear H9 e9 I9 R9 A9 hfew H8
          go_upto_region 16 with (at_builtin; go_loud (refine appK rqK rfl _ _ rfl rfl rfl (w2.heap.size + 1) ho hc nh had rfl HH.out.2.1 (H10.out.1.below (bel_al w9 _)).hd (some ⟨w9.heap.size, 0, none⟩) 1 1 [⟨q.c, q.s, q.k, q.key, q.v, q.old⟩] rfl (src_rq w9 _ _ _ _ _ _ _ rfl) HFW.out.2.1 (by have := HFW.out.2.1; omega) (by rw [size_al]; omega) ?_; intro ho2 hc2 w10 hown hgr hb10))
          have hO10 := (H10.out.1.below (bel_al w9 _)).addH HH.out.2.1 hown hgr hb10
          have hA10 : AnsAt w10 ba a.why a.val := ((Only.of_grown (S := fun k => (Value.slice ho nh hc).ownBlock = some k) hgr fun k hk => hk).block ba (obj_lt (H10.out.2.below (bel_al w9 _))) (own_obj H10.out.1.hd H10.out.2 (by decide) HH.out.2.1)).trans (H10.out.2.below (bel_al w9 _))
          have H11 : Hid (On w w10 w1.heap.size w2.heap.size (w2.heap.size + 1) T' S' S' ho2 hc2 (had ++ [q]) po tc told) := hO10
          obtain ⟨a0, a1⟩ := hA10.cells
          have hs10 := hO10.sz
          clear hown hgr hb10 hO10 hA10 H10 hs9 q0 q1 q2 q3 q4 q5
          go_wp2_with (at_builtin; go_loud (refine appK anK rfl _ _ rfl rfl rfl (w2.heap.size + 1) po tc nt told rfl HH.out.2.2.1 (H11.out.below (bel_al w10 _)).tl (some ⟨w10.heap.size, 0, none⟩) 1 1 [⟨a.why, a.val⟩] rfl (src_an w10 _ _ _ rfl) (by show _ * 24 ≤ _; have := HFW.out; omega) (by have := HFW.out; omega) (by rw [size_al]; omega) ?_; intro po2 tc2 w11 hown hgr hb11))
          have H12 : Hid (On w w11 w1.heap.size w2.heap.size (w2.heap.size + 1) T' S' S' ho2 hc2 (had ++ [q]) po2 tc2 (told ++ [a])) := (H11.out.below (bel_al w10 _)).addT HH.out.2.2.1 hown hgr hb11
          have HHA : Hid (Hads S' (had ++ [q]) (told ++ [a])) := by
            have h := HH.out.1.add HI.out (r := q) HA.out (by rw [HLS.out.2, HQS.out]; exact hlt2) a
            rw [HKC.out.2, HQS.out, ← HST.out] at h
            exact h
          clear hown hgr hb11 H11
          go_meet
          case rel => exact ⟨ho2, hc2, had ++ [q], po2, tc2, told ++ [a], by rw [List.length_append, HH.out.2.1]; rfl, by rw [List.length_append, HH.out.2.2.1]; rfl, by rw [List.length_append, HH.out.2.1]; have := HFW.out; simp only [List.length_singleton]; omega, H12.out, HHA.out⟩
      case rest =>
      obtain ⟨ho', hc', had', po', tc', told', rfl, rfl, hle, hS, hH⟩ := hcut
      obtain ⟨nh', hnh⟩ : ∃ nh, had'.length = nh := ⟨_, rfl⟩
      obtain ⟨nt', hnt⟩ : ∃ nt, told'.length = nt := ⟨_, rfl⟩
      have HE : Hid (had'.length = nh' ∧ told'.length = nt' ∧ nh' ≤ j + 1 ∧ Hads S' had' told') := ⟨hnh, hnt, by omega, hH⟩
      have HS : Hid (On w _ w1.heap.size w2.heap.size (w2.heap.size + 1) T' S' S' ho' hc' had' po' tc' told') := hS
      have hbel := hS.bel
      rw [hnh, hnt]
      clear H8 HF HLS HQS HKC HI HH HA q0 q1 q2 q3 q4 q5 hla hk4 hnh hnt hle hS hH
      by_cases hja : j < l1.length
      · have hja2 : (j : Int) < (l1.length : Int) := by omega
        by_cases hz : 0 < nh'
        · have hz2 : (0 : Int) < (nh' : Int) := by omega
          obtain ⟨b1, off1, rfl, hb1, hc1⟩ := H1.out.atSome (by omega)
          obtain ⟨av, hav⟩ : ∃ av, l1[j] = av := ⟨_, rfl⟩
          have hcell : ∀ W, Below w.heap.size w W → W.cell? ⟨b1, off1 + j, none⟩ = some (.int .i64 av) := fun W hW => (hW.cell (p := ⟨b1, off1 + j, none⟩) hb1).trans (hc1 j _ (by rw [← hav]; simp [Is, List.getElem?_eq_getElem hja]))
          have HCL : Hid (∀ W, Below w.heap.size w W → W.cell? ⟨b1, off1 + j, none⟩ = some (.int .i64 av)) := hcell
          have h64 : (nh' : Int) ≤ 9223372036854775807 := by have := HE.out; omega
          obtain ⟨k, hk, hkp⟩ : ∃ k : Nat, k < nh' ∧ pick av nh' = (k : Int) := ⟨(pick av nh').toNat, by have := pick_lo av nh' hz2; have := pick_hi av nh' hz2; omega, by have := pick_lo av nh' hz2; omega⟩
          have HKP : Hid (pick av nh' = (k : Int)) := hkp
          obtain ⟨nT, hnT⟩ : ∃ n, T'.length = n := ⟨_, rfl⟩
          obtain ⟨nS, hnS⟩ : ∃ n, (allS S').length = n := ⟨_, rfl⟩
          have HN : Hid (T'.length = nT ∧ (allS S').length = nS) := ⟨hnT, hnS⟩
          clear hc1 hav hcell hkp hnT hnS hbel
          go_wp2_with fail
          refine (Image_eq w1.heap.size 0 T' S' 0 1 _ HS.out.sh nT nS _ HN.out.1 rfl HN.out.2).mono ?_
          rintro e x1 ⟨ia, icap, ib, icap2, rfl, hO, hbx⟩
          have hx := HS.out.below hbx
          have X1 : Hid (∃ y1 bi, x1.alloc (.cells #[.int .i64 0, .int .i64 1, .slice ia nT icap, .slice ib nS icap2] 41) = y1 ∧ x1.heap.size = bi ∧ On w y1 w1.heap.size w2.heap.size (w2.heap.size + 1) T' S' S' ho' hc' had' po' tc' told' ∧ ImAt y1 bi 0 1 (.slice ia nT icap) (.slice ib nS icap2) ∧ OwnI (w2.heap.size + 1) y1 ia icap T' ib icap2 (allS S') ∧ w2.heap.size + 1 ≤ bi) :=
            ⟨_, _, rfl, rfl, hx.below (bel_al x1 _), alloc_new x1 _, (hO.lower HS.out.sz).below (bel_al x1 _), hx.sz⟩
          clear hO hbx hx HS
          go_upto_region 19 with fail
          obtain ⟨y1, bi, e1, e2, I1, J1, O1, L1⟩ := X1.out
          rw [e1, e2]
          have hcell := HCL.out y1 I1.bel
          have X2 : Hid (On w y1 w1.heap.size w2.heap.size (w2.heap.size + 1) T' S' S' ho' hc' had' po' tc' told' ∧ ImAt y1 bi 0 1 (.slice ia nT icap) (.slice ib nS icap2) ∧ OwnI (w2.heap.size + 1) y1 ia icap T' ib icap2 (allS S') ∧ w2.heap.size + 1 ≤ bi) := ⟨I1, J1, O1, L1⟩
          clear X1 e1 e2 I1 J1 O1 L1
          go_upto_region 20 with (go_at_call 24; refine (Pick_eq _ _ _ (by omega) (by omega) HKP.out).mono ?_; rintro e w' ⟨rfl, rfl⟩)
          have hkl : k < had'.length := by rw [HE.out.1]; exact hk
          obtain ⟨r2, hr2⟩ : ∃ r, had'[k] = r := ⟨_, rfl⟩
          have hkt : k < told'.length := by have h := HE.out.2.2.2.1; omega
          obtain ⟨a2, ha2⟩ : ∃ a, told'[k] = a := ⟨_, rfl⟩
          have hW : Was S' r2 a2 := HE.out.2.2.2.2 k r2 a2 (by rw [← hr2]; exact List.getElem?_eq_getElem hkl) (by rw [← ha2]; exact List.getElem?_eq_getElem hkt)
          have hAG := ask_again T' S' hW
          obtain ⟨wa, hwa⟩ : ∃ wa, (if r2.s = (lastS S' r2.c).sq then a2 else (⟨9, ⟨#[]⟩⟩ : An)) = wa := ⟨_, rfl⟩
          rw [hwa] at hAG
          have HAG : Hid (askS T' S' r2.c r2.s r2.k r2.key r2.v r2.old = (T', S', wa.why, wa.val, false)) := hAG
          have HWA : Hid ((if r2.s = (lastS S' r2.c).sq then a2 else (⟨9, ⟨#[]⟩⟩ : An)) = wa) := hwa
          have HWS : Hid (Was S' r2 a2) := hW
          obtain ⟨gh, rfl, hgh1, hgh2, hrd⟩ := X2.out.1.hd.at (by omega)
          have d := fun i u hu => hrd k hkl i u hu
          rw [hr2] at d
          have d0 := d 0 _ rfl
          have d1 := d 1 _ rfl
          have d2 := d 2 _ rfl
          have d3 := d 3 _ rfl
          have d4 := d 4 _ rfl
          have d5 := d 5 _ rfl
          simp only [Nat.zero_add, Nat.add_zero, show rqK.c = 6 from rfl] at d0 d1 d2 d3 d4 d5
          have hki : (k : Int) < (nh' : Int) := by omega
          have HR : Hid (∀ W : World, W.heap[gh]? = w'.heap[gh]? → RdK rqK W gh 0 had') := fun W e => hrd.heap e
          have HX : Hid (had'[k]? = some r2 ∧ told'[k]? = some a2 ∧ k < had'.length ∧ k < told'.length ∧ w2.heap.size + 1 ≤ gh ∧ gh < w'.heap.size) := ⟨by rw [← hr2]; exact List.getElem?_eq_getElem hkl, by rw [← ha2]; exact List.getElem?_eq_getElem hkt, hkl, hkt, hgh1, hgh2⟩
          clear d hrd hr2 ha2 hW hAG hwa hcell hgh1 hkl hkt
          go_wp2_with fail
          refine (Ask_eq w1.heap.size 0 T' S' 0 1 _ _ _ _ _ _ _ X2.out.1.sh _ _ _ _ _ HAG.out).mono ?_
          rintro e x2 ⟨rfl, hSh, hP⟩
          have hx2 := X2.out.1.turn hSh hP
          have hgb : w1.heap.size < w2.heap.size := X2.out.1.ne
          have X3 : Hid (On w x2 w1.heap.size w2.heap.size (w2.heap.size + 1) T' S' S' (some ⟨gh, 0, none⟩) hc' had' po' tc' told' ∧ ImAt x2 bi 0 1 (.slice ia nT icap) (.slice ib nS icap2) ∧ OwnI (w2.heap.size + 1) x2 ia icap T' ib icap2 (allS S')) :=
            ⟨hx2, X2.out.2.1.only hP.only (by have := X2.out.2.2.2; omega), X2.out.2.2.1.only hP.only (fun i h1 _ e => by omega)⟩
          have HR3 : Hid (RdK rqK x2 gh 0 had') := HR.out x2 (hP.only.block gh HX.out.2.2.2.2.2 (by have := HX.out.2.2.2.2.1; omega))
          have hgh3 : gh < x2.heap.size := Nat.lt_of_lt_of_le HX.out.2.2.2.2.2 hP.only.size
          obtain ⟨bb, hbb⟩ : ∃ bb, x2.heap.size = bb := ⟨_, rfl⟩
          have X4 : Hid (∃ y2, (x2.alloc (.cells #[.int .i64 wa.why, .string wa.val] 29)).alloc (.cells #[.int .i64 9, .string ⟨#[]⟩] 29) = y2 ∧ Below x2.heap.size x2 y2 ∧ AnsAt y2 bb wa.why wa.val ∧ AnsAt y2 (bb + 1) 9 ⟨#[]⟩) :=
            ⟨_, rfl, bel_al2 x2 _ _, by rw [← hbb]; exact al2_fst x2 _ _, by rw [← hbb]; exact al2_snd x2 _ _⟩
          have HBB : Hid (x2.heap.size = bb) := hbb
          clear hSh hP hx2 HAG X2 HR d0 d1 d2 d3 d4 d5 hbb
          go_upto_region 22 with fail
          obtain ⟨y2, e1, B2, A2, W2⟩ := X4.out
          rw [e1, HBB.out]
          have HY : Hid (Below x2.heap.size x2 y2 ∧ AnsAt y2 bb wa.why wa.val ∧ AnsAt y2 (bb + 1) 9 ⟨#[]⟩) := ⟨B2, A2, W2⟩
          have d := fun i u hu => (HR3.out.below B2 hgh3) k HX.out.2.2.1 i u hu
          rw [show had'[k]'HX.out.2.2.1 = r2 from by have h := HX.out.1; rw [List.getElem?_eq_getElem HX.out.2.2.1] at h; exact Option.some.inj h] at d
          have d0 := d 0 _ rfl
          have d1 := d 1 _ rfl
          simp only [Nat.zero_add, Nat.add_zero, show rqK.c = 6 from rfl] at d0 d1
          obtain ⟨kc2, hkc2, hkq2⟩ := may_nat (ask_may HWS.out.1).1
          have hla := (X3.out.1.la.below B2).at hkc2
          have hk4 : (kc2 : Int) < 4 := by omega
          obtain ⟨ls2, hls2⟩ : ∃ ls, (lastS S' (kc2 : Int)).sq = ls := ⟨_, rfl⟩
          rw [hls2] at hla
          obtain ⟨rs2, hrs2⟩ : ∃ s, r2.s = s := ⟨_, rfl⟩
          rw [hkq2] at d0
          rw [hrs2] at d1
          have HWB : Hid ((if rs2 = ls2 then a2 else (⟨9, ⟨#[]⟩⟩ : An)) = wa) := by have h := HWA.out; rw [hkq2, hls2, hrs2] at h; exact h
          clear d X4 e1 B2 A2 W2 HR3 hkq2 hls2 hrs2 HWA
          go_cut [97] (fun v wx => v = .bool (decide (rs2 = ls2)) ∧ wx = y2.drew)
          case first =>
            by_cases he : rs2 = ls2
            · subst he
              go_region
              all_goals
                go_wp2
                go_meet
                case rel => exact ⟨by simp, rfl⟩
            · go_region
              all_goals
                go_wp2
                go_meet
                case rel => exact ⟨by simp [he], rfl⟩
          case rest =>
          obtain ⟨rfl, rfl⟩ := hcut
          go_upto_if 97 with fail
          go_cut [] (fun wx => Below x2.heap.size x2 wx ∧ AnsAt wx bb wa.why wa.val ∧ AnsAt wx (bb + 1) wa.why wa.val)
          case first =>
            obtain ⟨c0, c1⟩ := HY.out.2.2.cells
            have hfz := HY.out.2.2.free
            by_cases he : rs2 = ls2
            · have hwe : a2 = wa := by have h := HWB.out; rw [if_pos he] at h; exact h
              subst hwe
              obtain ⟨gt, hgt, hgt1, hgt2, hrt⟩ := X3.out.1.tl.at (by have := HX.out.2.2.2.1; omega)
              have d := fun i u hu => (hrt.below HY.out.1 hgt2) k HX.out.2.2.2.1 i u hu
              rw [show told'[k]'HX.out.2.2.2.1 = a2 from by have h := HX.out.2.1; rw [List.getElem?_eq_getElem HX.out.2.2.2.1] at h; exact Option.some.inj h] at d
              have t0 := d 0 _ rfl
              have t1 := d 1 _ rfl
              simp only [Nat.zero_add, Nat.add_zero, show anK.c = 2 from rfl] at t0 t1
              have hkt : (k : Int) < (nt' : Int) := by have := HX.out.2.2.2.1; have := HE.out.2.1; omega
              have hgt3 : gt < y2.heap.size := Nat.lt_of_lt_of_le hgt2 HY.out.1.size
              subst hgt
              clear d hrt d0 d1 hla
              go_wp2
              go_meet
              case rel =>
                have hO := wsets_only (bb + 1) [.int .i64 a2.why, .string a2.val] y2.drew 0
                have hb2 := HBB.out
                exact ⟨HY.out.1.drew.trans (hO.below (fun i e => by omega) HY.out.1.size), (HY.out.2.1.below (Below.refl _ _).drew).only hO (by omega), (HY.out.2.2.below (Below.refl _ _).drew).set a2.why a2.val⟩
            · have hwe : (⟨9, ⟨#[]⟩⟩ : An) = wa := by have h := HWB.out; rw [if_neg he] at h; exact h
              subst hwe
              go_wp2
              go_meet
              case rel => exact ⟨HY.out.1.drew, HY.out.2.1.below (Below.refl _ _).drew, HY.out.2.2.below (Below.refl _ _).drew⟩
          case rest =>
          obtain ⟨hB, hA, hW⟩ := hcut
          have HZ : Hid (On w wc w1.heap.size w2.heap.size (w2.heap.size + 1) T' S' S' (some ⟨gh, 0, none⟩) hc' had' po' tc' told' ∧ AnsAt wc bb wa.why wa.val ∧ AnsAt wc (bb + 1) wa.why wa.val ∧ ImAt wc bi 0 1 (.slice ia nT icap) (.slice ib nS icap2) ∧ OwnI (w2.heap.size + 1) wc ia icap T' ib icap2 (allS S')) := ⟨X3.out.1.below hB, hA, hW, X3.out.2.1.below hB, X3.out.2.2.below hB⟩
          clear d0 d1 hla hB hA hW HY HX HWB HWS X3 HCL HKP hgh3 hkc2 hk4
          obtain ⟨c0, c1⟩ := HZ.out.2.1.cells
          obtain ⟨d0, d1⟩ := HZ.out.2.2.1.cells
          obtain ⟨i0, i1, i2, i3⟩ := HZ.out.2.2.2.1.cells
          go_wp2_with fail
          have tokA : True := trivial
          go_region_held3 (fun w' => w'.cell? ⟨bb, 0, none⟩ = some (.int .i64 wa.why) ∧ w'.cell? ⟨bb, 1, none⟩ = some (.string wa.val) ∧ w'.cell? ⟨bb + 1, 0, none⟩ = some (.int .i64 wa.why) ∧ w'.cell? ⟨bb + 1, 1, none⟩ = some (.string wa.val) ∧ w'.cell? ⟨bi, 0, none⟩ = some (.int .i64 0) ∧ w'.cell? ⟨bi, 1, none⟩ = some (.int .i64 1) ∧ w'.cell? ⟨bi, 2, none⟩ = some (.slice ia nT icap) ∧ w'.cell? ⟨bi, 3, none⟩ = some (.slice ib nS icap2)) (first | (refine ⟨?_, ?_, ?_, ?_, ?_, ?_, ?_, ?_⟩ <;> with_reducible assumption) | go_keep) (first
            | (have _t := tokA; go_at_call 11; refine (Image_w (w1 := wc) (by first | exact (Below.refl _ _).drew | assumption) HZ.out.1.sh HN.out.1 HN.out.2).mono ?_; rintro e x5 ⟨ja, jcap, jb, jcap2, rfl, hO5, hb5⟩; obtain ⟨r0, r1⟩ := (HZ.out.2.1.below hb5).cells; obtain ⟨s0, s1⟩ := (HZ.out.2.2.1.below hb5).cells; obtain ⟨k0, k1, k2, k3⟩ := (HZ.out.2.2.2.1.below hb5).cells; have HO5 : Hid (RdI x5 ja jcap T' jb jcap2 (allS S')) := hO5.rd; have HB5 : Hid (Below wc.heap.size wc x5) := hb5; clear tokA _t hO5 hb5)
            | (go_at_call 22; refine (SameI_any 0 1 ja jcap jb jcap2 ia icap ib icap2 nT nS T' (allS S') x5 HN.out.1 HN.out.2 HO5.out (HZ.out.2.2.2.2.rd.below HB5.out)).mono ?_; rintro e x6 ⟨rfl, hb6⟩; obtain ⟨r0, r1⟩ := ((HZ.out.2.1.below HB5.out).below hb6).cells; obtain ⟨s0, s1⟩ := ((HZ.out.2.2.1.below HB5.out).below hb6).cells; obtain ⟨k0, k1, k2, k3⟩ := ((HZ.out.2.2.2.1.below HB5.out).below hb6).cells; have HB6 : Hid (Below wc.heap.size wc x6) := bel_call HB5.out hb6; clear hb6))
          all_goals
            go_wp2
            refine ⟨⟨j + 1, T', S', _, hc', had', po', tc', told', hlt, by go_num, by rw [HE.out.1], by rw [HE.out.2.1], by have := HE.out; omega, HZ.out.1.below HB6.out, HE.out.2.2.2⟩, by simp [intOf]; omega⟩
        · have hz3 : nh' = 0 := by omega
          subst hz3
          go_wp2
          refine ⟨⟨j + 1, T', S', ho', hc', had', po', tc', told', hlt, by go_num, by rw [HE.out.1], by rw [HE.out.2.1], by have := HE.out; omega, HS.out, HE.out.2.2.2⟩, by simp [intOf]; omega⟩
      · have hja2 : ¬ (j : Int) < (l1.length : Int) := by omega
        go_wp2
        refine ⟨⟨j + 1, T', S', ho', hc', had', po', tc', told', hlt, by go_num, by rw [HE.out.1], by rw [HE.out.2.1], by have := HE.out; omega, HS.out, HE.out.2.2.2⟩, by simp [intOf]; omega⟩
    · go_wp2_with fail
      refine (knownH_any _).mono ?_
      rintro e w5 ⟨rfl, hb5⟩
      have HB : Hid (Below w.heap.size w w5) := bel_call hbel hb5
      clear hb5 hbel
      go_wp2
      go_ret
      exact ⟨rfl, HB.out⟩
end Go.Proofs.Ytodgcfmacmfcpaa
