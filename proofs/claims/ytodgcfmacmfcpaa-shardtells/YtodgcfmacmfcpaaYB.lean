/- Shards: Ask. -/
import Derived.Test.YtodgcfmacmfcpaaYA
import Derived.Deep.RegionHeld3
namespace Go.Proofs.Ytodgcfmacmfcpaa
open Go.RowKit

/-- what Ask does, and answers -/
def askS (T : List Pr) (S : List Se) (c s k : Int) (key v old : ByteArray) : List Pr × List Se × Int × ByteArray × Bool :=
  if askableS c s k key v old then
    if s = (lastS S c).sq then (T, S, (lastS S c).why, (lastS S c).val, false)
    else if s < (lastS S c).sq then (T, S, 9, ⟨#[]⟩, false)
    else ((doS T k key v old).1, noteS S ⟨c, s, (doS T k key v old).2.1, (doS T k key v old).2.2⟩, (doS T k key v old).2.1, (doS T k key v old).2.2, true)
  else (T, S, 1, ⟨#[]⟩, false)
/-- a request, and room for an answer, in blocks of their own; a world in which only the object's cells turned, and new blocks -/
structure AskI (w : World) (g fo : Nat) (c s k : Int) (key v old : ByteArray) (a : Int) (y : ByteArray) (wx : World) : Prop where
  rq : ReqAt wx w.heap.size c s k key v old
  an : AnsAt wx (w.heap.size + 1) a y
  pt : Part g fo 35 w wx
section
variable {w wx w' : World} {g fo : Nat} {c s k : Int} {key v old : ByteArray} {a a' : Int} {y y' : ByteArray}
theorem AskI.new (w : World) (g fo : Nat) (hg : g < w.heap.size) (c s k : Int) (key v old : ByteArray) : AskI w g fo c s k key v old 0 ⟨#[]⟩ ((w.alloc (reqO c s k key v old)).alloc (.cells #[.int .i64 0, .string ⟨#[]⟩] 29)) :=
  ⟨al2_fst w _ _, al2_snd w _ _, Part.of_below _ _ hg (bel_al2 w _ _)⟩
theorem AskI.lt (h : AskI w g fo c s k key v old a y wx) : w.heap.size + 1 < wx.heap.size := (Array.getElem?_eq_some_iff.1 h.an).1
theorem AskI.below (h : AskI w g fo c s k key v old a y wx) (hg : g < w.heap.size) (hb : Below wx.heap.size wx w') : AskI w g fo c s k key v old a y w' :=
  ⟨h.rq.below hb, h.an.below hb, h.pt.trans (Part.of_below _ _ (by have := h.lt; omega) hb)⟩
theorem AskI.turn (h : AskI w g fo c s k key v old a y wx) (hg : g < w.heap.size) {p n : Nat} (hb : Part g p n wx w') (h1 : fo ≤ p) (h2 : p + n ≤ fo + 35) : AskI w g fo c s k key v old a y w' :=
  ⟨(hb.only.block _ (by have := h.lt; omega) (by omega)).trans h.rq, h.an.only hb.only (by omega), h.pt.trans (hb.mono h1 h2)⟩
theorem AnsAt.set {g : Nat} (h : AnsAt wx g a y) (a' : Int) (y' : ByteArray) : AnsAt ((wx.setCell ⟨g, 0, none⟩ (.int .i64 a')).setCell ⟨g, 1, none⟩ (.string y')) g a' y' := by
  have := wsets_heap (g := g) [.int .i64 a', .string y'] wx [.int .i64 a, .string y] 0 h
  rw [setsL_eq _ _ _ (Nat.le_refl _)] at this
  exact this
theorem AnsAt.free {g : Nat} (h : AnsAt wx g a y) (o : Nat) : wx.frozen? ⟨g, o, none⟩ = false := by unfold AnsAt at h; simp [World.frozen?, h]
theorem AskI.set (h : AskI w g fo c s k key v old a y wx) (hg : g < w.heap.size) (a' : Int) (y' : ByteArray) : AskI w g fo c s k key v old a' y' ((wx.setCell ⟨w.heap.size + 1, 0, none⟩ (.int .i64 a')).setCell ⟨w.heap.size + 1, 1, none⟩ (.string y')) := by
  have hO := wsets_only (w.heap.size + 1) [.int .i64 a', .string y'] wx 0
  refine ⟨(hO.block _ (by have := h.lt; omega) (by omega)).trans h.rq, h.an.set a' y', h.pt.fresh hO (by omega) hg⟩
end
theorem Last_xo (g o : Nat) (l : List Se) (c : Int) (w : World) (h : SesO w g o l) (x : Se) (hx : lastS l c = x) :
    Calls Try.prog 13 #[.pointer (some ⟨g, o, none⟩), .int .i64 c] w fun e w' => e = .returned (.tuple #[.agg #[.int .i64 x.cl, .int .i64 x.sq, .int .i64 x.why, .string x.val], .bool (hasS x)]) ∧ Below w.heap.size w w' := by subst hx; exact Last_o g o l c w h
theorem Note_xo (g o : Nat) (l : List Se) (a b c : Int) (v : ByteArray) (w : World) (h : SesO w g o l) (l' : List Se) (hl : noteS l ⟨a, b, c, v⟩ = l') :
    Calls Try.prog 31 #[.pointer (some ⟨g, o, none⟩), .agg #[.int .i64 a, .int .i64 b, .int .i64 c, .string v]] w fun e w' => (∃ ok, e = .returned (.bool ok)) ∧ SesO w' g o l' ∧ Part g o 16 w w' := by
  subst hl; exact (Note_o g o l ⟨a, b, c, v⟩ w h).mono fun _ _ ⟨h1, h2⟩ => ⟨⟨_, h1⟩, h2⟩
theorem Do_xo (g fo : Nat) (l : List Pr) (kind : Int) (key v old : ByteArray) (w : World) (h : TabO w g fo l) (l' : List Pr) (a : Int) (y : ByteArray) (hd : doS l kind key v old = (l', a, y)) :
    Calls Try.prog 30 #[.pointer (some ⟨g, fo, none⟩), .agg #[.int .i64 kind, .string key, .string v, .string old]] w fun e w' =>
      e = .returned (.agg #[.int .i64 a, .string y]) ∧ TabO w' g fo l' ∧ Part g fo 17 w w' := by
  have := Do_o g fo l kind key v old w h
  rw [hd] at this
  exact this
def askQ (g fo : Nat) (T : List Pr) (S : List Se) (id ep : Int) (c s k : Int) (key v old : ByteArray) (w : World) : Prop :=
  Calls Try.prog 9 #[.pointer (some ⟨g, fo, none⟩), .agg #[.int .i64 c, .int .i64 s, .int .i64 k, .string key, .string v, .string old]] w fun e w' =>
    e = .returned (.tuple #[.agg #[.int .i64 (askS T S c s k key v old).2.2.1, .string (askS T S c s k key v old).2.2.2.1], .bool (askS T S c s k key v old).2.2.2.2]) ∧
    ShO w' g fo (askS T S c s k key v old).1 (askS T S c s k key v old).2.1 id ep ∧ Part g fo 35 w w'
theorem Hid_ask {w : World} {g fo : Nat} {T : List Pr} {S : List Se} {id ep : Int} (h : ShO w g fo T S id ep) (c s k : Int) (key v old : ByteArray) :
    Hid (∃ W0 : World, (w.alloc (.cells #[.int .i64 c, .int .i64 s, .int .i64 k, .string key, .string v, .string old] 47)).alloc (.cells #[.int .i64 0, .string ⟨#[]⟩] 29) = W0 ∧ AskI w g fo c s k key v old 0 ⟨#[]⟩ W0 ∧ ShO W0 g fo T S id ep) :=
  ⟨_, rfl, AskI.new w g fo h.lt c s k key v old, h.below (bel_al2 w _ _)⟩
set_option maxHeartbeats 2000000 in
theorem Ask_no (g fo : Nat) (T : List Pr) (S : List Se) (id ep : Int) (c s k : Int) (key v old : ByteArray) (w : World) (h : ShO w g fo T S id ep) (hm : askableS c s k key v old = false) : askQ g fo T S id ep c s k key v old w := by
  have HA : Hid (askS T S c s k key v old = (T, S, 1, ⟨#[]⟩, false)) := by show _ = _; simp [askS, hm]
  unfold askQ
  rw [HA.out]
  have hg := h.lt
  have HI := Hid_ask h c s k key v old
  clear h
  go_enter Try.func9, Try.ntmps9
  go_upto_region 1 with fail
  obtain ⟨w1, e1, I1, H1⟩ := HI.out
  rw [e1]
  obtain ⟨q0, q1, q2, q3, q4, q5⟩ := I1.rq.cells
  have HI1 : Hid (AskI w g fo c s k key v old 0 ⟨#[]⟩ w1 ∧ ShO w1 g fo T S id ep) := ⟨I1, H1⟩
  clear HI e1 I1 H1
  go_wp2_with (go_at_call 29; refine (askable_eq c s k key v old false hm _).mono ?_; rintro e w2 ⟨rfl, hb⟩; have HI2 : Hid (AskI w g fo c s k key v old 0 ⟨#[]⟩ w2 ∧ ShO w2 g fo T S id ep) := ⟨HI1.out.1.below hg hb, HI1.out.2.below hb⟩; clear hb HI1; obtain ⟨c1, c2⟩ := HI2.out.1.an.cells; have hfz := HI2.out.1.an.free)
  have HI3 := HI2.out.1.set hg 1 ⟨#[]⟩
  obtain ⟨r1, r2⟩ := HI3.an.cells
  refine bodyPost_ret (by simp [results, Try.results9, go_sem, r1, r2]; try rfl) rfl ?_
  exact ⟨rfl, HI2.out.2.apart (wsets_only (w.heap.size + 1) [.int .i64 1, .string ⟨#[]⟩] w2 0) (by omega), HI3.pt⟩
set_option maxHeartbeats 4000000 in
theorem Ask_yes (g fo : Nat) (T : List Pr) (S : List Se) (id ep : Int) (c s k : Int) (key v old : ByteArray) (w : World) (h : ShO w g fo T S id ep) (hm : askableS c s k key v old = true) : askQ g fo T S id ep c s k key v old w := by
  have hg := h.lt
  obtain ⟨x, hx⟩ : ∃ x, lastS S c = x := ⟨_, rfl⟩
  obtain ⟨⟨T', a, y⟩, hD⟩ : ∃ D, doS T k key v old = D := ⟨_, rfl⟩
  obtain ⟨S', hS⟩ : ∃ S', noteS S ⟨c, s, a, y⟩ = S' := ⟨_, rfl⟩
  have hA : askS T S c s k key v old = if s = x.sq then (T, S, x.why, x.val, false) else if s < x.sq then (T, S, 9, ⟨#[]⟩, false) else (T', S', a, y, true) := by simp [askS, hm, hx, hD, hS]
  unfold askQ
  obtain ⟨⟨T2, S2, a2, y2, f2⟩, hR⟩ : ∃ R, askS T S c s k key v old = R := ⟨_, rfl⟩
  rw [hR] at hA ⊢
  dsimp only
  have HA : Hid ((T2, S2, a2, y2, f2) = if s = x.sq then (T, S, x.why, x.val, false) else if s < x.sq then (T, S, 9, ⟨#[]⟩, false) else (T', S', a, y, true)) := hA
  have HD : Hid (doS T k key v old = (T', a, y)) := hD
  have HS : Hid (noteS S ⟨c, s, a, y⟩ = S') := hS
  have HI := Hid_ask h c s k key v old
  clear h hA hR hD hS
  go_enter Try.func9, Try.ntmps9
  go_upto_region 1 with fail
  obtain ⟨w1, e1, I1, H1⟩ := HI.out
  rw [e1]
  obtain ⟨q0, q1, q2, q3, q4, q5⟩ := I1.rq.cells
  have HI1 : Hid (AskI w g fo c s k key v old 0 ⟨#[]⟩ w1 ∧ ShO w1 g fo T S id ep) := ⟨I1, H1⟩
  clear HI e1 I1 H1
  go_upto_region 3 with (go_at_call 29; refine (askable_eq c s k key v old true hm _).mono ?_; rintro e w2 ⟨rfl, hb⟩; have HI2 : Hid (AskI w g fo c s k key v old 0 ⟨#[]⟩ w2 ∧ ShO w2 g fo T S id ep) := ⟨HI1.out.1.below hg hb, HI1.out.2.below hb⟩; clear hb HI1)
  clear q0 q1 q2 q3 q4 q5
  obtain ⟨q0, q1, q2, q3, q4, q5⟩ := HI2.out.1.rq.cells
  have hlt := HI2.out.1.lt
  have hlt0 : w.heap.size < w2.heap.size := by omega
  have hg2 : g < w2.heap.size := by omega
  go_cut [6] (fun v wx => ∃ b, v = .pointer (some ⟨b, 0, none⟩) ∧ SeAt wx b x ∧ w2.heap.size ≤ b ∧ Below w2.heap.size w2 wx)
  case first =>
    go_region_with (go_at_call 13; refine (Last_xo g (fo + 17) S c _ (HI2.out.2.2.1.below (by first | exact (Below.refl _ _).drew | exact (bel_al _ _).drew)) x hx).mono ?_; rintro e w3 ⟨rfl, hb3⟩; first
      | (have hb4 : Below w2.drew.heap.size w2.drew w3 := (by with_reducible exact hb3); have HB3 : Hid (Below w2.heap.size w2 w3) := below_undrew hb4; clear hb3 hb4)
      | (have hb4 : Below (w2.alloc (.cells #[.int .i64 0, .int .i64 0, .int .i64 0, .string ⟨#[]⟩] 31)).drew.heap.size (w2.alloc (.cells #[.int .i64 0, .int .i64 0, .int .i64 0, .string ⟨#[]⟩] 31)).drew w3 := (by with_reducible exact hb3); have HZ : Hid (SeAt w3 w2.heap.size Se.z) := SeAt.below (w := w2.alloc (.cells #[.int .i64 0, .int .i64 0, .int .i64 0, .string ⟨#[]⟩] 31)) (x := Se.z) (alloc_new w2 _) (below_undrew hb4); have HB3 : Hid (Below w2.heap.size w2 w3) := (bel_al w2 _).trans ((below_undrew hb4).mono (bel_al w2 _).size); obtain ⟨z0, z1, z2, z3⟩ := HZ.out.cells; have zf := HZ.out.free; simp only [Se.z] at z0 z1 z2 z3; clear hb3 hb4))
    all_goals
      go_wp2
      go_meet
      case rel =>
        first
        | exact ⟨_, rfl, alloc_new w3 _, HB3.out.size, HB3.out.alloc HB3.out.size _⟩
        | exact ⟨_, rfl, HZ.out.set x, Nat.le_refl _, HB3.out.trans ((wsets_only w2.heap.size (Se.cells x) w3 0).below (fun i e => by omega) HB3.out.size)⟩
  case rest =>
  obtain ⟨b, rfl, hSe, hb, hB⟩ := hcut
  have hbl := hSe.lt
  have HI3 : Hid (AskI w g fo c s k key v old 0 ⟨#[]⟩ wc ∧ ShO wc g fo T S id ep ∧ SeAt wc b x ∧ w.heap.size + 1 < b) := ⟨HI2.out.1.below hg hB, HI2.out.2.below hB, hSe, by omega⟩
  clear q0 q1 q2 q3 q4 q5 hSe hB HI2 hlt hlt0 hg2 hb
  obtain ⟨q0, q1, q2, q3, q4, q5⟩ := HI3.out.1.rq.cells
  obtain ⟨s0, s1, s2, s3⟩ := HI3.out.2.2.1.cells
  obtain ⟨c1, c2⟩ := HI3.out.1.an.cells
  have hfz := HI3.out.1.an.free
  by_cases h1 : s = x.sq
  · obtain ⟨rfl, rfl, rfl, rfl, rfl⟩ : T2 = T ∧ S2 = S ∧ a2 = x.why ∧ y2 = x.val ∧ f2 = false := by have := HA.out; rw [if_pos h1] at this; simpa using this
    have h1' : x.sq = s := h1.symm
    rw [h1'] at s1
    clear h1 h1' HA
    go_wp2
    have HI4 := HI3.out.1.set hg x.why x.val
    obtain ⟨r1, r2⟩ := HI4.an.cells
    refine bodyPost_ret (by simp [results, Try.results9, go_sem, r1, r2]; try rfl) rfl ?_
    exact ⟨rfl, HI3.out.2.1.apart (wsets_only (w.heap.size + 1) [.int .i64 x.why, .string x.val] wc 0) (by omega), HI4.pt⟩
  · by_cases h2 : s < x.sq
    · obtain ⟨rfl, rfl, rfl, rfl, rfl⟩ : T2 = T ∧ S2 = S ∧ a2 = 9 ∧ y2 = ⟨#[]⟩ ∧ f2 = false := by have := HA.out; rw [if_neg h1, if_pos h2] at this; simpa using this
      go_wp2
      have HI4 := HI3.out.1.set hg 9 ⟨#[]⟩
      obtain ⟨r1, r2⟩ := HI4.an.cells
      refine bodyPost_ret (by simp [results, Try.results9, go_sem, r1, r2]; try rfl) rfl ?_
      exact ⟨rfl, HI3.out.2.1.apart (wsets_only (w.heap.size + 1) [.int .i64 9, .string ⟨#[]⟩] wc 0) (by omega), HI4.pt⟩
    · obtain ⟨rfl, rfl, rfl, rfl, rfl⟩ : T2 = T' ∧ S2 = S' ∧ a2 = a ∧ y2 = y ∧ f2 = true := by have := HA.out; rw [if_neg h1, if_neg h2] at this; simpa using this
      have hg3 := HI3.out.2.1.lt
      go_upto_region 8 with fail
      go_cut [] (fun wx => AskI w g fo c s k key v old a2 y2 wx ∧ ShO wx g fo T2 S id ep)
      case first =>
        go_region_with (go_at_call 30; refine (Do_xo g fo T k key v old _ (HI3.out.2.1.1.below (Below.refl _ _).drew) T2 a2 y2 HD.out).mono ?_; rintro e w3 ⟨rfl, hT3, hP3⟩; have HJ3 : Hid (AskI w g fo c s k key v old 0 ⟨#[]⟩ w3 ∧ ShO w3 g fo T2 S id ep) := ⟨HI3.out.1.turn hg ((Part.drew g fo 17 wc).trans hP3) (Nat.le_refl _) (by omega), HI3.out.2.1.tab hT3 ((Part.drew g fo 17 wc).trans hP3)⟩; clear hT3 hP3; obtain ⟨c1, c2⟩ := HJ3.out.1.an.cells; have hfz := HJ3.out.1.an.free)
        all_goals
          go_wp2
          go_meet
          case rel => exact ⟨HJ3.out.1.set hg a2 y2, HJ3.out.2.apart (wsets_only (w.heap.size + 1) [.int .i64 a2, .string y2] w3 0) (by omega)⟩
      case rest =>
      obtain ⟨hK, hSh⟩ := hcut
      clear q0 q1 q2 q3 q4 q5 s0 s1 s2 s3 c1 c2 hfz hg3 hbl
      obtain ⟨q0, q1, q2, q3, q4, q5⟩ := hK.rq.cells
      obtain ⟨c1, c2⟩ := hK.an.cells
      have hg3 := hSh.lt
      have HK : Hid (AskI w g fo c s k key v old a2 y2 _ ∧ ShO _ g fo T2 S id ep) := ⟨hK, hSh⟩
      clear hK hSh HI3 HD
      go_wp2_with fail
      go_region_with (go_at_call 31; refine (Note_xo g (fo + 17) S c s a2 y2 _ (HK.out.2.2.1.below (Below.refl _ _).drew) S2 HS.out).mono ?_; rintro e w4 ⟨⟨ok, rfl⟩, hS4, hP4⟩; have HL : Hid (AskI w g fo c s k key v old a2 y2 w4 ∧ ShO w4 g fo T2 S2 id ep) := ⟨HK.out.1.turn hg ((Part.drew g (fo + 17) 16 _).trans hP4) (by omega) (by omega), HK.out.2.ses hS4 ((Part.drew g (fo + 17) 16 _).trans hP4)⟩; clear hS4 hP4)
      all_goals
        clear q0 q1 q2 q3 q4 q5 c1 c2 hg3 HK
        obtain ⟨c1, c2⟩ := HL.out.1.an.cells
        have hfz := HL.out.1.an.free
        go_wp2
        have HI4 := HL.out.1.set hg a2 y2
        obtain ⟨r1, r2⟩ := HI4.an.cells
        refine bodyPost_ret (by simp [results, Try.results9, go_sem, r1, r2]; try rfl) rfl ?_
        exact ⟨rfl, HL.out.2.apart (wsets_only (w.heap.size + 1) [.int .i64 a2, .string y2] w4 0) (by omega), HI4.pt⟩
theorem Ask_o (g fo : Nat) (T : List Pr) (S : List Se) (id ep : Int) (c s k : Int) (key v old : ByteArray) (w : World) (h : ShO w g fo T S id ep) : askQ g fo T S id ep c s k key v old w := by
  cases hm : askableS c s k key v old with
  | false => exact Ask_no g fo T S id ep c s k key v old w h hm
  | true => exact Ask_yes g fo T S id ep c s k key v old w h hm
/-- .. its answer known -/
theorem Ask_eq (g fo : Nat) (T : List Pr) (S : List Se) (id ep : Int) (c s k : Int) (key v old : ByteArray) (w : World) (h : ShO w g fo T S id ep) (T' : List Pr) (S' : List Se) (a : Int) (y : ByteArray) (f : Bool) (hA : askS T S c s k key v old = (T', S', a, y, f)) :
    Calls Try.prog 9 #[.pointer (some ⟨g, fo, none⟩), .agg #[.int .i64 c, .int .i64 s, .int .i64 k, .string key, .string v, .string old]] w fun e w' =>
      e = .returned (.tuple #[.agg #[.int .i64 a, .string y], .bool f]) ∧ ShO w' g fo T' S' id ep ∧ Part g fo 35 w w' := by
  have := Ask_o g fo T S id ep c s k key v old w h
  unfold askQ at this
  rw [hA] at this
  exact this
end Go.Proofs.Ytodgcfmacmfcpaa
