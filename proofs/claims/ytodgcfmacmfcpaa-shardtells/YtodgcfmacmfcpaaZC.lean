/- Images of raw operations (osmosishand.Image), however they are bent. -/
import Derived.Test.YtodgcfmacmfcpaaYS
import Derived.Test.YtodgcfmacmfcpaaHV
namespace Go.Proofs.Ytodgcfmacmfcpaa
open Go.RowKit

/-- an element of a list of one's own is written, cell by cell -/
theorem OwnK.elem {α : Type} {K : Knd α} {B : Nat} {w : World} {ao : Option Addr} {cap : Nat} {l : List α} (h : OwnK K B w ao cap l) {p : Nat} (hp : p < l.length) : ∃ g, ao = some ⟨g, 0, none⟩ ∧ B ≤ g ∧ g < w.heap.size ∧ (∀ i, w.frozen? ⟨g, i, none⟩ = false) ∧ (∀ j u, (flt K l)[j]? = some u → w.cell? ⟨g, j, none⟩ = some u) ∧ ∀ x, OwnK K B (wsets w g (p * K.c) (K.cells x)) ao cap (l.set p x) := by
  obtain ⟨g, cur, rfl, h1, h2, h3, h4, h5⟩ := h.row (by omega)
  have hO : Ob w g 0 (flt K l) := ⟨cur, _, h3, by rw [flt_length, Nat.zero_add]; exact h4, fun j u hj => by
    rw [← h5, List.getElem?_take] at hj
    split at hj
    · rw [Nat.zero_add]; simpa using hj
    · cases hj⟩
  refine ⟨g, rfl, h1, h2, hO.free, fun j u hj => by have := hO.at j u hj; rwa [Nat.zero_add] at this, fun x => ?_⟩
  have hb : p * K.c + (K.cells x).length ≤ cur.toList.length := by
    rw [K.len, Array.length_toList]
    have := Nat.mul_le_mul_right K.c hp
    rw [Nat.succ_mul] at this
    omega
  have hb2 : p * K.c + K.c ≤ l.length * K.c := by
    have := Nat.mul_le_mul_right K.c hp
    rw [Nat.succ_mul] at this
    exact this
  have hw := wsets_heap (g := g) (t := K.e) (K.cells x) w cur.toList (p * K.c) (by simpa using h3)
  rw [setsL_eq _ _ _ hb, K.len] at hw
  obtain ⟨hc1, hc2, _⟩ := h.caps
  refine ⟨by rw [flt_length], .inr ⟨g, cap, _, by rw [List.length_set], h1, hw, by rw [List.length_set]; exact hc1, hc2, ?_, ?_⟩⟩
  · rcases h.2 with ⟨e, _⟩ | ⟨g', cp, cur', e, _, hg', _, _, hs, _⟩
    · simp at e
    · simp only [Value.slice.injEq, Option.some.injEq, Addr.mk.injEq] at e
      obtain ⟨⟨rfl, _⟩, _, rfl⟩ := e
      rw [h3] at hg'
      simp only [Option.some.injEq, Obj.cells.injEq] at hg'
      obtain ⟨rfl, _⟩ := hg'
      rw [← hs]
      simp only [List.size_toArray, List.length_append, List.length_take, List.length_drop, Array.length_toList, K.len]
      omega
  · rw [List.length_set, flt_set l p hp, ← h5]
    have e1 : (cur.toList.take (p * K.c) ++ K.cells x).length = p * K.c + K.c := by rw [List.length_append, List.length_take, K.len, Array.length_toList]; omega
    rw [List.take_append, e1, List.take_of_length_le (by rw [e1]; exact hb2), List.take_take, List.drop_take, show min (p * K.c) (l.length * K.c) = p * K.c by omega]
theorem flt_split {α : Type} {K : Knd α} (l : List α) (p : Nat) (hp : p < l.length) : flt K l = (flt K l).take (p * K.c) ++ K.cells l[p] ++ (flt K l).drop (p * K.c + K.c) := by
  have := flt_set (K := K) l p hp l[p]
  rwa [List.set_getElem_self] at this
theorem flt_set1 {α : Type} {K : Knd α} (l : List α) (p : Nat) (hp : p < l.length) (j : Nat) (hj : j < K.c) (u : Value) (x : α) (hx : K.cells x = (K.cells l[p]).set j u) : (flt K l).set (p * K.c + j) u = flt K (l.set p x) := by
  have hb : p * K.c + K.c ≤ (flt K l).length := by
    rw [flt_length]
    have := Nat.mul_le_mul_right K.c hp
    rw [Nat.succ_mul] at this
    exact this
  have e1 : ((flt K l).take (p * K.c)).length = p * K.c := by rw [List.length_take]; omega
  rw [flt_set l p hp, hx]
  conv => lhs; rw [flt_split l p hp]
  rw [List.append_assoc, List.set_append_right _ _ (by rw [e1]; omega), e1, Nat.add_sub_cancel_left, List.set_append_left _ _ (by rw [K.len]; exact hj), List.append_assoc]
/-- .. one cell of it -/
theorem OwnK.cell1 {α : Type} {K : Knd α} {B : Nat} {w : World} {ao : Option Addr} {cap : Nat} {l : List α} (h : OwnK K B w ao cap l) {p : Nat} (hp : p < l.length) (j : Nat) (hj : j < K.c) (u : Value) (x : α) (hx : K.cells x = (K.cells l[p]).set j u) {g : Nat} (hg : ao = some ⟨g, 0, none⟩) : OwnK K B (w.setCell ⟨g, p * K.c + j, none⟩ u) ao cap (l.set p x) := by
  subst hg
  have h' : w.ownsRow B K.e K.c (.slice (some ⟨g, 0, none⟩) l.length cap) l.length (flt K l) := h
  have := (h'.stored (p * K.c + j) u).1
  rw [flt_set1 l p hp j hj u x hx] at this
  show World.ownsRow _ _ _ _ _ _ _
  rw [List.length_set]
  exact this
theorem own_obj2 {α : Type} {K : Knd α} {B : Nat} {w : World} {ao : Option Addr} {cap n : Nat} {l : List α} (h : OwnK K B w ao cap l) {g : Nat} {cur : Array Value} {t : TypeId} {fr : Nat × Nat} (hg : w.heap[g]? = some (.cells cur t fr)) (he : K.e ≠ t) (hn : l.length = n) : ¬ (Value.slice ao n cap).ownBlock = some g := by
  subst hn
  intro e
  rcases h.2 with ⟨e1, _⟩ | ⟨b, cp, cur2, e1, _, hb, _⟩
  · rw [e1] at e; cases e
  · rw [e1] at e
    obtain rfl : b = g := by simpa [Value.ownBlock] using e
    rw [hb] at hg
    simp only [Option.some.injEq, Obj.cells.injEq] at hg
    exact he hg.2.1
theorem OwnK.ne_at {α : Type} {K : Knd α} {B : Nat} {w : World} {ao : Option Addr} {cap : Nat} {l : List α} (h : OwnK K B w ao cap l) {b : Nat} {cur : Array Value} {t : TypeId} {fr : Nat × Nat} (hb : w.heap[b]? = some (.cells cur t fr)) (he : K.e ≠ t) : ∀ g, ao = some ⟨g, 0, none⟩ → ¬ g = b := by
  rintro g rfl rfl
  exact own_obj2 h hb he rfl rfl
theorem step_one {P : Program} {w : World} {ops : Array Oper} {o : Oper} {a : Act} {K : Act → World → Prop} {Q : Exit → Act → World → Prop} {E : Prop} (hgd : o.guard = none) (f : FuncId) (x : Operand) (ats : Array TypeId)
    (ho : o.op = .call { callee := .value (.func f), args := #[x], argTypes := ats }) (hcf : ∀ args w, (callFunc f args).run P w = .ok (.enter f args) w)
    (vx : Value) (hx : a.eval x = vx) (R : Value → World → Prop)
    (hc : Calls P f #[vx] w fun e w' => ∃ v, e = .returned v ∧ R v w') (h : ∀ v w', R v w' → K (a.put o.dst v) w') :
    if Region.wanted o (yielded ops a.tmps) = true then Oper.wp P o a w K Q else E :=
  step_call hgd f _ ats ho hcf _ (by simp [hx]) R hc h
theorem pr_im : prK.e ≠ 41 := by decide
theorem se_im : seK.e ≠ 41 := by decide
/-- an image in block b, in memory of its own; the result's block -/
structure Bt (w0 w : World) (b : Nat) (id ep : Int) (n m : Nat) (T : List Pr) (S : List Se) (ao : Option Addr) (cap : Nat) (bo : Option Addr) (cap2 : Nat) : Prop where
  im : ImAt w b id ep (.slice ao n cap) (.slice bo m cap2)
  n : T.length = n
  m : S.length = m
  ps : OwnK prK (w0.heap.size + 1) w ao cap T
  xs : OwnK seK (w0.heap.size + 1) w bo cap2 S
  rs : ImAt w w0.heap.size 0 0 (.slice none 0 0) (.slice none 0 0)
  bel : Below w0.heap.size w0 w
  ne : w0.heap.size < b
section
variable {w0 w w' : World} {b : Nat} {id ep id' ep' : Int} {n m n' m' : Nat} {T T' : List Pr} {S S' : List Se} {ao bo ao' bo' : Option Addr} {cap cap2 cap' cap2' : Nat}
theorem Bt.below (h : Bt w0 w b id ep n m T S ao cap bo cap2) (hb : Below w.heap.size w w') : Bt w0 w' b id ep n m T S ao cap bo cap2 := ⟨h.im.below hb, h.n, h.m, h.ps.below hb, h.xs.below hb, h.rs.below hb, bel_call h.bel hb, h.ne⟩
/-- the image's own cells are written -/
theorem Bt.wr (h : Bt w0 w b id ep n m T S ao cap bo cap2) (o : Only (fun k => k = b) w w') (hI : ImAt w' b id' ep' (.slice ao n cap) (.slice bo m cap2)) : Bt w0 w' b id' ep' n m T S ao cap bo cap2 :=
  ⟨hI, h.n, h.m, h.ps.apart o (h.ps.ne_at h.im pr_im), h.xs.apart o (h.xs.ne_at h.im se_im), h.rs.only o (by have := h.ne; omega), h.bel.trans (o.below (fun i e => by have := h.ne; omega) h.bel.size), h.ne⟩
theorem Bt.none (h : Bt w0 w b id ep n m T S ao cap bo cap2) (o : Only (fun k => k = b) w w') (hI : ImAt w' b 0 0 (.slice .none 0 0) (.slice .none 0 0)) : Bt w0 w' b 0 0 0 0 [] [] .none 0 .none 0 :=
  ⟨hI, rfl, rfl, OwnK.nil _ _ _, OwnK.nil _ _ _, h.rs.only o (by have := h.ne; omega), h.bel.trans (o.below (fun i e => by have := h.ne; omega) h.bel.size), h.ne⟩
/-- a pair more -/
theorem Bt.add (h : Bt w0 w b id ep n m T S ao cap bo cap2) (hO : OwnK prK (w0.heap.size + 1) w' ao' cap' T') (hn : T'.length = n') (hg : w.grownBy w' (Value.slice ao n cap).ownBlock) (hb : Below (w0.heap.size + 1) w w') : Bt w0 (w'.setCell ⟨b, 2, .none⟩ (.slice ao' n' cap')) b id ep n' m T' S ao' cap' bo cap2 := by
  have o1 := Only.of_grown (S := fun k => (Value.slice ao n cap).ownBlock = some k) hg fun k hk => hk
  have hI := h.im.only o1 (own_obj2 h.ps h.im pr_im h.n)
  have hx := h.xs.beside h.ps pr_se h.n hg
  have o2 := Only.of_set (S := fun k => k = b) w' ⟨b, 2, .none⟩ (.slice ao' n' cap') rfl
  have hI2 : ImAt (w'.setCell ⟨b, 2, .none⟩ (.slice ao' n' cap')) b id ep (.slice ao' n' cap') (.slice bo m cap2) := set_row1 hI _
  have hB : Below w0.heap.size w0 w' := h.bel.trans (hb.mono (by omega))
  exact ⟨hI2, hn, h.m, hO.apart o2 (hO.ne_at hI pr_im), hx.apart o2 (hx.ne_at hI se_im), (show ImAt w' w0.heap.size 0 0 (.slice .none 0 0) (.slice .none 0 0) from (hb.block _ (Nat.lt_succ_self _)).trans h.rs).only o2 (by have := h.ne; omega), hB.trans (o2.below (fun i e => by have := h.ne; omega) hB.size), h.ne⟩
/-- the pairs' block is written -/
theorem Bt.ofP (h : Bt w0 w b id ep n m T S ao cap bo cap2) {g : Nat} (hg : ao = some ⟨g, 0, .none⟩) (o : Only (fun k => k = g) w w') (hO : OwnK prK (w0.heap.size + 1) w' ao cap T') (hn : T'.length = n) : Bt w0 w' b id ep n m T' S ao cap bo cap2 :=
  have hgb := h.ps.ne_at h.im pr_im g hg
  have h1 := (h.ps.lt g (by rw [hg]; rfl)).1
  ⟨h.im.only o (fun e => hgb e.symm), hn, h.m, hO, h.xs.apart o (fun g' e e2 => ne_of_kinds h.ps h.xs pr_se ⟨g, 0, .none⟩ ⟨g', 0, .none⟩ hg e e2.symm), h.rs.only o (by omega), h.bel.trans (o.below (fun i e => by omega) h.bel.size), h.ne⟩
/-- .. the sessions' -/
theorem Bt.ofS (h : Bt w0 w b id ep n m T S ao cap bo cap2) {g : Nat} (hg : bo = some ⟨g, 0, .none⟩) (o : Only (fun k => k = g) w w') (hO : OwnK seK (w0.heap.size + 1) w' bo cap2 S') (hm : S'.length = m) : Bt w0 w' b id ep n m T S' ao cap bo cap2 :=
  have hgb := h.xs.ne_at h.im se_im g hg
  have h1 := (h.xs.lt g (by rw [hg]; rfl)).1
  ⟨h.im.only o (fun e => hgb e.symm), h.n, hm, h.ps.apart o (fun g' e e2 => ne_of_kinds h.ps h.xs pr_se ⟨g', 0, .none⟩ ⟨g, 0, .none⟩ e hg e2), hO, h.rs.only o (by omega), h.bel.trans (o.below (fun i e => by omega) h.bel.size), h.ne⟩
end
set_option maxRecDepth 20000 in
set_option maxHeartbeats 8000000 in
theorem HImage_any (k epoch : Int) (ao : Option Addr) (n c : Nat) (l : List RawO) (bend : Int) (w : World) (h0 : RdG 8 RawO.Q w.heap.size w ao n c l) :
    Calls Try.prog 15 #[.int .i64 k, .int .i64 epoch, .slice ao n c, .int .i64 bend] w fun e w' => ∃ (id ep : Int) (n' m' : Nat) (T : List Pr) (S : List Se) (ao' : Option Addr) (cap : Nat) (bo : Option Addr) (cap2 : Nat), e = .returned (.agg #[.int .i64 id, .int .i64 ep, .slice ao' n' cap, .slice bo m' cap2]) ∧ T.length = n' ∧ S.length = m' ∧ OwnI w.heap.size w' ao' cap T bo cap2 S ∧ Below w.heap.size w w' := by
  obtain ⟨m, hm⟩ : ∃ m, pick bend 14 = m := ⟨_, rfl⟩
  obtain ⟨id, hid⟩ : ∃ id, pick k 6 = id := ⟨_, rfl⟩
  obtain ⟨ep, hep⟩ : ∃ ep, 1 + pick epoch 6 = ep := ⟨_, rfl⟩
  have H0 : Hid (RdG 8 RawO.Q w.heap.size w ao n c l) := h0
  obtain ⟨hl1, hm1⟩ := h0.len
  subst hl1
  obtain ⟨e6, he6⟩ : ∃ e6, pick epoch 6 = e6 := ⟨_, rfl⟩
  have l3 := pick_lo epoch 6 (by omega)
  have l4 := pick_hi epoch 6 (by omega)
  have l5 := pick_lo bend 14 (by omega)
  rw [he6] at l3 l4
  have l6 := pick_hi bend 14 (by omega)
  rw [hm] at l5 l6
  have HID : Hid (pick k 6 = id) := hid
  have HE6 : Hid (pick epoch 6 = e6) := he6
  have HEP : Hid (1 + e6 = ep) := by rw [he6] at hep; exact hep
  have HM : Hid (pick bend 14 = m) := hm
  have hw : IntKind.i64.wrap (1 + e6) = 1 + e6 := by rw [IntKind.wrap_i64]; omega
  have HI : Hid (∃ w1 : World, w.alloc (.cells #[.int .i64 0, .int .i64 0, .slice none 0 0, .slice none 0 0] 41) = w1 ∧ ImAt w1 w.heap.size 0 0 (.slice none 0 0) (.slice none 0 0) ∧ Below w.heap.size w w1) :=
    ⟨_, rfl, alloc_new w _, bel_al w _⟩
  clear h0 hid hep hm he6
  go_enter Try.func15, Try.ntmps15
  go_upto_region 1 with fail
  obtain ⟨w1, e1, I1, B1⟩ := HI.out
  rw [e1]
  have HW : Hid (ImAt w1 w.heap.size 0 0 (.slice none 0 0) (.slice none 0 0) ∧ Below w.heap.size w w1) := ⟨I1, B1⟩
  have hlt := I1.lt
  clear HI e1 I1 B1
  have tokA : True := trivial
  go_wp2_with (go_at_call 24; first | (have _t := tokA; refine (Pick_eq _ _ _ (by omega) (by omega) HID.out).mono ?_; rintro e w' ⟨rfl, rfl⟩; clear tokA _t) | (refine (Pick_eq _ _ _ (by omega) (by omega) HE6.out).mono ?_; rintro e w' ⟨rfl, rfl⟩))
  rw [HEP.out]
  refine (ShardFrom_any w.heap.size none 0 0 [] none 0 0 [] id ep _ rfl (PrR.nil _) rfl (ArK.nil _ _ _) hlt).mono ?_
  rintro e w2 ⟨g, rfl, hSh, hb, hg⟩
  have HK : Hid (Mk w w2 w.heap.size g [] zeroS id ep) := ⟨hSh, Fine.zero, HW.out.1.below hb, bel_call HW.out.2 hb, Nat.le_refl _, by omega⟩
  clear hSh hb hg hlt
  go_wp2_with fail
  go_loopw [10] (fun i wr => ∃ (j : Nat) (T : List Pr) (S : List Se), j ≤ l.length ∧ j ≤ 12 ∧ i = .int .i64 j ∧ Mk w wr w.heap.size g T S id ep) (fun i _ => l.length - (intOf i).toNat)
  case atStart => exact ⟨0, [], zeroS, Nat.zero_le _, by omega, rfl, HK.out⟩
  case round =>
    obtain ⟨j, T, S, hj, hj12, rfl, hS⟩ := hrel
    have HS : Hid (Mk w wr w.heap.size g T S id ep) := hS
    by_cases hlt : j < l.length ∧ j < 12
    · obtain ⟨hlt1, hlt2⟩ := hlt
      obtain ⟨b, off, rfl, hb, hcl⟩ := raw_cells H0.out (by omega)
      obtain ⟨r, hr⟩ : ∃ r, l[j] = r := ⟨_, rfl⟩
      obtain ⟨q0, q1, q2, q3, q4, q5, q6, q7⟩ := hcl wr hS.bel j r (by rw [← hr]; exact List.getElem?_eq_getElem hlt1)
      have hji : (j : Int) < (l.length : Int) := by omega
      have hj12' : (j : Int) < 12 := by omega
      obtain ⟨rk, ry, rv, ro, rc, rs, rb, rt⟩ := r
      simp only at q0 q1 q2 q3 q4 q5 q6 q7
      obtain ⟨k3, hk3⟩ : ∃ k3, pick rk 3 = k3 := ⟨_, rfl⟩
      have m3 := pick_lo rk 3 (by omega)
      have m4 := pick_hi rk 3 (by omega)
      rw [hk3] at m3 m4
      have HK3 : Hid (pick rk 3 = k3) := hk3
      obtain ⟨q, hq⟩ : ∃ q : Rq, q = ⟨pick rc 4, 1 + pick rs 9, oKind (1 + k3), keyS ry, oVal (1 + k3) rv, oOld (1 + k3) ro⟩ := ⟨_, rfl⟩
      have HQ : Hid (q = _) := hq
      clear hcl hr hq hk3 hS HK
      go_wp2_with (go_at_call 24; refine (Pick_eq _ _ _ (by omega) (by omega) HK3.out).mono ?_; rintro e w' ⟨rfl, rfl⟩)
      refine (Req_rq (1 + k3) ry rv ro rc rs rt _ HQ.out).mono ?_
      rintro e w5 ⟨rfl, hb5⟩
      have H5 : Hid (Mk w w5 w.heap.size g T S id ep) := (HS.out.below (bel_al wr _)).below hb5
      obtain ⟨⟨T', S', a, y, f⟩, hA⟩ : ∃ R, askS T S q.c q.s q.k q.key q.v q.old = R := ⟨_, rfl⟩
      have HA : Hid (_ = _) := hA
      clear hb5 hA HQ HS q0 q1 q2 q3 q4 q5 q6 q7
      go_wp2_with fail
      refine (askR_eq w.heap.size g T S id ep _ _ _ _ _ _ _ H5.out.sh (by have := H5.out.sh.lt; have := H5.out.b1; omega) _ _ _ _ _ HA.out).mono ?_
      rintro e w6 ⟨rfl, hSh, hP⟩
      have H6 : Hid (Mk w w6 w.heap.size g T' S' id ep) := H5.out.turn hSh (H5.out.fine.ask HA.out) hP
      clear hSh hP H5
      go_wp2
      refine ⟨⟨j + 1, T', S', hlt1, hlt2, by go_num, H6.out⟩, by simp [intOf]; omega⟩
    · have hx : (¬ (j : Int) < (l.length : Int)) ∨ ((j : Int) < (l.length : Int) ∧ ¬ (j : Int) < 12) := by omega
      clear hlt hS HK
      rcases hx with hx | ⟨hx, hx2⟩
      all_goals
        go_wp2_with fail
        refine (ImageR_o w.heap.size g T S id ep _ HS.out.sh).mono ?_
        rintro e w3 ⟨ao', cap, bo, cap2, rfl, hO, hb⟩
        obtain ⟨n1, hn1⟩ : ∃ n, T.length = n := ⟨_, rfl⟩
        obtain ⟨n2, hn2⟩ : ∃ n, (allS S).length = n := ⟨_, rfl⟩
        rw [hn1, hn2]
        have HFN : Hid (Fine T S) := HS.out.fine
        have HN : Hid (T.length = n1 ∧ (allS S).length = n2) := ⟨hn1, hn2⟩
        have HX : Hid (∃ w4 b4, w3.alloc (.cells #[.int .i64 id, .int .i64 ep, .slice ao' n1 cap, .slice bo n2 cap2] 41) = w4 ∧ w3.heap.size = b4 ∧ ImAt w4 b4 id ep (.slice ao' n1 cap) (.slice bo n2 cap2) ∧ OwnI (w.heap.size + 1) w4 ao' cap T bo cap2 (allS S) ∧ ImAt w4 w.heap.size 0 0 (.slice none 0 0) (.slice none 0 0) ∧ Below w.heap.size w w4 ∧ w.heap.size < b4) :=
          ⟨_, _, rfl, rfl, alloc_new w3 _, (hO.below (bel_al w3 _)).lower HS.out.im.lt, (HS.out.im.below hb).below (bel_al w3 _), bel_call (bel_call HS.out.bel hb) (bel_al w3 _), (HS.out.im.below hb).lt⟩
        clear hO hb hn1 hn2 HS
        go_upto_region 10 with fail
        obtain ⟨w4, b4, e4, eb4, I4, O4, R4, B4, N4⟩ := HX.out
        rw [e4, eb4]
        obtain ⟨i0, i1, i2, i3⟩ := I4.cells
        have HY : Hid (Bt w w4 b4 id ep n1 n2 T (allS S) ao' cap bo cap2) := ⟨I4, HN.out.1, HN.out.2, OwnPr.k.1 O4.ps, O4.xs, R4, B4, N4⟩
        clear HX e4 eb4 I4 O4 R4 B4
        go_upto_block 2 with (go_at_call 24; refine (Pick_eq _ _ _ (by omega) (by omega) HM.out).mono ?_; rintro e w' ⟨rfl, rfl⟩)
        have hfz := HY.out.im.free
        have hb4 := HY.out.im.lt
        have hf1 : n1 ≤ 8 := by have := HFN.out.few; have := HN.out.1; omega
        have hf2 : n2 ≤ 4 := by have := allS_few HFN.out.inv; have := HN.out.2; omega
        go_cut [] (fun wx => ∃ (id' ep' : Int) (n' m' : Nat) (T' : List Pr) (S' : List Se) (ao' : Option Addr) (cap : Nat) (bo : Option Addr) (cap2 : Nat), Bt w wx b4 id' ep' n' m' T' S' ao' cap bo cap2)
        case first =>
          have h14 : m < 8 ∨ m = 8 ∨ m = 9 ∨ m = 10 ∨ m = 11 ∨ m = 12 ∨ m = 13 := by omega
          rcases h14 with h8 | rfl | rfl | rfl | rfl | rfl | rfl
          · have n8 : ¬ m = 8 := by omega
            have n9 : ¬ m = 9 := by omega
            have n10 : ¬ m = 10 := by omega
            have n11 : ¬ m = 11 := by omega
            have n12 : ¬ m = 12 := by omega
            have n13 : ¬ m = 13 := by omega
            go_wp2
            go_meet
            case rel => exact ⟨_, _, _, _, _, _, _, _, _, _, HY.out⟩
          · go_wp2_with (go_at_call 40; refine (Num_any _ _).mono ?_; rintro e w' ⟨x, rfl, rfl⟩)
            go_meet
            case rel => exact ⟨_, _, _, _, _, _, _, _, _, _, HY.out.wr (Only.of_set (S := fun k => k = b4) _ ⟨b4, 0, none⟩ _ rfl) (set_row1 HY.out.im _)⟩
          · go_wp2_with (go_at_call 40; refine (Num_any _ _).mono ?_; rintro e w' ⟨x, rfl, rfl⟩)
            go_meet
            case rel => exact ⟨_, _, _, _, _, _, _, _, _, _, HY.out.wr (Only.of_set (S := fun k => k = b4) _ ⟨b4, 1, none⟩ _ rfl) (set_row1 HY.out.im _)⟩
          · obtain ⟨kk, hkk⟩ : ∃ kk, keyS (IntKind.i64.wrap (bend.tdiv 14)) = kk := ⟨_, rfl⟩
            have HKK : Hid (keyS (IntKind.i64.wrap (bend.tdiv 14)) = kk) := hkk
            clear hkk
            have cfK := run_callFunc (P := Try.prog) (f := 25) Try.func25 (by kernel_rfl) (by kernel_rfl)
            have HKC : Hid (Calls Try.prog 25 #[.int .i64 (IntKind.i64.wrap (bend.tdiv 14))] w'.drew fun e w'' => ∃ v, e = .returned v ∧ (v = .string kk ∧ w'' = w'.drew)) := (Key_any _ _).mono fun _ _ ⟨h1, h2⟩ => ⟨_, h1, by rw [HKK.out], h2⟩
            go_upto_region 16 with fail
            go_region_law (first
              | (refine step_one rfl 25 _ _ rfl cfK (.int .i64 (IntKind.i64.wrap (bend.tdiv 14))) rfl (fun v wv => v = .string kk ∧ wv = w'.drew) HKC.out ?_; rintro v wk ⟨rfl, rfl⟩)
              | (refine stepK prK rfl _ _ rfl rfl rfl (w.heap.size + 1) ao' cap n1 T rfl HN.out.1 ((HY.out.below (bel_ad w' _)).ps) (some ⟨w'.heap.size, 0, none⟩) 1 1 [(kk, ⟨#[118]⟩)] rfl ((SrcK.one (K := prK) w' (kk, ⟨#[118]⟩)).below ((Below.refl _ _).drew)) (by show (_ + _ / 4 + 192) * 32 ≤ _; omega) (by omega) (by show _ ≤ (w'.heap.push _).size; have := HY.out.rs.lt; simp; omega) ?_; intro ao2 cp2 x1 hown hgr hb1; have HYD := HY.out.below (bel_ad w' (.cells #[.string kk, .string ⟨#[118]⟩] 23)); have hI1 := HYD.im.only (Only.of_grown (S := fun k => (Value.slice ao' n1 cap).ownBlock = some k) hgr fun k hk => hk) (own_obj2 HYD.ps HYD.im pr_im HYD.n); obtain ⟨z0, z1, z2, z3⟩ := hI1.cells; have zf := hI1.free; have HAD := HYD.add hown (n' := n1 + 1) (by rw [List.length_append, HN.out.1]; rfl) hgr hb1; have HAD : Hid _ := HAD; clear hown hgr hb1 HYD hI1))
            all_goals
              go_wp2
              go_meet
              case rel => exact ⟨_, _, _, _, _, _, _, _, _, _, HAD.out⟩
          · by_cases hz : 0 < n2
            · have hz2 : (0 : Int) < (n2 : Int) := by omega
              obtain ⟨g, hg, hg1, hg2, hg3, hg4, _⟩ := HY.out.xs.elem (p := 0) (by rw [HY.out.m]; exact hz)
              have hlS : 0 < (allS S).length := by rw [HY.out.m]; exact hz
              have hc := hg4 2 (.int .i64 (allS S)[0].why) (flt_get (K := seK) (allS S) 0 hlS 2 (by decide))
              have HG : Hid (bo = some ⟨g, 0, none⟩) := hg
              obtain ⟨y0, hy0⟩ : ∃ y, (allS S)[0] = y := ⟨_, rfl⟩
              rw [hy0] at hc
              have HY0 : Hid ((allS S)[0] = y0) := hy0
              have hgne : g ≠ b4 := HY.out.xs.ne_at HY.out.im se_im g hg
              clear hg4 hy0
              subst hg
              have HC1 : Hid (∀ v, Bt w (w'.setCell ⟨g, 2, none⟩ (.int .i64 v)) b4 id ep n1 n2 T ((allS S).set 0 ⟨y0.cl, y0.sq, v, y0.val⟩) ao' cap (some ⟨g, 0, none⟩) cap2) := fun v =>
                HY.out.ofS rfl (Only.of_set (S := fun k => k = g) w' ⟨g, 2, none⟩ _ rfl) (HY.out.xs.cell1 hlS 2 (by decide) (.int .i64 v) ⟨y0.cl, y0.sq, v, y0.val⟩ (by rw [HY0.out]; rfl) rfl) (by rw [List.length_set]; exact HY.out.m)
              go_upto_region 19 with fail
              go_region_with (go_at_call 24; refine (Pick_any _ _ _ (by omega) (by omega)).mono ?_; rintro e wk ⟨rfl, rfl⟩)
              all_goals
                go_wp2
                go_meet
                case rel => exact ⟨_, _, _, _, _, _, _, _, _, _, (HC1.out _).below (Below.refl _ _).drew⟩
            · have hz2 : ¬ (0 : Int) < (n2 : Int) := by omega
              go_wp2
              go_meet
              case rel => exact ⟨_, _, _, _, _, _, _, _, _, _, HY.out⟩
          · by_cases hz : 1 < n1
            · have hz2 : (1 : Int) < (n1 : Int) := by omega
              have hl0 : 0 < T.length := by rw [HY.out.n]; omega
              have hl1 : 1 < T.length := by rw [HY.out.n]; omega
              obtain ⟨g, hg, hg1, hg2, hg3, hg4, _⟩ := HY.out.ps.elem hl0
              have hr : ∀ (p : Nat) (hp : p < T.length), w'.cell? ⟨g, p * 2, none⟩ = some (.string T[p].1) ∧ w'.cell? ⟨g, p * 2 + 1, none⟩ = some (.string T[p].2) := fun p hp => ⟨hg4 (p * 2) _ (flt_get (K := prK) T p hp 0 (by decide)), hg4 (p * 2 + 1) _ (flt_get (K := prK) T p hp 1 (by decide))⟩
              obtain ⟨a0, a1⟩ := hr 0 hl0
              obtain ⟨c0, c1⟩ := hr 1 hl1
              obtain ⟨t0, ht0⟩ : ∃ t, T[0] = t := ⟨_, rfl⟩
              obtain ⟨t1, ht1⟩ : ∃ t, T[1] = t := ⟨_, rfl⟩
              rw [ht0] at a0 a1
              rw [ht1] at c0 c1
              simp only [Nat.zero_mul, Nat.zero_add, Nat.one_mul] at a0 a1 c0 c1
              have hgne : g ≠ b4 := HY.out.ps.ne_at HY.out.im pr_im g hg
              have HWN : Hid (w.heap.size < g) := hg1
              clear hr hg4 ht0 ht1 hg1
              subst hg
              have HP : Hid (∃ wy bp, w'.alloc (.cells #[.string t0.1, .string t0.2] 23) = wy ∧ w'.heap.size = bp ∧ Bt w wy b4 id ep n1 n2 T (allS S) (some ⟨g, 0, none⟩) cap bo cap2 ∧ wy.heap[bp]? = some (.cells #[.string t0.1, .string t0.2] 23) ∧ g < bp ∧ wy.cell? ⟨g, 2, none⟩ = some (.string t1.1) ∧ wy.cell? ⟨g, 3, none⟩ = some (.string t1.2)) :=
                ⟨_, _, rfl, rfl, HY.out.below (bel_al w' _), alloc_new w' _, hg2, ((bel_al w' _).cell (p := ⟨g, 2, none⟩) hg2).trans c0, ((bel_al w' _).cell (p := ⟨g, 3, none⟩) hg2).trans c1⟩
              go_upto_region 23 with fail
              obtain ⟨wy, bp, e1, e2, BY, PY, LY, d0, d1⟩ := HP.out
              rw [e1, e2]
              obtain ⟨z0, z1, z2, z3⟩ := BY.im.cells
              obtain ⟨_, hgq, _, hy2, hy3, hy4, hy5⟩ := BY.ps.elem hl0
              obtain rfl : g = _ := by simpa using hgq
              have f0 := hy4 0 _ (flt_get (K := prK) T 0 hl0 0 (by decide))
              have f1 := hy4 1 _ (flt_get (K := prK) T 0 hl0 1 (by decide))
              have HB : Hid (Bt w wy b4 id ep n1 n2 T (allS S) (some ⟨g, 0, none⟩) cap bo cap2 ∧ wy.heap[bp]? = some (.cells #[.string t0.1, .string t0.2] 23) ∧ g < bp) := ⟨BY, PY, LY⟩
              have R1 : Hid (Bt w (wsets wy g (0 * 2) [.string t1.1, .string t1.2]) b4 id ep n1 n2 (T.set 0 t1) (allS S) (some ⟨g, 0, none⟩) cap bo cap2 ∧ (wsets wy g (0 * 2) [.string t1.1, .string t1.2]).heap[bp]? = some (.cells #[.string t0.1, .string t0.2] 23)) :=
                ⟨BY.ofP rfl (wsets_only g _ wy _) (hy5 t1) (by rw [List.length_set]; exact BY.n), ((wsets_only g [.string t1.1, .string t1.2] wy (0 * 2)).block bp (Array.getElem?_eq_some_iff.1 PY).1 (by omega)).trans PY⟩
              clear HP e1 e2 BY PY LY hy4 hy5 a0 a1 c0 c1 hfz i0 i1 i2 i3
              go_cut [] (fun wx => ∃ T1 : List Pr, Bt w wx b4 id ep n1 n2 T1 (allS S) (some ⟨g, 0, none⟩) cap bo cap2 ∧ wx.heap[bp]? = some (.cells #[.string t0.1, .string t0.2] 23))
              case first =>
                go_region
                all_goals
                  go_wp2
                  go_meet
                  case rel => exact ⟨T.set 0 t1, R1.out.1.below (Below.refl _ _).drew, R1.out.2⟩
              case rest =>
              obtain ⟨T1, hB1, hP1⟩ := hcut
              clear z0 z1 z2 z3 f0 f1 d0 d1 R1 hy2 hy3
              obtain ⟨z0, z1, z2, z3⟩ := hB1.im.cells
              have hl : 1 < T1.length := by rw [hB1.n]; omega
              obtain ⟨_, hgq, _, hy2, hy3, hy4, hy5⟩ := hB1.ps.elem hl
              obtain rfl : g = _ := by simpa using hgq
              have f0 := hy4 2 _ (flt_get (K := prK) T1 1 hl 0 (by decide))
              have f1 := hy4 3 _ (flt_get (K := prK) T1 1 hl 1 (by decide))
              have p0 : wc.cell? ⟨bp, 0, none⟩ = some (.string t0.1) := by rw [cell_of_row wc _ _ _ _ (0, 0) hP1]; rfl
              have p1 : wc.cell? ⟨bp, 1, none⟩ = some (.string t0.2) := by rw [cell_of_row wc _ _ _ _ (0, 0) hP1]; rfl
              have R2 : Hid (Bt w (wsets wc g (1 * 2) [.string t0.1, .string t0.2]) b4 id ep n1 n2 (T1.set 1 t0) (allS S) (some ⟨g, 0, none⟩) cap bo cap2) := hB1.ofP rfl (wsets_only g _ wc _) (hy5 t0) (by rw [List.length_set]; exact hB1.n)
              clear hB1 hP1 hy4 hy5
              go_wp2
              go_meet
              case rel => exact ⟨_, _, _, _, _, _, _, _, _, _, R2.out⟩
            · have hz2 : ¬ (1 : Int) < (n1 : Int) := by omega
              go_wp2
              go_meet
              case rel => exact ⟨_, _, _, _, _, _, _, _, _, _, HY.out⟩
          · go_wp2
            go_meet
            case rel => exact ⟨_, _, _, _, _, _, _, _, _, _, HY.out.none (wsets_only b4 [.int .i64 0, .int .i64 0, .slice none 0 0, .slice none 0 0] _ 0) (HY.out.im.set 0 0 (.slice none 0 0) (.slice none 0 0))⟩
        case rest =>
        obtain ⟨id', ep', n', m', T', S', ca, cc, cb, cd, hB⟩ := hcut
        clear i0 i1 i2 i3 hfz hb4
        obtain ⟨i0, i1, i2, i3⟩ := hB.im.cells
        obtain ⟨r0, r1, r2, r3⟩ := hB.rs.cells
        have rf := hB.rs.free
        have HZ : Hid (Bt w wc b4 id' ep' n' m' T' S' ca cc cb cd) := hB
        clear hB HY
        go_wp2_with fail
        have hI := HZ.out.rs.set id' ep' (.slice ca n' cc) (.slice cb m' cd)
        clear r0 r1 r2 r3
        obtain ⟨r0, r1, r2, r3⟩ := hI.cells
        have hset := wsets_only w.heap.size [.int .i64 id', .int .i64 ep', .slice ca n' cc, .slice cb m' cd] wc 0
        have hO : OwnI (w.heap.size + 1) wc ca cc T' cb cd S' := ⟨OwnPr.k.2 HZ.out.ps, HZ.out.xs, ne_of_kinds HZ.out.ps HZ.out.xs pr_se⟩
        refine bodyPost_ret (by simp [results, Try.results15, go_sem, r0, r1, r2, r3]; try rfl) rfl ?_
        exact ⟨id', ep', n', m', T', S', ca, cc, cb, cd, rfl, HZ.out.n, HZ.out.m, (hO.only hset (fun i h1 _ e => by omega)).lower (by omega), HZ.out.bel.trans (hset.below (fun i e => by omega) HZ.out.bel.size)⟩
end Go.Proofs.Ytodgcfmacmfcpaa
