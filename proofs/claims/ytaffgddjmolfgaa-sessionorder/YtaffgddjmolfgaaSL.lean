/- SessionOrder: the walk. -/
import Derived.Test.YtaffgddjmolfgaaSK
import Derived.Test.YtaffgddjmolfgaaSD
import Derived.Deep.RegionLaw
namespace Go.Proofs.Ytaffgddjmolfgaa
open Go.RowKit

theorem step_call1 {P : Program} {w : World} {ops : Array Oper} {o : Oper} {a : Act} {K : Act → World → Prop} {Q : Exit → Act → World → Prop} {E : Prop} (hgd : o.guard = none) (f : FuncId) (x : Operand) (ats : Array TypeId)
    (ho : o.op = .call { callee := .value (.func f), args := #[x], argTypes := ats }) (hcf : ∀ args w, (callFunc f args).run P w = .ok (.enter f args) w)
    (vx : Value) (hx : a.eval x = vx) (R : Value → World → Prop)
    (hc : Calls P f #[vx] w fun e w' => ∃ v, e = .returned v ∧ R v w') (h : ∀ v w', R v w' → K (a.put o.dst v) w') :
    if Region.wanted o (yielded ops a.tmps) = true then Oper.wp P o a w K Q else E :=
  step_call hgd f _ ats ho hcf _ (by simp [hx]) R hc h
/-- OfAll, its cells as a letter -/
def OfAR (B : World) (l : List Se) (v : Value) (w' : World) : Prop := ∃ C : Array Value, v = .agg C ∧ (Try.prog.info? 29).map (·.size) = some C.size ∧ Hid (16 = C.size) ∧ C.all (·.oneCell') = true ∧ (∀ (w : World) (g : Nat), w.heap[g]? = some (.cells C 29 (0, 0)) → SesAt w g l) ∧ Below B.heap.size B w'
theorem OfAll_ex (ao : Option Addr) (n cap : Nat) (xs : List Se) (w : World) (hn : xs.length = n) (hR : SeR w ao cap xs) (l : List Se) (hl : notesS zeroS xs = l) :
    Calls Try.prog 7 #[.slice ao n cap] w fun e w' => ∃ v, e = .returned v ∧ OfAR w l v w' := by
  refine (OfAll_any ao n cap xs w hn hR).mono ?_
  rintro e w' ⟨rfl, hb⟩
  rw [hl]
  have hI : SInv l := by rw [← hl]; exact SInv.zero.notes _
  obtain ⟨C, hC, hi, h16, h1, HT⟩ := rowsS hI
  exact ⟨_, rfl, C, by rw [hC], hi, h16, h1, HT, hb⟩
/-- sessions may be stored there -/
def StOkS (w : World) (g : Nat) (C : Array Value) : Prop := (w.heap[g]? = some zeroSO) ∧ (Try.prog.info? 29).map (·.size) = some C.size ∧ 16 = C.size ∧ C.all (·.oneCell') = true
theorem st_ses (w : World) (g : Nat) (C : Array Value) (h : StOkS w g C) : (storeCells ⟨g, 0, none⟩ C.toList).run Try.prog w = .ok () (w.setRow g C) := by
  obtain ⟨h1, h2, h3, h4⟩ := h
  have := run_storeCells_from (P := Try.prog) g 29 C.toList 0 _ w h1 (by simp; omega) (fun v hv => (Array.all_eq_true_iff_forall_mem.1 h4) v (by simpa using hv))
  have e : (⟨g, 0, none⟩ : Addr).add 0 = ⟨g, 0, none⟩ := rfl
  simpa using this
theorem fin_ses {w3 W : World} {b : Nat} {C : Array Value} {L : List Se} (hS : StOkS W b C) (HTB : ∀ (w : World) (g : Nat), w.heap[g]? = some (.cells C 29 (0, 0)) → SesAt w g L) (hB : Below w3.heap.size w3 W) (hb : w3.heap.size ≤ b) :
    ∃ g, Value.pointer (some ⟨b, 0, none⟩) = .pointer (some ⟨g, 0, none⟩) ∧ SesAt (W.setRow b C) g L ∧ w3.heap.size ≤ g ∧ Below w3.heap.size w3 (W.setRow b C) :=
  ⟨b, rfl, HTB _ _ (setRow_heap W b _ C _ _ hS.1), hb, below_setRow hB hb C⟩
theorem zb_appK {α : Type} {K : Knd α} {w w' : World} {ao : Option Addr} {n cap B zb : Nat} {l : List α} (hown : OwnK K B w ao cap l) (hne : 29 ≠ K.e) (hz : w.heap[zb]? = some zeroSO) (hg : w.grownBy w' (Value.slice ao n cap).ownBlock) : w'.heap[zb]? = some zeroSO := by
  refine (hg.block zb (Array.getElem?_eq_some_iff.1 hz).1 ?_).trans hz
  intro e
  rcases hown.2 with ⟨e1, _⟩ | ⟨g, cp, cur, e1, _, hgg, _⟩
  · simp only [Value.slice.injEq] at e1
    rw [e1.1] at e
    simp [Value.ownBlock] at e
  · simp only [Value.slice.injEq] at e1
    rw [e1.1] at e
    simp [Value.ownBlock] at e
    subst e
    rw [hz] at hgg
    simp only [zeroSO, Option.some.injEq, Obj.cells.injEq] at hgg
    exact hne hgg.2.1
theorem allS_few' {l : List Se} (h : SInv l) : (allS l).length ≤ 4 := by have := List.length_filter_le hasS l; rw [h.1] at this; exact this
/-- an answer that hangs on its number -/
def DetV (xs : List Se) : Prop := ∀ x ∈ xs, x.why = 0 ∧ x.val = valS x.sq
theorem DetV.det {xs : List Se} (h : DetV xs) : Det xs := by
  rintro ⟨a, b, c, d⟩ hx ⟨a', b', c', d'⟩ hy e1 e2
  obtain ⟨h1, h2⟩ := h _ hx
  obtain ⟨h3, h4⟩ := h _ hy
  simp only at e1 e2 h1 h2 h3 h4
  subst e1 e2 h1 h2 h3 h4
  rfl
theorem DetV.app {xs : List Se} (h : DetV xs) (a b : Int) : DetV (xs ++ [⟨a, b, 0, valS b⟩]) := by
  intro x hx
  rcases List.mem_append.1 hx with q | q
  · exact h x q
  · simp at q; subst q; exact ⟨rfl, rfl⟩
attribute [local go_sem] st_ses in
set_option maxRecDepth 20000 in
set_option maxHeartbeats 40000000 in
theorem SessionOrder_any (ao0 : Option Addr) (n0 c0 : Nat) (l0 : List RawN) (t : Int) (w : World) (h0 : RdG 4 RawN.Q w.heap.size w ao0 n0 c0 l0) (hn : n0 ≤ 4398046510976) :
    Calls Try.prog 6 #[.slice ao0 n0 c0, .int .i64 t] w fun e w' => e = .returned (.bool true) ∧ Below w.heap.size w w' := by
  have H0 : Hid (RdG 4 RawN.Q w.heap.size w ao0 n0 c0 l0) := h0
  obtain ⟨hl1, hm1⟩ := h0.lens
  subst hl1
  clear h0
  go_enter Try.func6, Try.ntmps6
  go_wp2_with fail
  go_loopw [5, 15] (fun v i wr => ∃ (j : Nat) (ao : Option Addr) (cap : Nat) (P : List Se), j ≤ l0.length ∧ P.length = j ∧ i = .int .i64 j ∧ v = .slice ao j cap ∧ OwnK seK w.heap.size wr ao cap P ∧ DetV P ∧ Below w.heap.size w wr) (fun _ i _ => l0.length - (intOf i).toNat)
  case atStart => exact ⟨0, none, 0, [], Nat.zero_le _, rfl, rfl, rfl, OwnK.nil _ _ _, fun x hx => by simp at hx, Below.refl _ _⟩
  case round =>
    obtain ⟨j, ao, cap, P, hj, hP, rfl, rfl, hown, hdet, hbel⟩ := hrel
    by_cases hlt : j < l0.length
    · obtain ⟨b, off, rfl, hb, hc⟩ := rawn_cells H0.out (by omega)
      obtain ⟨q0, q1, q2, q3⟩ := hc wr hbel j l0[j] (List.getElem?_eq_getElem hlt)
      obtain ⟨r, hr⟩ : ∃ r, l0[j] = r := ⟨_, rfl⟩
      rw [hr] at q0 q1 q2 q3
      have hji : (j : Int) < (l0.length : Int) := by omega
      have HO : Hid (OwnK seK w.heap.size wr ao cap P) := hown
      have HP : Hid (P.length = j) := hP
      have HD : Hid (DetV P) := hdet
      have HB : Hid (Below w.heap.size w wr) := hbel
      clear hc hr hown hP hbel hdet
      go_wp2_with first | (go_at_call 12; refine (sess_any _ _ _ _ _).mono ?_; rintro e w2 ⟨⟨xa, xb, xc, xd⟩, rfl, hb2⟩; unfold seV; simp only; have H2 : Hid (Below wr.heap.size wr w2) := bel_call (bel_al wr _) hb2; clear hb2) | (go_at_call 17; refine (Value_any _ _).mono ?_; rintro e w' ⟨rfl, rfl⟩) | (at_builtin; go_loud (refine appSe rfl _ _ rfl w.heap.size ao cap j P rfl HP.out HO.out ?_ ⟨xa, xb, 0, valS xb⟩ _ rfl ?_ ?_ HB.out.size ?_))
      · exact (H2.out.alloc H2.out.size _).alloc (by have := H2.out.size; rw [size_al]; omega) _
      · exact al2_snd w2 _ _
      · omega
      intro ao' cap' w3 hown3 hb3
      have H3 : Hid (OwnK seK w.heap.size w3 ao' cap' (P ++ [⟨xa, xb, 0, valS xb⟩]) ∧ Below w.heap.size w w3) := ⟨hown3, HB.out.trans hb3⟩
      clear hown3 hb3
      go_wp2
      refine ⟨⟨j + 1, ao', cap', P ++ [⟨xa, xb, 0, valS xb⟩], hlt, by rw [List.length_append, HP.out]; rfl, by go_num, rfl, H3.out.1, HD.out.app xa xb, H3.out.2⟩, by simp [intOf]; omega⟩
    · obtain rfl : j = l0.length := by omega
      have hR : SeR wr ao cap P := hown.arK.mono fun _ _ _ => trivial
      have HBel : Hid (Below w.heap.size w wr) := hbel
      have HD : Hid (DetV P) := hdet
      have hlo := pick_lo t ((l0.length : Int) + 1) (by omega)
      have hhi := pick_hi t ((l0.length : Int) + 1) (by omega)
      obtain ⟨k, hk⟩ : ∃ k : Nat, pick t ((l0.length : Int) + 1) = (k : Int) := ⟨(pick t ((l0.length : Int) + 1)).toNat, by omega⟩
      have HK : Hid (pick t ((l0.length : Int) + 1) = (k : Int)) := hk
      rw [hk] at hhi
      have hkl : k ≤ l0.length := by omega
      clear hown hlt hj hbel hdet hlo hk
      rw [← hP] at hn hkl HK hhi ⊢
      have HPl : Hid (P.length = l0.length) := hP
      clear hP
      go_wp2_with first | (go_at_call 18; go_loud (refine (Pick_eq _ _ _ (by omega) (by omega) HK.out).mono ?_; rintro e wq ⟨rfl, rfl⟩))
      obtain ⟨L, hL⟩ : ∃ L, notesS zeroS P = L := ⟨_, rfl⟩
      have hIL : SInv L := by rw [← hL]; exact SInv.zero.notes _
      have hLt : notesS zeroS (P.drop k ++ P.take k) = L := by rw [order_eq P k HD.out.det, hL]
      have hLa : notesS zeroS (allS L) = L := again hIL
      have HLL : Hid (notesS zeroS (P.drop k ++ P.take k) = L ∧ notesS zeroS (allS L) = L) := ⟨hLt, hLa⟩
      refine (OfAll_any _ _ _ _ _ rfl hR).mono ?_
      rintro e w1 ⟨rfl, hb⟩
      rw [hL]
      obtain ⟨C, hC, hi, h16, h1, HT⟩ := rowsS hIL
      rw [hC]
      have hB1 := bel_call HBel.out hb
      have hR1 := hR.below hb
      have hn1 := alloc_new w1 zeroSO
      unfold zeroSO at hn1
      clear hC hR hb hLt hLa hL
      go_wp2_with first | (refine wpList_store_row rfl 29 _ _ rfl w1.heap.size C rfl rfl 29 _ hn1 hi h16.out h1 ?_; obtain ⟨w3, hw3⟩ : ∃ w3, w3 = (w1.alloc zeroSO).setRow w1.heap.size C := ⟨_, rfl⟩; obtain ⟨hc3, hb3, hs3⟩ := store_newS hw3; unfold zeroSO at hw3; rw [← hw3]; clear hw3 hn1)
      have HT3 : Hid (SesAt w3 w1.heap.size L) := HT _ _ hc3
      have HB3 : Hid (Below w.heap.size w w3) := bel_call hB1 hb3
      have HR3 : Hid (SeR w3 ao cap P) := hR1.below hb3
      have hg2 : Hid (w.heap.size ≤ w1.heap.size) := hB1.size
      obtain ⟨gt, hgt⟩ : ∃ gt, w1.heap.size = gt := ⟨_, rfl⟩
      rw [hgt] at HT3 hs3 hg2 ⊢
      clear hc3 hb3 hB1 hR1 hgt hi h16 h1 HT HBel
      go_frame
      go_cut [11] (fun v wx => ∃ g, v = .pointer (some ⟨g, 0, none⟩) ∧ SesAt wx g L ∧ w3.heap.size ≤ g ∧ Below w3.heap.size w3 wx)
      case first =>
        rename_i J KK hJ hKK
        have cfOf := run_callFunc (P := Try.prog) (f := 7) Try.func7 (by kernel_rfl) (by kernel_rfl)
        have hki : (k : Int) ≤ (P.length : Int) := by omega
        have hcap : P.length ≤ cap := HR3.out.1
        have hkc : (k : Int) ≤ (cap : Int) := by omega
        have hlc : (P.length : Int) ≤ (cap : Int) := by omega
        have OWNC : Hid (OwnK seK w3.heap.size ((w3.drew.alloc zeroSO).alloc (.cells #[] 26)) (some ⟨w3.heap.size + 1, 0, none⟩) 0 []) := by
          have h := OwnK.built seK (w3.drew.alloc zeroSO)
          have e : (w3.drew.alloc zeroSO).heap.size = w3.heap.size + 1 := by show (w3.heap.push _).size = _; simp
          rw [e] at h
          exact h.mono (by omega)
        unfold zeroSO at OWNC
        have tokA : True := trivial
        first
        | go_region_law (first
          | (have _t := tokA; refine stepK seK rfl _ _ rfl rfl rfl w3.heap.size (some ⟨w3.heap.size, 0, none⟩) 0 0 [] rfl rfl (OwnK.built seK w3.drew) _ _ _ (P.drop k) rfl (SrcK.below (SrcK.drop HR3.out k hkl rfl) (below_undrew (bel_al w3.drew _))) (by show (_ + _ / 4 + 192) * 40 ≤ _; omega) (by omega) (by show _ ≤ (w3.heap.push _).size; simp) ?_; intro ao1 cap1 x1 hown1 hg1 hb1; have HW1 : Hid (OwnK seK w3.heap.size x1 ao1 cap1 (P.drop k)) := (by simpa using hown1 : OwnK seK w3.heap.size x1 ao1 cap1 (P.drop k)); have hB1 : Below w3.heap.size w3 x1 := Below.trans (below_undrew (bel_al w3.drew _)) hb1; have HX1 : Hid (SeR x1 ao cap P) := HR3.out.below hB1; have tokB0 : True := trivial; clear hown1 hg1 hb1 tokA)
          | (have _t := tokA; refine stepK seK rfl _ _ rfl rfl rfl w3.heap.size (some ⟨w3.heap.size, 0, none⟩) 0 0 [] rfl rfl ((OwnK.built seK w3.drew).below (bel_al _ _)) _ _ _ (P.drop k) rfl (SrcK.below (SrcK.drop HR3.out k hkl rfl) (below_undrew (bel_al2 w3.drew _ _))) (by show (_ + _ / 4 + 192) * 40 ≤ _; omega) (by omega) (by show _ ≤ ((w3.heap.push _).push _).size; simp; omega) ?_; intro ao1 cap1 x1 hown1 hg1 hb1; have HW1 : Hid (OwnK seK w3.heap.size x1 ao1 cap1 (P.drop k)) := (by simpa using hown1 : OwnK seK w3.heap.size x1 ao1 cap1 (P.drop k)); have hB1 : Below w3.heap.size w3 x1 := Below.trans (below_undrew (bel_al2 w3.drew _ _)) hb1; have HX1 : Hid (SeR x1 ao cap P) := HR3.out.below hB1; have hz1 : Hid (x1.heap[w3.heap.size + 1]? = some zeroSO) := zb_appK ((OwnK.built seK w3.drew).below (bel_al _ _)) (by decide) (al2_snd w3.drew _ zeroSO) hg1; have tokB1 : True := trivial; clear hown1 hg1 hb1 tokA)
          | (have _t := tokA; refine stepK seK rfl _ _ rfl rfl rfl w3.heap.size (some ⟨w3.heap.size + 1, 0, none⟩) 0 0 [] rfl rfl OWNC.out _ _ _ (P.drop k) rfl (SrcK.below (SrcK.drop HR3.out k hkl rfl) (below_undrew (bel_al2 w3.drew _ _))) (by show (_ + _ / 4 + 192) * 40 ≤ _; omega) (by omega) (by show _ ≤ ((w3.heap.push _).push _).size; simp; omega) ?_; intro ao1 cap1 x1 hown1 hg1 hb1; have HW1 : Hid (OwnK seK w3.heap.size x1 ao1 cap1 (P.drop k)) := (by simpa using hown1 : OwnK seK w3.heap.size x1 ao1 cap1 (P.drop k)); have hB1 : Below w3.heap.size w3 x1 := Below.trans (below_undrew (bel_al2 w3.drew _ _)) hb1; have HX1 : Hid (SeR x1 ao cap P) := HR3.out.below hB1; have hz1 : Hid (x1.heap[w3.heap.size]? = some zeroSO) := zb_appK OWNC.out (by decide) (al2_fst w3.drew zeroSO _) hg1; have tokB1 : True := trivial; clear hown1 hg1 hb1 tokA)
          | (have _t := tokB0; refine stepK seK rfl _ _ rfl rfl rfl w3.heap.size ao1 cap1 (P.length - k) (P.drop k) rfl (by simp) HW1.out _ _ _ (P.take k) rfl (SrcK.take HX1.out k hkl) (by show (_ + _ / 4 + 192) * 40 ≤ _; omega) (by omega) hB1.size ?_; intro ao2' cap2' x2 hown2' hg2' hb2; have hown2 : OwnK seK w3.heap.size x2 ao2' cap2' (P.drop k ++ P.take k) := hown2'; have hB2 : Below w3.heap.size w3 x2 := Below.trans hB1 hb2; have HOF2 := OfAll_ex ao2' P.length cap2' _ x2 (by simp; omega) (hown2.arK.mono fun _ _ _ => trivial) L HLL.out.1; have HOFz := OfAll_ex ao2' P.length cap2' _ (x2.alloc zeroSO) (by simp; omega) ((hown2.below (bel_al x2 _)).arK.mono fun _ _ _ => trivial) L HLL.out.1; have tokC0 : True := trivial; clear tokB0; clear hown2 hown2' hg2' hb2)
          | (have _t := tokB1; refine stepK seK rfl _ _ rfl rfl rfl w3.heap.size ao1 cap1 (P.length - k) (P.drop k) rfl (by simp) HW1.out _ _ _ (P.take k) rfl (SrcK.take HX1.out k hkl) (by show (_ + _ / 4 + 192) * 40 ≤ _; omega) (by omega) hB1.size ?_; intro ao2' cap2' x2 hown2' hg2' hb2; have hown2 : OwnK seK w3.heap.size x2 ao2' cap2' (P.drop k ++ P.take k) := hown2'; have hB2 : Below w3.heap.size w3 x2 := Below.trans hB1 hb2; have HOF2 := OfAll_ex ao2' P.length cap2' _ x2 (by simp; omega) (hown2.arK.mono fun _ _ _ => trivial) L HLL.out.1; have HOFz := OfAll_ex ao2' P.length cap2' _ (x2.alloc zeroSO) (by simp; omega) ((hown2.below (bel_al x2 _)).arK.mono fun _ _ _ => trivial) L HLL.out.1; have hz2 : Hid (x2.heap[_]? = some zeroSO) := zb_appK HW1.out (by decide) hz1.out hg2'; have tokC1 : True := trivial; clear tokB1; clear hown2 hown2' hg2' hb2)
          | (have _t := tokB0; refine stepK seK rfl _ _ rfl rfl rfl w3.heap.size ao1 cap1 (P.length - k) (P.drop k) rfl (by simp) (HW1.out.below (bel_al x1 _)) _ _ _ (P.take k) rfl (SrcK.take (HX1.out.below (bel_al x1 _)) k hkl) (by show (_ + _ / 4 + 192) * 40 ≤ _; omega) (by omega) (hB1.alloc hB1.size _).size ?_; intro ao2' cap2' x2 hown2' hg2' hb2; have hown2 : OwnK seK w3.heap.size x2 ao2' cap2' (P.drop k ++ P.take k) := hown2'; have hB2 : Below w3.heap.size w3 x2 := Below.trans (hB1.alloc hB1.size _) hb2; have HOF2 := OfAll_ex ao2' P.length cap2' _ x2 (by simp; omega) (hown2.arK.mono fun _ _ _ => trivial) L HLL.out.1; have HOFz := OfAll_ex ao2' P.length cap2' _ (x2.alloc zeroSO) (by simp; omega) ((hown2.below (bel_al x2 _)).arK.mono fun _ _ _ => trivial) L HLL.out.1; have hz2 : Hid (x2.heap[x1.heap.size]? = some zeroSO) := zb_appK (HW1.out.below (bel_al x1 _)) (by decide) (alloc_new x1 zeroSO) hg2'; have tokC1 : True := trivial; clear tokB0; clear hown2 hown2' hg2' hb2)
          | (have _t := tokC0; refine step_call1 rfl 7 _ _ rfl cfOf (.slice ao2' P.length cap2') rfl (OfAR x2 L) HOF2 ?_; rintro v x3 ⟨C, rfl, hi, h16, h1, HTB, hb3⟩; have hB3 : Below w3.heap.size w3 x3 := hB2.trans (hb3.mono hB2.size); have hC16 : C.size = 16 := h16.out.symm; have hS : StOkS (x3.alloc zeroSO) x3.heap.size C := ⟨alloc_new x3 zeroSO, hi, h16.out, h1⟩; unfold zeroSO at hS; have tokD : True := trivial; clear tokC0 HOF2 HOFz hb3)
          | (have _t := tokC1; refine step_call1 rfl 7 _ _ rfl cfOf (.slice ao2' P.length cap2') rfl (OfAR x2 L) HOF2 ?_; rintro v x3 ⟨C, rfl, hi, h16, h1, HTB, hb3⟩; have hB3 : Below w3.heap.size w3 x3 := hB2.trans (hb3.mono hB2.size); have hz3 : Hid (x3.heap[_]? = some zeroSO) := (hb3.block _ (Array.getElem?_eq_some_iff.1 hz2.out).1).trans hz2.out; have hC16 : C.size = 16 := h16.out.symm; have hS : StOkS x3 _ C := ⟨hz3.out, hi, h16.out, h1⟩; clear tokC1 HOF2 HOFz hb3)
          | (have _t := tokC0; refine step_call1 rfl 7 _ _ rfl cfOf (.slice ao2' P.length cap2') rfl (OfAR (x2.alloc zeroSO) L) HOFz ?_; rintro v x3 ⟨C, rfl, hi, h16, h1, HTB, hb3⟩; have hB3 : Below w3.heap.size w3 x3 := (hB2.alloc hB2.size zeroSO).trans (hb3.mono (Nat.le_trans hB2.size (bel_al x2 zeroSO).size)); have hz3 : Hid (x3.heap[x2.heap.size]? = some zeroSO) := (hb3.block _ (by show _ < (x2.heap.push _).size; simp)).trans (alloc_new x2 zeroSO); have hC16 : C.size = 16 := h16.out.symm; have hS : StOkS x3 x2.heap.size C := ⟨hz3.out, hi, h16.out, h1⟩; clear tokC0 HOF2 HOFz hb3))
        | fail
        all_goals
          refine hKK _ _ (Met.intro (hJ _ _ ?_))
          (repeat apply Exists.intro)
          refine ⟨?rel, rfl⟩
          case rel =>
            first
            | exact fin_ses hS HTB hB3 (by have := hB1.size; have := hB2.size; omega)
            | exact fin_ses hS HTB (hB3.alloc hB3.size _) hB3.size
      case rest =>
      obtain ⟨g, rfl, hTb, hgb, hBb⟩ := hcut
      have hIL2 : SInv L := hTb.1
      have hfew := allS_few' hIL2
      have HX : Hid (SesAt wc gt L ∧ SesAt wc g L ∧ Below w.heap.size w wc) := ⟨HT3.out.below hBb, hTb, bel_call HB3.out hBb⟩
      clear hTb hgb hBb
      go_wp2_with fail
      refine (All_any gt L wc HX.out.1).mono ?_
      rintro e w4 ⟨ao4, cap4, rfl, hown4, hb4⟩
      have HX4 : Hid (SesAt w4 gt L ∧ SesAt w4 g L ∧ Below w.heap.size w w4) := ⟨HX.out.1.below hb4, HX.out.2.1.below hb4, bel_call HX.out.2.2 hb4⟩
      have HR4 : Hid (SeR w4 ao4 cap4 (allS L)) := hown4.arK.mono fun _ _ _ => trivial
      clear hown4 hb4 HX
      go_wp2_with fail
      refine (OfAll_any _ _ _ _ _ rfl HR4.out).mono ?_
      rintro e w5 ⟨rfl, hb5⟩
      rw [HLL.out.2]
      obtain ⟨C5, hC5, hi5, h16, h15, HT5⟩ := rowsS hIL2
      rw [hC5]
      have HX5 : Hid (SesAt w5 gt L ∧ SesAt w5 g L ∧ Below w.heap.size w w5) := ⟨HX4.out.1.below hb5, HX4.out.2.1.below hb5, bel_call HX4.out.2.2 hb5⟩
      have hn5 := alloc_new w5 zeroSO
      unfold zeroSO at hn5
      clear hC5 hb5 HX4
      go_wp2_with first | (refine wpList_store_row rfl 29 _ _ rfl w5.heap.size C5 rfl rfl 29 _ hn5 hi5 h16.out h15 ?_; obtain ⟨w6, hw6⟩ : ∃ w6, w6 = (w5.alloc zeroSO).setRow w5.heap.size C5 := ⟨_, rfl⟩; obtain ⟨hc6, hb6, hs6⟩ := store_newS hw6; unfold zeroSO at hw6; rw [← hw6]; clear hw6 hn5)
      have HX6 : Hid (SesAt w6 gt L ∧ SesAt w6 g L ∧ SesAt w6 w5.heap.size L ∧ Below w.heap.size w w6) := ⟨HX5.out.1.below hb6, HX5.out.2.1.below hb6, HT5 _ _ hc6, bel_call HX5.out.2.2 hb6⟩
      clear hc6 hb6 hs6 hi5 h16 h15 HT5 HX5
      refine (knownS_any w6).mono ?_
      rintro e w7 ⟨rfl, hb⟩
      have HX7 : Hid (SesAt w7 gt L ∧ SesAt w7 g L ∧ SesAt w7 w5.heap.size L ∧ Below w.heap.size w w7) := ⟨HX6.out.1.below hb, HX6.out.2.1.below hb, HX6.out.2.2.1.below hb, bel_call HX6.out.2.2.2 hb⟩
      clear hb HX6
      go_wp2_with fail
      refine (All_any gt L w7 HX7.out.1).mono ?_
      rintro e w8 ⟨ao8, cap8, rfl, hown, hb⟩
      have HX8 : Hid (SesAt w8 gt L ∧ SesAt w8 g L ∧ SesAt w8 w5.heap.size L ∧ Below w.heap.size w w8) := ⟨HX7.out.1.below hb, HX7.out.2.1.below hb, HX7.out.2.2.1.below hb, bel_call HX7.out.2.2.2 hb⟩
      have HR8 : Hid (SeR w8 ao8 cap8 (allS L)) := hown.arK.mono fun _ _ _ => trivial
      clear hb hown HX7
      go_wp2_with fail
      refine (All_any g L w8 HX8.out.2.1).mono ?_
      rintro e w9 ⟨ao9, cap9, rfl, hown, hb⟩
      have HX9 : Hid (SesAt w9 gt L ∧ SesAt w9 g L ∧ SesAt w9 w5.heap.size L ∧ Below w.heap.size w w9) := ⟨HX8.out.1.below hb, HX8.out.2.1.below hb, HX8.out.2.2.1.below hb, bel_call HX8.out.2.2.2 hb⟩
      have HR9 : Hid (SeR w9 ao8 cap8 (allS L) ∧ SeR w9 ao9 cap9 (allS L)) := ⟨HR8.out.below hb, hown.arK.mono fun _ _ _ => trivial⟩
      clear hb hown HX8
      go_wp2_with fail
      refine (sameS_any _ _ _ _ _ _ (allS L) (allS L) w9 rfl rfl HR9.out.1 HR9.out.2 rfl).mono ?_
      rintro e w10 ⟨rfl, hb⟩
      have HX10 : Hid (SesAt w10 gt L ∧ SesAt w10 g L ∧ SesAt w10 w5.heap.size L ∧ Below w.heap.size w w10) := ⟨HX9.out.1.below hb, HX9.out.2.1.below hb, HX9.out.2.2.1.below hb, bel_call HX9.out.2.2.2 hb⟩
      clear hb HX9
      go_wp2_with fail
      refine (All_any gt L w10 HX10.out.1).mono ?_
      rintro e w11 ⟨ao11, cap11, rfl, hown, hb⟩
      have HX11 : Hid (SesAt w11 w5.heap.size L ∧ Below w.heap.size w w11) := ⟨HX10.out.2.2.1.below hb, bel_call HX10.out.2.2.2 hb⟩
      have HR11 : Hid (SeR w11 ao11 cap11 (allS L)) := hown.arK.mono fun _ _ _ => trivial
      clear hb hown HX10
      go_wp2_with fail
      refine (All_any w5.heap.size L w11 HX11.out.1).mono ?_
      rintro e w12 ⟨ao12, cap12, rfl, hown, hb⟩
      have HB12 : Hid (Below w.heap.size w w12) := bel_call HX11.out.2 hb
      have HR12 : Hid (SeR w12 ao11 cap11 (allS L) ∧ SeR w12 ao12 cap12 (allS L)) := ⟨HR11.out.below hb, hown.arK.mono fun _ _ _ => trivial⟩
      clear hb hown HX11
      go_wp2_with fail
      refine (sameS_any _ _ _ _ _ _ (allS L) (allS L) w12 rfl rfl HR12.out.1 HR12.out.2 rfl).mono ?_
      rintro e w13 ⟨rfl, hb⟩
      have HB13 : Hid (Below w.heap.size w w13) := bel_call HB12.out hb
      clear hb HB12
      go_wp2
      go_ret
      exact ⟨rfl, HB13.out⟩
end Go.Proofs.Ytaffgddjmolfgaa
