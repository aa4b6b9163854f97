/- SessionTells: the walk. -/
import Derived.Test.YtaffgddjmolfgaaSG
import Derived.Test.YtaffgddjmolfgaaRG
namespace Go.Proofs.Ytaffgddjmolfgaa
open Go.RowKit

theorem rawn_cells {w : World} {ao : Option Addr} {n c : Nat} {l : List RawN} (h : RdG 4 RawN.Q w.heap.size w ao n c l) (hn : 0 < n) : ∃ b off, ao = some ⟨b, off, none⟩ ∧ b < w.heap.size ∧ ∀ (wr : World) (_ : Below w.heap.size w wr) (j : Nat) (x : RawN), l[j]? = some x →
    wr.cell? ⟨b, off + j * 4, none⟩ = some (.int .i64 x.a) ∧ wr.cell? ⟨b, off + j * 4 + 1, none⟩ = some (.int .i64 x.b) ∧ wr.cell? ⟨b, off + j * 4 + 2, none⟩ = some (.int .i64 x.c) ∧ wr.cell? ⟨b, off + j * 4 + 3, none⟩ = some (.int .i64 x.d) := by
  obtain ⟨b, off, e, hb, hc⟩ := h.atSome hn
  refine ⟨b, off, e, hb, fun wr hB j x hx => ?_⟩
  obtain ⟨cs, _, rfl, hcs⟩ := hc j x hx
  have q : ∀ i u, ([Value.int .i64 x.a, .int .i64 x.b, .int .i64 x.c, .int .i64 x.d] : List Value)[i]? = some u → wr.cell? ⟨b, off + j * 4 + i, none⟩ = some u := fun i u hu => (hB.cell (p := ⟨b, off + j * 4 + i, none⟩) hb).trans (hcs i u hu)
  exact ⟨q 0 _ rfl, q 1 _ rfl, q 2 _ rfl, q 3 _ rfl⟩
theorem RdG.lens {α : Type} {c : Nat} {Q : Nat → World → List Value → α → Prop} {B : Nat} {w : World} {ao : Option Addr} {n cap : Nat} {xs : List α} (h : RdG c Q B w ao n cap xs) : xs.length = n ∧ n ≤ 9223372036854775807 := ⟨h.1, Nat.le_trans h.2.1 (Nat.le_trans h.2.2.1 (by unfold maxLen; omega))⟩
theorem refNote_eq' (N g : Nat) (l : List Se) (a b c : Int) (v : ByteArray) (w : World) (h : RefS N w g (allS l)) (hI : SInv l) (hN : N < w.heap.size) (l' : List Se) (ok : Bool) (h1 : noteS l ⟨a, b, c, v⟩ = l') (h2 : mayS l ⟨a, b, c, v⟩ = ok) :
    Calls Try.prog 14 #[.pointer (some ⟨g, 0, none⟩), .agg #[.int .i64 a, .int .i64 b, .int .i64 c, .string v]] w fun e w' => e = .returned (.bool ok) ∧ RefS N w' g (allS l') ∧ Only (fun k => k = g) w w' := by
  subst h1 h2; exact refNote_eq N g l a b c v w h hI hN
/-- sessions, the plain words' ones, and an element, side by side -/
structure SI (w0 w : World) (gt gr ob : Nat) (M : List Se) (R : List Se) (x : Se) : Prop where
  tab : SesAt w gt M
  ref : RefS gt w gr R
  box : SeAt w ob x
  bel : Below w0.heap.size w0 w
  g1 : w0.heap.size ≤ gt
  lt : gt < gr
  lo : gr < ob
section
variable {w0 w w' : World} {gt gr ob : Nat} {M M' R R' : List Se} {x : Se}
theorem SI.below (h : SI w0 w gt gr ob M R x) (hb : Below w.heap.size w w') : SI w0 w' gt gr ob M R x := ⟨h.tab.below hb, h.ref.below hb, h.box.below hb, bel_call h.bel hb, h.g1, h.lt, h.lo⟩
theorem SI.drew (h : SI w0 w gt gr ob M R x) : SI w0 w.drew gt gr ob M R x := h.below (Below.refl _ _).drew
theorem SI.did (h : SI w0 w gt gr ob M R x) (hT : SesAt w' gt M') (hO : Only (fun k => k = gt) w w') : SI w0 w' gt gr ob M' R x :=
  ⟨hT, h.ref.apart hO (by have := h.lt; omega), h.box.only hO (by have := h.lt; have := h.lo; omega), h.bel.trans (hO.below (fun i e => by have := h.g1; omega) h.bel.size), h.g1, h.lt, h.lo⟩
theorem SI.didR (h : SI w0 w gt gr ob M R x) (hT : RefS gt w' gr R') (hO : Only (fun k => k = gr) w w') : SI w0 w' gt gr ob M R' x :=
  ⟨h.tab.heap (hO.block gt h.tab.lt (by have := h.lt; omega)), hT, h.box.only hO (by have := h.lo; omega), h.bel.trans (hO.below (fun i e => by have := h.g1; have := h.lt; omega) h.bel.size), h.g1, h.lt, h.lo⟩
end
set_option maxRecDepth 20000 in
set_option maxHeartbeats 40000000 in
theorem SessionTells_any (ao0 : Option Addr) (n0 c0 : Nat) (l0 : List RawN) (ao1 : Option Addr) (n1 c1 : Nat) (l1 : List RawN) (w : World) (h0 : RdG 4 RawN.Q w.heap.size w ao0 n0 c0 l0) (h1 : RdG 4 RawN.Q w.heap.size w ao1 n1 c1 l1) (hn : n1 ≤ 4398046510976) :
    Calls Try.prog 4 #[.slice ao0 n0 c0, .slice ao1 n1 c1] w fun e w' => e = .returned (.bool true) ∧ Below w.heap.size w w' := by
  have H0 : Hid (RdG 4 RawN.Q w.heap.size w ao0 n0 c0 l0) := h0
  have H1 : Hid (RdG 4 RawN.Q w.heap.size w ao1 n1 c1 l1) := h1
  obtain ⟨hl1, hm1⟩ := h1.lens
  subst hl1
  clear h0 h1
  go_enter Try.func4, Try.ntmps4
  go_wp2_with fail
  go_loopw [5, 19] (fun v i wr => ∃ (j : Nat) (ao : Option Addr) (cap : Nat) (P : List Se), j ≤ l1.length ∧ P.length = j ∧ i = .int .i64 j ∧ v = .slice ao j cap ∧ OwnK seK w.heap.size wr ao cap P ∧ Below w.heap.size w wr) (fun _ i _ => l1.length - (intOf i).toNat)
  case atStart => exact ⟨0, none, 0, [], Nat.zero_le _, rfl, rfl, rfl, OwnK.nil _ _ _, Below.refl _ _⟩
  case round =>
    obtain ⟨j, ao, cap, P, hj, hP, rfl, rfl, hown, hbel⟩ := hrel
    by_cases hlt : j < l1.length
    · obtain ⟨b, off, rfl, hb, hc⟩ := rawn_cells H1.out (by omega)
      obtain ⟨q0, q1, q2, q3⟩ := hc wr hbel j l1[j] (List.getElem?_eq_getElem hlt)
      obtain ⟨r, hr⟩ : ∃ r, l1[j] = r := ⟨_, rfl⟩
      rw [hr] at q0 q1 q2 q3
      have hji : (j : Int) < (l1.length : Int) := by omega
      have HO : Hid (OwnK seK w.heap.size wr ao cap P) := hown
      have HP : Hid (P.length = j) := hP
      have HB : Hid (Below w.heap.size w wr) := hbel
      clear hc hr hown hP hbel
      go_wp2_with first | (go_at_call 12; refine (sess_any _ _ _ _ _).mono ?_; rintro e w2 ⟨x, rfl, hb2⟩; unfold seV; have H2 : Hid (Below wr.heap.size wr w2) := bel_call (bel_al wr _) hb2; clear hb2) | (at_builtin; go_loud (refine appSe rfl _ _ rfl w.heap.size ao cap j P rfl HP.out HO.out (H2.out.alloc H2.out.size _) x w2.heap.size rfl (alloc_new w2 _) (by omega) HB.out.size ?_; intro ao' cap' w3 hown3 hb3; have H3 : Hid (OwnK seK w.heap.size w3 ao' cap' (P ++ [x]) ∧ Below w.heap.size w w3) := ⟨hown3, HB.out.trans hb3⟩; clear hown3 hb3))
      refine ⟨⟨j + 1, ao', cap', P ++ [x], hlt, by rw [List.length_append, HP.out]; rfl, by go_num, rfl, H3.out.1, H3.out.2⟩, by simp [intOf]; omega⟩
    · obtain rfl : j = l1.length := by omega
      have hR : SeR wr ao cap P := hown.arK.mono fun _ _ _ => trivial
      have HBel : Hid (Below w.heap.size w wr) := hbel
      clear hown hlt hj H1 hbel
      go_wp2_with fail
      obtain ⟨L, hL⟩ : ∃ L, notesS zeroS P = L := ⟨_, rfl⟩
      have hIL : SInv L := by rw [← hL]; exact SInv.zero.notes _
      refine (OfAll_any _ _ _ _ _ hP hR).mono ?_
      rintro e w1 ⟨rfl, hb⟩
      rw [hL]
      obtain ⟨C, hC, hi, h16, h1, HT⟩ := rowsS hIL
      rw [hC]
      have hB1 := bel_call HBel.out hb
      have hR1 := hR.below hb
      have hn1 := alloc_new w1 zeroSO
      unfold zeroSO at hn1
      clear hC hR hb
      go_wp2_with first | (refine wpList_store_row rfl 29 _ _ rfl w1.heap.size C rfl rfl 29 _ hn1 hi h16.out h1 ?_; obtain ⟨w2, hw2⟩ : ∃ w2, w2 = (w1.alloc zeroSO).setRow w1.heap.size C := ⟨_, rfl⟩; obtain ⟨hc2, hb2, hs2⟩ := store_newS hw2; unfold zeroSO at hw2; rw [← hw2]; clear hw2 hn1)
      have hT2 := HT _ _ hc2
      have hB2 := bel_call hB1 hb2
      obtain ⟨gt, hgt⟩ : ∃ gt, w1.heap.size = gt := ⟨_, rfl⟩
      have hg1 : w.heap.size ≤ gt := by have := hB1.size; omega
      have hR2 := hR1.below hb2
      rw [hgt] at hT2 hs2 ⊢
      clear hc2 hb2 hB1 hR1 HT hi h16 h1 hgt HBel
      refine (refOfS_any _ _ _ _ _ _ hP hR2 hs2).mono ?_
      rintro e w3 ⟨aoR, capR, rfl, hpA, hb3⟩
      rw [hL] at hpA ⊢
      have hT3 := hT2.below hb3
      have hB3 := bel_call hB2 hb3
      have hR3 : RefS gt (w3.alloc (.cells #[.slice aoR (allS L).length capR] 42)) w3.heap.size (allS L) :=
        ⟨aoR, capR, alloc_new w3 _, ((hpA.mono (A' := fun i => i ≠ w3.heap.size ∧ i ≠ gt) (fun i h1 h2 => ⟨by omega, h2⟩)).below (bel_al w3 _))⟩
      have hT4 := hT3.below (bel_al w3 (.cells #[.slice aoR (allS L).length capR] 42))
      have hB4 := bel_call hB3 (bel_al w3 (.cells #[.slice aoR (allS L).length capR] 42))
      obtain ⟨gr, hgr⟩ : ∃ gr, w3.heap.size = gr := ⟨_, rfl⟩
      have hg2 : gt < gr := by have := hT3.lt; omega
      rw [hgr] at hR3
      have HI : Hid (SesAt (w3.alloc (.cells #[.slice aoR (allS L).length capR] 42)) gt L ∧ RefS gt (w3.alloc (.cells #[.slice aoR (allS L).length capR] 42)) gr (allS L) ∧ Below w.heap.size w (w3.alloc (.cells #[.slice aoR (allS L).length capR] 42))) := ⟨hT4, hR3, hB4⟩
      have HG : Hid (w.heap.size ≤ gt ∧ gt < gr) := ⟨hg1, hg2⟩
      clear hT2 hB2 hT3 hB3 hR3 hT4 hB4 hpA hb3 hR2 hs2 hg1 hg2
      go_wp2_with fail
      clear hL hP hgr
      obtain ⟨w4, hw4⟩ : ∃ w4, w4 = w3.alloc (.cells #[.slice aoR (allS L).length capR] 42) := ⟨_, rfl⟩
      rw [← hw4] at HI ⊢
      clear hw4
      obtain ⟨hl0, hm0⟩ := H0.out.lens
      subst hl0
      go_loopw [35] (fun i wr => ∃ (j : Nat) (M : List Se), j ≤ l0.length ∧ i = .int .i64 j ∧ SesAt wr gt M ∧ RefS gt wr gr (allS M) ∧ Below w.heap.size w wr) (fun i _ => l0.length - (intOf i).toNat)
      case atStart => exact ⟨0, L, Nat.zero_le _, rfl, HI.out.1, HI.out.2.1, HI.out.2.2⟩
      case round =>
        obtain ⟨j, M, hj, rfl, hT, hRf, hbel⟩ := hrel
        clear HI
        by_cases hlt : j < l0.length
        · obtain ⟨b, off, rfl, hb, hc⟩ := rawn_cells H0.out (by omega)
          obtain ⟨r, hr⟩ : ∃ r, l0[j] = r := ⟨_, rfl⟩
          obtain ⟨q0, q1, q2, q3⟩ := hc wr hbel j r (by rw [← hr]; exact List.getElem?_eq_getElem hlt)
          have hm2 : (j : Int) < (l0.length : Int) := by omega
          have HTR : Hid (SesAt wr gt M ∧ RefS gt wr gr (allS M) ∧ Below w.heap.size w wr) := ⟨hT, hRf, hbel⟩
          clear hc hT hRf hbel hr
          go_wp2_with (go_at_call 12; refine (sess_any _ _ _ _ _).mono ?_; rintro e w5 ⟨x, rfl, hb5⟩; unfold seV; have HT5 : Hid (SesAt w5 gt M ∧ RefS gt w5 gr (allS M) ∧ Below w.heap.size w w5) := ⟨(HTR.out.1.below (bel_al wr _)).below hb5, (HTR.out.2.1.below (bel_al wr _)).below hb5, bel_call (bel_call HTR.out.2.2 (bel_al wr _)) hb5⟩; clear hb5)
          obtain ⟨xa, xb, xc, xd⟩ := x
          simp only
          have H6 : Hid (∃ w6 ob, w6 = w5.alloc (.cells #[.int .i64 xa, .int .i64 xb, .int .i64 xc, .string xd] 26) ∧ w5.heap.size = ob ∧ SI w w6 gt gr ob M (allS M) ⟨xa, xb, xc, xd⟩) := ⟨_, _, rfl, rfl, ⟨HT5.out.1.below (bel_al w5 _), HT5.out.2.1.below (bel_al w5 _), alloc_new w5 _, bel_call HT5.out.2.2 (bel_al w5 _), HG.out.1, HG.out.2, HT5.out.2.1.lt⟩⟩
          obtain ⟨w6, ob, e6, eb, I6⟩ := H6.out
          rw [← e6, eb]
          have HI6 : Hid (SI w w6 gt gr ob M (allS M) ⟨xa, xb, xc, xd⟩) := I6
          obtain ⟨o0, o1, o2, o3⟩ := I6.box.cells
          simp only at o0 o1 o2 o3
          obtain ⟨M', hM'⟩ : ∃ M', noteS M ⟨xa, xb, xc, xd⟩ = M' := ⟨_, rfl⟩
          obtain ⟨bm, hbm⟩ : ∃ bm, mayS M ⟨xa, xb, xc, xd⟩ = bm := ⟨_, rfl⟩
          have HM : Hid (noteS M ⟨xa, xb, xc, xd⟩ = M' ∧ mayS M ⟨xa, xb, xc, xd⟩ = bm) := ⟨hM', hbm⟩
          clear H6 e6 eb HT5 I6 hM' hbm HTR q0 q1 q2 q3
          go_cut [52] (fun u wx => u = .bool false ∧ SI w wx gt gr ob M' (allS M') ⟨xa, xb, xc, xd⟩)
          case first =>
            have tokA : True := trivial
            go_region_with (first
              | (have _t := tokA; go_at_call 8; refine (Note_eq gt M xa xb xc xd w6.drew HI6.out.drew.tab M' bm HM.out.1 HM.out.2).mono ?_; rintro e w7 ⟨rfl, hT, hO⟩; have J7 : Hid (SI w w7 gt gr ob M' (allS M) ⟨xa, xb, xc, xd⟩) := HI6.out.drew.did hT hO; obtain ⟨o0, o1, o2, o3⟩ := J7.out.box.cells; simp only at o0 o1 o2 o3; clear hT hO tokA; have tokB : True := trivial)
              | (have _t := tokB; go_at_call 14; refine (refNote_eq' gt gr M xa xb xc xd w7 J7.out.ref HI6.out.tab.1 J7.out.tab.lt M' bm HM.out.1 HM.out.2).mono ?_; rintro e w8 ⟨rfl, hT, hO⟩; have I8 : Hid (SI w w8 gt gr ob M' (allS M') ⟨xa, xb, xc, xd⟩) := J7.out.didR hT hO; obtain ⟨o0, o1, o2, o3⟩ := I8.out.box.cells; simp only at o0 o1 o2 o3; obtain ⟨aoL, capL, c1, _, hA⟩ := I8.out.ref.cell; have HA8 : Hid (ArK seK (fun i => i ≠ gr ∧ i ≠ gt) w8 aoL capL (allS M') ∧ w8.cell? ⟨gr, 0, none⟩ = some (.slice aoL (allS M').length capL) ∧ gr < w8.heap.size) := ⟨hA, c1, I8.out.ref.lt⟩; clear hT hO tokB hA; have tokC : True := trivial)
              | (have _t := tokC; go_at_call 10; refine (All_any gt M' w8 I8.out.tab).mono ?_; rintro e w9 ⟨aoP, capP, rfl, hown, hb⟩; have I9 : Hid (SI w w9 gt gr ob M' (allS M') ⟨xa, xb, xc, xd⟩) := I8.out.below hb; obtain ⟨o0, o1, o2, o3⟩ := I9.out.box.cells; simp only at o0 o1 o2 o3; have c2 : w9.cell? ⟨gr, 0, none⟩ = some (.slice aoL (allS M').length capL) := (hb.cell (p := ⟨gr, 0, none⟩) HA8.out.2.2).trans HA8.out.2.1; have HRP : Hid (SeR w9 aoP capP (allS M') ∧ SeR w9 aoL capL (allS M')) := ⟨hown.arK.mono fun _ _ _ => trivial, (HA8.out.1.below hb).mono fun _ _ _ => trivial⟩; clear hown hb tokC; have tokD : True := trivial)
              | (have _t := tokD; go_at_call 15; refine (sameS_any _ _ _ _ _ _ (allS M') (allS M') w9 rfl rfl HRP.out.1 HRP.out.2 rfl).mono ?_; rintro e w10 ⟨rfl, hb⟩; have I10 : Hid (SI w w10 gt gr ob M' (allS M') ⟨xa, xb, xc, xd⟩) := I9.out.below hb; clear hb tokD))
            all_goals
              go_wp2
              go_meet
              case rel => exact ⟨by simp, I10.out⟩
          case rest =>
          obtain ⟨rfl, hI⟩ := hcut
          have HF : Hid (SI w wc gt gr ob M' (allS M') ⟨xa, xb, xc, xd⟩) := hI
          obtain ⟨o0, o1, o2, o3⟩ := hI.box.cells
          simp only at o0 o1 o2 o3
          clear hI
          obtain ⟨y, hy⟩ : ∃ y, lastS M' xa = y := ⟨_, rfl⟩
          have HY : Hid (lastR (allS M') xa = y ∧ hasR (allS M') xa = hasS y ∧ (allS M').length ≤ 1000) := by
            have h := allS_last HF.out.tab.1 xa
            rw [hy] at h
            exact ⟨h.1, h.2, by have := allS_few HF.out.tab.1; omega⟩
          go_wp2_with first
            | (go_at_call 9; refine (Last_eq gt M' xa _ HF.out.tab hy).mono ?_; rintro e w8 ⟨rfl, hb8⟩; unfold seV; have HF8 : Hid (SI w w8 gt gr ob M' (allS M') ⟨xa, xb, xc, xd⟩) := HF.out.below hb8; clear hb8 o0 o1 o2 o3; obtain ⟨o0, o1, o2, o3⟩ := HF8.out.box.cells; simp only at o0 o1 o2 o3; have hlt8 := HF8.out.box.lt; have hy8 := alloc_new w8 (.cells #[.int .i64 y.cl, .int .i64 y.sq, .int .i64 y.why, .string y.val] 26); have HY8 : Hid (SeAt (w8.alloc (.cells #[.int .i64 y.cl, .int .i64 y.sq, .int .i64 y.why, .string y.val] 26)) w8.heap.size y) := hy8; clear hy8)
            | (go_at_call 16; refine (refLast_eq gt gr (allS M') xa _ (HF8.out.ref.below (bel_al w8 _)) HY.out.2.2 HY.out.1 HY.out.2.1).mono ?_; rintro e w9 ⟨rfl, hb9⟩; unfold seV; have HF9 : Hid (SI w w9 gt gr ob M' (allS M') ⟨xa, xb, xc, xd⟩) := HF8.out.below ((bel_al w8 _).trans (hb9.mono (bel_al w8 _).size)); have hy9 := HY8.out.below hb9; obtain ⟨y0, y1, y2, y3⟩ := hy9.cells; have hlt9 := hy9.lt; clear hb9 hy9)
          have HB9 := HF9.out.below (bel_al w9 (.cells #[.int .i64 y.cl, .int .i64 y.sq, .int .i64 y.why, .string y.val] 26))
          exact ⟨⟨j + 1, M', hlt, by go_num, HB9.tab, HB9.ref, HB9.bel⟩, by simp [intOf]; omega⟩
        · have HF : Hid (SesAt wr gt M ∧ RefS gt wr gr (allS M) ∧ Below w.heap.size w wr) := ⟨hT, hRf, hbel⟩
          have HL : Hid ((allS M).length ≤ 4) := allS_few hT.1
          clear hT hRf hbel
          go_wp2_with fail
          have tokA : True := trivial
          go_region_with (first
            | (have _t := tokA; go_at_call 11; refine (knownS_any wr.drew).mono ?_; rintro e w8 ⟨rfl, hb⟩; have hb0 : Below wr.heap.size wr w8 := below_undrew hb; have HF8 : Hid (SesAt w8 gt M ∧ RefS gt w8 gr (allS M) ∧ Below w.heap.size w w8) := ⟨HF.out.1.below hb0, HF.out.2.1.below hb0, bel_call HF.out.2.2 hb0⟩; obtain ⟨aoL, capL, c1, _, hA⟩ := HF8.out.2.1.cell; have HA8 : Hid (ArK seK (fun i => i ≠ gr ∧ i ≠ gt) w8 aoL capL (allS M) ∧ w8.cell? ⟨gr, 0, none⟩ = some (.slice aoL (allS M).length capL) ∧ gr < w8.heap.size) := ⟨hA, c1, HF8.out.2.1.lt⟩; clear hb hb0 tokA hA; have tokC : True := trivial)
            | (have _t := tokC; go_at_call 10; refine (All_any gt M w8 HF8.out.1).mono ?_; rintro e w9 ⟨aoP, capP, rfl, hown, hb⟩; have c2 : w9.cell? ⟨gr, 0, none⟩ = some (.slice aoL (allS M).length capL) := (hb.cell (p := ⟨gr, 0, none⟩) HA8.out.2.2).trans HA8.out.2.1; have HRP : Hid (SeR w9 aoP capP (allS M) ∧ SeR w9 aoL capL (allS M) ∧ Below w.heap.size w w9) := ⟨hown.arK.mono fun _ _ _ => trivial, (HA8.out.1.below hb).mono fun _ _ _ => trivial, bel_call HF8.out.2.2 hb⟩; clear hown hb tokC; have tokD : True := trivial)
            | (have _t := tokD; go_at_call 15; refine (sameS_any _ _ _ _ _ _ (allS M) (allS M) w9 rfl rfl HRP.out.1 HRP.out.2.1 rfl).mono ?_; rintro e w10 ⟨rfl, hb⟩; have HB10 : Hid (Below w.heap.size w w10) := bel_call HRP.out.2.2 hb; clear hb tokD))
          all_goals
            go_wp2
            go_ret
            exact ⟨rfl, HB10.out⟩
end Go.Proofs.Ytaffgddjmolfgaa
