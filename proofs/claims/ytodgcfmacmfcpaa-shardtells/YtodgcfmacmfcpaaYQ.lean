/- The plain words' shard: Image; pairs as a kind of elements. -/
import Derived.Test.YtodgcfmacmfcpaaYO
import Derived.Deep.RegionHeldLaw
namespace Go.Proofs.Ytodgcfmacmfcpaa
open Go.RowKit

def prK : Knd Pr where
  e := 23
  t := 38
  c := 2
  by_ := 32
  z := .agg #[.string ⟨#[]⟩, .string ⟨#[]⟩]
  cells := fun q => [.string q.1, .string q.2]
  len := fun _ => rfl
  one := fun q u hu => by simp at hu; rcases hu with rfl | rfl <;> rfl
  ht := Try.underlying38
  hi := pair_info
  hz := rfl
  hc := by decide
theorem flt_pr (l : List Pr) : flt prK l = flat l := by
  induction l with
  | nil => rfl
  | cons x r ih => rw [flt_cons, ih]; rfl
section
variable {A : Nat → Prop} {B : Nat} {w : World} {ao : Option Addr} {cap : Nat} {l : List Pr}
theorem OwnPr.k : OwnPr B w ao cap l ↔ OwnK prK B w ao cap l := by
  unfold OwnPr OwnK
  rw [flt_pr]
  exact Iff.rfl
theorem PrA.k (h : PrA A w ao cap l) (h0 : ao = none → cap = 0) : ArK prK A w ao cap l := ⟨h.1, h.2.1, h0, fun hl => by
  obtain ⟨g, off, e, a, b, c⟩ := h.2.2 hl
  refine ⟨g, off, e, a, b, fun k hk j u hj => ?_⟩
  obtain ⟨c0, c1⟩ := c k hk
  match j, hj with
  | 0, hj => simp only [prK, List.getElem?_cons_zero, Option.some.injEq] at hj; subst hj; exact c0
  | 1, hj => simp only [prK, List.getElem?_cons_succ, List.getElem?_cons_zero, Option.some.injEq] at hj; subst hj; exact c1
  | n + 2, hj => simp [prK] at hj⟩
end
/-- two lists of elements of unlike kinds lie in blocks of their own -/
theorem own_ne2 {α β : Type} {K1 : Knd α} {K2 : Knd β} {B B' : Nat} {w : World} {ao bo : Option Addr} {cap cap2 n : Nat} {l : List α} {l2 : List β} (h : OwnK K1 B w ao cap l) (h2 : OwnK K2 B' w bo cap2 l2) (he : K1.e ≠ K2.e) (hn : l.length = n) :
    ∀ g, bo = some ⟨g, 0, none⟩ → ¬ (Value.slice ao n cap).ownBlock = some g := by
  subst hn
  rintro g rfl e
  rcases h.2 with ⟨e1, _⟩ | ⟨b, cp, cur, e1, _, hb, _⟩
  · rw [e1] at e; cases e
  · rw [e1] at e
    obtain rfl : b = g := by simpa [Value.ownBlock] using e
    rcases h2.2 with ⟨e2, _⟩ | ⟨b2, cp2, cur2, e2, _, hb2, _⟩
    · simp at e2
    · simp only [Value.slice.injEq, Option.some.injEq, Addr.mk.injEq] at e2
      obtain ⟨⟨rfl, _⟩, _⟩ := e2
      rw [hb] at hb2
      simp only [Option.some.injEq, Obj.cells.injEq] at hb2
      exact he hb2.2.1
/-- .. and stay so when one of them grows -/
theorem OwnK.beside {α β : Type} {K1 : Knd α} {K2 : Knd β} {B B' : Nat} {w w' : World} {ao bo : Option Addr} {cap cap2 n : Nat} {l : List α} {l2 : List β} (h2 : OwnK K2 B' w bo cap2 l2) (h : OwnK K1 B w ao cap l) (he : K1.e ≠ K2.e) (hn : l.length = n) (hg : w.grownBy w' (Value.slice ao n cap).ownBlock) : OwnK K2 B' w' bo cap2 l2 :=
  h2.apart (Only.of_grown hg fun _ hk => hk) (own_ne2 h h2 he hn)
theorem ne_of_kinds {α β : Type} {K1 : Knd α} {K2 : Knd β} {B B' : Nat} {w : World} {ao bo : Option Addr} {cap cap2 : Nat} {l : List α} {l2 : List β} (h : OwnK K1 B w ao cap l) (h2 : OwnK K2 B' w bo cap2 l2) (he : K1.e ≠ K2.e) : ∀ a b, ao = some a → bo = some b → a.block ≠ b.block := by
  rintro a b rfl rfl e
  rcases h.2 with ⟨e1, _⟩ | ⟨b1, cp, cur, e1, _, hb, _⟩
  · simp at e1
  · rcases h2.2 with ⟨e2, _⟩ | ⟨b2, cp2, cur2, e2, _, hb2, _⟩
    · simp at e2
    · simp only [Value.slice.injEq, Option.some.injEq] at e1 e2
      obtain ⟨rfl, _⟩ := e1
      obtain ⟨rfl, _⟩ := e2
      simp only at e
      subst e
      rw [hb] at hb2
      simp only [Option.some.injEq, Obj.cells.injEq] at hb2
      exact he hb2.2.1
theorem pr_se : prK.e ≠ seK.e := by decide
theorem bel_al2d (w : World) (a b : Obj) : Below w.heap.size w ((w.alloc a).alloc b).drew := (bel_al2 w a b).drew
theorem size_ad (w : World) (o : Obj) : (w.alloc o).drew.heap.size = w.heap.size + 1 := by show (w.heap.push _).size = _; simp
/-- the plain words' shard's cells -/
theorem RSh.cells {N : Nat} {w : World} {g : Nat} {T : List Pr} {S : List Se} {id ep : Int} (h : RSh N w g T S id ep) : ∃ ta tc sa sc, (w.cell? ⟨g, 0, none⟩ = some (.slice ta T.length tc) ∧ w.cell? ⟨g, 1, none⟩ = some (.slice sa (allS S).length sc) ∧ w.cell? ⟨g, 2, none⟩ = some (.int .i64 id) ∧ w.cell? ⟨g, 3, none⟩ = some (.int .i64 ep)) ∧ ArK prK (fun _ => True) w ta tc T ∧ ArK seK (fun _ => True) w sa sc (allS S) := by
  obtain ⟨ta, tc, h1, h2, h3⟩ := h.tab
  obtain ⟨sa, sc, k1, k2⟩ := h.ses
  refine ⟨ta, tc, sa, sc, ⟨?_, ?_, ?_, ?_⟩, (h3.k h2).mono fun _ _ _ => trivial, k2.mono fun _ _ _ => trivial⟩
  · have := h1.at 0 _ rfl; simpa using this
  · have := k1.at 0 _ rfl; simpa using this
  · have := h.num.at 0 _ rfl; simpa using this
  · have := h.num.at 1 _ rfl; simpa using this
def Four (w : World) (g : Nat) (a b : Value) (id ep : Int) : Prop := w.cell? ⟨g, 0, none⟩ = some a ∧ w.cell? ⟨g, 1, none⟩ = some b ∧ w.cell? ⟨g, 2, none⟩ = some (.int .i64 id) ∧ w.cell? ⟨g, 3, none⟩ = some (.int .i64 ep)
theorem Four.below {w w' : World} {g : Nat} {a b : Value} {id ep : Int} (h : Four w g a b id ep) (hb : Below w.heap.size w w') : Four w' g a b id ep :=
  ⟨(hb.cell (World.block_lt_of_cell? w _ h.1)).trans h.1, (hb.cell (World.block_lt_of_cell? w _ h.2.1)).trans h.2.1, (hb.cell (World.block_lt_of_cell? w _ h.2.2.1)).trans h.2.2.1, (hb.cell (World.block_lt_of_cell? w _ h.2.2.2)).trans h.2.2.2⟩
set_option maxRecDepth 20000 in
set_option maxHeartbeats 8000000 in
theorem ImageR_o (N g : Nat) (T : List Pr) (S : List Se) (id ep : Int) (w : World) (h : RSh N w g T S id ep) :
    Calls Try.prog 23 #[.pointer (some ⟨g, 0, none⟩)] w fun e w' => ∃ ao cap bo cap2, e = .returned (.agg #[.int .i64 id, .int .i64 ep, .slice ao T.length cap, .slice bo (allS S).length cap2]) ∧ OwnI w.heap.size w' ao cap T bo cap2 (allS S) ∧ Below w.heap.size w w' := by
  have hg := h.lt
  have HF : Hid (T.length ≤ 8 ∧ (allS S).length ≤ 1000) := ⟨h.few, h.few4⟩
  have HI : Hid (∃ w1 : World, w.alloc (.cells #[.int .i64 0, .int .i64 0, .slice none 0 0, .slice none 0 0] 41) = w1 ∧ ImAt w1 w.heap.size 0 0 (.slice none 0 0) (.slice none 0 0) ∧ Below w.heap.size w w1 ∧ RSh N w1 g T S id ep) :=
    ⟨_, rfl, alloc_new w _, bel_al w _, h.below (bel_al w _)⟩
  clear h
  go_enter Try.func23, Try.ntmps23
  go_upto_region 1 with fail
  obtain ⟨w1, e1, I1, B1, H1⟩ := HI.out
  rw [e1]
  obtain ⟨ta, tc, sa, sc, hc, hT, hS⟩ := H1.cells
  obtain ⟨n1, hn1⟩ : ∃ n1, T.length = n1 := ⟨_, rfl⟩
  obtain ⟨n2, hn2⟩ : ∃ n2, (allS S).length = n2 := ⟨_, rfl⟩
  rw [hn1, hn2] at hc
  obtain ⟨q0, q1, q2, q3⟩ := hc
  have hlt := I1.lt
  have hgne : g ≠ w.heap.size := by omega
  have HW : Hid (ImAt w1 w.heap.size 0 0 (.slice none 0 0) (.slice none 0 0) ∧ Below w.heap.size w w1 ∧ Four w1 g (.slice ta n1 tc) (.slice sa n2 sc) id ep ∧ ArK prK (fun _ => True) w1 ta tc T ∧ ArK seK (fun _ => True) w1 sa sc (allS S)) := ⟨I1, B1, ⟨q0, q1, q2, q3⟩, hT, hS⟩
  have HN : Hid (T.length = n1 ∧ (allS S).length = n2 ∧ n1 ≤ 8 ∧ n2 ≤ 1000) := ⟨hn1, hn2, by have := HF.out; omega, by have := HF.out; omega⟩
  have hg1 : g < w1.heap.size := by omega
  clear HI e1 I1 B1 H1 hn1 hn2 hT hS HF
  have hsT : SrcK prK w1 ta n1 tc T := by have := SrcK.all HW.out.2.2.2.1; rw [HN.out.1] at this; exact this
  have hsS : SrcK seK w1 sa n2 sc (allS S) := by have := SrcK.all HW.out.2.2.2.2; rw [HN.out.2.1] at this; exact this
  have HSR : Hid (∀ W, Below w1.heap.size w1 W → SrcK prK W ta n1 tc T ∧ SrcK seK W sa n2 sc (allS S)) := fun W hW => ⟨hsT.below hW, hsS.below hW⟩
  clear hsT hsS
  have E1 : Hid (OwnK prK w1.heap.size ((w1.alloc (.cells #[] 23)).alloc (.cells #[] 31)).drew (some ⟨w1.heap.size, 0, none⟩) 0 [] ∧ OwnK seK w1.heap.size ((w1.alloc (.cells #[] 23)).alloc (.cells #[] 31)).drew (some ⟨w1.heap.size + 1, 0, none⟩) 0 []) := by
    have h1 := (OwnK.built prK w1).below (bel_al _ (.cells #[] seK.e))
    have h2 := OwnK.built seK (w1.alloc (.cells #[] prK.e))
    rw [size_al] at h2
    exact ⟨h1, h2.mono (by omega)⟩
  have E2 : Hid (OwnK prK w1.heap.size ((w1.alloc (.cells #[] 31)).alloc (.cells #[] 23)).drew (some ⟨w1.heap.size + 1, 0, none⟩) 0 [] ∧ OwnK seK w1.heap.size ((w1.alloc (.cells #[] 31)).alloc (.cells #[] 23)).drew (some ⟨w1.heap.size, 0, none⟩) 0 []) := by
    have h1 := (OwnK.built seK w1).below (bel_al _ (.cells #[] prK.e))
    have h2 := OwnK.built prK (w1.alloc (.cells #[] seK.e))
    rw [size_al] at h2
    exact ⟨h2.mono (by omega), h1⟩
  go_cut [] (fun wx => ∃ ao cap bo cap2, ImAt wx w.heap.size id ep (.slice ao T.length cap) (.slice bo (allS S).length cap2) ∧ OwnI w.heap.size wx ao cap T bo cap2 (allS S) ∧ Below w.heap.size w wx)
  case first =>
    have tokA : True := trivial
    go_region_held_law (fun w' => w'.cell? ⟨g, 0, none⟩ = some (.slice ta n1 tc) ∧ w'.cell? ⟨g, 1, none⟩ = some (.slice sa n2 sc) ∧ w'.cell? ⟨g, 2, none⟩ = some (.int .i64 id) ∧ w'.cell? ⟨g, 3, none⟩ = some (.int .i64 ep)) (first | (refine ⟨?_, ?_, ?_, ?_⟩ <;> with_reducible assumption) | (refine ⟨?_, ?_, ?_, ?_⟩ <;> with_reducible exact (set4 hgne _ _ _ _).trans (by assumption)) | go_keep) (first
      | (have _t := tokA; refine stepK prK rfl _ _ rfl rfl rfl w1.heap.size (some ⟨w1.heap.size, 0, none⟩) 0 0 [] rfl rfl (OwnK.built prK w1).drew ta n1 tc T rfl (HSR.out _ (bel_ad w1 _)).1 (by show (_ + _ / 4 + 192) * 32 ≤ _; have := HN.out; omega) (by have := HN.out; omega) (bel_ad w1 _).size ?_; intro ao cap x1 hown hgr hb1; have HB1 : Hid (Below w1.heap.size w1 x1) := (bel_ad w1 _).trans hb1; obtain ⟨r0, r1, r2, r3⟩ := HW.out.2.2.1.below HB1.out; have HX1 : Hid (OwnK prK w1.heap.size x1 ao cap T) := (by simpa using hown : OwnK prK w1.heap.size x1 ao cap T); have tokB0 : True := trivial; clear tokA hown hgr hb1)
      | (have _t := tokA; refine stepK prK rfl _ _ rfl rfl rfl w1.heap.size (some ⟨w1.heap.size, 0, none⟩) 0 0 [] rfl rfl E1.out.1 ta n1 tc T rfl (HSR.out _ (bel_al2d w1 _ _)).1 (by show (_ + _ / 4 + 192) * 32 ≤ _; have := HN.out; omega) (by have := HN.out; omega) (bel_al2d w1 _ _).size ?_; intro ao cap x1 hown hgr hb1; have HB1 : Hid (Below w1.heap.size w1 x1) := (bel_al2d w1 _ _).trans hb1; obtain ⟨r0, r1, r2, r3⟩ := HW.out.2.2.1.below HB1.out; have HX1 : Hid (OwnK prK w1.heap.size x1 ao cap T ∧ OwnK seK w1.heap.size x1 (some ⟨w1.heap.size + 1, 0, none⟩) 0 []) := ⟨(by simpa using hown : OwnK prK w1.heap.size x1 ao cap T), E1.out.2.beside E1.out.1 pr_se rfl hgr⟩; have tokB1 : True := trivial; clear tokA hown hgr hb1)
      | (have _t := tokA; refine stepK prK rfl _ _ rfl rfl rfl w1.heap.size (some ⟨w1.heap.size + 1, 0, none⟩) 0 0 [] rfl rfl E2.out.1 ta n1 tc T rfl (HSR.out _ (bel_al2d w1 _ _)).1 (by show (_ + _ / 4 + 192) * 32 ≤ _; have := HN.out; omega) (by have := HN.out; omega) (bel_al2d w1 _ _).size ?_; intro ao cap x1 hown hgr hb1; have HB1 : Hid (Below w1.heap.size w1 x1) := (bel_al2d w1 _ _).trans hb1; obtain ⟨r0, r1, r2, r3⟩ := HW.out.2.2.1.below HB1.out; have HX1 : Hid (OwnK prK w1.heap.size x1 ao cap T ∧ OwnK seK w1.heap.size x1 (some ⟨w1.heap.size, 0, none⟩) 0 []) := ⟨(by simpa using hown : OwnK prK w1.heap.size x1 ao cap T), E2.out.2.beside E2.out.1 pr_se rfl hgr⟩; have tokB1 : True := trivial; clear tokA hown hgr hb1)
      | (have _t := tokB0; refine stepK seK rfl _ _ rfl rfl rfl w1.heap.size (some ⟨x1.heap.size, 0, none⟩) 0 0 [] rfl rfl ((OwnK.built seK x1).mono HB1.out.size) sa n2 sc (allS S) rfl (HSR.out _ (HB1.out.alloc HB1.out.size _)).2 (by show (_ + _ / 4 + 192) * 40 ≤ _; have := HN.out; omega) (by have := HN.out; omega) (HB1.out.alloc HB1.out.size _).size ?_; intro bo cap2 x2 hown hgr hb2; have HB2 : Hid (Below w1.heap.size w1 x2) := (HB1.out.alloc HB1.out.size _).trans hb2; obtain ⟨s0, s1, s2, s3⟩ := HW.out.2.2.1.below HB2.out; have HX2 : Hid (OwnK prK w1.heap.size x2 ao cap T ∧ OwnK seK w1.heap.size x2 bo cap2 (allS S)) := ⟨(HX1.out.below (bel_al x1 _)).beside ((OwnK.built seK x1).mono HB1.out.size) pr_se.symm rfl hgr, (by simpa using hown : OwnK seK w1.heap.size x2 bo cap2 (allS S))⟩; obtain ⟨m0, m1, m2, m3⟩ := (HW.out.1.below HB2.out).cells; have mf := (HW.out.1.below HB2.out).free; clear tokB0 hown hgr hb2)
      | (have _t := tokB1; refine stepK seK rfl _ _ rfl rfl rfl w1.heap.size _ 0 0 [] rfl rfl HX1.out.2 sa n2 sc (allS S) rfl (HSR.out _ HB1.out).2 (by show (_ + _ / 4 + 192) * 40 ≤ _; have := HN.out; omega) (by have := HN.out; omega) HB1.out.size ?_; intro bo cap2 x2 hown hgr hb2; have HB2 : Hid (Below w1.heap.size w1 x2) := HB1.out.trans hb2; obtain ⟨s0, s1, s2, s3⟩ := HW.out.2.2.1.below HB2.out; have HX2 : Hid (OwnK prK w1.heap.size x2 ao cap T ∧ OwnK seK w1.heap.size x2 bo cap2 (allS S)) := ⟨HX1.out.1.beside HX1.out.2 pr_se.symm rfl hgr, (by simpa using hown : OwnK seK w1.heap.size x2 bo cap2 (allS S))⟩; obtain ⟨m0, m1, m2, m3⟩ := (HW.out.1.below HB2.out).cells; have mf := (HW.out.1.below HB2.out).free; clear tokB1 hown hgr hb2))
    all_goals
      go_wp2
      go_meet
      case rel =>
        have hO3 : OwnI w1.heap.size x2 ao cap T bo cap2 (allS S) := ⟨OwnPr.k.2 HX2.out.1, HX2.out.2, ne_of_kinds HX2.out.1 HX2.out.2 pr_se⟩
        have hset := wsets_only w.heap.size [.int .i64 id, .int .i64 ep, .slice ao T.length cap, .slice bo (allS S).length cap2] x2 0
        have hI := (HW.out.1.below HB2.out).set id ep (.slice ao T.length cap) (.slice bo (allS S).length cap2)
        obtain ⟨z1, z2, _⟩ := HN.out
        simp only [z1, z2] at hI hset ⊢
        exact ⟨ao, cap, bo, cap2, hI, (hO3.only hset (fun i h1 _ e => by omega)).lower (Nat.le_of_lt hlt), (bel_call HW.out.2.1 HB2.out).trans (hset.below (fun i e => by omega) (bel_call HW.out.2.1 HB2.out).size)⟩
  case rest =>
  obtain ⟨ao, cap, bo, cap2, hI, hO, hB⟩ := hcut
  have HO : Hid (OwnI w.heap.size wc ao cap T bo cap2 (allS S) ∧ Below w.heap.size w wc) := ⟨hO, hB⟩
  obtain ⟨r0, r1, r2, r3⟩ := hI.cells
  clear q0 q1 q2 q3 hO hB hI HW HN hgne hlt hg1 E1 E2
  go_wp2
  refine bodyPost_ret (by simp [results, Try.results23, go_sem, r0, r1, r2, r3]; try rfl) rfl ?_
  exact ⟨ao, cap, bo, cap2, rfl, HO.out.1, HO.out.2⟩
end Go.Proofs.Ytodgcfmacmfcpaa
