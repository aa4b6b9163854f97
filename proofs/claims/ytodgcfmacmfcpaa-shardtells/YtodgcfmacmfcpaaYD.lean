/- Shards: Image, Weight; two images that are the same. -/
import Derived.Test.YtodgcfmacmfcpaaYC
namespace Go.Proofs.Ytodgcfmacmfcpaa
open Go.RowKit

section
variable {w w' : World} {B : Nat} {ao : Option Addr} {cap : Nat} {l : List Pr}
theorem OwnPr.stays {S : Nat → Prop} (h : OwnPr B w ao cap l) (o : Only S w w') (hd : ∀ i, B ≤ i → i < w.heap.size → ¬ S i) : OwnPr B w' ao cap l := by
  refine ⟨h.1, ?_⟩
  rcases h.2 with e | ⟨g, cp, cur, e, hB, hg, r⟩
  · exact .inl e
  · have hlt := (Array.getElem?_eq_some_iff.1 hg).1
    exact .inr ⟨g, cp, cur, e, hB, (o.block g hlt (hd g hB hlt)).trans hg, r⟩
theorem OwnPr.beyond (h : OwnPr B w ao cap l) (o : Below w.heap.size w w') : OwnPr B w' ao cap l := h.stays (S := fun _ => False) (Only.of_below _ o) fun _ _ _ => id
theorem OwnPr.lower {B' : Nat} (h : OwnPr B w ao cap l) (hB : B' ≤ B) : OwnPr B' w ao cap l := by
  refine ⟨h.1, ?_⟩
  rcases h.2 with e | ⟨g, cp, cur, e, hg, r⟩
  · exact .inl e
  · exact .inr ⟨g, cp, cur, e, Nat.le_trans hB hg, r⟩
theorem OwnPr.apart {S : Nat → Prop} (h : OwnPr B w ao cap l) (o : Only S w w') (hd : ∀ g, ao = some ⟨g, 0, none⟩ → ¬ S g) : OwnPr B w' ao cap l := by
  refine ⟨h.1, ?_⟩
  rcases h.2 with e | ⟨g, cp, cur, e, hB, hg, r⟩
  · exact .inl e
  · have e1 := e
    simp only [Value.slice.injEq] at e1
    exact .inr ⟨g, cp, cur, e, hB, (o.block g (Array.getElem?_eq_some_iff.1 hg).1 (hd g e1.1)).trans hg, r⟩
/-- a slice's block lies below n -/
theorem OwnPr.under (h : OwnPr B w ao cap l) (a : Addr) (ha : ao = some a) : B ≤ a.block ∧ a.block < w.heap.size := by
  rcases h.2 with ⟨e, _⟩ | ⟨g, cp, cur, e, hB, hg, _⟩
  · simp only [Value.slice.injEq] at e; rw [e.1] at ha; cases ha
  · simp only [Value.slice.injEq] at e
    rw [e.1] at ha
    obtain rfl := Option.some.inj ha
    exact ⟨hB, (Array.getElem?_eq_some_iff.1 hg).1⟩
theorem OwnK.under {α : Type} {K : Knd α} {xs : List α} (h : OwnK K B w ao cap xs) (a : Addr) (ha : ao = some a) : B ≤ a.block ∧ a.block < w.heap.size := by
  rcases h.2 with ⟨e, _⟩ | ⟨g, cp, cur, e, hB, hg, _⟩
  · simp only [Value.slice.injEq] at e; rw [e.1] at ha; cases ha
  · simp only [Value.slice.injEq] at e
    rw [e.1] at ha
    obtain rfl := Option.some.inj ha
    exact ⟨hB, (Array.getElem?_eq_some_iff.1 hg).1⟩
end
/-- an image in memory of its own from block B on: pairs T, sessions S; the two lists lie in blocks of their own -/
structure OwnI (B : Nat) (w : World) (ao : Option Addr) (cap : Nat) (T : List Pr) (bo : Option Addr) (cap2 : Nat) (S : List Se) : Prop where
  ps : OwnPr B w ao cap T
  xs : OwnK seK B w bo cap2 S
  ne : ∀ a b, ao = some a → bo = some b → a.block ≠ b.block
section
variable {w w' : World} {B : Nat} {ao bo : Option Addr} {cap cap2 : Nat} {T : List Pr} {S : List Se}
theorem OwnI.below (h : OwnI B w ao cap T bo cap2 S) (o : Below w.heap.size w w') : OwnI B w' ao cap T bo cap2 S := ⟨h.ps.beyond o, h.xs.below o, h.ne⟩
theorem OwnI.lower {B' : Nat} (h : OwnI B w ao cap T bo cap2 S) (hB : B' ≤ B) : OwnI B' w ao cap T bo cap2 S := ⟨h.ps.lower hB, h.xs.mono hB, h.ne⟩
theorem OwnI.only {R : Nat → Prop} (h : OwnI B w ao cap T bo cap2 S) (o : Only R w w') (hd : ∀ i, B ≤ i → i < w.heap.size → ¬ R i) : OwnI B w' ao cap T bo cap2 S := ⟨h.ps.stays o hd, h.xs.only o hd, h.ne⟩
end
theorem Pairs_w {w1 W : World} (hB : Below w1.heap.size w1 W) {g fo : Nat} {T : List Pr} (h : TabO w1 g fo T) :
    Calls Try.prog 32 #[.pointer (some ⟨g, fo, none⟩)] W fun e W' => ∃ ao cap, e = .returned (.slice ao T.length cap) ∧ OwnPr W.heap.size W' ao cap T ∧ Below w1.heap.size w1 W' ∧ Below W.heap.size W W' :=
  (Pairs_o g fo T W (h.below hB)).mono fun _ _ ⟨ao, cap, h1, h2, h3⟩ => ⟨ao, cap, h1, h2, hB.trans (h3.mono hB.size), h3⟩
theorem All_w {w1 W : World} (hB : Below w1.heap.size w1 W) {g fo : Nat} {S : List Se} (h : SesO w1 g fo S) :
    Calls Try.prog 33 #[.pointer (some ⟨g, fo, none⟩)] W fun e W' => ∃ ao cap, e = .returned (.slice ao (allS S).length cap) ∧ OwnK seK W.heap.size W' ao cap (allS S) ∧ Below w1.heap.size w1 W' ∧ Below W.heap.size W W' :=
  (All_o g fo S W (h.below hB)).mono fun _ _ ⟨ao, cap, h1, h2, h3⟩ => ⟨ao, cap, h1, h2, hB.trans (h3.mono hB.size), h3⟩
theorem set4 {W : World} {b g i : Nat} (hne : g ≠ b) (u0 u1 u2 u3 : Value) : ((((W.setCell ⟨b, 0, none⟩ u0).setCell ⟨b, 1, none⟩ u1).setCell ⟨b, 2, none⟩ u2).setCell ⟨b, 3, none⟩ u3).cell? ⟨g, i, none⟩ = W.cell? ⟨g, i, none⟩ := by
  rw [World.cell?_setCell_other, World.cell?_setCell_other, World.cell?_setCell_other, World.cell?_setCell_other] <;> (intro e; simp only [Addr.mk.injEq] at e; exact hne e.1.symm)
theorem ImAt.set {w : World} {b : Nat} {id ep : Int} {ps xs : Value} (h : ImAt w b id ep ps xs) (id' ep' : Int) (ps' xs' : Value) : ImAt ((((w.setCell ⟨b, 0, none⟩ (.int .i64 id')).setCell ⟨b, 1, none⟩ (.int .i64 ep')).setCell ⟨b, 2, none⟩ ps').setCell ⟨b, 3, none⟩ xs') b id' ep' ps' xs' := by
  have := wsets_heap (g := b) [.int .i64 id', .int .i64 ep', ps', xs'] w [.int .i64 id, .int .i64 ep, ps, xs] 0 h
  rw [setsL_eq _ _ _ (Nat.le_refl _)] at this
  exact this
def imgV (id ep : Int) (ao : Option Addr) (n cap : Nat) (bo : Option Addr) (m cap2 : Nat) : Value := .agg #[.int .i64 id, .int .i64 ep, .slice ao n cap, .slice bo m cap2]
set_option maxHeartbeats 4000000 in
theorem Image_o (g fo : Nat) (T : List Pr) (S : List Se) (id ep : Int) (w : World) (h : ShO w g fo T S id ep) :
    Calls Try.prog 11 #[.pointer (some ⟨g, fo, none⟩)] w fun e w' => ∃ ao cap bo cap2, e = .returned (.agg #[.int .i64 id, .int .i64 ep, .slice ao T.length cap, .slice bo (allS S).length cap2]) ∧ OwnI w.heap.size w' ao cap T bo cap2 (allS S) ∧ Below w.heap.size w w' := by
  have hg := h.lt
  have HI : Hid (∃ w1 : World, w.alloc (.cells #[.int .i64 0, .int .i64 0, .slice none 0 0, .slice none 0 0] 41) = w1 ∧ ImAt w1 w.heap.size 0 0 (.slice none 0 0) (.slice none 0 0) ∧ Below w.heap.size w w1 ∧ ShO w1 g fo T S id ep) :=
    ⟨_, rfl, alloc_new w _, bel_al w _, h.below (bel_al w _)⟩
  clear h
  go_enter Try.func11, Try.ntmps11
  go_upto_region 1 with fail
  obtain ⟨w1, e1, I1, B1, H1⟩ := HI.out
  rw [e1]
  obtain ⟨q0, q1⟩ := H1.nums
  obtain ⟨n1, hn1⟩ : ∃ n1, T.length = n1 := ⟨_, rfl⟩
  obtain ⟨n2, hn2⟩ : ∃ n2, (allS S).length = n2 := ⟨_, rfl⟩
  have hlt := I1.lt
  have hg1 := H1.lt
  have hgne : g ≠ w.heap.size := by omega
  have HW : Hid (ImAt w1 w.heap.size 0 0 (.slice none 0 0) (.slice none 0 0) ∧ Below w.heap.size w w1 ∧ ShO w1 g fo T S id ep) := ⟨I1, B1, H1⟩
  have HN : Hid (T.length = n1 ∧ (allS S).length = n2) := ⟨hn1, hn2⟩
  clear HI e1 I1 B1 H1 hn1 hn2
  go_cut [] (fun wx => ∃ ao cap bo cap2, ImAt wx w.heap.size id ep (.slice ao T.length cap) (.slice bo (allS S).length cap2) ∧ OwnI w.heap.size wx ao cap T bo cap2 (allS S) ∧ Below w.heap.size w wx)
  case first =>
    have tokA : True := trivial
    have tokB : True := trivial
    go_region_held3 (fun w' => w'.cell? ⟨g, fo + 33, none⟩ = some (.int .i64 id) ∧ w'.cell? ⟨g, fo + 34, none⟩ = some (.int .i64 ep)) (first | (refine ⟨?_, ?_⟩ <;> with_reducible assumption) | (refine ⟨?_, ?_⟩ <;> with_reducible exact (set4 hgne _ _ _ _).trans (by assumption)) | go_keep) (first
        | (have _t := tokA; go_at_call 32; refine (Pairs_w (w1 := w1) (by first | exact (Below.refl _ _).drew | assumption) HW.out.2.2.1).mono ?_; rintro e x2 ⟨ao, cap, rfl, hO, hb, hd⟩; obtain ⟨r0, r1⟩ := (HW.out.2.2.below hb).nums; obtain ⟨m0, m1, m2, m3⟩ := (HW.out.1.below hb).cells; have mf := (HW.out.1.below hb).free; have HO : Hid (OwnPr _ x2 ao cap T) := hO; have HP := hd.size; clear tokA _t hO)
        | (have _t := tokB; go_at_call 33; refine (All_w (w1 := w1) (by first | exact (Below.refl _ _).drew | assumption) HW.out.2.2.2.1).mono ?_; rintro e x3 ⟨bo, cap2, rfl, hO, hb', hd'⟩; obtain ⟨s0, s1⟩ := (HW.out.2.2.below hb').nums; obtain ⟨k0, k1, k2, k3⟩ := (HW.out.1.below hb').cells; have kf := (HW.out.1.below hb').free; have HK : Hid (OwnK seK _ x3 bo cap2 (allS S)) := hO; have HP' := hd'.size; clear tokB _t hO))
    all_goals
      go_wp2
      go_meet
      case rel =>
        have hO3 : OwnI w1.heap.size x3 ao cap T bo cap2 (allS S) := ⟨HO.out.beyond hd', HK.out.mono HP, fun a b ha hb => by have h1 := (HO.out.under a ha).2; have h2 := (HK.out.under b hb).1; omega⟩
        have hset := wsets_only w.heap.size [.int .i64 id, .int .i64 ep, .slice ao T.length cap, .slice bo (allS S).length cap2] x3 0
        exact ⟨ao, cap, bo, cap2, (HW.out.1.below hb').set _ _ _ _, (hO3.only hset (fun i h1 _ e => by omega)).lower (Nat.le_of_lt hlt), (bel_call HW.out.2.1 hb').trans (hset.below (fun i e => by omega) (bel_call HW.out.2.1 hb').size)⟩
  case rest =>
  obtain ⟨ao, cap, bo, cap2, hI, hO, hB⟩ := hcut
  have HO : Hid (OwnI w.heap.size wc ao cap T bo cap2 (allS S) ∧ Below w.heap.size w wc) := ⟨hO, hB⟩
  obtain ⟨r0, r1, r2, r3⟩ := hI.cells
  clear q0 q1 hO hB hI HW HN hgne hlt hg1
  go_wp2
  refine bodyPost_ret (by simp [results, Try.results11, go_sem, r0, r1, r2, r3]; try rfl) rfl ?_
  exact ⟨ao, cap, bo, cap2, rfl, HO.out.1, HO.out.2⟩
theorem Weight_o (g fo : Nat) (T : List Pr) (S : List Se) (id ep : Int) (w : World) (h : ShO w g fo T S id ep) (n : Nat) (hn : T.length = n) :
    Calls Try.prog 20 #[.pointer (some ⟨g, fo, none⟩)] w fun e w' => e = .returned (.int .i64 ((n : Int) + 1)) ∧ w' = w := by
  have hg := h.lt
  have hf := h.1.few
  rw [hn] at hf
  have hf2 : (n : Int) ≤ 8 := by omega
  have H : Hid (TabO w g fo T) := h.1
  have HN : Hid (T.length = n) := hn
  clear h hn
  go_enter Try.func20, Try.ntmps20
  go_wp2_with (go_at_call 34; refine (Len_o g fo T _ H.out).mono ?_; rintro e w' ⟨rfl, rfl⟩; rw [HN.out])
  go_ret
  exact ⟨rfl, rfl⟩
end Go.Proofs.Ytodgcfmacmfcpaa
