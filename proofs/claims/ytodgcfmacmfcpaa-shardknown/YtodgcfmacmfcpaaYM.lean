/- ShardKnown: the walk. -/
import Derived.Test.YtodgcfmacmfcpaaYL
import Derived.Test.YtodgcfmacmfcpaaYH
namespace Go.Proofs.Ytodgcfmacmfcpaa
open Go.RowKit

section
variable {w0 w w' : World} {g : Nat} {T T' : List Pr} {S S' : List Se} {id ep : Int} {L : List (Nat × Obj)}
theorem Sw.row (h : Sw w0 w g T S id ep L) {b : Nat} {o : Obj} (hg : w.heap[b]? = some o) (h1 : b ≠ g) : Sw w0 w g T S id ep ((b, o) :: L) := by
  refine ⟨h.sh, fun p hp => ?_, h.bel, h.b1⟩
  rcases List.mem_cons.1 hp with rfl | hp
  · exact ⟨hg, h1⟩
  · exact h.ls p hp
end
def mT : List Pr := [(⟨#[107]⟩, ⟨#[118]⟩)]
def mS1 : List Se := [Se.z, Se.z, ⟨2, 5, 0, ⟨#[]⟩⟩, Se.z]
def mS2 : List Se := [Se.z, ⟨1, 1, 0, ⟨#[118]⟩⟩, ⟨2, 5, 0, ⟨#[]⟩⟩, Se.z]
def mS3 : List Se := [Se.z, ⟨1, 2, 4, ⟨#[]⟩⟩, ⟨2, 5, 0, ⟨#[]⟩⟩, Se.z]
def mX : List Se := [⟨1, 2, 4, ⟨#[]⟩⟩, ⟨2, 5, 0, ⟨#[]⟩⟩]
def mB : List Se := [⟨2, 5, 0, ⟨#[]⟩⟩, ⟨1, 2, 4, ⟨#[]⟩⟩]
def mO : List Se := [⟨1, 1, 1, ⟨#[]⟩⟩]
theorem mk1 : askS [] zeroS 2 5 2 ⟨#[107]⟩ ⟨#[118]⟩ ⟨#[]⟩ = (mT, mS1, 0, ⟨#[]⟩, true) := by kernel_rfl
theorem mk2 : askS mT mS1 2 4 2 ⟨#[107]⟩ ⟨#[119]⟩ ⟨#[]⟩ = (mT, mS1, 9, ⟨#[]⟩, false) := by kernel_rfl
theorem mk3 : askS mT mS1 9 1 2 ⟨#[107]⟩ ⟨#[119]⟩ ⟨#[]⟩ = (mT, mS1, 1, ⟨#[]⟩, false) := by kernel_rfl
theorem mk4 : askS mT mS1 1 0 2 ⟨#[107]⟩ ⟨#[119]⟩ ⟨#[]⟩ = (mT, mS1, 1, ⟨#[]⟩, false) := by kernel_rfl
theorem mk5 : askS mT mS1 1 1 0 ⟨#[]⟩ ⟨#[]⟩ ⟨#[]⟩ = (mT, mS1, 1, ⟨#[]⟩, false) := by kernel_rfl
theorem mk6 : askS mT mS1 1 1 1 ⟨#[107]⟩ ⟨#[]⟩ ⟨#[]⟩ = (mT, mS2, 0, ⟨#[118]⟩, true) := by kernel_rfl
theorem mk7 : askS mT mS2 1 2 1 ⟨#[110, 111, 110, 101]⟩ ⟨#[]⟩ ⟨#[]⟩ = (mT, mS3, 4, ⟨#[]⟩, true) := by kernel_rfl
theorem mr1 : rightI 1 1 mT mX = true := by kernel_rfl
theorem mr2 : rightI 1 1 mT mB = false := by kernel_rfl
theorem mr3 : rightI 1 1 mT mO = false := by kernel_rfl
theorem mr4 : rightI 1 0 [] [] = false := by kernel_rfl
theorem mr5 : rightI 6 1 [] [] = false := by kernel_rfl
theorem mr6 : rightI (-1) 1 [] [] = false := by kernel_rfl
theorem mr7 : rightI 0 1099511627777 [] [] = false := by kernel_rfl
theorem mr8 : rightI 0 1099511627776 [] [] = true := by kernel_rfl
theorem PrR.apart {w w' : World} {R : Nat → Prop} {ao : Option Addr} {cap : Nat} {l : List Pr} (h : PrR w ao cap l) (o : Only R w w') (hd : ∀ a, ao = some a → ¬ R a.block) : PrR w' ao cap l :=
  ⟨h.1, h.2.1, fun hl => by obtain ⟨g, off, e, h2, h3⟩ := h.2.2 hl; exact ⟨g, off, e, Nat.lt_of_lt_of_le h2 o.size, h3.heap (o.block g h2 (hd ⟨g, off, none⟩ e))⟩⟩
theorem ArK.aside {α : Type} {K : Knd α} {A : Nat → Prop} {w w' : World} {R : Nat → Prop} {ao : Option Addr} {cap : Nat} {l : List α} (h : ArK K A w ao cap l) (o : Only R w w') (hd : ∀ a, ao = some a → ¬ R a.block) : ArK K A w' ao cap l :=
  ⟨h.1, h.2.1, h.2.2.1, fun hl => by obtain ⟨g, off, e, h2, h3, h4⟩ := h.2.2.2 hl; exact ⟨g, off, e, Nat.lt_of_lt_of_le h2 o.size, h3, h4.heap (o.block g h2 (hd ⟨g, off, none⟩ e))⟩⟩
theorem RdI.nil (w : World) : RdI w none 0 [] none 0 [] := ⟨PrR.nil w, ArK.nil _ _ _⟩
theorem Right8_nil (id ep : Int) (w : World) (r : Bool) (hr : rightI id ep [] [] = r) : Calls Try.prog 14 #[.agg #[.int .i64 id, .int .i64 ep, .slice none 0 0, .slice none 0 0]] w fun e w' => e = .returned (.bool r) ∧ Below w.heap.size w w' :=
  Right8_eq id ep none 0 [] none 0 [] 0 0 w rfl rfl (RdI.nil w) hr
set_option maxRecDepth 20000 in
set_option maxHeartbeats 16000000 in
theorem ShardKnown_any (w : World) : Calls Try.prog 3 #[] w fun e w' => e = .returned (.bool true) ∧ Below w.heap.size w w' := by
  go_enter Try.func3, Try.ntmps3
  go_wp2_with fail
  refine (ShOf_nil 1 1 _).mono ?_
  rintro e w1 ⟨C, rfl, hC, hb1⟩
  obtain ⟨hi, h35, h1⟩ := hC.rows
  have hn1 := alloc_new w1 zeroH
  unfold zeroH at hn1
  have HC : Hid (ShC C [] zeroS 1 1 ∧ Below w.heap.size w w1) := ⟨hC, hb1⟩
  clear hC hb1
  have tokA : True := trivial
  go_wp2_with (have _t := tokA; refine wpList_store_row rfl 36 _ _ rfl w1.heap.size C rfl rfl 36 _ hn1 hi h35.out h1 ?_; obtain ⟨w2, hw2⟩ : ∃ w2, w2 = (w1.alloc zeroH).setRow w1.heap.size C := ⟨_, rfl⟩; have HN := store_newH HC.out.1 hw2; unfold zeroH at hw2; rw [← hw2]; clear hw2 hn1 tokA _t)
  have H2 : Hid (Sw w w2 w1.heap.size [] zeroS 1 1 []) := ⟨HN.1, by simp, bel_call HC.out.2 HN.2.1, HC.out.2.size⟩
  clear HN HC hi h35 h1
  refine (put_any _ _ _ _ _).mono ?_
  rintro e w3 ⟨rfl, hb⟩
  have H3 : Hid (Sw w w3 w1.heap.size [] zeroS 1 1 []) := H2.out.below hb
  clear hb H2
  go_wp2_with fail
  refine (Ask_eq w1.heap.size 0 [] zeroS 1 1 _ _ _ _ _ _ _ H3.out.sh _ _ _ _ _ mk1).mono ?_
  rintro e w4 ⟨rfl, hSh, hP⟩
  have H4 : Hid (Sw w w4 w1.heap.size mT mS1 1 1 []) := H3.out.turn hSh hP
  clear hSh hP H3
  go_wp2_with fail
  refine (put_any _ _ _ _ _).mono ?_
  rintro e w5 ⟨rfl, hb⟩
  have H5 : Hid (Sw w w5 w1.heap.size mT mS1 1 1 []) := H4.out.below hb
  clear hb H4
  go_wp2_with fail
  refine (Ask_eq w1.heap.size 0 mT mS1 1 1 _ _ _ _ _ _ _ H5.out.sh _ _ _ _ _ mk2).mono ?_
  rintro e w6 ⟨rfl, hSh, hP⟩
  have H6 := (H5.out.turn hSh hP).al (.cells #[.int .i64 9, .string ⟨#[]⟩] 29) rfl
  have H6 : Hid (Sw _ _ _ _ _ _ _ _) := H6
  clear hSh hP H5
  go_wp2_with fail
  refine (put_any _ _ _ _ _).mono ?_
  rintro e w7 ⟨rfl, hb⟩
  have H7 : Hid (Sw _ _ _ _ _ _ _ _) := H6.out.below hb
  have L7 : Hid (w6.heap.size < w7.heap.size) := by have h := hb.size; rw [size_al] at h; exact h
  clear hb H6
  go_wp2_with fail
  refine (Ask_eq w1.heap.size 0 mT mS1 1 1 _ _ _ _ _ _ _ H7.out.sh _ _ _ _ _ mk3).mono ?_
  rintro e w8 ⟨rfl, hSh, hP⟩
  have H8 := (H7.out.turn hSh hP).al (.cells #[.int .i64 1, .string ⟨#[]⟩] 29) rfl
  have H8 : Hid (Sw _ _ _ _ _ _ _ _) := H8
  have L8 : Hid (w6.heap.size < w8.heap.size) := Nat.lt_of_lt_of_le L7.out hP.only.size
  clear hSh hP H7 L7
  go_wp2_with fail
  refine (put_any _ _ _ _ _).mono ?_
  rintro e w9 ⟨rfl, hb⟩
  have H9 : Hid (Sw _ _ _ _ _ _ _ _) := H8.out.below hb
  have L9 : Hid (w8.heap.size < w9.heap.size) := by have h := hb.size; rw [size_al] at h; exact h
  clear hb H8
  go_wp2_with fail
  refine (Ask_eq w1.heap.size 0 mT mS1 1 1 _ _ _ _ _ _ _ H9.out.sh _ _ _ _ _ mk4).mono ?_
  rintro e wa ⟨rfl, hSh, hP⟩
  have HA := (H9.out.turn hSh hP).al (.cells #[.int .i64 1, .string ⟨#[]⟩] 29) rfl
  have HA : Hid (Sw _ _ _ _ _ _ _ _) := HA
  have LA : Hid (w8.heap.size < wa.heap.size) := Nat.lt_of_lt_of_le L9.out hP.only.size
  clear hSh hP H9 L9
  go_wp2_with fail
  refine (Ask_eq w1.heap.size 0 mT mS1 1 1 _ _ _ _ _ _ _ HA.out.sh _ _ _ _ _ mk5).mono ?_
  rintro e wb ⟨rfl, hSh, hP⟩
  have HB := (HA.out.turn hSh hP).al (.cells #[.int .i64 1, .string ⟨#[]⟩] 29) rfl
  have HB : Hid (Sw _ _ _ _ _ _ _ _) := HB
  have LB : Hid (wa.heap.size < wb.heap.size) := by have h := hP.only.size; rw [size_al] at h; exact h
  clear hSh hP HA
  go_wp2_with fail
  refine (Ask_eq w1.heap.size 0 mT mS1 1 1 _ _ _ _ _ _ _ HB.out.sh _ _ _ _ _ mk6).mono ?_
  rintro e wk ⟨rfl, hSh, hP⟩
  have HC := (HB.out.turn hSh hP).al (.cells #[.int .i64 0, .string ⟨#[118]⟩] 29) rfl
  have HC : Hid (Sw _ _ _ _ _ _ _ _) := HC
  have LC : Hid (wb.heap.size < wk.heap.size) := by have h := hP.only.size; rw [size_al] at h; exact h
  clear hSh hP HB
  go_wp2_with fail
  refine (Ask_eq w1.heap.size 0 mT mS2 1 1 _ _ _ _ _ _ _ HC.out.sh _ _ _ _ _ mk7).mono ?_
  rintro e wd ⟨rfl, hSh, hP⟩
  have HD := (HC.out.turn hSh hP).al (.cells #[.int .i64 4, .string ⟨#[]⟩] 29) rfl
  have HD : Hid (Sw _ _ _ _ _ _ _ _) := HD
  have LD : Hid (wk.heap.size < wd.heap.size) := by have h := hP.only.size; rw [size_al] at h; exact h
  clear hSh hP HC
  go_wp2_with fail
  refine (Image_eq w1.heap.size 0 mT mS3 1 1 _ HD.out.sh 1 2 mX rfl (by kernel_rfl) rfl).mono ?_
  rintro e we ⟨xa, xcap, xb, xcap2, rfl, hO, hb⟩
  have HE := (HD.out.below hb).al (.cells #[.int .i64 1, .int .i64 1, .slice xa 1 xcap, .slice xb 2 xcap2] 41) rfl
  have HE : Hid (Sw _ _ _ _ _ _ _ _) := HE
  have LE : Hid (wd.heap.size < we.heap.size) := by have h := hb.size; rw [size_al] at h; exact h
  have OE : Hid (OwnI wd.heap.size we xa xcap mT xb xcap2 mX) := hO.lower (by rw [size_al]; omega)
  have UE : Hid (∀ a, (xa = some a → a.block < we.heap.size) ∧ (xb = some a → a.block < we.heap.size)) := fun a => ⟨fun e => (hO.ps.under a e).2, fun e => (hO.xs.under a e).2⟩
  clear hO hb HD
  go_wp2_with fail
  refine (knownH_any _).mono ?_
  rintro e wf ⟨rfl, hb⟩
  have HF : Hid (Sw _ _ _ _ _ _ _ _) := HE.out.below hb
  have OF : Hid (OwnI wd.heap.size wf xa xcap mT xb xcap2 mX) := OE.out.below (bel_call (bel_al we _) hb)
  have LF : Hid (we.heap.size < wf.heap.size) := by have h := hb.size; rw [size_al] at h; exact h
  clear hb HE OE
  obtain ⟨i0, i1, i2, i3⟩ := (HF.out.im (b := we.heap.size) (i := 1) (e := 1) (ps := .slice xa 1 xcap) (xs := .slice xb 2 xcap2) (by simp)).cells
  go_wp2_with fail
  refine (Last_xo w1.heap.size 17 mS3 2 _ HF.out.sh.2.1 ⟨2, 5, 0, ⟨#[]⟩⟩ (by kernel_rfl)).mono ?_
  rintro e wg ⟨rfl, hb⟩
  simp only [show hasS ⟨2, 5, 0, ⟨#[]⟩⟩ = true from rfl]
  have HG := (HF.out.below hb).al (.cells #[.int .i64 2, .int .i64 5, .int .i64 0, .string ⟨#[]⟩] 31) rfl
  have HG : Hid (Sw _ _ _ _ _ _ _ _) := HG
  have OG : Hid (OwnI wd.heap.size wg xa xcap mT xb xcap2 mX) := OF.out.below hb
  have LG : Hid (we.heap.size < wg.heap.size) := Nat.lt_of_lt_of_le LF.out hb.size
  clear hb HF OF i0 i1 i2 i3
  obtain ⟨i0, i1, i2, i3⟩ := (HG.out.im (b := we.heap.size) (i := 1) (e := 1) (ps := .slice xa 1 xcap) (xs := .slice xb 2 xcap2) (by simp)).cells
  have hlt : we.heap.size < (wg.alloc (.cells #[.int .i64 2, .int .i64 5, .int .i64 0, .string ⟨#[]⟩] 31)).heap.size := by rw [size_al]; have := LG.out; omega
  have X0 : Hid (∃ L : List (Nat × Obj), Sw w (wg.alloc (.cells #[.int .i64 2, .int .i64 5, .int .i64 0, .string ⟨#[]⟩] 31)) w1.heap.size mT mS3 1 1 L ∧ (w6.heap.size, Obj.cells #[.int .i64 9, .string ⟨#[]⟩] 29) ∈ L ∧ (w8.heap.size, Obj.cells #[.int .i64 1, .string ⟨#[]⟩] 29) ∈ L ∧ (wa.heap.size, Obj.cells #[.int .i64 1, .string ⟨#[]⟩] 29) ∈ L ∧ (wb.heap.size, Obj.cells #[.int .i64 1, .string ⟨#[]⟩] 29) ∈ L ∧ (wk.heap.size, Obj.cells #[.int .i64 0, .string ⟨#[118]⟩] 29) ∈ L ∧ (wd.heap.size, Obj.cells #[.int .i64 4, .string ⟨#[]⟩] 29) ∈ L ∧ (we.heap.size, Obj.cells #[.int .i64 1, .int .i64 1, .slice xa 1 xcap, .slice xb 2 xcap2] 41) ∈ L ∧ (wg.heap.size, Obj.cells #[.int .i64 2, .int .i64 5, .int .i64 0, .string ⟨#[]⟩] 31) ∈ L ∧ ∀ p ∈ L, p.1 < wg.heap.size + 1) :=
    ⟨_, HG.out, by simp, by simp, by simp, by simp, by simp, by simp, by simp, by simp, fun p hp => by have := obj_lt (HG.out.ls p hp).1; rw [size_al] at this; exact this⟩
  clear HG
  obtain ⟨L, HG, hm⟩ := X0.out
  have HM : Hid (_ ∧ _) := hm
  obtain ⟨bd, hbd⟩ : ∃ bd, wg.heap.size + 1 = bd := ⟨_, rfl⟩
  have X1 : Hid (∃ y1, (wg.alloc (.cells #[.int .i64 2, .int .i64 5, .int .i64 0, .string ⟨#[]⟩] 31)).alloc (.cells #[.int .i64 1, .int .i64 1, .slice xa 1 xcap, .slice xb 2 xcap2] 41) = y1 ∧ Sw w y1 w1.heap.size mT mS3 1 1 L ∧ ImAt y1 bd 1 1 (.slice xa 1 xcap) (.slice xb 2 xcap2) ∧ OwnI wd.heap.size y1 xa xcap mT xb xcap2 mX ∧ w1.heap.size < bd ∧ wd.heap.size < bd) :=
    ⟨_, rfl, HG.below (bel_al _ _), by have h := alloc_new (wg.alloc (.cells #[.int .i64 2, .int .i64 5, .int .i64 0, .string ⟨#[]⟩] 31)) (.cells #[.int .i64 1, .int .i64 1, .slice xa 1 xcap, .slice xb 2 xcap2] 41); rw [size_al, hbd] at h; exact h, (OG.out.below (bel_al _ _)).below (bel_al _ _), by have := HG.sh.lt; rw [size_al] at this; omega, by have := LE.out; have := LG.out; omega⟩
  have HBD : Hid (wg.heap.size + 1 = bd) := hbd
  clear HG OG X0 hm hbd
  go_upto_region 14 with fail
  clear hlt i0 i1 i2 i3
  obtain ⟨y1, e1, S1, I1, O1, L1, L1'⟩ := X1.out
  rw [e1, HBD.out]
  obtain ⟨i0, i1, i2, i3⟩ := (S1.im HM.out.2.2.2.2.2.2.1).cells
  obtain ⟨j0, j1, j2, j3⟩ := I1.cells
  have hfz := I1.free
  obtain ⟨gx, hgx, hx1, hx2, hrd⟩ := O1.xs.at (by decide)
  subst hgx
  obtain ⟨a0, a1, a2, a3⟩ := hrd.se 0 (by decide)
  obtain ⟨b0, b1, b2, b3⟩ := hrd.se 1 (by decide)
  simp only [Nat.zero_add, Nat.zero_mul, Nat.one_mul, mX, List.getElem_cons_zero, List.getElem_cons_succ] at a0 a1 a2 a3 b0 b1 b2 b3
  have hbdl : bd < y1.heap.size := I1.lt
  have HY : Hid (Sw w y1 w1.heap.size mT mS3 1 1 L ∧ ImAt y1 bd 1 1 (.slice xa 1 xcap) (.slice (some ⟨gx, 0, none⟩) 2 xcap2) ∧ OwnI wd.heap.size y1 xa xcap mT (some ⟨gx, 0, none⟩) xcap2 mX ∧ w1.heap.size < bd) := ⟨S1, I1, O1, L1⟩
  clear X1 e1 S1 I1 O1 L1 hrd
  go_cut [] (fun wx => ∃ bs, ImAt wx bd 1 1 (.slice xa 1 xcap) (.slice (some ⟨bs, 0, none⟩) 2 2) ∧ SeR wx (some ⟨bs, 0, none⟩) 2 mB ∧ Sw w wx w1.heap.size mT mS3 1 1 L ∧ RdI wx xa xcap mT (some ⟨gx, 0, none⟩) xcap2 mX ∧ bd < bs)
  case first =>
    go_region
    all_goals
      go_wp2
      go_meet
      case rel =>
        obtain ⟨z, hz⟩ : ∃ z, y1.setCell ⟨bd, 3, none⟩ (.slice (some ⟨y1.heap.size, 0, none⟩) 2 2) = z := ⟨_, rfl⟩
        have hO : Only (fun k => k = bd) y1 z := by rw [← hz]; exact only_set (Only.refl _ _) 3 _
        have hzs : z.heap.size = y1.heap.size := by rw [← hz]; simp [World.setCell]
        have hIz : ImAt z bd 1 1 (.slice xa 1 xcap) (.slice (some ⟨y1.heap.size, 0, none⟩) 2 2) := by rw [← hz]; exact set_row1 HY.out.2.1 _
        have hbdg := HBD.out
        have hlg := LG.out
        have hS := HY.out.1.wr hO (by have := HY.out.2.2.2; omega) (by have := HY.out.1.b1; have := HY.out.2.2.2; omega) (fun p hp => by have := HM.out.2.2.2.2.2.2.2.2 p hp; omega)
        have hR : RdI z xa xcap mT (some ⟨gx, 0, none⟩) xcap2 mX := ⟨(HY.out.2.2.1.ps.apart hO (fun g e => by have := (UE.out ⟨g, 0, none⟩).1 e; simp only at this; omega)).rd, (HY.out.2.2.1.xs.apart hO (fun g e => by have := (UE.out ⟨g, 0, none⟩).2 e; simp only at this; omega)).arK.mono fun _ _ _ => trivial⟩
        have hB := ArK.lits (K := seK) z mB (by decide) (fun _ => True) trivial
        rw [hzs] at hB
        rw [hz]
        exact ⟨y1.heap.size, (hIz.below (bel_al z _)).below (Below.refl _ _).drew, ArK.below hB (Below.refl _ _).drew, (hS.below (bel_al z _)).below (Below.refl _ _).drew, (hR.below (bel_al z _)).below (Below.refl _ _).drew, hbdl⟩
  case rest =>
  obtain ⟨bs, hI, hRB, hS, hRX, hbs⟩ := hcut
  have HZ : Hid (ImAt wc bd 1 1 (.slice xa 1 xcap) (.slice (some ⟨bs, 0, none⟩) 2 2) ∧ SeR wc (some ⟨bs, 0, none⟩) 2 mB ∧ Sw w wc w1.heap.size mT mS3 1 1 L ∧ RdI wc xa xcap mT (some ⟨gx, 0, none⟩) xcap2 mX) := ⟨hI, hRB, hS, hRX⟩
  have hbd := hI.lt
  have HGB : Hid (w1.heap.size < bd) := HY.out.2.2.2
  have X2 : Hid (∃ z bo, wc.alloc (.cells #[.int .i64 1, .int .i64 1, .slice xa 1 xcap, .slice (some ⟨gx, 0, none⟩) 2 xcap2] 41) = z ∧ wc.heap.size = bo ∧ bd < bo ∧ bo < z.heap.size ∧ ImAt z bo 1 1 (.slice xa 1 xcap) (.slice (some ⟨gx, 0, none⟩) 2 xcap2) ∧ (ImAt z bd 1 1 (.slice xa 1 xcap) (.slice (some ⟨bs, 0, none⟩) 2 2) ∧ SeR z (some ⟨bs, 0, none⟩) 2 mB ∧ Sw w z w1.heap.size mT mS3 1 1 L ∧ RdI z xa xcap mT (some ⟨gx, 0, none⟩) xcap2 mX) ∧ bs < bo) :=
    ⟨_, _, rfl, rfl, hbd, by rw [size_al]; omega, alloc_new wc _, ⟨hI.below (bel_al wc _), ArK.below hRB (bel_al wc _), hS.below (bel_al wc _), hRX.below (bel_al wc _)⟩, by obtain ⟨g', o', e, hl, _⟩ := ArK.at hRB (by decide); simp only [Option.some.injEq, Addr.mk.injEq] at e; omega⟩
  obtain ⟨i0, i1, i2, i3⟩ := (hS.im HM.out.2.2.2.2.2.2.1).cells
  clear hI hRB hS hRX hbs hbd HZ HY hbdl a0 a1 a2 a3 b0 b1 b2 b3 j0 j1 j2 j3 hfz
  go_upto_region 16 with fail
  obtain ⟨z, bo, e1, e2, l1, l2, I1, ⟨I2, R2, S2, X3⟩, l3⟩ := X2.out
  rw [e1, e2]
  have hbdg := HBD.out
  have hlg := LG.out
  have hO : Only (fun k => k = bo) z (z.setCell ⟨bo, 3, none⟩ (.slice (some ⟨z.heap.size, 0, none⟩) 1 1)) := only_set (Only.refl _ _) 3 _
  have hzs : (z.setCell ⟨bo, 3, none⟩ (.slice (some ⟨z.heap.size, 0, none⟩) 1 1)).heap.size = z.heap.size := by simp [World.setCell]
  have hL := HM.out.2.2.2.2.2.2.2.2
  have hIo : ImAt (z.setCell ⟨bo, 3, none⟩ (.slice (some ⟨z.heap.size, 0, none⟩) 1 1)) bo 1 1 (.slice xa 1 xcap) (.slice (some ⟨z.heap.size, 0, none⟩) 1 1) := set_row1 I1 _
  have hgb := HGB.out
  have hw1 := S2.b1
  have hSo := S2.wr hO (by omega) (by omega) (fun p hp => by have := hL p hp; omega)
  have hB := ArK.lits (K := seK) (z.setCell ⟨bo, 3, none⟩ (.slice (some ⟨z.heap.size, 0, none⟩) 1 1)) mO (by decide) (fun _ => True) trivial
  rw [hzs] at hB
  have hbe := bel_al (z.setCell ⟨bo, 3, none⟩ (.slice (some ⟨z.heap.size, 0, none⟩) 1 1)) (.cells #[.int .i64 1, .int .i64 1, .int .i64 1, .string ⟨#[]⟩] 31)
  have H16 : Hid (ImAt ((z.setCell ⟨bo, 3, none⟩ (.slice (some ⟨z.heap.size, 0, none⟩) 1 1)).alloc (.cells #[.int .i64 1, .int .i64 1, .int .i64 1, .string ⟨#[]⟩] 31)) bo 1 1 (.slice xa 1 xcap) (.slice (some ⟨z.heap.size, 0, none⟩) 1 1) ∧ ImAt ((z.setCell ⟨bo, 3, none⟩ (.slice (some ⟨z.heap.size, 0, none⟩) 1 1)).alloc (.cells #[.int .i64 1, .int .i64 1, .int .i64 1, .string ⟨#[]⟩] 31)) bd 1 1 (.slice xa 1 xcap) (.slice (some ⟨bs, 0, none⟩) 2 2) ∧ SeR ((z.setCell ⟨bo, 3, none⟩ (.slice (some ⟨z.heap.size, 0, none⟩) 1 1)).alloc (.cells #[.int .i64 1, .int .i64 1, .int .i64 1, .string ⟨#[]⟩] 31)) (some ⟨bs, 0, none⟩) 2 mB ∧ Sw w ((z.setCell ⟨bo, 3, none⟩ (.slice (some ⟨z.heap.size, 0, none⟩) 1 1)).alloc (.cells #[.int .i64 1, .int .i64 1, .int .i64 1, .string ⟨#[]⟩] 31)) w1.heap.size mT mS3 1 1 L ∧ RdI ((z.setCell ⟨bo, 3, none⟩ (.slice (some ⟨z.heap.size, 0, none⟩) 1 1)).alloc (.cells #[.int .i64 1, .int .i64 1, .int .i64 1, .string ⟨#[]⟩] 31)) xa xcap mT (some ⟨gx, 0, none⟩) xcap2 mX ∧ SeR ((z.setCell ⟨bo, 3, none⟩ (.slice (some ⟨z.heap.size, 0, none⟩) 1 1)).alloc (.cells #[.int .i64 1, .int .i64 1, .int .i64 1, .string ⟨#[]⟩] 31)) (some ⟨z.heap.size, 0, none⟩) 1 mO) :=
    ⟨hIo.below hbe, (I2.only hO (by omega)).below hbe, ArK.below (ArK.aside R2 hO (fun a e => by simp only [Option.some.injEq] at e; subst e; simp only; omega)) hbe, hSo.below hbe, (RdI.mk (X3.ps.apart hO (fun a e => by have := (UE.out a).1 e; omega)) (ArK.aside X3.xs hO (fun a e => by have := (UE.out a).2 e; omega))).below hbe, hB⟩
  obtain ⟨i0, i1, i2, i3⟩ := (H16.out.2.2.2.1.im HM.out.2.2.2.2.2.2.1).cells
  obtain ⟨a0, _⟩ := (H16.out.2.2.2.1.an HM.out.1).cells
  obtain ⟨b0, _⟩ := (H16.out.2.2.2.1.an HM.out.2.1).cells
  obtain ⟨c0, _⟩ := (H16.out.2.2.2.1.an HM.out.2.2.1).cells
  obtain ⟨d0, _⟩ := (H16.out.2.2.2.1.an HM.out.2.2.2.1).cells
  obtain ⟨f0, f1⟩ := (H16.out.2.2.2.1.an HM.out.2.2.2.2.1).cells
  obtain ⟨k0, _⟩ := (H16.out.2.2.2.1.an HM.out.2.2.2.2.2.1).cells
  obtain ⟨j0, j1, j2, j3⟩ := I1.cells
  have hfz := I1.free
  clear X2 e1 e2 I1 I2 R2 S2 X3 hIo hSo hB hbe hO hzs hL hbdg hlg hgb hw1
  go_wp2_with fail
  refine (Right8_eq 1 1 xa xcap mT (some ⟨gx, 0, none⟩) xcap2 mX 1 2 _ rfl rfl H16.out.2.2.2.2.1 mr1).mono ?_
  rintro e v1 ⟨rfl, hb⟩
  have HV1 : Hid (ImAt v1 bo 1 1 (.slice xa 1 xcap) (.slice (some ⟨z.heap.size, 0, none⟩) 1 1) ∧ ImAt v1 bd 1 1 (.slice xa 1 xcap) (.slice (some ⟨bs, 0, none⟩) 2 2) ∧ SeR v1 (some ⟨bs, 0, none⟩) 2 mB ∧ Sw w v1 w1.heap.size mT mS3 1 1 L ∧ RdI v1 xa xcap mT (some ⟨gx, 0, none⟩) xcap2 mX ∧ SeR v1 (some ⟨z.heap.size, 0, none⟩) 1 mO) := ⟨H16.out.1.below hb, H16.out.2.1.below hb, ArK.below H16.out.2.2.1 hb, H16.out.2.2.2.1.below hb, H16.out.2.2.2.2.1.below hb, ArK.below H16.out.2.2.2.2.2 hb⟩
  clear hb i0 i1 i2 i3 a0 b0 c0 d0 f0 f1 k0 j0 j1 j2 j3 hfz H16
  obtain ⟨j0, j1, j2, j3⟩ := HV1.out.2.1.cells
  go_wp2_with fail
  refine (Right8_eq 1 1 xa xcap mT (some ⟨bs, 0, none⟩) 2 mB 1 2 _ rfl rfl ⟨HV1.out.2.2.2.2.1.ps, HV1.out.2.2.1⟩ mr2).mono ?_
  rintro e v2 ⟨rfl, hb⟩
  have HV2 : Hid (ImAt v2 bo 1 1 (.slice xa 1 xcap) (.slice (some ⟨z.heap.size, 0, none⟩) 1 1) ∧ Sw w v2 w1.heap.size mT mS3 1 1 L ∧ RdI v2 xa xcap mT (some ⟨gx, 0, none⟩) xcap2 mX ∧ SeR v2 (some ⟨z.heap.size, 0, none⟩) 1 mO) := ⟨HV1.out.1.below hb, HV1.out.2.2.2.1.below hb, HV1.out.2.2.2.2.1.below hb, ArK.below HV1.out.2.2.2.2.2 hb⟩
  clear hb j0 j1 j2 j3 HV1
  obtain ⟨j0, j1, j2, j3⟩ := HV2.out.1.cells
  go_wp2_with fail
  refine (Right8_eq 1 1 xa xcap mT (some ⟨z.heap.size, 0, none⟩) 1 mO 1 1 _ rfl rfl ⟨HV2.out.2.2.1.ps, HV2.out.2.2.2⟩ mr3).mono ?_
  rintro e v3 ⟨rfl, hb⟩
  have HV3 : Hid (Sw w v3 w1.heap.size mT mS3 1 1 L ∧ RdI v3 xa xcap mT (some ⟨gx, 0, none⟩) xcap2 mX) := ⟨HV2.out.2.1.below hb, HV2.out.2.2.1.below hb⟩
  clear hb j0 j1 j2 j3 HV2
  go_wp2_with fail
  refine (Right8_nil 1 0 _ false mr4).mono ?_
  rintro e v4 ⟨rfl, hb⟩
  have HV4 : Hid (Sw w v4 w1.heap.size mT mS3 1 1 L ∧ RdI v4 xa xcap mT (some ⟨gx, 0, none⟩) xcap2 mX) := ⟨HV3.out.1.below hb, HV3.out.2.below hb⟩
  clear hb HV3
  go_wp2_with fail
  refine (Right8_nil 6 1 _ false mr5).mono ?_
  rintro e v5 ⟨rfl, hb⟩
  have HV5 : Hid (Sw w v5 w1.heap.size mT mS3 1 1 L ∧ RdI v5 xa xcap mT (some ⟨gx, 0, none⟩) xcap2 mX) := ⟨HV4.out.1.below hb, HV4.out.2.below hb⟩
  clear hb HV4
  go_wp2_with fail
  refine (Right8_nil (-1) 1 _ false mr6).mono ?_
  rintro e v6 ⟨rfl, hb⟩
  have HV6 : Hid (Sw w v6 w1.heap.size mT mS3 1 1 L ∧ RdI v6 xa xcap mT (some ⟨gx, 0, none⟩) xcap2 mX) := ⟨HV5.out.1.below hb, HV5.out.2.below hb⟩
  clear hb HV5
  go_wp2_with fail
  refine (Right8_nil 0 1099511627777 _ false mr7).mono ?_
  rintro e v7 ⟨rfl, hb⟩
  have HV7 : Hid (Sw w v7 w1.heap.size mT mS3 1 1 L ∧ RdI v7 xa xcap mT (some ⟨gx, 0, none⟩) xcap2 mX) := ⟨HV6.out.1.below hb, HV6.out.2.below hb⟩
  clear hb HV6
  go_wp2_with fail
  refine (Right8_nil 0 1099511627776 _ true mr8).mono ?_
  rintro e v8 ⟨rfl, hb⟩
  have HV8 : Hid (Sw w v8 w1.heap.size mT mS3 1 1 L ∧ RdI v8 xa xcap mT (some ⟨gx, 0, none⟩) xcap2 mX) := ⟨HV7.out.1.below hb, HV7.out.2.below hb⟩
  clear hb HV7
  obtain ⟨i0, i1, i2, i3⟩ := (HV8.out.1.im HM.out.2.2.2.2.2.2.1).cells
  have hys : SeAt v8 wg.heap.size ⟨2, 5, 0, ⟨#[]⟩⟩ := (HV8.out.1.ls _ HM.out.2.2.2.2.2.2.2.1).1
  obtain ⟨y0, y1', y2, y3⟩ := hys.cells
  simp only at y0 y1' y2 y3
  obtain ⟨g', o', e', _, _, hrd⟩ := ArK.at HV8.out.2.xs (by decide)
  simp only [Option.some.injEq, Addr.mk.injEq] at e'
  obtain ⟨rfl, rfl, _⟩ := e'
  obtain ⟨a0, a1, a2, a3⟩ := hrd.se 0 (by decide)
  simp only [Nat.zero_add, Nat.zero_mul, mX, List.getElem_cons_zero] at a0 a1 a2 a3
  clear hrd hys
  go_wp2
  go_ret
  exact ⟨rfl, HV8.out.1.bel⟩
end Go.Proofs.Ytodgcfmacmfcpaa
