/- ShardFull: the walk. -/
import Derived.Test.YtodgcfmacmfcpaaYG
namespace Go.Proofs.Ytodgcfmacmfcpaa
open Go.RowKit

theorem fK_eq (j : Nat) {x : UInt8} (h : (48 + j).toUInt8 = x) : (⟨#[102, 117, 108, 108]⟩ : ByteArray) ++ ⟨#[x]⟩ = fK j := by subst h; unfold fK; kernel_rfl
theorem Image_eq (g fo : Nat) (T : List Pr) (S : List Se) (id ep : Int) (w : World) (h : ShO w g fo T S id ep) (n m : Nat) (r : List Se) (hn : T.length = n) (hr : allS S = r) (hm : r.length = m) :
    Calls Try.prog 11 #[.pointer (some ⟨g, fo, none⟩)] w fun e w' => ∃ ao cap bo cap2, e = .returned (.agg #[.int .i64 id, .int .i64 ep, .slice ao n cap, .slice bo m cap2]) ∧ OwnI w.heap.size w' ao cap T bo cap2 r ∧ Below w.heap.size w w' := by
  subst hn hr hm; exact Image_o g fo T S id ep w h
/-- an element's cells, first in block g -/
def SeAtR (w : World) (g : Nat) (x : Se) : Prop := w.cell? ⟨g, 0, none⟩ = some (.int .i64 x.cl) ∧ w.cell? ⟨g, 1, none⟩ = some (.int .i64 x.sq) ∧ w.cell? ⟨g, 2, none⟩ = some (.int .i64 x.why) ∧ w.cell? ⟨g, 3, none⟩ = some (.string x.val)
/-- the first element of a list of one's own is written -/
theorem OwnK.put1 {B : Nat} {w : World} {ao : Option Addr} {cap : Nat} {x y : Se} (h : OwnK seK B w ao cap [x]) : ∃ g, ao = some ⟨g, 0, none⟩ ∧ B ≤ g ∧ g < w.heap.size ∧ SeAtR w g x ∧ (∀ o, w.frozen? ⟨g, o, none⟩ = false) ∧ SeR (wsets w g 0 (Se.cells y)) ao cap [y] := by
  obtain ⟨g, cur, rfl, h1, h2, h3, h4, h5⟩ := h.row (by simp)
  have hO : Ob w g 0 (flt seK [x]) := ⟨cur, _, h3, by simpa [flt_length] using h4, fun j u hj => by
    rw [← h5, List.getElem?_take] at hj
    split at hj
    · rw [Nat.zero_add]; simpa using hj
    · cases hj⟩
  refine ⟨g, rfl, h1, h2, ⟨hO.at 0 _ rfl, hO.at 1 _ rfl, hO.at 2 _ rfl, hO.at 3 _ rfl⟩, hO.free, ?_⟩
  have hE := hO.elem 0 (by simp) y
  obtain ⟨c1, c2, _⟩ := h.caps
  exact ⟨c1, c2, fun e => by simp at e, fun _ => ⟨g, 0, rfl, hE.lt, trivial, hE.rd⟩⟩
theorem str_one (wr : World) (x : UInt8) (n : Int) (h : (x.toNat : Int) = n) : (convert 71 9 (.slice (some ⟨wr.heap.size, 0, none⟩) 1 1)).run Try.prog (wr.alloc (.cells #[.int .u8 n] 5)) = .ok (.string ⟨#[x]⟩) (wr.alloc (.cells #[.int .u8 n] 5)) := by
  subst h
  have hR : Rd (wr.alloc (.cells #[.int .u8 (x.toNat : Int)] 5)).heap.size (wr.alloc (.cells #[.int .u8 (x.toNat : Int)] 5)) (some ⟨wr.heap.size, 0, none⟩) 1 1 (Bs [x]) := by
    have := Rd.long wr [x] 1 rfl (by omega)
    exact this
  exact run_str _ _ _ _ _ hR
set_option maxRecDepth 20000 in
set_option maxHeartbeats 8000000 in
theorem ShardFull_any (key value client : Int) (w : World) : Calls Try.prog 7 #[.int .i64 key, .int .i64 value, .int .i64 client] w fun e w' => e = .returned (.bool true) ∧ Below w.heap.size w w' := by
  obtain ⟨c, hc4, hc⟩ : ∃ c : Nat, c < 4 ∧ pick client 4 = (c : Int) := ⟨(pick client 4).toNat, by have := pick_lo client 4 (by omega); have := pick_hi client 4 (by omega); omega, by have := pick_lo client 4 (by omega); omega⟩
  go_enter Try.func7, Try.ntmps7
  go_wp2_with fail
  refine (ShOf_nil 1 1 _).mono ?_
  rintro e w1 ⟨C, rfl, hC, hb1⟩
  obtain ⟨hi, h35, h1⟩ := hC.rows
  have hn1 := alloc_new w1 zeroH
  unfold zeroH at hn1
  have HC : Hid (ShC C [] zeroS 1 1 ∧ Below w.heap.size w w1) := ⟨hC, hb1⟩
  clear hC hb1
  have tokA : True := trivial
  go_wp2_with (first | (have _t := tokA; refine wpList_store_row rfl 36 _ _ rfl w1.heap.size C rfl rfl 36 _ hn1 hi h35.out h1 ?_; obtain ⟨w2, hw2⟩ : ∃ w2, w2 = (w1.alloc zeroH).setRow w1.heap.size C := ⟨_, rfl⟩; have HN := store_newH HC.out.1 hw2; unfold zeroH at hw2; rw [← hw2]; clear hw2 hn1 tokA _t) | (go_at_call 24; refine (Pick_eq _ _ _ (by omega) (by omega) hc).mono ?_; rintro e w' ⟨rfl, rfl⟩))
  have H2 : Hid (Sw w w' w1.heap.size [] zeroS 1 1 []) := ⟨HN.1, by simp, bel_call HC.out.2 HN.2.1, HC.out.2.size⟩
  clear HN HC hi h35 h1
  go_loopw [9] (fun i wr => ∃ j : Nat, j ≤ 8 ∧ i = .int .i64 j ∧ Sw w wr w1.heap.size (fT j) (fS c j 0) 1 1 []) (fun i _ => 8 - (intOf i).toNat)
  case atStart => exact ⟨0, by omega, rfl, H2.out⟩
  case round =>
    obtain ⟨j, hj, rfl, hS⟩ := hrel
    by_cases hlt : j < 8
    · have HS : Hid (Sw w wr w1.heap.size (fT j) (fS c j 0) 1 1 []) := hS
      have hst := str_one wr (48 + j).toUInt8 (48 + (j : Int)) (by
        have h8 : j = 0 ∨ j = 1 ∨ j = 2 ∨ j = 3 ∨ j = 4 ∨ j = 5 ∨ j = 6 ∨ j = 7 := by omega
        rcases h8 with rfl | rfl | rfl | rfl | rfl | rfl | rfl | rfl <;> rfl)
      have HF := full_step c j hc4 hlt
      obtain ⟨x, hx⟩ : ∃ x, (48 + j).toUInt8 = x := ⟨_, rfl⟩
      have hK := fK_eq j hx
      rw [hx] at hst
      obtain ⟨fk, hfk⟩ : ∃ fk, fK j = fk := ⟨_, rfl⟩
      rw [hfk] at hK HF
      have HF : Hid (_ = _) := HF
      have hj8 : (j : Int) < 8 := by omega
      have HK : Hid (_ = _) := hK
      clear hS hj hx hfk hK
      go_wp2_with fail
      rw [HK.out]
      refine (put_any _ _ _ _ _).mono ?_
      rintro e w3 ⟨rfl, hb⟩
      have H3 : Hid (Sw w w3 w1.heap.size (fT j) (fS c j 0) 1 1 []) := (HS.out.below (bel_al wr _)).below hb
      clear hst hb HS
      go_wp2_with fail
      refine (Ask_eq w1.heap.size 0 (fT j) (fS c j 0) 1 1 _ _ _ _ _ _ _ H3.out.sh _ _ _ _ _ HF.out).mono ?_
      rintro e w4 ⟨rfl, hSh, hP⟩
      have H4 : Hid (Sw w w4 w1.heap.size (fT (j + 1)) (fS c (j + 1) 0) 1 1 []) := H3.out.turn hSh hP
      clear hSh hP H3
      go_wp2
      go_roundw
      case rel => exact ⟨j + 1, by omega, by go_num, by rw [show ((j + 1 : Nat) : Int) = (j : Int) + 1 by omega]; exact H4.out.below (bel_al w4 _)⟩
      case measure => simp [intOf]; omega
    · have hj8 : j = 8 := by omega
      subst hj8
      have HS : Hid (Sw w wr w1.heap.size (fT 8) (fS c 8 0) 1 1 []) := hS
      clear hS hj hlt
      go_wp2_with fail
      refine (Image_eq w1.heap.size 0 (fT 8) (fS c 8 0) 1 1 _ HS.out.sh 8 1 _ (by kernel_rfl) (full_all c 8 0 hc4 (by omega)) rfl).mono ?_
      rintro e w4 ⟨ao, cap, bo, cap2, rfl, hO, hb⟩
      have S4 := (HS.out.below hb).al (.cells #[.int .i64 1, .int .i64 1, .slice ao 8 cap, .slice bo 1 cap2] 41) rfl
      have hgr : w1.heap.size < wr.heap.size := HS.out.sh.lt
      have H4 : Hid (Sw _ _ _ _ _ _ _ _) := S4
      have O4 : Hid (OwnI wr.heap.size w4 ao cap (fT 8) bo cap2 [⟨c, 8, 0, ⟨#[]⟩⟩]) := hO
      have L4 : Hid (w1.heap.size < wr.heap.size ∧ wr.heap.size ≤ w4.heap.size) := ⟨hgr, hb.size⟩
      clear S4 hO hb HS hgr
      have HA := full_ask c key value hc4
      have HA : Hid (_ = _) := HA
      go_wp2_with first | (go_at_call 25; refine (Key_any _ _).mono ?_; rintro e w' ⟨rfl, rfl⟩) | (go_at_call 26; refine (Value_any _ _).mono ?_; rintro e w' ⟨rfl, rfl⟩)
      refine (put_any _ _ _ _ _).mono ?_
      rintro e w5 ⟨rfl, hb⟩
      have H5 : Hid (Sw _ _ _ _ _ _ _ _) := H4.out.below hb
      have O5 : Hid (OwnI wr.heap.size w5 ao cap (fT 8) bo cap2 [⟨c, 8, 0, ⟨#[]⟩⟩]) := O4.out.below (bel_call (bel_al w4 _) hb)
      have L5 : Hid (w4.heap.size < w5.heap.size) := by have h := hb.size; rw [size_al] at h; exact h
      clear hb H4 O4
      go_wp2_with fail
      refine (Ask_eq w1.heap.size 0 (fT 8) (fS c 8 0) 1 1 _ _ _ _ _ _ _ H5.out.sh _ _ _ _ _ HA.out).mono ?_
      rintro e w6 ⟨rfl, hSh, hP⟩
      have H6 := (H5.out.turn hSh hP).al (.cells #[.int .i64 5, .string ⟨#[]⟩] 29) rfl
      have H6 : Hid (Sw _ _ _ _ _ _ _ _) := H6
      have O6 : Hid (OwnI wr.heap.size w6 ao cap (fT 8) bo cap2 [⟨c, 8, 0, ⟨#[]⟩⟩]) := O5.out.only hP.only (fun i h1 _ e => by have := L4.out; omega)
      have L6 : Hid (w5.heap.size ≤ w6.heap.size) := hP.only.size
      have U6 : Hid (∀ a, (ao = some a → a.block < w6.heap.size) ∧ (bo = some a → a.block < w6.heap.size)) := fun a => ⟨fun e => (O6.out.ps.under a e).2, fun e => (O6.out.xs.under a e).2⟩
      clear hSh hP H5 O5 HA
      go_wp2_with fail
      refine (Image_eq w1.heap.size 0 (fT 8) (fS c 50 5) 1 1 _ H6.out.sh 8 1 _ (by kernel_rfl) (full_all c 50 5 hc4 (by omega)) rfl).mono ?_
      rintro e w7 ⟨ao2, cp, bo2, cp2, rfl, hO, hb⟩
      have S7 := (H6.out.below hb).al (.cells #[.int .i64 1, .int .i64 1, .slice ao2 8 cp, .slice bo2 1 cp2] 41) rfl
      have S7 : Hid (Sw _ _ _ _ _ _ _ _) := S7
      have O7 : Hid (OwnI wr.heap.size w7 ao cap (fT 8) bo cap2 [⟨c, 8, 0, ⟨#[]⟩⟩]) := O6.out.below (bel_call (bel_al w6 _) hb)
      have L7 : Hid (w6.heap.size < w7.heap.size) := by have h := hb.size; rw [size_al] at h; exact h
      have P7 : Hid (OwnI (w6.heap.size + 1) w7 ao2 cp (fT 8) bo2 cp2 [⟨c, 50, 5, ⟨#[]⟩⟩]) := by have h := hO; rw [size_al] at h; exact h
      have V7 : Hid (∀ a, bo2 = some a → a.block < w7.heap.size) := fun a e => (P7.out.xs.under a e).2
      clear hO hb H6 O6
      obtain ⟨T9, hT9, hM⟩ := full_more c hc4
      have HM : Hid (_ = _) := hM
      have HT9 : Hid (T9.length = 8) := hT9
      clear hT9 hM
      go_wp2_with fail
      refine (put_any _ _ _ _ _).mono ?_
      rintro e w8 ⟨rfl, hb⟩
      have H8 : Hid (Sw _ _ _ _ _ _ _ _) := S7.out.below hb
      have O8 : Hid (OwnI wr.heap.size w8 ao cap (fT 8) bo cap2 [⟨c, 8, 0, ⟨#[]⟩⟩]) := O7.out.below (bel_call (bel_al w7 _) hb)
      have P8 : Hid (OwnI (w6.heap.size + 1) w8 ao2 cp (fT 8) bo2 cp2 [⟨c, 50, 5, ⟨#[]⟩⟩]) := P7.out.below (bel_call (bel_al w7 _) hb)
      have L8 : Hid (w7.heap.size < w8.heap.size) := by have h := hb.size; rw [size_al] at h; exact h
      clear hb S7 O7 P7
      go_wp2_with fail
      refine (Ask_eq w1.heap.size 0 (fT 8) (fS c 50 5) 1 1 _ _ _ _ _ _ _ H8.out.sh _ _ _ _ _ HM.out).mono ?_
      rintro e w9 ⟨rfl, hSh, hP⟩
      have H9 := (H8.out.turn hSh hP).al (.cells #[.int .i64 0, .string ⟨#[]⟩] 29) rfl
      have H9 : Hid (Sw _ _ _ _ _ _ _ _) := H9
      have O9 : Hid (OwnI wr.heap.size w9 ao cap (fT 8) bo cap2 [⟨c, 8, 0, ⟨#[]⟩⟩]) := O8.out.only hP.only (fun i h1 _ e => by have := L4.out; omega)
      have P9 : Hid (OwnI (w6.heap.size + 1) w9 ao2 cp (fT 8) bo2 cp2 [⟨c, 50, 5, ⟨#[]⟩⟩]) := P8.out.only hP.only (fun i h1 _ e => by have := L4.out; have := L5.out; have := L6.out; omega)
      have L9 : Hid (w8.heap.size ≤ w9.heap.size) := hP.only.size
      clear hSh hP H8 O8 P8 HM
      go_wp2_with fail
      refine (knownH_any _).mono ?_
      rintro e wa ⟨rfl, hb⟩
      have HA : Hid (Sw _ _ _ _ _ _ _ _) := H9.out.below hb
      have OA : Hid (OwnI wr.heap.size wa ao cap (fT 8) bo cap2 [⟨c, 8, 0, ⟨#[]⟩⟩]) := O9.out.below (bel_call (bel_al w9 _) hb)
      have PA : Hid (OwnI (w6.heap.size + 1) wa ao2 cp (fT 8) bo2 cp2 [⟨c, 50, 5, ⟨#[]⟩⟩]) := P9.out.below (bel_call (bel_al w9 _) hb)
      clear hb H9 O9 P9
      obtain ⟨i0, i1, i2, i3⟩ := (HA.out.im (b := w4.heap.size) (i := 1) (e := 1) (ps := .slice ao 8 cap) (xs := .slice bo 1 cap2) (by simp)).cells
      obtain ⟨j0, j1, j2, j3⟩ := (HA.out.im (b := w7.heap.size) (i := 1) (e := 1) (ps := .slice ao2 8 cp) (xs := .slice bo2 1 cp2) (by simp)).cells
      obtain ⟨gb, rfl, hb1, hb2, ⟨x0, x1, x2, x3⟩, _, _⟩ := OA.out.xs.put1 (y := Se.z)
      obtain ⟨gn, rfl, hn1, hn2, ⟨y0, y1, y2, y3⟩, hfz, hR⟩ := PA.out.xs.put1 (y := ⟨c, 8, 0, ⟨#[]⟩⟩)
      simp only at x0 x1 x2 x3 y0 y1 y2 y3
      have hbn : gb < gn := by have := (U6.out ⟨gb, 0, none⟩).2 rfl; simp only at this; omega
      have hnv : gn < w7.heap.size := by have := V7.out ⟨gn, 0, none⟩ rfl; simpa using this
      have l4 := L4.out
      have l5 := L5.out
      have l6 := L6.out
      have l7 := L7.out
      have l8 := L8.out
      have l9 := L9.out
      have hbel0 : w.heap.size ≤ w1.heap.size := HA.out.b1
      have hOw := wsets_only gn (Se.cells ⟨c, 8, 0, ⟨#[]⟩⟩) wa 0
      have HB : Hid (Sw w (wsets wa gn 0 (Se.cells ⟨c, 8, 0, ⟨#[]⟩⟩)) w1.heap.size T9 (fS c 51 0) 1 1 _) := HA.out.wr hOw (by omega) (by omega) (by
        intro p hp
        simp only [List.mem_cons, List.not_mem_nil, or_false] at hp
        rcases hp with rfl | rfl | rfl | rfl <;> simp only <;> omega)
      have HR1 : Hid (RdI (wsets wa gn 0 (Se.cells ⟨c, 8, 0, ⟨#[]⟩⟩)) ao cap (fT 8) (some ⟨gb, 0, none⟩) cap2 [⟨c, 8, 0, ⟨#[]⟩⟩]) :=
        ⟨(OA.out.ps.apart hOw (fun g e => by have := (U6.out ⟨g, 0, none⟩).1 e; simp only at this; omega)).rd, (OA.out.xs.apart hOw (fun g e => by simp only [Option.some.injEq, Addr.mk.injEq] at e; omega)).arK.mono fun _ _ _ => trivial⟩
      have HR2 : Hid (RdI (wsets wa gn 0 (Se.cells ⟨c, 8, 0, ⟨#[]⟩⟩)) ao2 cp (fT 8) (some ⟨gn, 0, none⟩) cp2 [⟨c, 8, 0, ⟨#[]⟩⟩]) :=
        ⟨(PA.out.ps.apart hOw (fun g e => fun hx => PA.out.ne ⟨g, 0, none⟩ ⟨gn, 0, none⟩ e rfl hx)).rd, hR⟩
      obtain ⟨wb, hwb⟩ : ∃ wb, wsets wa gn 0 (Se.cells ⟨c, 8, 0, ⟨#[]⟩⟩) = wb := ⟨_, rfl⟩
      rw [hwb] at HB HR1 HR2
      have HWB : Hid ((((wa.setCell ⟨gn, 0, none⟩ (.int .i64 c)).setCell ⟨gn, 1, none⟩ (.int .i64 8)).setCell ⟨gn, 2, none⟩ (.int .i64 0)).setCell ⟨gn, 3, none⟩ (.string ⟨#[]⟩) = wb) := hwb
      clear hwb hOw hR l4 l5 l6 l7 l8 l9
      go_wp2_with fail
      go_region
      all_goals
        rw [HWB.out]
        clear i0 i1 i2 i3 j0 j1 j2 j3 x0 x1 x2 x3 y0 y1 y2 y3 hfz hb1 hb2 hn1 hn2 hbn hnv hbel0
        obtain ⟨i0, i1, i2, i3⟩ := ((HB.out.below (Below.refl _ _).drew).im (b := w4.heap.size) (i := 1) (e := 1) (ps := .slice ao 8 cap) (xs := .slice (some ⟨gb, 0, none⟩) 1 cap2) (by simp)).cells
        obtain ⟨j0, j1, j2, j3⟩ := ((HB.out.below (Below.refl _ _).drew).im (b := w7.heap.size) (i := 1) (e := 1) (ps := .slice ao2 8 cp) (xs := .slice (some ⟨gn, 0, none⟩) 1 cp2) (by simp)).cells
        obtain ⟨a0, a1⟩ := ((HB.out.below (Below.refl _ _).drew).an (b := w6.heap.size) (a := 5) (y := ⟨#[]⟩) (by simp)).cells
        obtain ⟨b0, b1⟩ := ((HB.out.below (Below.refl _ _).drew).an (b := w9.heap.size) (a := 0) (y := ⟨#[]⟩) (by simp)).cells
        go_wp2_with fail
        refine (SameI_any 1 1 ao2 cp (some ⟨gn, 0, none⟩) cp2 ao cap (some ⟨gb, 0, none⟩) cap2 8 1 (fT 8) [⟨c, 8, 0, ⟨#[]⟩⟩] _ (by kernel_rfl) rfl (HR2.out.below (Below.refl _ _).drew) (HR1.out.below (Below.refl _ _).drew)).mono ?_
        rintro e wc ⟨rfl, hb⟩
        have HC : Hid (Sw w wc w1.heap.size T9 (fS c 51 0) 1 1 _) := (HB.out.below (Below.refl _ _).drew).below hb
        clear b0 b1
        obtain ⟨b0, b1⟩ := (HC.out.an (b := w9.heap.size) (a := 0) (y := ⟨#[]⟩) (by simp)).cells
        clear i0 i1 i2 i3 j0 j1 j2 j3 a0 a1 hb
        go_wp2_with (go_at_call 20; refine (Weight_o w1.heap.size 0 T9 _ 1 1 _ HC.out.sh 8 HT9.out).mono ?_; rintro e w' ⟨rfl, rfl⟩)
        go_ret
        exact ⟨rfl, HC.out.bel⟩
end Go.Proofs.Ytodgcfmacmfcpaa
