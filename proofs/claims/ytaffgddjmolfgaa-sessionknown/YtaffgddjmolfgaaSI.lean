/- SessionKnown: the walk. -/
import Derived.Test.YtaffgddjmolfgaaSC
namespace Go.Proofs.Ytaffgddjmolfgaa
open Go.RowKit

theorem OfAll_eq (ao : Option Addr) (n cap : Nat) (xs : List Se) (w : World) (hn : xs.length = n) (hR : SeR w ao cap xs) (L : List Se) (hL : notesS zeroS xs = L) :
    Calls Try.prog 7 #[.slice ao n cap] w fun e w' => e = .returned (.agg (flt seK L).toArray) ∧ Below w.heap.size w w' := by
  subst hL; exact OfAll_any ao n cap xs w hn hR
def kL : List Se := [⟨0, 1, 0, ⟨#[]⟩⟩, Se.z, ⟨2, 9, 4, ⟨#[]⟩⟩, Se.z]
def kT : List Se := [⟨0, 1, 0, ⟨#[]⟩⟩, ⟨1, 1, 0, ⟨#[]⟩⟩, ⟨2, 9, 4, ⟨#[]⟩⟩, Se.z]
def kX : List Se := [⟨2, 5, 0, ⟨#[118]⟩⟩, ⟨0, 1, 0, ⟨#[]⟩⟩, ⟨2, 4, 0, ⟨#[]⟩⟩, ⟨2, 9, 4, ⟨#[]⟩⟩]
theorem sk0 : notesS zeroS kX = kL := by kernel_rfl
theorem sk1 : noteS kL ⟨1, 1, 0, ⟨#[]⟩⟩ = kT := by kernel_rfl
theorem sk1b : mayS kL ⟨1, 1, 0, ⟨#[]⟩⟩ = true := by kernel_rfl
theorem sk2 : noteS kL ⟨-1, 1, 0, ⟨#[]⟩⟩ = kL := by kernel_rfl
theorem sk2b : mayS kL ⟨-1, 1, 0, ⟨#[]⟩⟩ = false := by kernel_rfl
theorem sk3 : noteS kL ⟨4, 1, 0, ⟨#[]⟩⟩ = kL := by kernel_rfl
theorem sk3b : mayS kL ⟨4, 1, 0, ⟨#[]⟩⟩ = false := by kernel_rfl
theorem sk4 : noteS kL ⟨3, 0, 0, ⟨#[]⟩⟩ = kL := by kernel_rfl
theorem sk4b : mayS kL ⟨3, 0, 0, ⟨#[]⟩⟩ = false := by kernel_rfl
theorem sk5 : lastS kL 2 = ⟨2, 9, 4, ⟨#[]⟩⟩ := by kernel_rfl
theorem sk6 : lastS kL 1 = Se.z := by kernel_rfl
theorem sk7 : lastS kT 1 = ⟨1, 1, 0, ⟨#[]⟩⟩ := by kernel_rfl
theorem sk8 : lastS kL 0 = ⟨0, 1, 0, ⟨#[]⟩⟩ := by kernel_rfl
theorem sk9 : allS kL = [⟨0, 1, 0, ⟨#[]⟩⟩, ⟨2, 9, 4, ⟨#[]⟩⟩] := by kernel_rfl
theorem sk10 : allS kT = [⟨0, 1, 0, ⟨#[]⟩⟩, ⟨1, 1, 0, ⟨#[]⟩⟩, ⟨2, 9, 4, ⟨#[]⟩⟩] := by kernel_rfl
/-- two sessions, one beside the other, and blocks of which it is known what they hold -/
structure Tw (w0 w : World) (g1 g2 : Nat) (l1 l2 : List Se) (L : List (Nat × Obj)) : Prop where
  t1 : SesAt w g1 l1
  t2 : SesAt w g2 l2
  ne : g1 ≠ g2
  ls : ∀ p ∈ L, w.heap[p.1]? = some p.2 ∧ p.1 ≠ g1 ∧ p.1 ≠ g2
  bel : Below w0.heap.size w0 w
  b1 : w0.heap.size ≤ g1
  b2 : w0.heap.size ≤ g2
section
variable {w0 w w' : World} {g1 g2 : Nat} {l1 l2 l' : List Se} {L : List (Nat × Obj)}
theorem heap_lt {w : World} {g : Nat} {o : Obj} (h : w.heap[g]? = some o) : g < w.heap.size := (Array.getElem?_eq_some_iff.1 h).1
theorem Tw.below (h : Tw w0 w g1 g2 l1 l2 L) (hb : Below w.heap.size w w') : Tw w0 w' g1 g2 l1 l2 L :=
  ⟨h.t1.below hb, h.t2.below hb, h.ne, fun p hp => ⟨(hb.block p.1 (heap_lt (h.ls p hp).1)).trans (h.ls p hp).1, (h.ls p hp).2⟩, bel_call h.bel hb, h.b1, h.b2⟩
theorem Tw.do1 (h : Tw w0 w g1 g2 l1 l2 L) (hT : SesAt w' g1 l') (hO : Only (fun k => k = g1) w w') : Tw w0 w' g1 g2 l' l2 L :=
  ⟨hT, h.t2.heap (hO.block g2 h.t2.lt (fun e => h.ne e.symm)), h.ne, fun p hp => ⟨(hO.block p.1 (heap_lt (h.ls p hp).1) (h.ls p hp).2.1).trans (h.ls p hp).1, (h.ls p hp).2⟩, h.bel.trans (hO.below (fun i e => by have := h.b1; omega) h.bel.size), h.b1, h.b2⟩
theorem Tw.do2 (h : Tw w0 w g1 g2 l1 l2 L) (hT : SesAt w' g2 l') (hO : Only (fun k => k = g2) w w') : Tw w0 w' g1 g2 l1 l' L :=
  ⟨h.t1.heap (hO.block g1 h.t1.lt h.ne), hT, h.ne, fun p hp => ⟨(hO.block p.1 (heap_lt (h.ls p hp).1) (h.ls p hp).2.2).trans (h.ls p hp).1, (h.ls p hp).2⟩, h.bel.trans (hO.below (fun i e => by have := h.b2; omega) h.bel.size), h.b1, h.b2⟩
theorem Tw.al (h : Tw w0 w g1 g2 l1 l2 L) {b : Nat} (o : Obj) (hb : w.heap.size = b) : Tw w0 (w.alloc o) g1 g2 l1 l2 ((b, o) :: L) := by
  subst hb
  have h1 := h.below (bel_al w o)
  refine ⟨h1.t1, h1.t2, h1.ne, fun p hp => ?_, h1.bel, h1.b1, h1.b2⟩
  rcases List.mem_cons.1 hp with rfl | hp
  · exact ⟨alloc_new w o, by have := h.t1.lt; simp only; omega, by have := h.t2.lt; simp only; omega⟩
  · exact h1.ls p hp
theorem Tw.row (h : Tw w0 w g1 g2 l1 l2 L) {g : Nat} {o : Obj} (hg : w.heap[g]? = some o) (h1 : g ≠ g1) (h2 : g ≠ g2) : Tw w0 w g1 g2 l1 l2 ((g, o) :: L) := by
  refine ⟨h.t1, h.t2, h.ne, fun p hp => ?_, h.bel, h.b1, h.b2⟩
  rcases List.mem_cons.1 hp with rfl | hp
  · exact ⟨hg, h1, h2⟩
  · exact h.ls p hp
/-- a block of one's own is written, of which it is known what it holds -/
theorem Tw.wr {g : Nat} {o o' : Obj} (h : Tw w0 w g1 g2 l1 l2 ((g, o) :: L)) (hO : Only (fun k => k = g) w w') (hL : ∀ p ∈ L, p.1 ≠ g) (hB : w0.heap.size ≤ g) (ho : w'.heap[g]? = some o') : Tw w0 w' g1 g2 l1 l2 ((g, o') :: L) := by
  obtain ⟨_, n1, n2⟩ := h.ls (g, o) (List.mem_cons_self ..)
  refine ⟨h.t1.heap (hO.block g1 h.t1.lt (fun e => n1 e.symm)), h.t2.heap (hO.block g2 h.t2.lt (fun e => n2 e.symm)), h.ne, fun p hp => ?_, h.bel.trans (hO.below (fun i e => by omega) h.bel.size), h.b1, h.b2⟩
  rcases List.mem_cons.1 hp with rfl | hp
  · exact ⟨ho, n1, n2⟩
  · have := h.ls p (List.mem_cons_of_mem _ hp)
    exact ⟨(hO.block p.1 (heap_lt this.1) (hL p hp)).trans this.1, this.2⟩
theorem Tw.se (h : Tw w0 w g1 g2 l1 l2 L) {b : Nat} {x : Se} (hm : (b, .cells #[.int .i64 x.cl, .int .i64 x.sq, .int .i64 x.why, .string x.val] 26) ∈ L) : SeAt w b x := (h.ls _ hm).1
end
set_option maxRecDepth 20000 in
set_option maxHeartbeats 8000000 in
theorem SessionKnown_any (w : World) : Calls Try.prog 3 #[] w fun e w' => e = .returned (.bool true) ∧ Below w.heap.size w w' := by
  go_enter Try.func3, Try.ntmps3
  go_wp2_with fail
  refine (OfAll_eq _ _ _ kX _ rfl (ArK.lits (K := seK) w kX (by decide) _ trivial) kL sk0).mono ?_
  rintro e w1 ⟨rfl, hb⟩
  have hIL : SInv kL := by rw [← sk0]; exact SInv.zero.notes _
  obtain ⟨C, hC, hi, h16, h1, HT⟩ := rowsS hIL
  rw [hC]
  have hB1 : Below w.heap.size w w1 := bel_call (bel_al w _) hb
  have hn1 := alloc_new w1 zeroSO
  unfold zeroSO at hn1
  clear hC hb hIL
  have tokA : True := trivial
  go_wp2_with first
    | (have _t := tokA; refine wpList_store_row rfl 29 _ _ rfl w1.heap.size C rfl rfl 29 _ hn1 hi h16.out h1 ?_; obtain ⟨w2, hw2⟩ : ∃ w2, w2 = (w1.alloc zeroSO).setRow w1.heap.size C := ⟨_, rfl⟩; obtain ⟨hc2, hb2, hs2⟩ := store_newS hw2; unfold zeroSO at hw2; rw [← hw2]; clear hw2 hn1 tokA; have hn2 := alloc_new w2 zeroSO; unfold zeroSO at hn2)
    | (refine wpList_load_row rfl 29 _ rfl w1.heap.size rfl 29 C (0, 0) _ hc2 Try.underlying29 rfl hi ?_)
    | (refine wpList_store_row rfl 29 _ _ rfl w2.heap.size C rfl rfl 29 _ hn2 hi h16.out h1 ?_; obtain ⟨w3, hw3⟩ : ∃ w3, w3 = (w2.alloc zeroSO).setRow w2.heap.size C := ⟨_, rfl⟩; obtain ⟨hc3, hb3, hs3⟩ := store_newS hw3; unfold zeroSO at hw3; rw [← hw3]; clear hw3 hn2)
  have hT1 : SesAt w3 w1.heap.size kL := (HT _ _ hc2).below hb3
  have hT2 : SesAt w3 w2.heap.size kL := HT _ _ hc3
  have hB3 : Below w.heap.size w w3 := bel_call (bel_call hB1 hb2) hb3
  have hB12 := hB1.size
  have T3 : Hid (Tw w w3 w1.heap.size w2.heap.size kL kL []) := ⟨hT1, hT2, by omega, by simp, hB3, hB1.size, Nat.le_trans hB1.size hb2.size⟩
  clear hT1 hT2 hB3 HT hc2 hc3 hb2 hb3 hs2 hs3 hi h16 h1 hB1 hB12
  refine (Note_eq w2.heap.size kL _ _ _ _ _ T3.out.t2 kT true sk1 sk1b).mono ?_
  rintro e w4 ⟨rfl, hT, hO⟩
  have T4 : Hid (Tw w w4 w1.heap.size w2.heap.size kL kT []) := T3.out.do2 hT hO
  clear hT hO T3
  go_wp2_with fail
  refine (Note_eq w1.heap.size kL _ _ _ _ _ T4.out.t1 kL false sk2 sk2b).mono ?_
  rintro e w5 ⟨rfl, hT, hO⟩
  have T5 : Hid (Tw w w5 w1.heap.size w2.heap.size kL kT []) := T4.out.do1 hT hO
  clear hT hO T4
  go_wp2_with fail
  refine (Note_eq w1.heap.size kL _ _ _ _ _ T5.out.t1 kL false sk3 sk3b).mono ?_
  rintro e w6 ⟨rfl, hT, hO⟩
  have T6 : Hid (Tw w w6 w1.heap.size w2.heap.size kL kT []) := T5.out.do1 hT hO
  clear hT hO T5
  go_wp2_with fail
  refine (Note_eq w1.heap.size kL _ _ _ _ _ T6.out.t1 kL false sk4 sk4b).mono ?_
  rintro e w7 ⟨rfl, hT, hO⟩
  have T7 : Hid (Tw w w7 w1.heap.size w2.heap.size kL kT []) := T6.out.do1 hT hO
  clear hT hO T6
  go_wp2_with fail
  refine (Last_eq w1.heap.size kL _ _ T7.out.t1 sk5).mono ?_
  rintro e w8 ⟨rfl, hb⟩
  unfold seV
  simp only [show hasS ⟨2, 9, 4, ⟨#[]⟩⟩ = true from rfl]
  have T8 : Hid (Tw w (w8.alloc (.cells #[.int .i64 2, .int .i64 9, .int .i64 4, .string ⟨#[]⟩] 26)) w1.heap.size w2.heap.size kL kT [(w8.heap.size, .cells #[.int .i64 2, .int .i64 9, .int .i64 4, .string ⟨#[]⟩] 26)]) := (T7.out.below hb).al _ rfl
  clear hb T7
  go_wp2_with fail
  refine (Last_eq w1.heap.size kL _ _ T8.out.t1 sk6).mono ?_
  rintro e w9 ⟨rfl, hb⟩
  unfold seV
  simp only [Se.z, show hasS ⟨0, 0, 0, ⟨#[]⟩⟩ = false from rfl]
  have T9 := (T8.out.below hb).al (.cells #[.int .i64 0, .int .i64 0, .int .i64 0, .string ⟨#[]⟩] 26) rfl
  have T9 : Hid (Tw _ _ _ _ _ _ _) := T9
  have HW9 : Hid (w8.heap.size < w9.heap.size) := by have h := hb.size; rw [size_al] at h; exact h
  clear hb T8
  go_wp2_with fail
  refine (Last_eq w2.heap.size kT _ _ T9.out.t2 sk7).mono ?_
  rintro e w10 ⟨rfl, hb⟩
  unfold seV
  simp only [show hasS ⟨1, 1, 0, ⟨#[]⟩⟩ = true from rfl]
  have T10 := (T9.out.below hb).al (.cells #[.int .i64 1, .int .i64 1, .int .i64 0, .string ⟨#[]⟩] 26) rfl
  have T10 : Hid (Tw _ _ _ _ _ _ _) := T10
  have HW10 : Hid (w9.heap.size < w10.heap.size ∧ w.heap.size ≤ w10.heap.size) := ⟨by have h := hb.size; rw [size_al] at h; exact h, Nat.le_trans T9.out.bel.size hb.size⟩
  clear hb T9
  go_wp2_with fail
  refine (All_eq w1.heap.size kL _ T10.out.t1 _ 2 sk9 rfl).mono ?_
  rintro e w11 ⟨ao, cap, rfl, hown, hb⟩
  obtain ⟨gp, cur, rfl, hge, hgl, hgp, hsz, hcur⟩ := hown.row (by simp)
  have hgn : w10.heap.size < gp := by have := bel_al w10 (.cells #[.int .i64 1, .int .i64 1, .int .i64 0, .string ⟨#[]⟩] 26); have h2 : (w10.alloc (.cells #[.int .i64 1, .int .i64 1, .int .i64 0, .string ⟨#[]⟩] 26)).heap.size = w10.heap.size + 1 := size_al _ _; omega
  have hn1 : gp ≠ w1.heap.size := by have := T10.out.t1.lt; omega
  have hn2 : gp ≠ w2.heap.size := by have := T10.out.t2.lt; omega
  have T11 := (T10.out.below hb).row hgp hn1 hn2
  have T11 : Hid (Tw _ _ _ _ _ _ _) := T11
  have HCU : Hid (2 * 4 ≤ cur.size ∧ cur.toList.take (2 * 4) = flt seK [⟨0, 1, 0, ⟨#[]⟩⟩, ⟨2, 9, 4, ⟨#[]⟩⟩]) := ⟨hsz, hcur⟩
  have HGN : Hid (w10.heap.size < gp ∧ gp ≠ w1.heap.size ∧ gp ≠ w2.heap.size) := ⟨hgn, hn1, hn2⟩
  clear hb T10 hown hge hgl hgp hsz hcur hgn hn1 hn2
  go_wp2_with fail
  refine (knownS_any _).mono ?_
  rintro e w12 ⟨rfl, hb⟩
  have T12 : Hid (Tw _ _ _ _ _ _ _) := T11.out.below hb
  clear hb T11
  have hrow := (T12.out.ls _ (List.mem_cons_self ..)).1
  simp only at hrow
  have h8 : 1 < cur.size := by have := HCU.out.1; omega
  obtain ⟨⟨u, hu⟩, hfz, cur', hc', _⟩ := row_set hrow h8 (.int .i64 77)
  have c4 : w12.cell? ⟨gp, 4, none⟩ = some (.int .i64 2) := by
    rw [cell_of_row w12 _ _ _ _ (0, 0) hrow]
    have h4 : (cur.toList.take (2 * 4))[4]? = some (.int .i64 2) := by rw [HCU.out.2]; rfl
    rw [List.getElem?_take, if_pos (by omega)] at h4
    rw [← h4]; simp
  have c4' : (w12.setCell ⟨gp, 1, none⟩ (.int .i64 77)).cell? ⟨gp, 4, none⟩ = some (.int .i64 2) := (World.cell?_setCell_other _ _ _ _ (by simp)).trans c4
  have T13 := T12.out.wr (o' := .cells cur' 26) (only_set (Only.refl (fun k => k = gp) w12) 1 (.int .i64 77)) (by
    intro p hp
    have h1 := HGN.out.1
    have h2 := (T12.out.ls p (List.mem_cons_of_mem _ hp))
    rcases List.mem_cons.1 hp with rfl | hp
    · simp only; omega
    rcases List.mem_cons.1 hp with rfl | hp
    · have := HW10.out; simp only; omega
    rcases List.mem_cons.1 hp with rfl | hp
    · have := HW10.out; have := HW9.out; simp only; omega
    · simp at hp) (by have h1 := HGN.out.1; have := HW10.out; omega) hc'
  have T13 : Hid (Tw _ _ _ _ _ _ _) := T13
  obtain ⟨w13, e13⟩ : ∃ w13, w12.setCell ⟨gp, 1, none⟩ (.int .i64 77) = w13 := ⟨_, rfl⟩
  have C4 : Hid (w13.cell? ⟨gp, 4, none⟩ = some (.int .i64 2)) := by show _ = _; rw [← e13]; exact c4'
  clear hrow h8 hc' c4 c4' T12
  go_wp2_with fail
  rw [e13] at T13
  clear e13 hu hfz
  refine (Last_eq w1.heap.size kL _ _ T13.out.t1 sk8).mono ?_
  rintro e w14 ⟨rfl, hb⟩
  unfold seV
  simp only [show hasS ⟨0, 1, 0, ⟨#[]⟩⟩ = true from rfl]
  have e14 : (w14.heap[gp]? = w13.heap[gp]?) := hb.block gp (heap_lt (T13.out.ls _ (List.mem_cons_self ..)).1)
  have hlt14 : gp < w14.heap.size := Nat.lt_of_lt_of_le (heap_lt (T13.out.ls _ (List.mem_cons_self ..)).1) hb.size
  have T15 := (T13.out.below hb).al (.cells #[.int .i64 0, .int .i64 1, .int .i64 0, .string ⟨#[]⟩] 26) rfl
  have T15 : Hid (Tw _ _ _ _ _ _ _) := T15
  obtain ⟨w15, e15⟩ : ∃ w15, w14.alloc (.cells #[.int .i64 0, .int .i64 1, .int .i64 0, .string ⟨#[]⟩] 26) = w15 := ⟨_, rfl⟩
  have b15 : Below w14.heap.size w14 w15 := by rw [← e15]; exact bel_al _ _
  have c4 : w15.cell? ⟨gp, 4, none⟩ = some (.int .i64 2) := (World.cell?_of_block (w := w13) (a := ⟨gp, 4, none⟩) ((b15.block gp hlt14).trans e14)).trans C4.out
  rw [e15] at T15
  have s8 := (T15.out.se (b := w8.heap.size) (x := ⟨2, 9, 4, ⟨#[]⟩⟩) (by simp)).cells
  have s10 := (T15.out.se (b := w10.heap.size) (x := ⟨1, 1, 0, ⟨#[]⟩⟩) (by simp)).cells
  have s14 := (T15.out.se (b := w14.heap.size) (x := ⟨0, 1, 0, ⟨#[]⟩⟩) (by simp)).cells
  simp only at s8 s10 s14
  obtain ⟨_, a1, a2, _⟩ := s8
  obtain ⟨_, b1, _, _⟩ := s10
  obtain ⟨_, d1, _, _⟩ := s14
  clear hb T13 e14 hlt14 b15 C4 HCU HGN
  subst e15
  go_wp2_with fail
  refine (All_eq w2.heap.size kT _ T15.out.t2 _ 3 sk10 rfl).mono ?_
  rintro e w16 ⟨ao2, cap2, rfl, _, hb⟩
  have HB : Hid (Below w.heap.size w w16) := bel_call T15.out.bel hb
  clear hb T15
  go_wp2
  go_ret
  exact ⟨rfl, HB.out⟩
end Go.Proofs.Ytaffgddjmolfgaa
