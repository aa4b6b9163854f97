/- Shards: a new one in its block; the law's put, known. -/
import Derived.Test.YtodgcfmacmfcpaaYE
import Derived.Test.YtodgcfmacmfcpaaYB
namespace Go.Proofs.Ytodgcfmacmfcpaa
open Go.RowKit

theorem store_newH {w w2 : World} {C : Array Value} {T : List Pr} {S : List Se} {id ep : Int} (hC : ShC C T S id ep) (h : w2 = (w.alloc zeroH).setRow w.heap.size C) : ShO w2 w.heap.size 0 T S id ep ∧ Below w.heap.size w w2 ∧ w.heap.size < w2.heap.size := by
  subst h
  refine ⟨hC.at (setRow_heap _ _ _ C _ _ (alloc_new w zeroH)), below_setRow (bel_al w _) (Nat.le_refl _) C, ?_⟩
  rw [size_setRow]
  show _ < (w.heap.push _).size
  simp
theorem ShC.rows {C : Array Value} {T : List Pr} {S : List Se} {id ep : Int} (h : ShC C T S id ep) : (Try.prog.info? 36).map (·.size) = some C.size ∧ Hid (35 = C.size) ∧ C.all (·.oneCell') = true := ⟨by rw [shard_info, h.size], h.size.symm, h.ones⟩
theorem put_any (c s : Int) (key v : ByteArray) (w : World) : Calls Try.prog 10 #[.int .i64 c, .int .i64 s, .string key, .string v] w fun e w' => e = .returned (.agg #[.int .i64 c, .int .i64 s, .int .i64 2, .string key, .string v, .string ⟨#[]⟩]) ∧ Below w.heap.size w w' := by
  go_enter Try.func10, Try.ntmps10
  go_wp2
  refine bodyPost_ret (by simp [results, Try.results10, go_sem]; try rfl) rfl ?_
  exact ⟨rfl, bel_al w _⟩
theorem ShOf_eq (ao : Option Addr) (n cap : Nat) (ps : List Pr) (bo : Option Addr) (m cap2 : Nat) (xs : List Se) (id ep : Int) (w : World) (hn : ps.length = n) (hR : PrR w ao cap ps) (hm : xs.length = m) (hS : SeR w bo cap2 xs) (T : List Pr) (S : List Se) (hT : putsS [] ps = T) (hS2 : notesS zeroS xs = S) :
    Calls Try.prog 8 #[.agg #[.int .i64 id, .int .i64 ep, .slice ao n cap, .slice bo m cap2]] w fun e w' => ∃ C : Array Value, e = .returned (.agg C) ∧ ShC C T S id ep ∧ Below w.heap.size w w' := by
  subst hT hS2; exact ShOf_any ao n cap ps bo m cap2 xs id ep w hn hR hm hS
theorem PrR.nil (w : World) : PrR w none 0 [] := ⟨Nat.le_refl _, Nat.zero_le _, fun h => by simp at h⟩
/-- .. of nothing -/
theorem ShOf_nil (id ep : Int) (w : World) :
    Calls Try.prog 8 #[.agg #[.int .i64 id, .int .i64 ep, .slice none 0 0, .slice none 0 0]] w fun e w' => ∃ C : Array Value, e = .returned (.agg C) ∧ ShC C [] zeroS id ep ∧ Below w.heap.size w w' :=
  ShOf_eq none 0 0 [] none 0 0 [] id ep w rfl (PrR.nil w) rfl (ArK.nil _ _ _) [] zeroS rfl rfl
def hkT : List Pr := [(⟨#[107]⟩, ⟨#[118]⟩)]
def hkS : List Se := [⟨0, 1, 0, ⟨#[]⟩⟩, Se.z, Se.z, Se.z]
theorem hk1 : askS [] zeroS 0 1 2 ⟨#[107]⟩ ⟨#[118]⟩ ⟨#[]⟩ = (hkT, hkS, 0, ⟨#[]⟩, true) := by kernel_rfl
theorem hk2 : askS hkT hkS 0 1 2 ⟨#[107]⟩ ⟨#[111, 116, 104, 101, 114]⟩ ⟨#[]⟩ = (hkT, hkS, 0, ⟨#[]⟩, false) := by kernel_rfl
set_option maxHeartbeats 4000000 in
theorem knownH_any (w : World) : Calls Try.prog 12 #[] w fun e w' => e = .returned (.bool true) ∧ Below w.heap.size w w' := by
  go_enter Try.func12, Try.ntmps12
  go_wp2_with fail
  refine (ShOf_nil 2 3 _).mono ?_
  rintro e w1 ⟨C, rfl, hC, hb1⟩
  obtain ⟨hi, h35, h1⟩ := hC.rows
  have hn1 := alloc_new w1 zeroH
  unfold zeroH at hn1
  have HC : Hid (ShC C [] zeroS 2 3 ∧ Below w.heap.size w w1) := ⟨hC, hb1⟩
  clear hC hb1
  have tokA : True := trivial
  go_wp2_with (have _t := tokA; refine wpList_store_row rfl 36 _ _ rfl w1.heap.size C rfl rfl 36 _ hn1 hi h35.out h1 ?_; obtain ⟨w2, hw2⟩ : ∃ w2, w2 = (w1.alloc zeroH).setRow w1.heap.size C := ⟨_, rfl⟩; have HN := store_newH HC.out.1 hw2; unfold zeroH at hw2; rw [← hw2]; clear hw2 hn1 tokA _t)
  have H2 : Hid (ShO w2 w1.heap.size 0 [] zeroS 2 3 ∧ Below w.heap.size w w2 ∧ w.heap.size ≤ w1.heap.size) := ⟨HN.1, bel_call HC.out.2 HN.2.1, HC.out.2.size⟩
  clear HN HC hi h35 h1
  refine (put_any _ _ _ _ _).mono ?_
  rintro e w3 ⟨rfl, hb⟩
  have H3 : Hid (ShO w3 w1.heap.size 0 [] zeroS 2 3 ∧ Below w.heap.size w w3) := ⟨H2.out.1.below hb, bel_call H2.out.2.1 hb⟩
  clear hb
  go_wp2_with fail
  refine (Ask_eq w1.heap.size 0 [] zeroS 2 3 _ _ _ _ _ _ _ H3.out.1 _ _ _ _ _ hk1).mono ?_
  rintro e w4 ⟨rfl, hSh, hP⟩
  have A4 : Hid (AnsAt (w4.alloc (.cells #[.int .i64 0, .string ⟨#[]⟩] 29)) w4.heap.size 0 ⟨#[]⟩) := alloc_new w4 _
  have H4 : Hid (ShO w4 w1.heap.size 0 hkT hkS 2 3 ∧ Below w.heap.size w w4) := ⟨hSh, H3.out.2.trans (hP.only.below (fun i e => by have := H2.out.2.2; omega) H3.out.2.size)⟩
  have hz4 : w1.heap.size < w4.heap.size := hSh.lt
  clear hSh hP H3
  go_wp2_with fail
  refine (put_any _ _ _ _ _).mono ?_
  rintro e w5 ⟨rfl, hb⟩
  have H5 : Hid (ShO w5 w1.heap.size 0 hkT hkS 2 3 ∧ Below w.heap.size w w5 ∧ AnsAt w5 w4.heap.size 0 ⟨#[]⟩) := ⟨(H4.out.1.below (bel_al w4 _)).below hb, bel_call (bel_call H4.out.2 (bel_al w4 _)) hb, A4.out.below hb⟩
  clear hb A4 H4
  go_wp2_with fail
  refine (Ask_eq w1.heap.size 0 hkT hkS 2 3 _ _ _ _ _ _ _ H5.out.1 _ _ _ _ _ hk2).mono ?_
  rintro e w6 ⟨rfl, hSh, hP⟩
  have H6 : Hid (ShO w6 w1.heap.size 0 hkT hkS 2 3 ∧ Below w.heap.size w w6 ∧ AnsAt w6 w4.heap.size 0 ⟨#[]⟩) := ⟨hSh, H5.out.2.1.trans (hP.only.below (fun i e => by have := H2.out.2.2; omega) H5.out.2.1.size), H5.out.2.2.only hP.only (by omega)⟩
  clear hSh hP H5
  obtain ⟨c0, c1⟩ := (H6.out.2.2.below (bel_al w6 (.cells #[.int .i64 0, .string ⟨#[]⟩] 29))).cells
  obtain ⟨d0, d1⟩ := (H6.out.1.below (bel_al w6 (.cells #[.int .i64 0, .string ⟨#[]⟩] 29))).nums
  obtain ⟨e0, e1⟩ := H6.out.2.2.cells
  obtain ⟨f0, f1⟩ := H6.out.1.nums
  simp only [Nat.zero_add] at d0 d1 f0 f1
  have hlt6 : w1.heap.size < w6.heap.size := H6.out.1.lt
  have hlt7 : w4.heap.size < w6.heap.size := (Array.getElem?_eq_some_iff.1 H6.out.2.2).1
  go_wp2_with first | (go_at_call 20; refine (Weight_o w1.heap.size 0 hkT hkS 2 3 _ (H6.out.1.below (bel_al w6 _)) 1 rfl).mono ?_; rintro e w' ⟨rfl, rfl⟩) | (go_at_call 34; refine (Len_o w1.heap.size 0 hkT _ (H6.out.1.below (bel_al w6 _)).1).mono ?_; rintro e w' ⟨rfl, rfl⟩)
  go_ret
  exact ⟨rfl, H6.out.2.1.trans ((bel_al w6 _).mono H6.out.2.1.size)⟩
end Go.Proofs.Ytodgcfmacmfcpaa
