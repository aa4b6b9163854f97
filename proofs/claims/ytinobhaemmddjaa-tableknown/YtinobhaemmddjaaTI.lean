/- TableKnown: the walk. -/
import Derived.Test.YtinobhaemmddjaaTH
namespace Go.Proofs.Ytinobhaemmddjaa
open Go.RowKit

def ansO (a : Int) (y : ByteArray) : Obj := .cells #[.int .i64 a, .string y] 30
/-- two tables, and other blocks that stay as they are -/
structure St (B : Nat) (w0 w : World) (g1 g2 : Nat) (l1 l2 : List Pr) (L : List (Nat × Obj)) : Prop where
  t1 : TabAt w g1 l1
  t2 : TabAt w g2 l2
  ne : g1 ≠ g2
  ls : ∀ x ∈ L, w.heap[x.1]? = some x.2 ∧ x.1 ≠ g1 ∧ x.1 ≠ g2
  bel : Below B w0 w
  b1 : B ≤ g1
  b2 : B ≤ g2
  hB : B ≤ w.heap.size
section
variable {B : Nat} {w0 w w' : World} {g1 g2 : Nat} {l1 l2 l' : List Pr} {L : List (Nat × Obj)}
theorem St.do1 (h : St B w0 w g1 g2 l1 l2 L) (t : TabAt w' g1 l') (o : Only (fun k => k = g1) w w') : St B w0 w' g1 g2 l' l2 L where
  t1 := t
  t2 := h.t2.heap (o.block g2 h.t2.lt fun e => h.ne e.symm)
  ne := h.ne
  ls := fun x hx => by obtain ⟨a, b, c⟩ := h.ls x hx; exact ⟨(o.block x.1 (Array.getElem?_eq_some_iff.1 a).1 b).trans a, b, c⟩
  bel := h.bel.trans (o.below (fun i e => by have := h.b1; omega) h.hB)
  b1 := h.b1
  b2 := h.b2
  hB := Nat.le_trans h.hB o.size
theorem St.do2 (h : St B w0 w g1 g2 l1 l2 L) (t : TabAt w' g2 l') (o : Only (fun k => k = g2) w w') : St B w0 w' g1 g2 l1 l' L where
  t1 := h.t1.heap (o.block g1 h.t1.lt fun e => h.ne e)
  t2 := t
  ne := h.ne
  ls := fun x hx => by obtain ⟨a, b, c⟩ := h.ls x hx; exact ⟨(o.block x.1 (Array.getElem?_eq_some_iff.1 a).1 c).trans a, b, c⟩
  bel := h.bel.trans (o.below (fun i e => by have := h.b2; omega) h.hB)
  b1 := h.b1
  b2 := h.b2
  hB := Nat.le_trans h.hB o.size
theorem St.below (h : St B w0 w g1 g2 l1 l2 L) (o : Below w.heap.size w w') : St B w0 w' g1 g2 l1 l2 L where
  t1 := h.t1.below o
  t2 := h.t2.below o
  ne := h.ne
  ls := fun x hx => by obtain ⟨a, b, c⟩ := h.ls x hx; exact ⟨(o.block x.1 (Array.getElem?_eq_some_iff.1 a).1).trans a, b, c⟩
  bel := h.bel.trans (o.mono h.hB)
  b1 := h.b1
  b2 := h.b2
  hB := Nat.le_trans h.hB o.size
theorem St.add (h : St B w0 w g1 g2 l1 l2 L) {g : Nat} {o : Obj} (hg : w.heap[g]? = some o) (n1 : g ≠ g1) (n2 : g ≠ g2) : St B w0 w g1 g2 l1 l2 ((g, o) :: L) :=
  { h with ls := fun x hx => by rcases List.mem_cons.1 hx with rfl | hx; exact ⟨hg, n1, n2⟩; exact h.ls x hx }
theorem St.al (h : St B w0 w g1 g2 l1 l2 L) (o : Obj) : St B w0 (w.alloc o) g1 g2 l1 l2 ((w.heap.size, o) :: L) :=
  (h.below (bel_al w o)).add (alloc_new w o) (by have := h.t1.lt; omega) (by have := h.t2.lt; omega)
end
theorem tk0 : putsS [] [(⟨#[98]⟩, ⟨#[49]⟩), (⟨#[]⟩, ⟨#[50]⟩), (⟨#[97]⟩, ⟨#[]⟩), (⟨#[98]⟩, ⟨#[51]⟩)] = [(⟨#[97]⟩, ⟨#[]⟩), (⟨#[98]⟩, ⟨#[51]⟩)] := by kernel_rfl
theorem tk1 : doS [(⟨#[97]⟩, ⟨#[]⟩), (⟨#[98]⟩, ⟨#[51]⟩)] 3 ⟨#[98]⟩ ⟨#[]⟩ ⟨#[]⟩ = ([(⟨#[97]⟩, ⟨#[]⟩)], 0, ⟨#[]⟩) := by kernel_rfl
theorem tk2 : doS [(⟨#[97]⟩, ⟨#[]⟩), (⟨#[98]⟩, ⟨#[51]⟩)] 1 ⟨#[98]⟩ ⟨#[]⟩ ⟨#[]⟩ = ([(⟨#[97]⟩, ⟨#[]⟩), (⟨#[98]⟩, ⟨#[51]⟩)], 0, ⟨#[51]⟩) := by kernel_rfl
theorem tk3 : doS [(⟨#[97]⟩, ⟨#[]⟩)] 1 ⟨#[98]⟩ ⟨#[]⟩ ⟨#[]⟩ = ([(⟨#[97]⟩, ⟨#[]⟩)], 4, ⟨#[]⟩) := by kernel_rfl
theorem tk4 : doS [(⟨#[97]⟩, ⟨#[]⟩), (⟨#[98]⟩, ⟨#[51]⟩)] 3 ⟨#[113]⟩ ⟨#[]⟩ ⟨#[]⟩ = ([(⟨#[97]⟩, ⟨#[]⟩), (⟨#[98]⟩, ⟨#[51]⟩)], 4, ⟨#[]⟩) := by kernel_rfl
theorem tk5 : doS [(⟨#[97]⟩, ⟨#[]⟩), (⟨#[98]⟩, ⟨#[51]⟩)] 4 ⟨#[113]⟩ ⟨#[]⟩ ⟨#[]⟩ = ([(⟨#[97]⟩, ⟨#[]⟩), (⟨#[98]⟩, ⟨#[51]⟩)], 4, ⟨#[]⟩) := by kernel_rfl
theorem tk6 : doS [(⟨#[97]⟩, ⟨#[]⟩), (⟨#[98]⟩, ⟨#[51]⟩)] 4 ⟨#[97]⟩ ⟨#[120]⟩ ⟨#[]⟩ = ([(⟨#[97]⟩, ⟨#[120]⟩), (⟨#[98]⟩, ⟨#[51]⟩)], 0, ⟨#[]⟩) := by kernel_rfl
theorem str_one (w : World) (j : Nat) (h : j < 8) : (convert 37 9 (.slice (some ⟨w.heap.size, 0, none⟩) 1 1)).run Try.prog (w.alloc (.cells #[.int .u8 (48 + (j : Int))] 5)) = .ok (.string (str [UInt8.ofNat (48 + j)])) (w.alloc (.cells #[.int .u8 (48 + (j : Int))] 5)) := by
  have e : (#[.int .u8 (48 + (j : Int))] : Array Value) = (Bs [UInt8.ofNat (48 + j)]).toArray := by
    have : (UInt8.ofNat (48 + j)).toNat = 48 + j := by simp; omega
    simp only [Bs, List.map_cons, List.map_nil, this]
    simp
  rw [e]
  exact run_str _ _ _ _ _ (Rd.lit w [UInt8.ofNat (48 + j)] (0, 0) w.heap.size rfl (by simp))
/-- the i-th key of the loop, and the pairs behind so many rounds -/
def keyK (i : Nat) : ByteArray := ⟨#[107]⟩ ++ str [48 + UInt8.ofNat i]
def klS : Nat → List Pr
  | 0 => [(⟨#[97]⟩, ⟨#[120]⟩), (⟨#[98]⟩, ⟨#[51]⟩)]
  | i + 1 => (doS (klS i) 2 (keyK i) ⟨#[]⟩ ⟨#[]⟩).1
def klA : List Pr := (doS (klS 8) 2 ⟨#[97]⟩ ⟨#[121]⟩ ⟨#[]⟩).1
theorem tk7 : doS (klS 8) 2 ⟨#[110, 101, 119]⟩ ⟨#[]⟩ ⟨#[]⟩ = (klS 8, 5, ⟨#[]⟩) := by kernel_rfl
theorem tk8 : doS (klS 8) 2 ⟨#[97]⟩ ⟨#[121]⟩ ⟨#[]⟩ = (klA, 0, ⟨#[]⟩) := by kernel_rfl
theorem tk9 : doS klA 1 ⟨#[97]⟩ ⟨#[121]⟩ ⟨#[]⟩ = (klA, 1, ⟨#[]⟩) := by kernel_rfl
theorem tkl : klA.length = 8 := by kernel_rfl
theorem tr1 : rightS 2 ⟨#[97]⟩ ⟨#[]⟩ ⟨#[120]⟩ = false := by kernel_rfl
theorem tr2 : rightS 5 ⟨#[97]⟩ ⟨#[]⟩ ⟨#[]⟩ = false := by kernel_rfl
theorem tr3 : rightS 1 ⟨#[110, 105, 110, 101, 98, 121, 116, 101, 115]⟩ ⟨#[]⟩ ⟨#[]⟩ = false := by kernel_rfl
theorem tr4 : rightS 2 ⟨#[97]⟩ ⟨#[115, 101, 118, 101, 110, 116, 101, 101, 110, 32, 98, 121, 116, 101, 115, 32, 105]⟩ ⟨#[]⟩ = false := by kernel_rfl
theorem tr5 : rightS 1 ⟨#[]⟩ ⟨#[]⟩ ⟨#[]⟩ = false := by kernel_rfl
theorem tr6 : rightS 0 ⟨#[97]⟩ ⟨#[]⟩ ⟨#[]⟩ = false := by kernel_rfl
theorem tr7 : rightS 4 ⟨#[101, 105, 103, 104, 116, 107, 101, 121]⟩ ⟨#[115, 105, 120, 116, 101, 101, 110, 32, 98, 121, 116, 101, 115, 32, 105, 116]⟩ ⟨#[115, 105, 120, 116, 101, 101, 110, 32, 98, 121, 116, 101, 115, 32, 105, 116]⟩ = true := by kernel_rfl
theorem tkl2 : (klA.length : Int) = 8 := by rw [tkl]; rfl
theorem Right_ag (kind : Int) (key v old : ByteArray) (b : Bool) (hb : rightS kind key v old = b) (w : World) :
    Calls Try.prog 12 #[.agg #[.int .i64 kind, .string key, .string v, .string old]] w fun e w' => e = .returned (.bool b) ∧ Below w.heap.size w w' := Right_eq kind key v old b hb w
theorem Len_eq (g : Nat) (l : List Pr) (m : Int) (hm : (l.length : Int) = m) (w : World) (h : TabAt w g l) :
    Calls Try.prog 13 #[.pointer (some ⟨g, 0, none⟩)] w fun e w' => e = .returned (.int .i64 m) ∧ w' = w := by subst hm; exact Len_any g l w h
theorem St.ans {B : Nat} {w0 w : World} {g1 g2 : Nat} {l1 l2 : List Pr} {L : List (Nat × Obj)} (h : St B w0 w g1 g2 l1 l2 L) {b : Nat} {a : Int} {y : ByteArray} (hm : (b, ansO a y) ∈ L) : w.cell? ⟨b, 0, none⟩ = some (.int .i64 a) ∧ w.cell? ⟨b, 1, none⟩ = some (.string y) :=
  AnsAt.cells (h.ls _ hm).1
/-- the pairs that a slice that is built of four of them holds -/
theorem four_rd (w : World) (a b c d e f g h : ByteArray) : PrR (w.alloc (.cells #[.string a, .string b, .string c, .string d, .string e, .string f, .string g, .string h] 23)) (some ⟨w.heap.size, 0, none⟩) 4 [(a, b), (c, d), (e, f), (g, h)] := by
  refine ⟨Nat.le_refl _, by decide, fun _ => ⟨w.heap.size, 0, rfl, by show _ < (w.heap.push _).size; simp, rd_flat fun j u hj => ?_⟩⟩
  rw [cell_of_row _ _ _ _ _ (0, 0) (alloc_new w _), Nat.zero_add, ← hj]
  simp [flat]

theorem OwnPr.obj {B : Nat} {w : World} {ao : Option Addr} {cap : Nat} {l : List Pr} (h : OwnPr B w ao cap l) (hl : 0 < l.length) : ∃ g cur, ao = some ⟨g, 0, none⟩ ∧ B ≤ g ∧ w.heap[g]? = some (.cells cur 23 (0, 0)) ∧ ∀ w' : World, w'.heap[g]? = some (.cells cur 23 (0, 0)) → RdPr w' g 0 l := by
  rcases h.2 with ⟨_, e⟩ | ⟨g, cp, cur, e, hB, hg, _, _, hs, ht⟩
  · omega
  · simp only [Value.slice.injEq] at e
    refine ⟨g, cur, e.1, hB, hg, fun w' hg' => rd_flat fun j u hj => ?_⟩
    rw [cell_of_row w' _ _ _ _ (0, 0) hg', Nat.zero_add]
    rw [← ht] at hj
    rw [List.getElem?_take] at hj
    split at hj
    · rw [← hj]; simp
    · cases hj
set_option maxRecDepth 20000 in
set_option maxHeartbeats 4000000 in
theorem TableKnown_any (w : World) : Calls Try.prog 3 #[] w fun e w' => e = .returned (.bool true) ∧ Below w.heap.size w w' := by
  go_enter Try.func3, Try.ntmps3
  go_wp2_with fail
  refine (Of_any _ _ _ _ _ rfl (four_rd w _ _ _ _ _ _ _ _)).mono ?_
  rintro e w1 ⟨z, rfl, hz, hr, hb⟩
  rw [tk0] at hz hr ⊢
  obtain ⟨C, hC⟩ : ∃ C, (tcells [(⟨#[97]⟩, ⟨#[]⟩), (⟨#[98]⟩, ⟨#[51]⟩)] z).toArray = C := ⟨_, rfl⟩
  have hi := tcells_size hz
  have h17 : Hid ((17 : Nat) = (tcells [(⟨#[97]⟩, ⟨#[]⟩), (⟨#[98]⟩, ⟨#[51]⟩)] z).toArray.size) := by show _ = _; rw [List.size_toArray, tcells_length hz]
  have h1 := tcells_one [(⟨#[97]⟩, ⟨#[]⟩), (⟨#[98]⟩, ⟨#[51]⟩)] z
  rw [hC] at hi h17 h1 ⊢
  have hn1 := alloc_new w1 zeroT
  have hn2 := setRow_heap _ _ _ C _ _ hn1
  have hn3 : (((w1.alloc zeroT).setRow w1.heap.size C).alloc zeroT).heap[w1.heap.size + 1]? = some zeroT := by
    have := alloc_new ((w1.alloc zeroT).setRow w1.heap.size C) zeroT
    have e : ((w1.alloc zeroT).setRow w1.heap.size C).heap.size = w1.heap.size + 1 := by rw [size_setRow]; show (w1.heap.push _).size = _; simp
    rw [e] at this
    exact this
  have hn4 := setRow_heap _ _ _ C _ _ hn3
  have hT1 : TabAt ((((w1.alloc zeroT).setRow w1.heap.size C).alloc zeroT).setRow (w1.heap.size + 1) C) w1.heap.size [(⟨#[97]⟩, ⟨#[]⟩), (⟨#[98]⟩, ⟨#[51]⟩)] :=
    ⟨z, hz, hr, by
      rw [setRow_other _ _ _ _ (by omega), Below.heap_alloc _ _ _ (by rw [size_setRow]; show _ < (w1.heap.push _).size; simp), hn2, ← hC]⟩
  have hT2 : TabAt ((((w1.alloc zeroT).setRow w1.heap.size C).alloc zeroT).setRow (w1.heap.size + 1) C) (w1.heap.size + 1) [(⟨#[97]⟩, ⟨#[]⟩), (⟨#[98]⟩, ⟨#[51]⟩)] := ⟨z, hz, hr, by rw [hn4, ← hC]⟩
  have hs1 : w.heap.size ≤ w1.heap.size := by have := hb.size; have e : w.heap.size ≤ (w.alloc (.cells #[.string ⟨#[98]⟩, .string ⟨#[49]⟩, .string ⟨#[]⟩, .string ⟨#[50]⟩, .string ⟨#[97]⟩, .string ⟨#[]⟩, .string ⟨#[98]⟩, .string ⟨#[51]⟩] 23)).heap.size := (bel_al w _).size; omega
  have ST : Hid (St w.heap.size w ((((w1.alloc zeroT).setRow w1.heap.size C).alloc zeroT).setRow (w1.heap.size + 1) C) w1.heap.size (w1.heap.size + 1) [(⟨#[97]⟩, ⟨#[]⟩), (⟨#[98]⟩, ⟨#[51]⟩)] [(⟨#[97]⟩, ⟨#[]⟩), (⟨#[98]⟩, ⟨#[51]⟩)] []) := by
    have hbw : Below w.heap.size w w1 := (bel_al w _).trans (hb.mono (bel_al w _).size)
    exact ⟨hT1, hT2, by omega, by simp, below_setRow ((below_setRow (hbw.alloc hs1 _) hs1 C).alloc (by rw [size_setRow]; exact Nat.le_trans hs1 (bel_al w1 _).size) _) (by omega) C, hs1, by omega, Nat.le_trans (by omega : w.heap.size ≤ w1.heap.size + 1) (Nat.le_of_lt hT2.lt)⟩
  unfold zeroT at hn1 hn2 hn3 ST
  clear hT1 hT2 hn4 hb
  go_wp2_with first | (refine wpList_load_row rfl 26 _ rfl w1.heap.size rfl 26 C (0, 0) _ hn2 Try.underlying26 rfl hi ?_) | (refine wpList_store_row rfl 26 _ _ rfl w1.heap.size C rfl rfl 26 _ hn1 hi h17.out h1 ?_) | (refine wpList_store_row rfl 26 _ _ rfl (w1.heap.size + 1) C rfl rfl 26 _ hn3 hi h17.out h1 ?_)
  clear hn1 hn2 hn3 hi h17 h1
  refine (Do_eq (w1.heap.size + 1) _ 3 _ _ _ _ ST.out.t2 _ _ _ tk1).mono ?_
  rintro e w2 ⟨rfl, hT, hO⟩
  have S2 : Hid (St _ _ _ _ _ _ _ _) := (ST.out.do2 hT hO).al (ansO 0 ⟨#[]⟩)
  clear ST hT hO
  unfold ansO at S2
  go_wp2_with fail
  refine (Do_eq w1.heap.size _ 1 _ _ _ _ S2.out.t1 _ _ _ tk2).mono ?_
  rintro e w3 ⟨rfl, hT, hO⟩
  have S3 : Hid (St _ _ _ _ _ _ _ _) := (S2.out.do1 hT hO).al (ansO 0 ⟨#[51]⟩)
  clear S2 hT hO
  unfold ansO at S3
  go_wp2_with fail
  refine (Do_eq (w1.heap.size + 1) _ 1 _ _ _ _ S3.out.t2 _ _ _ tk3).mono ?_
  rintro e w4 ⟨rfl, hT, hO⟩
  have S4 : Hid (St _ _ _ _ _ _ _ _) := (S3.out.do2 hT hO).al (ansO 4 ⟨#[]⟩)
  clear S3 hT hO
  unfold ansO at S4
  go_wp2_with fail
  refine (Do_eq w1.heap.size _ 3 _ _ _ _ S4.out.t1 _ _ _ tk4).mono ?_
  rintro e w5 ⟨rfl, hT, hO⟩
  have S5 : Hid (St _ _ _ _ _ _ _ _) := (S4.out.do1 hT hO).al (ansO 4 ⟨#[]⟩)
  clear S4 hT hO
  unfold ansO at S5
  go_wp2_with fail
  refine (Do_eq w1.heap.size _ 4 _ _ _ _ S5.out.t1 _ _ _ tk5).mono ?_
  rintro e w6 ⟨rfl, hT, hO⟩
  have S6 : Hid (St _ _ _ _ _ _ _ _) := (S5.out.do1 hT hO).al (ansO 4 ⟨#[]⟩)
  clear S5 hT hO
  unfold ansO at S6
  go_wp2_with fail
  refine (Do_eq w1.heap.size _ 4 _ _ _ _ S6.out.t1 _ _ _ tk6).mono ?_
  rintro e w7 ⟨rfl, hT, hO⟩
  have S7 : Hid (St _ _ _ _ _ _ _ _) := (S6.out.do1 hT hO).al (ansO 0 ⟨#[]⟩)
  clear S6 hT hO
  unfold ansO at S7
  go_wp2_with fail
  refine (Pairs_any w1.heap.size _ _ S7.out.t1).mono ?_
  rintro e w8 ⟨ao, cap, rfl, hown, hb⟩
  obtain ⟨gp, cur, rfl, hge, hgp, hrd⟩ := hown.obj (by simp)
  have HRD : Hid (∀ w' : World, w'.heap[gp]? = some (.cells cur 23 (0, 0)) → RdPr w' gp 0 _) := hrd
  have S8 : Hid (St _ _ _ _ _ _ _ _) := (S7.out.below hb).add hgp (by have := S7.out.t1.lt; omega) (by have := S7.out.t2.lt; omega)
  clear S7 hb hown hge hgp hrd
  go_wp2_with fail
  refine (known_any _).mono ?_
  rintro e w9 ⟨rfl, hb⟩
  have S9 : Hid (St _ _ _ _ _ _ _ _) := S8.out.below hb
  clear S8 hb
  go_wp2_with fail
  obtain ⟨L, hL⟩ : ∃ L : List (Nat × Obj), L = [(gp, .cells cur 23 (0, 0)), (w7.heap.size, ansO 0 ⟨#[]⟩), (w6.heap.size, ansO 4 ⟨#[]⟩), (w5.heap.size, ansO 4 ⟨#[]⟩), (w4.heap.size, ansO 4 ⟨#[]⟩), (w3.heap.size, ansO 0 ⟨#[51]⟩), (w2.heap.size, ansO 0 ⟨#[]⟩)] := ⟨_, rfl⟩
  have SL : Hid (St w.heap.size w w9 w1.heap.size (w1.heap.size + 1) (klS 0) [(⟨#[97]⟩, ⟨#[]⟩)] L) := by rw [hL]; exact S9.out
  have HL : Hid (L = _) := hL
  clear S9 hL
  go_loopw [10] (fun i wr => ∃ j : Nat, j ≤ 8 ∧ i = .int .i64 j ∧ St w.heap.size w wr w1.heap.size (w1.heap.size + 1) (klS j) [(⟨#[97]⟩, ⟨#[]⟩)] L) (fun i _ => 8 - (intOf i).toNat)
  case atStart => exact ⟨0, by omega, rfl, SL.out⟩
  case round =>
    obtain ⟨j, hj, rfl, hS⟩ := hrel
    have HS : Hid (St _ _ _ _ _ _ _ _) := hS
    clear hS SL
    by_cases hlt : j < 8
    · have hj8 : (j : Int) < 8 := by omega
      have hstr := str_one wr j hlt
      go_wp2_with fail
      refine (Do_any w1.heap.size (klS j) 2 (keyK j) ⟨#[]⟩ ⟨#[]⟩ _ (HS.out.below (bel_al wr _)).t1).mono ?_
      rintro e w10 ⟨rfl, hT, hO⟩
      have S10 : Hid (St _ _ _ _ _ _ _ _) := (HS.out.below (bel_al wr _)).do1 hT hO
      clear HS hT hO hstr
      go_wp2_with fail
      refine ⟨⟨j + 1, by omega, by go_num, S10.out⟩, by simp [intOf]; omega⟩
    · have hj8 : j = 8 := by omega
      subst hj8
      go_wp2_with fail
      refine (Do_eq w1.heap.size _ 2 _ _ _ _ HS.out.t1 _ _ _ tk7).mono ?_
      rintro e w11 ⟨rfl, hT, hO⟩
      have S11 : Hid (St _ _ _ _ _ _ _ _) := (HS.out.do1 hT hO).al (ansO 5 ⟨#[]⟩)
      clear HS hT hO
      unfold ansO at S11
      go_wp2_with fail
      refine (Do_eq w1.heap.size _ 2 _ _ _ _ S11.out.t1 _ _ _ tk8).mono ?_
      rintro e w12 ⟨rfl, hT, hO⟩
      have S12 : Hid (St _ _ _ _ _ _ _ _) := (S11.out.do1 hT hO).al (ansO 0 ⟨#[]⟩)
      clear S11 hT hO
      unfold ansO at S12
      go_wp2_with fail
      refine (Do_eq w1.heap.size _ 1 _ _ _ _ S12.out.t1 _ _ _ tk9).mono ?_
      rintro e w13 ⟨rfl, hT, hO⟩
      have S13 : Hid (St _ _ _ _ _ _ _ _) := (S12.out.do1 hT hO).al (ansO 1 ⟨#[]⟩)
      clear S12 hT hO
      unfold ansO at S13
      go_wp2_with fail
      refine (Right_ag _ _ _ _ false tr1 _).mono ?_
      rintro e w14 ⟨rfl, hb⟩
      have S14 : Hid (St _ _ _ _ _ _ _ _) := S13.out.below hb
      clear S13 hb
      go_wp2_with fail
      refine (Right_ag _ _ _ _ false tr2 _).mono ?_
      rintro e w15 ⟨rfl, hb⟩
      have S15 : Hid (St _ _ _ _ _ _ _ _) := S14.out.below hb
      clear S14 hb
      go_wp2_with fail
      refine (Right_ag _ _ _ _ false tr3 _).mono ?_
      rintro e w16 ⟨rfl, hb⟩
      have S16 : Hid (St _ _ _ _ _ _ _ _) := S15.out.below hb
      clear S15 hb
      go_wp2_with fail
      refine (Right_ag _ _ _ _ false tr4 _).mono ?_
      rintro e w17 ⟨rfl, hb⟩
      have S17 : Hid (St _ _ _ _ _ _ _ _) := S16.out.below hb
      clear S16 hb
      go_wp2_with fail
      refine (Right_ag _ _ _ _ false tr5 _).mono ?_
      rintro e w18 ⟨rfl, hb⟩
      have S18 : Hid (St _ _ _ _ _ _ _ _) := S17.out.below hb
      clear S17 hb
      go_wp2_with fail
      refine (Right_ag _ _ _ _ false tr6 _).mono ?_
      rintro e w19 ⟨rfl, hb⟩
      have S19 : Hid (St _ _ _ _ _ _ _ _) := S18.out.below hb
      clear S18 hb
      have hLL := HL.out
      rw [hLL] at S19
      obtain ⟨a1, a2⟩ := (S19.out.ans (b := w2.heap.size) (a := 0) (y := ⟨#[]⟩) (by simp [ansO]))
      obtain ⟨a3, a4⟩ := (S19.out.ans (b := w3.heap.size) (a := 0) (y := ⟨#[51]⟩) (by simp [ansO]))
      obtain ⟨a5, a6⟩ := (S19.out.ans (b := w4.heap.size) (a := 4) (y := ⟨#[]⟩) (by simp [ansO]))
      obtain ⟨a7, a8⟩ := (S19.out.ans (b := w5.heap.size) (a := 4) (y := ⟨#[]⟩) (by simp [ansO]))
      obtain ⟨a9, a10⟩ := (S19.out.ans (b := w6.heap.size) (a := 4) (y := ⟨#[]⟩) (by simp [ansO]))
      obtain ⟨a11, a12⟩ := (S19.out.ans (b := w7.heap.size) (a := 0) (y := ⟨#[]⟩) (by simp [ansO]))
      obtain ⟨a13, a14⟩ := (S19.out.ans (b := w11.heap.size) (a := 5) (y := ⟨#[]⟩) (by simp [ansO]))
      obtain ⟨a15, a16⟩ := (S19.out.ans (b := w12.heap.size) (a := 0) (y := ⟨#[]⟩) (by simp [ansO]))
      obtain ⟨a17, a18⟩ := (S19.out.ans (b := w13.heap.size) (a := 1) (y := ⟨#[]⟩) (by simp [ansO]))
      have hR := HRD.out w19 (S19.out.ls (gp, .cells cur 23 (0, 0)) (by simp [ansO])).1
      obtain ⟨p1, p2⟩ := hR 0 (by simp)
      obtain ⟨p3, p4⟩ := hR 1 (by simp)
      simp only [List.getElem_cons_zero, List.getElem_cons_succ, Nat.zero_mul, Nat.one_mul, Nat.zero_add, Nat.add_zero] at p1 p2 p3 p4
      clear hR hLL HL HRD
      go_wp2_with first | (go_at_call 13; refine (Len_eq w1.heap.size _ 8 tkl2 _ S19.out.t1).mono ?_; rintro e w20 ⟨rfl, rfl⟩) | (go_at_call 12; refine (Right_ag _ _ _ _ true tr7 _).mono ?_; rintro e w20 ⟨rfl, hb⟩; have S20 : Hid (St _ _ _ _ _ _ _ _) := S19.out.below hb; clear hb)
      go_ret
      exact ⟨rfl, S20.out.bel⟩
end Go.Proofs.Ytinobhaemmddjaa
