/- Sessions: elements, the object in its block; isClient, Note, Last. -/
import Derived.Test.YtodgcfmacmfcpaaEO
import Derived.Deep.RegionWith
import Derived.Deep.RegionHeld3
namespace Go.Proofs.Ytodgcfmacmfcpaa
open Go.RowKit

theorem bel_al2 (w : World) (a b : Obj) : Below w.heap.size w ((w.alloc a).alloc b) := (bel_al w a).alloc (by show _ ≤ (w.heap.push _).size; simp) b
/-- a client's last number, with its answer -/
structure Se where
  cl : Int
  sq : Int
  why : Int
  val : ByteArray
def Se.cells (x : Se) : List Value := [.int .i64 x.cl, .int .i64 x.sq, .int .i64 x.why, .string x.val]
def Se.z : Se := ⟨0, 0, 0, ⟨#[]⟩⟩
def seV (x : Se) : Value := .agg #[.int .i64 x.cl, .int .i64 x.sq, .int .i64 x.why, .string x.val]
theorem se_info : (Try.prog.info? 31).map (fun i => (i.zero, i.size, i.bytes)) = some (some (seV Se.z), 4, 40) := by kernel_rfl
def seK : Knd Se where
  e := 31
  t := 39
  c := 4
  by_ := 40
  z := seV Se.z
  cells := Se.cells
  len := fun _ => rfl
  one := fun a u hu => by simp [Se.cells] at hu; rcases hu with rfl | rfl | rfl | rfl <;> rfl
  ht := Try.underlying39
  hi := se_info
  hz := rfl
  hc := by decide

/-- what a client's place is -/
def mayC (c : Int) : Bool := decide (0 ≤ c) && decide (c < 4)
def lastS (l : List Se) (c : Int) : Se := if mayC c then l.getD c.toNat Se.z else Se.z
def mayS (l : List Se) (x : Se) : Bool := mayC x.cl && decide ((lastS l x.cl).sq < x.sq)
def noteS (l : List Se) (x : Se) : List Se := if mayS l x then l.set x.cl.toNat x else l
def hasS (x : Se) : Bool := decide (0 < x.sq)
def allS (l : List Se) : List Se := l.filter hasS
/-- each place is its client's, or none's -/
def SInv (l : List Se) : Prop := l.length = 4 ∧ ∀ (k : Nat) (x : Se), l[k]? = some x → x = Se.z ∨ (x.cl = (k : Int) ∧ 0 < x.sq)
def SesAt (w : World) (g : Nat) (l : List Se) : Prop := SInv l ∧ w.heap[g]? = some (.cells (flt seK l).toArray 34 (0, 0))
def zeroS : List Se := [Se.z, Se.z, Se.z, Se.z]
theorem SInv.zero : SInv zeroS := ⟨rfl, fun k x h => by
  have : x ∈ zeroS := List.mem_of_getElem? h
  simp only [zeroS, List.mem_cons, List.not_mem_nil, or_false, or_self] at this
  exact .inl this⟩
theorem noteS_len (l : List Se) (x : Se) : (noteS l x).length = l.length := by unfold noteS; split <;> simp
theorem SInv.note {l : List Se} (h : SInv l) (x : Se) : SInv (noteS l x) := by
  refine ⟨by rw [noteS_len, h.1], fun k y hy => ?_⟩
  unfold noteS at hy
  split at hy
  · rename_i hm
    simp only [mayS, mayC, lastS, Bool.and_eq_true, decide_eq_true_eq] at hm
    obtain ⟨⟨h1, h2⟩, h3⟩ := hm
    rw [List.getElem?_set] at hy
    split at hy
    · rename_i e
      split at hy
      · simp only [Option.some.injEq] at hy
        subst hy
        right
        refine ⟨by omega, ?_⟩
        rw [if_pos ⟨h1, h2⟩] at h3
        have hk : x.cl.toNat < l.length := by rw [h.1]; omega
        rw [List.getD_eq_getElem?_getD, List.getElem?_eq_getElem hk] at h3
        simp only [Option.getD_some] at h3
        rcases h.2 _ _ (List.getElem?_eq_getElem hk) with q | q
        · rw [q] at h3; exact h3
        · omega
      · cases hy
    · exact h.2 k y hy
  · exact h.2 k y hy
section
variable {w w' : World} {g : Nat} {l : List Se}
theorem SesAt.lt (h : SesAt w g l) : g < w.heap.size := (Array.getElem?_eq_some_iff.1 h.2).1
theorem SesAt.heap (h : SesAt w g l) (e : w'.heap[g]? = w.heap[g]?) : SesAt w' g l := ⟨h.1, e.trans h.2⟩
theorem SesAt.below (h : SesAt w g l) (e : Below w.heap.size w w') : SesAt w' g l := h.heap (e.block g h.lt)
theorem SesAt.at (h : SesAt w g l) (k : Nat) (hk : k < 4) (x : Se) (hx : l[k]? = some x) : w.cell? ⟨g, k * 4, none⟩ = some (.int .i64 x.cl) ∧ w.cell? ⟨g, k * 4 + 1, none⟩ = some (.int .i64 x.sq) ∧ w.cell? ⟨g, k * 4 + 2, none⟩ = some (.int .i64 x.why) ∧ w.cell? ⟨g, k * 4 + 3, none⟩ = some (.string x.val) := by
  have hk2 : k < l.length := by rw [h.1.1]; exact hk
  have e : l[k] = x := by rw [List.getElem?_eq_getElem hk2] at hx; exact Option.some.inj hx
  have q : RdK seK w g 0 l := RdK.row h.2 (fun j u hj => by rw [Nat.zero_add]; exact hj)
  have r := q k hk2
  rw [e] at r
  simp only [Nat.zero_add] at r
  exact ⟨r 0 _ rfl, r 1 _ rfl, r 2 _ rfl, r 3 _ rfl⟩
theorem SesAt.free (h : SesAt w g l) (o : Nat) : w.frozen? ⟨g, o, none⟩ = false := by simp [World.frozen?, h.2]
/-- an element is laid into its place, cell by cell -/
theorem SesAt.set (h : SesAt w g l) (k : Nat) (hk : k < 4) (x : Se) (hi : SInv (l.set k x)) : SesAt ((((w.setCell ⟨g, k * 4, none⟩ (.int .i64 x.cl)).setCell ⟨g, k * 4 + 1, none⟩ (.int .i64 x.sq)).setCell ⟨g, k * 4 + 2, none⟩ (.int .i64 x.why)).setCell ⟨g, k * 4 + 3, none⟩ (.string x.val)) g (l.set k x) := by
  have := wsets_elem h.2 k (by rw [h.1.1]; exact hk) x
  exact ⟨hi, this⟩
end
/-- sessions that lie from cell o of block g on -/
def SesO (w : World) (g o : Nat) (l : List Se) : Prop := SInv l ∧ Ob w g o (flt seK l)
theorem SesAt.o {w : World} {g : Nat} {l : List Se} (h : SesAt w g l) : SesO w g 0 l := ⟨h.1, by have := Ob.whole h.2; simpa using this⟩
/-- where the block is theirs alone -/
theorem SesO.alone {w w' : World} {g : Nat} {l l' : List Se} (h : SesAt w g l) (h' : SesO w' g 0 l') (hp : Part g 0 16 w w') : SesAt w' g l' := by
  obtain ⟨F', h1, h2, _⟩ := hp.row _ _ h.2
  have e : F'.size = (flt seK l').length := by rw [h2, List.size_toArray, flt_length, flt_length, h.1.1, h'.1.1]
  rw [h'.2.full h1 e] at h1
  exact ⟨h'.1, h1⟩
section
variable {w w' : World} {g o n p : Nat} {l : List Se}
theorem SesO.lt (h : SesO w g o l) : g < w.heap.size := h.2.lt
theorem SesO.below (h : SesO w g o l) (e : Below w.heap.size w w') : SesO w' g o l := ⟨h.1, h.2.below e⟩
theorem SesO.apart {S : Nat → Prop} (h : SesO w g o l) (e : Only S w w') (hn : ¬ S g) : SesO w' g o l := ⟨h.1, h.2.apart e hn⟩
theorem SesO.part (h : SesO w g o l) (k : Part g p n w w') (hd : o + 16 ≤ p ∨ p + n ≤ o) : SesO w' g o l := ⟨h.1, h.2.part k (by rw [flt_length, h.1.1]; exact hd)⟩
theorem SesO.at (h : SesO w g o l) (k : Nat) (hk : k < 4) (x : Se) (hx : l[k]? = some x) : w.cell? ⟨g, o + k * 4, none⟩ = some (.int .i64 x.cl) ∧ w.cell? ⟨g, o + k * 4 + 1, none⟩ = some (.int .i64 x.sq) ∧ w.cell? ⟨g, o + k * 4 + 2, none⟩ = some (.int .i64 x.why) ∧ w.cell? ⟨g, o + k * 4 + 3, none⟩ = some (.string x.val) := by
  have hk2 : k < l.length := by rw [h.1.1]; exact hk
  have e : l[k] = x := by rw [List.getElem?_eq_getElem hk2] at hx; exact Option.some.inj hx
  have r := h.2.rd k hk2
  rw [e] at r
  exact ⟨r 0 _ rfl, r 1 _ rfl, r 2 _ rfl, r 3 _ rfl⟩
/-- an element is laid into its place, cell by cell -/
theorem SesO.set (h : SesO w g o l) (k : Nat) (hk : k < 4) (x : Se) (hi : SInv (l.set k x)) : SesO ((((w.setCell ⟨g, o + k * 4, none⟩ (.int .i64 x.cl)).setCell ⟨g, o + k * 4 + 1, none⟩ (.int .i64 x.sq)).setCell ⟨g, o + k * 4 + 2, none⟩ (.int .i64 x.why)).setCell ⟨g, o + k * 4 + 3, none⟩ (.string x.val)) g o (l.set k x) :=
  ⟨hi, h.2.elem k (by rw [h.1.1]; exact hk) x⟩
end
theorem isClient_any (c : Int) (w : World) : Calls Try.prog 35 #[.int .i64 c] w fun e w' => e = .returned (.bool (mayC c)) ∧ w' = w := by
  by_cases h1 : 0 ≤ c
  · by_cases h2 : c < 4
    · have hm : mayC c = true := by unfold mayC; rw [decide_eq_true h1, decide_eq_true h2]; rfl
      rw [hm]
      go_enter Try.func35, Try.ntmps35
      go_wp2
      go_ret
      exact ⟨rfl, rfl⟩
    · have hm : mayC c = false := by unfold mayC; rw [decide_eq_false h2, Bool.and_false]
      rw [hm]
      go_enter Try.func35, Try.ntmps35
      go_wp2
      go_ret
      exact ⟨rfl, rfl⟩
  · have hm : mayC c = false := by unfold mayC; rw [decide_eq_false h1, Bool.false_and]
    rw [hm]
    go_enter Try.func35, Try.ntmps35
    go_wp2
    go_ret
    exact ⟨rfl, rfl⟩
theorem isClient_eq (c : Int) (b : Bool) (hb : mayC c = b) (w : World) : Calls Try.prog 35 #[.int .i64 c] w fun e w' => e = .returned (.bool b) ∧ w' = w := by subst hb; exact isClient_any c w
theorem may_nat {c : Int} (h : mayC c = true) : ∃ k : Nat, k < 4 ∧ c = (k : Int) := by
  simp only [mayC, Bool.and_eq_true, decide_eq_true_eq] at h
  exact ⟨c.toNat, by omega, by omega⟩
theorem last_at {l : List Se} (h : l.length = 4) {k : Nat} (hk : k < 4) : l[k]? = some (lastS l (k : Int)) := by
  have hm : mayC (k : Int) = true := by unfold mayC; rw [decide_eq_true (by omega), decide_eq_true (by omega)]; rfl
  unfold lastS
  rw [hm, if_pos rfl, Int.toNat_natCast, List.getD_eq_getElem?_getD, List.getElem?_eq_getElem (by omega)]
  rfl
/-- a place of none has no number -/
theorem SInv.last {l : List Se} (h : SInv l) (c : Int) : lastS l c = Se.z ∨ ((lastS l c).cl = c ∧ 0 < (lastS l c).sq ∧ mayC c = true) := by
  cases hm : mayC c with
  | false => left; unfold lastS; rw [hm]; rfl
  | true =>
    obtain ⟨k, hk, rfl⟩ := may_nat hm
    rcases h.2 k _ (last_at h.1 hk) with e | ⟨e, f⟩
    · exact .inl e
    · exact .inr ⟨e, f, rfl⟩
def lastQ (g o : Nat) (l : List Se) (c : Int) (w : World) : Prop :=
  Calls Try.prog 13 #[.pointer (some ⟨g, o, none⟩), .int .i64 c] w fun e w' => e = .returned (.tuple #[seV (lastS l c), .bool (hasS (lastS l c))]) ∧ Below w.heap.size w w'
set_option maxHeartbeats 2000000 in
theorem Last_o (g o : Nat) (l : List Se) (c : Int) (w : World) (h : SesO w g o l) : lastQ g o l c w := by
  unfold lastQ
  have hg := h.lt
  cases hm : mayC c with
  | false =>
    have hl : lastS l c = Se.z := by unfold lastS; rw [hm]; rfl
    rw [hl]
    go_enter Try.func13, Try.ntmps13
    go_wp2_with (go_at_call 35; refine (isClient_eq _ _ hm _).mono ?_; rintro e w' ⟨rfl, rfl⟩)
    refine bodyPost_ret (by simp [results, Try.results13, go_sem]; try rfl) rfl ?_
    exact ⟨rfl, bel_al w _⟩
  | true =>
    obtain ⟨k, hk, rfl⟩ := may_nat hm
    obtain ⟨x, hx⟩ : ∃ x, lastS l (k : Int) = x := ⟨_, rfl⟩
    have hx2 := last_at h.1.1 hk
    rw [hx] at hx2 ⊢
    have hk4 : (k : Int) < 4 := by omega
    obtain ⟨c0, c1, c2, c3⟩ := h.at k hk x hx2
    have H : Hid (SesO w g o l) := h
    clear h hx hx2
    go_enter Try.func13, Try.ntmps13
    go_wp2_with (go_at_call 35; refine (isClient_eq _ _ hm _).mono ?_; rintro e w' ⟨rfl, rfl⟩)
    go_region
    all_goals
      go_wp2
      refine bodyPost_ret (by simp [results, Try.results13, go_sem]; try rfl) rfl ?_
      exact ⟨rfl, (bel_al2 w _ _).drew⟩
theorem Last_any (g : Nat) (l : List Se) (c : Int) (w : World) (h : SesAt w g l) : lastQ g 0 l c w := Last_o g 0 l c w h.o
theorem Last_eq (g : Nat) (l : List Se) (c : Int) (w : World) (h : SesAt w g l) {x : Se} (hx : lastS l c = x) :
    Calls Try.prog 13 #[.pointer (some ⟨g, 0, none⟩), .int .i64 c] w fun e w' => e = .returned (.tuple #[seV x, .bool (hasS x)]) ∧ Below w.heap.size w w' := by subst hx; exact Last_any g l c w h
theorem size_al (w : World) (o : Obj) : (w.alloc o).heap.size = w.heap.size + 1 := by show (w.heap.push o).size = _; simp
/-- one element that was just laid -/
theorem src_se (w : World) (x : Se) (b : Nat) (hb : w.heap.size = b) : SrcK seK (w.alloc (.cells #[.int .i64 x.cl, .int .i64 x.sq, .int .i64 x.why, .string x.val] 31)) (some ⟨b, 0, none⟩) 1 1 [x] := by
  subst hb; exact SrcK.one (K := seK) w x
/-- an element in a block of its own -/
def SeAt (w : World) (b : Nat) (x : Se) : Prop := w.heap[b]? = some (.cells #[.int .i64 x.cl, .int .i64 x.sq, .int .i64 x.why, .string x.val] 31 (0, 0))
section
variable {w w' : World} {b : Nat} {x : Se}
theorem SeAt.lt (h : SeAt w b x) : b < w.heap.size := (Array.getElem?_eq_some_iff.1 h).1
theorem SeAt.below (h : SeAt w b x) (hb : Below w.heap.size w w') : SeAt w' b x := (hb.block b h.lt).trans h
theorem SeAt.only {S : Nat → Prop} (h : SeAt w b x) (o : Only S w w') (hn : ¬ S b) : SeAt w' b x := (o.block b h.lt hn).trans h
theorem SeAt.cells (h : SeAt w b x) : w.cell? ⟨b, 0, none⟩ = some (.int .i64 x.cl) ∧ w.cell? ⟨b, 1, none⟩ = some (.int .i64 x.sq) ∧ w.cell? ⟨b, 2, none⟩ = some (.int .i64 x.why) ∧ w.cell? ⟨b, 3, none⟩ = some (.string x.val) := by
  rw [cell_of_row w _ 0 _ _ (0, 0) h, cell_of_row w _ 1 _ _ (0, 0) h, cell_of_row w _ 2 _ _ (0, 0) h, cell_of_row w _ 3 _ _ (0, 0) h]
  exact ⟨rfl, rfl, rfl, rfl⟩
theorem SeAt.set (h : SeAt w b x) (y : Se) : SeAt ((((w.setCell ⟨b, 0, none⟩ (.int .i64 y.cl)).setCell ⟨b, 1, none⟩ (.int .i64 y.sq)).setCell ⟨b, 2, none⟩ (.int .i64 y.why)).setCell ⟨b, 3, none⟩ (.string y.val)) b y := by
  have := wsets_heap (g := b) (Se.cells y) w (Se.cells x) 0 h
  rw [setsL_eq _ _ _ (Nat.le_refl _)] at this
  exact this
theorem SeAt.free (h : SeAt w b x) (o : Nat) : w.frozen? ⟨b, o, none⟩ = false := by unfold SeAt at h; simp [World.frozen?, h]
end
set_option maxHeartbeats 4000000 in
theorem Note_o (g o : Nat) (l : List Se) (x : Se) (w : World) (h : SesO w g o l) :
    Calls Try.prog 31 #[.pointer (some ⟨g, o, none⟩), seV x] w fun e w' => e = .returned (.bool (mayS l x)) ∧ SesO w' g o (noteS l x) ∧ Part g o 16 w w' := by
  have hg := h.lt
  have H : Hid (SesO w g o l) := h
  have HW : Hid (∃ w1 : World, w.alloc (.cells #[.int .i64 x.cl, .int .i64 x.sq, .int .i64 x.why, .string x.val] 31) = w1 ∧ SeAt w1 w.heap.size x ∧ Below w.heap.size w w1) := ⟨_, rfl, alloc_new w _, bel_al w _⟩
  unfold seV
  cases hm : mayC x.cl with
  | false =>
    have hs : mayS l x = false := by unfold mayS; rw [hm]; rfl
    have hn : Hid (noteS l x = l) := by show _ = _; unfold noteS; rw [hs]; rfl
    rw [hs, hn.out]
    clear h
    go_enter Try.func31, Try.ntmps31
    go_upto_region 1 with fail
    obtain ⟨w1, e1, S1, B1⟩ := HW.out
    rw [e1]
    obtain ⟨q0, q1, q2, q3⟩ := S1.cells
    have HB : Hid (Below w.heap.size w w1) := B1
    clear HW e1 S1 B1
    refine wp_region_any (by kernel_rfl) ?_
    change wpAny _ _ _ _ _ _ _ (World.drew _)
    ((refine wpAny_take (i := 0) (v := ?_) rfl (by kernel_rfl) (by kernel_rfl) (by kernel_rfl) (fun _ _ _ h => h) (Or.inl ⟨by kernel_rfl, ?_⟩) ?_; rotate_left 1; focus (intro w; go_simp; try with_reducible rfl)))
    ((refine wpAny_ready (rs := [1]) (by kernel_rfl) (by simp) ?_; refine AllReady.cons rfl (fun K hK => ?_) AllReady.nil; go_simp; (refine hK _ _ ?_; clear hK K)))
    refine wpAny_ready (rs := [2]) (by kernel_rfl) (by simp) ?_
    refine AllReady.cons rfl (fun K hK => ?_) AllReady.nil
    go_simp
    go_wp2_with (go_at_call 35; refine (isClient_eq _ _ hm _).mono ?_; rintro e w' ⟨rfl, rfl⟩)
    ((refine wpAny_take (i := 3) (v := ?_) rfl (by kernel_rfl) (by kernel_rfl) (by kernel_rfl) (fun _ _ _ h => h) (Or.inl ⟨by kernel_rfl, ?_⟩) ?_; rotate_left 1; focus (intro w; go_simp; try with_reducible rfl)); (refine wpAny_take (i := 4) (v := ?_) rfl (by kernel_rfl) (by kernel_rfl) (by kernel_rfl) (fun _ _ _ h => h) (Or.inl ⟨by kernel_rfl, ?_⟩) ?_; rotate_left 1; focus (intro w; go_simp; try with_reducible rfl)))
    (refine wpAny_skip (i := 5) rfl (by kernel_rfl) (by kernel_rfl) (by kernel_rfl) (fun _ _ _ h => h) (by kernel_rfl) (by kernel_rfl) ?_; refine wpAny_skip (i := 6) rfl (by kernel_rfl) (by kernel_rfl) (by kernel_rfl) (fun _ _ _ h => h) (by kernel_rfl) (by kernel_rfl) ?_; refine wpAny_skip (i := 7) rfl (by kernel_rfl) (by kernel_rfl) (by kernel_rfl) (fun _ _ _ h => h) (by kernel_rfl) (by kernel_rfl) ?_; refine wpAny_skip (i := 8) rfl (by kernel_rfl) (by kernel_rfl) (by kernel_rfl) (fun _ _ _ h => h) (by kernel_rfl) (by kernel_rfl) ?_; refine wpAny_skip (i := 9) rfl (by kernel_rfl) (by kernel_rfl) (by kernel_rfl) (fun _ _ _ h => h) (by kernel_rfl) (by kernel_rfl) ?_; refine wpAny_skip (i := 10) rfl (by kernel_rfl) (by kernel_rfl) (by kernel_rfl) (fun _ _ _ h => h) (by kernel_rfl) (by kernel_rfl) ?_; refine wpAny_skip (i := 11) rfl (by kernel_rfl) (by kernel_rfl) (by kernel_rfl) (fun _ _ _ h => h) (by kernel_rfl) (by kernel_rfl) ?_; refine wpAny_skip (i := 12) rfl (by kernel_rfl) (by kernel_rfl) (by kernel_rfl) (fun _ _ _ h => h) (by kernel_rfl) (by kernel_rfl) ?_; refine wpAny_skip (i := 13) rfl (by kernel_rfl) (by kernel_rfl) (by kernel_rfl) (fun _ _ _ h => h) (by kernel_rfl) (by kernel_rfl) ?_; refine wpAny_skip (i := 14) rfl (by kernel_rfl) (by kernel_rfl) (by kernel_rfl) (fun _ _ _ h => h) (by kernel_rfl) (by kernel_rfl) ?_; refine wpAny_skip (i := 15) rfl (by kernel_rfl) (by kernel_rfl) (by kernel_rfl) (fun _ _ _ h => h) (by kernel_rfl) (by kernel_rfl) ?_)
    ((refine wpAny_take (i := 16) (v := ?_) rfl (by kernel_rfl) (by kernel_rfl) (by kernel_rfl) (fun _ _ _ h => h) (Or.inl ⟨by kernel_rfl, ?_⟩) ?_; rotate_left 1; focus (intro w; go_simp; try with_reducible rfl)))
    refine wpAny_done (by kernel_rfl) ?_ _
    go_wp2
    go_ret
    exact ⟨rfl, H.out.below (HB.out.drew), Part.of_below _ _ hg HB.out.drew⟩
  | true =>
    obtain ⟨k, hk, hc⟩ := may_nat hm
    obtain ⟨y, hy⟩ : ∃ y, lastS l (k : Int) = y := ⟨_, rfl⟩
    have hy2 := last_at h.1.1 hk
    rw [hy] at hy2
    have hk4 : (k : Int) < 4 := by omega
    have HW2 : Hid (∃ w1 : World, w.alloc (.cells #[.int .i64 x.cl, .int .i64 x.sq, .int .i64 x.why, .string x.val] 31) = w1 ∧ SeAt w1 w.heap.size x ∧ Below w.heap.size w w1 ∧ SesO w1 g o l) := ⟨_, rfl, alloc_new w _, bel_al w _, h.below (bel_al w _)⟩
    have hs : mayS l x = decide (y.sq < x.sq) := by unfold mayS; rw [hm, hc, hy]; rfl
    have hn : Hid (y.sq < x.sq → noteS l x = l.set k x) := fun hlt => by unfold noteS; rw [hs, decide_eq_true hlt, if_pos rfl, hc]; rfl
    have hn2 : Hid (¬ y.sq < x.sq → noteS l x = l) := fun hlt => by unfold noteS; rw [hs, decide_eq_false hlt]; rfl
    have HI : Hid (SInv (noteS l x)) := h.1.note x
    rw [hs]
    clear h hy hs HW
    obtain ⟨xc, xs, xw, xv⟩ := x
    simp only at hc hm ⊢
    subst hc
    go_enter Try.func31, Try.ntmps31
    go_upto_region 1 with fail
    obtain ⟨w1, e1, S1, B1, H1⟩ := HW2.out
    rw [e1]
    obtain ⟨q0, q1, q2, q3⟩ := S1.cells
    obtain ⟨c0, c1, c2, c3⟩ := H1.at k hk y hy2
    have hg1 := H1.lt
    have hb1 := S1.lt
    have HB : Hid (Below w.heap.size w w1 ∧ SesO w1 g o l ∧ SeAt w1 w.heap.size ⟨k, xs, xw, xv⟩) := ⟨B1, H1, S1⟩
    clear HW2 e1 S1 B1 H1 hy2
    simp only at q0 q1 q2 q3
    go_cut [21] (fun v wx => v = .bool (decide (xs ≤ y.sq)) ∧ wx = w1.drew)
    case first =>
      go_region_held3 (fun w' => w'.cell? ⟨w.heap.size, 0, none⟩ = some (.int .i64 k) ∧ w'.cell? ⟨w.heap.size, 1, none⟩ = some (.int .i64 xs) ∧ w'.cell? ⟨g, o + k * 4 + 1, none⟩ = some (.int .i64 y.sq)) (first | (refine ⟨?_, ?_, ?_⟩ <;> with_reducible assumption) | go_keep) (first
        | (go_at_call 35; refine (isClient_eq _ _ hm _).mono ?_; rintro e w' ⟨rfl, rfl⟩))
      all_goals
        go_wp2
        go_meet
        case rel => exact ⟨rfl, rfl⟩
    case rest =>
    obtain ⟨rfl, rfl⟩ := hcut
    have hgw : g ≠ w.heap.size := by omega
    have hfz := HB.out.2.1.2.free
    by_cases hlt : y.sq < xs
    · have hle : ¬ xs ≤ y.sq := by omega
      have HN : Hid (noteS l ⟨k, xs, xw, xv⟩ = l.set k ⟨k, xs, xw, xv⟩) := hn.out hlt
      go_wp2_with fail
      go_region
      all_goals
        go_wp2
        go_ret
        refine ⟨by rw [decide_eq_true hlt]; rfl, ?_, ?_⟩
        · rw [HN.out]
          exact SesO.below (HB.out.2.1.set k hk ⟨k, xs, xw, xv⟩ (by rw [← HN.out]; exact HI.out)) ((Below.refl _ _).drew.drew)
        · exact ((Part.of_below o 16 hg HB.out.1).trans ((Part.written g (Se.cells ⟨k, xs, xw, xv⟩) w1 (o + k * 4)).mono (by omega) (by show o + k * 4 + 4 ≤ o + 16; omega))).trans (Part.of_below o 16 (Nat.lt_of_lt_of_le hg1 (wsets_only g (Se.cells ⟨k, xs, xw, xv⟩) w1 (o + k * 4)).size) ((Below.refl _ _).drew.drew))
    · have hle : xs ≤ y.sq := by omega
      have HN : Hid (noteS l ⟨k, xs, xw, xv⟩ = l) := hn2.out hlt
      go_wp2
      go_ret
      have hd : decide (y.sq < xs) = false := decide_eq_false (by omega)
      refine ⟨by rw [hd]; rfl, ?_, Part.of_below _ _ hg HB.out.1.drew⟩
      rw [HN.out]
      exact HB.out.2.1.below (Below.refl _ _).drew
theorem Note_any (g : Nat) (l : List Se) (x : Se) (w : World) (h : SesAt w g l) :
    Calls Try.prog 31 #[.pointer (some ⟨g, 0, none⟩), seV x] w fun e w' => e = .returned (.bool (mayS l x)) ∧ SesAt w' g (noteS l x) ∧ Only (fun k => k = g) w w' :=
  (Note_o g 0 l x w h.o).mono fun _ _ ⟨h1, h2, h3⟩ => ⟨h1, SesO.alone h h2 h3, h3.only⟩
end Go.Proofs.Ytodgcfmacmfcpaa
