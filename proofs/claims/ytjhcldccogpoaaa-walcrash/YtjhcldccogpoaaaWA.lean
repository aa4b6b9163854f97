/- wal: tooLong, readable; a log as an object ('LK'); Open, Records, Add, Rewrite -/
import Derived.Test.YtjhcldccogpoaaaKA
import Derived.Test.YtjhcldccogpoaaaFN
namespace Go.Proofs.Ytjhcldccogpoaaa
open Go.RowKit

/-- a record that is too long -/
def longB (r : List UInt8) : Bool := decide (4000 < r.length)
/-- none of them is too long -/
def okL (ls : List (List UInt8)) : Bool := !ls.any longB
theorem okL_of {ls : List (List UInt8)} (h : ∀ r ∈ ls, r.length ≤ 4000) : okL ls = true := by
  simp only [okL, Bool.not_eq_true', List.any_eq_false, longB, decide_eq_true_eq]
  intro r hr
  have := h r hr
  omega
theorem okL_le {ls : List (List UInt8)} (h : okL ls = true) : ∀ r ∈ ls, r.length ≤ 4000 := by
  simp only [okL, Bool.not_eq_true', List.any_eq_false, longB, decide_eq_true_eq] at h
  intro r hr
  have := h r hr
  omega
theorem RdLLP.rd {A : Nat → Prop} {w : World} {ao : Option Addr} {n cap : Nat} {ls : List (List UInt8)} (h : RdLLP A w ao n cap ls) : RdLL w.heap.size w ao n cap ls := by
  obtain ⟨vs, h1, h2⟩ := h
  exact ⟨vs, h1.rd, h2.1, fun k v l hv hl => by obtain ⟨a, c, e, r⟩ := h2.2 k v l hv hl; exact ⟨a, c, e, r.rd⟩⟩

theorem tooLong_any (ao : Option Addr) (cap : Nat) (l : List UInt8) (w : World) :
    Calls Try.prog 44 #[.slice ao l.length cap] w fun e w' => e = .returned (.bool (longB l)) ∧ w' = w := by
  have H : Hid (decide (4000 < l.length) = longB l) := rfl
  go_enter Try.func44, Try.ntmps44
  go_wp2
  go_ret
  refine ⟨ret_bool ?_, rfl⟩
  rw [← H.out]
  simp; omega

theorem anyL_false_snoc {l : List (List UInt8)} {k : Nat} {x : List UInt8} (h : (l.take k).any longB = false) (hx : l[k]? = some x) (ho : longB x = false) : (l.take (k + 1)).any longB = false := by
  rw [List.take_add_one, hx]; simp [List.any_append, h, ho]
theorem anyL_true_of {l : List (List UInt8)} {k : Nat} {x : List UInt8} (hx : l[k]? = some x) (ho : longB x = true) : l.any longB = true :=
  List.any_eq_true.2 ⟨x, List.mem_of_getElem? hx, ho⟩

set_option maxHeartbeats 400000 in
theorem IndexL_any (ao : Option Addr) (n cap : Nat) (l : List (List UInt8)) (w : World) (h : RdLL w.heap.size w ao n cap l) :
    Calls Try.prog 52 #[.slice ao n cap, .func (.func 44) #[] #[]] w fun e w' => ∃ r : Int, e = .returned (.int .i64 r) ∧ decide (0 ≤ r) = l.any longB ∧ w' = w := by
  have hcm : n ≤ maxLen := Nat.le_trans h.caps.1 h.caps.2
  unfold maxLen at hcm
  have hll : l.length = n := h.len
  rcases Nat.eq_zero_or_pos n with rfl | hn
  · have hl : l = [] := List.eq_nil_of_length_eq_zero hll
    have HL : Hid (l.any longB = false) := by rw [hl]; rfl
    clear hl
    go_enter Try.func52, Try.ntmps52
    go_wp2
    refine wp_loop_rounds 1 ?_
    rw [rounds_succ]
    go_wp2
    go_ret
    exact ⟨-1, rfl, by rw [HL.out]; rfl, rfl⟩
  · obtain ⟨b, off, rfl, hbB, hcells⟩ := h.at hn
    have HC : Hid (∀ (k : Nat) (r : List UInt8), l[k]? = some r → ∃ (ao' : Option Addr) (cap' : Nat), w.cell? ⟨b, off + k, none⟩ = some (.slice ao' r.length cap') ∧ Rd w.heap.size w ao' r.length cap' (Bs r)) := hcells
    have HLL : Hid (l.length = n) := hll
    clear hcells hll h
    go_enter Try.func52, Try.ntmps52
    go_wp2
    go_loop [8] (fun i => ∃ k : Nat, k ≤ n ∧ i = .int .i64 k ∧ Hid ((l.take k).any longB = false)) (fun i => n - (intOf i).toNat)
    case atStart => exact ⟨0, Nat.zero_le _, rfl, by simp [Hid]⟩
    case round =>
      obtain ⟨k, hk, rfl, HK⟩ := hrel
      by_cases hlt : k < n
      · obtain ⟨x, hx⟩ : ∃ x, l[k]? = some x := ⟨l[k]'(by rw [HLL.out]; exact hlt), List.getElem?_eq_getElem _⟩
        obtain ⟨aox, cpx, hc, _⟩ := HC.out k x hx
        have HX : Hid (l[k]? = some x) := hx
        clear hx
        cases ho : longB x
        · have HO : Hid (longB x = false) := ho
          go_wp2_with (go_at_call 44; refine (tooLong_any _ _ _ _).mono ?_; rintro e w' ⟨rfl, rfl⟩)
          go_round
          case rel => exact ⟨k + 1, by omega, by go_num, anyL_false_snoc HK.out HX.out HO.out⟩
          case measure => simp [intOf]; omega
        · have HO : Hid (longB x = true) := ho
          go_wp2_with (go_at_call 44; refine (tooLong_any _ _ _ _).mono ?_; rintro e w' ⟨rfl, rfl⟩)
          go_ret
          exact ⟨k, rfl, by rw [anyL_true_of HX.out HO.out]; simp, rfl⟩
      · go_wp2
        go_ret
        have hkn : k = n := by omega
        have hf : l.any longB = false := by have := HK.out; rwa [hkn, List.take_of_length_le (by rw [HLL.out]; exact Nat.le_refl _)] at this
        exact ⟨-1, rfl, by rw [hf]; rfl, rfl⟩

theorem ContainsL_any (ao : Option Addr) (n cap : Nat) (l : List (List UInt8)) (w : World) (h : RdLL w.heap.size w ao n cap l) :
    Calls Try.prog 43 #[.slice ao n cap, .func (.func 44) #[] #[]] w fun e w' => e = .returned (.bool (l.any longB)) ∧ w' = w := by
  go_enter Try.func43, Try.ntmps43
  go_wp2_with (go_at_call 52; refine (IndexL_any _ _ _ _ _ h).mono ?_; rintro e w' ⟨r, rfl, hr, rfl⟩)
  go_ret
  exact ⟨rfl, rfl⟩

theorem readable_any (ao : Option Addr) (n cap : Nat) (l : List (List UInt8)) (w : World) (h : RdLL w.heap.size w ao n cap l) {b : Bool} (hb : okL l = b) :
    Calls Try.prog 33 #[.slice ao n cap] w fun e w' => e = .returned (.bool b) ∧ w' = w := by
  subst hb
  have H : Hid ((!l.any longB) = okL l) := rfl
  go_enter Try.func33, Try.ntmps33
  go_wp2_with (go_at_call 43; refine (ContainsL_any _ _ _ _ _ h).mono ?_; rintro e w' ⟨rfl, rfl⟩)
  go_ret
  exact ⟨ret_bool H.out, rfl⟩

/-- a log of the disk in block g lies in block lg -/
def LogAt (w : World) (lg g : Nat) : Prop := w.heap[lg]? = some (.cells #[.pointer (some ⟨g, 0, none⟩)] 39 (0, 0))
theorem LogAt.lt {w : World} {lg g : Nat} (h : LogAt w lg g) : lg < w.heap.size := (Array.getElem?_eq_some_iff.1 h).1
theorem LogAt.only {T : Nat → Prop} {w w' : World} {lg g : Nat} (h : LogAt w lg g) (ho : Only T w w') (hd : ¬ T lg) : LogAt w' lg g := (ho.block lg h.lt hd).trans h
theorem LogAt.cell {w : World} {lg g : Nat} (h : LogAt w lg g) : w.cell? ⟨lg, 0, none⟩ = some (.pointer (some ⟨g, 0, none⟩)) := by
  rw [cell_of_row w lg 0 _ _ (0, 0) h]; rfl
theorem LogAt.made (w : World) (g : Nat) : LogAt (w.alloc (.cells #[.pointer (some ⟨g, 0, none⟩)] 39)) w.heap.size g := heap_alloc_new w _

/-- a log and its disk, that takes blocks of N alone -/
def LK (N : Nat → Prop) (w : World) (lg g : Nat) (l : List UInt8) (s : Nat) : Prop := DK N w g l s ∧ LogAt w lg g ∧ ¬ N lg
section
variable {N : Nat → Prop} {w w' W : World} {lg g s : Nat} {l : List UInt8}
theorem LK.dk (h : LK N w lg g l s) : DK N w g l s := h.1
theorem LK.cell (h : LK N w lg g l s) : w.cell? ⟨lg, 0, none⟩ = some (.pointer (some ⟨g, 0, none⟩)) := h.2.1.cell
theorem LK.sizes (h : LK N w lg g l s) : s ≤ l.length ∧ l.length ≤ 65536 := h.1.sizes
theorem LK.below (h : LK N w lg g l s) (hb : Below w.heap.size w w') : LK N w' lg g l s := ⟨h.1.below hb, h.2.1.only (T := fun _ => False) (Only.of_below _ hb) id, h.2.2⟩
theorem LK.next {l' : List UInt8} {s' : Nat} (h : LK N w lg g l s) (hD : DK N w' g l' s') (ho : Only N w w') : LK N w' lg g l' s' := ⟨hD, h.2.1.only ho h.2.2, h.2.2⟩
theorem LK.shrink (h : LK N w lg g l s) (hb : Below w.heap.size w w') : LK (fun i => N i ∧ ¬ (w.heap.size ≤ i ∧ i < w'.heap.size)) w' lg g l s :=
  ⟨h.1.shrink hb, h.2.1.only (T := fun _ => False) (Only.of_below _ hb) id, fun x => h.2.2 x.1⟩
theorem LK.lt (h : LK N w lg g l s) : lg < w.heap.size := h.2.1.lt
end
end Go.Proofs.Ytjhcldccogpoaaa
