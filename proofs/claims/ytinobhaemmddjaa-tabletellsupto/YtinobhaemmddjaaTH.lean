/- known, same. -/
import Derived.Test.YtinobhaemmddjaaTG
namespace Go.Proofs.Ytinobhaemmddjaa
open Go.RowKit

theorem Do_eq (g : Nat) (l : List Pr) (kind : Int) (key v old : ByteArray) (w : World) (h : TabAt w g l) (l' : List Pr) (a : Int) (y : ByteArray) (hd : doS l kind key v old = (l', a, y)) :
    Calls Try.prog 9 #[.pointer (some ⟨g, 0, none⟩), .agg #[.int .i64 kind, .string key, .string v, .string old]] w fun e w' =>
      e = .returned (.agg #[.int .i64 a, .string y]) ∧ TabAt w' g l' ∧ Only (fun k => k = g) w w' := by
  have := Do_any g l kind key v old w h
  rw [hd] at this
  exact this
theorem known1 : doS [] 2 ⟨#[97]⟩ ⟨#[49]⟩ ⟨#[]⟩ = ([(⟨#[97]⟩, ⟨#[49]⟩)], 0, ⟨#[]⟩) := by kernel_rfl
theorem known2 : doS [(⟨#[97]⟩, ⟨#[49]⟩)] 4 ⟨#[97]⟩ ⟨#[50]⟩ ⟨#[51]⟩ = ([(⟨#[97]⟩, ⟨#[49]⟩)], 6, ⟨#[49]⟩) := by kernel_rfl
def ansO (a : Int) (y : ByteArray) : Obj := .cells #[.int .i64 a, .string y] 30
/-- an answer in block g -/
def AnsAt (w : World) (g : Nat) (a : Int) (y : ByteArray) : Prop := w.heap[g]? = some (.cells #[.int .i64 a, .string y] 30 (0, 0))
theorem AnsAt.cells {w : World} {g : Nat} {a : Int} {y : ByteArray} (h : AnsAt w g a y) : w.cell? ⟨g, 0, none⟩ = some (.int .i64 a) ∧ w.cell? ⟨g, 1, none⟩ = some (.string y) := by
  rw [cell_of_row w _ 0 _ _ (0, 0) h, cell_of_row w _ 1 _ _ (0, 0) h]
  exact ⟨rfl, rfl⟩
theorem AnsAt.only {w w' : World} {g b : Nat} {a : Int} {y : ByteArray} (h : AnsAt w g a y) (o : Only (fun k => k = b) w w') (hb : b ≠ g) : AnsAt w' g a y :=
  (o.block g (Array.getElem?_eq_some_iff.1 h).1 (fun e => hb e.symm)).trans h
theorem AnsAt.below {w w' : World} {g : Nat} {a : Int} {y : ByteArray} (h : AnsAt w g a y) (o : Below w.heap.size w w') : AnsAt w' g a y :=
  (o.block g (Array.getElem?_eq_some_iff.1 h).1).trans h
set_option maxHeartbeats 2000000 in
theorem known_any (w : World) : Calls Try.prog 11 #[] w fun e w' => e = .returned (.bool true) ∧ Below w.heap.size w w' := by
  have HT : Hid (TabAt (w.alloc zeroT) w.heap.size []) := TabAt.zero (alloc_new w _)
  go_enter Try.func11, Try.ntmps11
  go_wp2_with fail
  refine (Do_eq w.heap.size [] 2 _ _ _ _ HT.out _ _ _ known1).mono ?_
  rintro e w2 ⟨rfl, hT, hO⟩
  have T2 : Hid (TabAt w2 w.heap.size _) := hT
  have O2 : Hid (Only _ _ w2) := hO
  have hz2 : w.heap.size < w2.heap.size := hT.lt
  have A2 : Hid (AnsAt (w2.alloc (.cells #[.int .i64 0, .string ⟨#[]⟩] 30)) w2.heap.size 0 ⟨#[]⟩) := alloc_new w2 _
  clear hT hO
  go_wp2_with fail
  refine (Do_eq w.heap.size _ 4 _ _ _ _ (T2.out.below (bel_al w2 _)) _ _ _ known2).mono ?_
  rintro e w3 ⟨rfl, hT, hO⟩
  have T3 : Hid (TabAt w3 w.heap.size _) := hT
  have O3 : Hid (Only _ _ w3) := hO
  have hz3 : w2.heap.size < w3.heap.size := by have := hO.size; have e : (w2.alloc (.cells #[.int .i64 0, .string ⟨#[]⟩] 30)).heap.size = w2.heap.size + 1 := (by show (w2.heap.push _).size = _; simp); omega
  have A3 : Hid (AnsAt w3 w2.heap.size 0 ⟨#[]⟩) := A2.out.only hO (by omega)
  obtain ⟨q1, q2⟩ := A3.out.cells
  clear hT hO
  go_wp2_with (go_at_call 13; refine (Len_any w.heap.size _ _ (T3.out.below (bel_al w3 _))).mono ?_; rintro e w4 ⟨rfl, rfl⟩)
  go_ret
  refine ⟨rfl, ?_⟩
  have h1 : Only (fun k => k = w.heap.size) w _ := (((Only.of_alloc _ w _).trans O2.out).trans (Only.of_alloc _ w2 _)).trans O3.out
  exact (h1.trans (Only.of_alloc _ w3 _)).below (fun i e => by omega) (Nat.le_refl _)
set_option maxHeartbeats 2000000 in
theorem same_any (ao : Option Addr) (n cap : Nat) (ao2 : Option Addr) (n2 cap2 : Nat) (l l2 : List Pr) (w : World) (hn : l.length = n) (hn2 : l2.length = n2) (h : PrR w ao cap l) (h2 : PrR w ao2 cap2 l2) (he : l = l2) :
    Calls Try.prog 21 #[.slice ao n cap, .slice ao2 n2 cap2] w fun e w' => e = .returned (.bool true) ∧ Below w.heap.size w w' := by
  subst he hn hn2
  have hcm : l.length ≤ maxLen := Nat.le_trans h.1 h.2.1
  unfold maxLen at hcm
  have HA : Hid (PrR w ao cap l) := h
  have HB : Hid (PrR w ao2 cap2 l) := h2
  clear h h2
  go_enter Try.func21, Try.ntmps21
  go_wp2
  go_loopw [13] (fun i wr => ∃ j : Nat, j ≤ l.length ∧ i = .int .i64 j ∧ Below w.heap.size w wr) (fun i _ => l.length - (intOf i).toNat)
  case atStart => exact ⟨0, Nat.zero_le _, rfl, Below.refl _ _⟩
  case round =>
    obtain ⟨j, hj, rfl, hbel⟩ := hrel
    by_cases hlt : j < l.length
    · obtain ⟨b1, o1, rfl, hb1, hc1⟩ := HA.out.2.2 (by omega)
      obtain ⟨b2, o2, rfl, hb2, hc2⟩ := HB.out.2.2 (by omega)
      obtain ⟨ha1, ha2⟩ := hc1.below hbel hb1 j hlt
      obtain ⟨ha3, ha4⟩ := hc2.below hbel hb2 j hlt
      obtain ⟨pk, hpk⟩ : ∃ pk, l[j].1 = pk := ⟨_, rfl⟩
      obtain ⟨pv, hpv⟩ : ∃ pv, l[j].2 = pv := ⟨_, rfl⟩
      rw [hpk] at ha1 ha3
      rw [hpv] at ha2 ha4
      have hbel2 : Below w.heap.size w wr.drew := hbel.drew
      have hm1 : (j : Int) < (l.length : Int) := by omega
      clear hc1 hc2 hpk hpv
      go_wp2_with fail
      go_region
      all_goals
        go_wp2
        go_roundw
        case rel => exact ⟨j + 1, by omega, by go_num, hbel2⟩
        case measure => simp [intOf]; omega
    · go_wp2
      go_ret
      exact ⟨rfl, hbel⟩
end Go.Proofs.Ytinobhaemmddjaa
