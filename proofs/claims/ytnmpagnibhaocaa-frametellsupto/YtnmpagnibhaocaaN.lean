/- What was put is taken again: plain mathematics of the bytes; the calls with their answers given -/
import Derived.Test.YtnmpagnibhaocaaG
namespace Go.Proofs.Ytnmpagnibhaocaa
open Go.RowKit

theorem endB_lo {n : Nat} (h : n < 128) : endB (UInt8.ofNat n) = true := by simp [endB]; omega
theorem endB_hi {n : Nat} (h : n < 128) : endB (UInt8.ofNat (n + 128)) = false := by simp [endB]; omega

/-- the first byte that ends is the number's last -/
theorem find_enc (x : Nat) : ∀ r, (enc x ++ r).findIdx? endB = some ((enc x).length - 1) := by
  induction x using Nat.strongRecOn with
  | ind x ih =>
    intro r
    by_cases hx : x < 128
    · rw [enc_small hx]
      simp [List.findIdx?_cons, endB_lo hx]
    · rw [enc_large (by omega), List.cons_append, List.findIdx?_cons, endB_hi (Nat.mod_lt _ (by omega)), ih (x / 128) (by omega) r]
      have := enc_pos (x / 128)
      simp
      omega
theorem val_enc (x : Nat) : val (enc x) = x := by
  induction x using Nat.strongRecOn with
  | ind x ih =>
    by_cases hx : x < 128
    · rw [enc_small hx]; simp [val]; omega
    · rw [enc_large (by omega), val, ih (x / 128) (by omega)]
      simp
      omega
/-- the last byte is 0 of 0 alone -/
theorem last_enc (x : Nat) (h : 0 < x) : ∀ r, (enc x ++ r)[(enc x).length - 1]? ≠ some 0 := by
  induction x using Nat.strongRecOn with
  | ind x ih =>
    intro r
    by_cases hx : x < 128
    · rw [enc_small hx]
      simp
      intro e
      have := congrArg UInt8.toNat e
      simp at this
      omega
    · rw [enc_large (by omega), List.cons_append, List.length_cons, Nat.add_sub_cancel]
      have hp := enc_pos (x / 128)
      rw [show (enc (x / 128)).length = ((enc (x / 128)).length - 1) + 1 from by omega, List.getElem?_cons_succ]
      exact ih (x / 128) (by omega) (by omega) r

theorem first_enc (x : Nat) (hx : x ≤ 4611686018427387903) (r : List UInt8) : firstS (enc x ++ r) = ((x : Int), (enc x).length, 0) := by
  have hf := find_enc x r
  have hp := enc_pos x
  have hl := enc_le 9 x (by omega) (by omega)
  have hi : ¬ 9 ≤ (enc x).length - 1 := by omega
  have ht : (enc x ++ r).take ((enc x).length - 1 + 1) = enc x := by
    rw [show (enc x).length - 1 + 1 = (enc x).length from by omega, List.take_left]
  have hz : ¬ (0 < (enc x).length - 1 ∧ (enc x ++ r)[(enc x).length - 1]? = some 0) := by
    rintro ⟨h1, h2⟩
    rcases Nat.eq_zero_or_pos x with rfl | h0
    · rw [enc_small (by omega)] at h1; simp at h1
    · exact last_enc x h0 r h2
  rw [firstS_ok hf hi hz (by rw [ht, val_enc]; omega), ht, val_enc, show (enc x).length - 1 + 1 = (enc x).length from by omega]
theorem take_enc (x : Nat) (hx : x ≤ 4611686018427387903) (r : List UInt8) : takeS (enc x ++ r) = ((x : Int), r, 0) := by
  rw [takeS_ok (first_enc x hx r), List.drop_left]
/-- steps of worlds: a new block, then a call · a call -/
theorem bel_new {w wi w2 : World} {o : Obj} (h : Below w.heap.size w wi) (hb : Below (wi.alloc o).heap.size (wi.alloc o) w2) : Below w.heap.size w w2 :=
  (h.alloc h.size o).trans (hb.mono (by have := h.size; simp; omega))
theorem bel_call {w wi w2 : World} (h : Below w.heap.size w wi) (hb : Below wi.heap.size wi w2) : Below w.heap.size w w2 := h.trans (hb.mono h.size)
theorem rd_new {wi w2 : World} {o : Obj} {ao : Option Addr} {n cap : Nat} {xs : List Value} (h : Rd wi.heap.size wi ao n cap xs) (hb : Below (wi.alloc o).heap.size (wi.alloc o) w2) : Rd w2.heap.size w2 ao n cap xs :=
  (h.later (((Below.refl wi.heap.size wi).alloc (Nat.le_refl _) o).trans (hb.mono (by simp)))).mono (by have := hb.size; simp at this; omega)
theorem rd_call {wi w2 : World} {ao : Option Addr} {n cap : Nat} {xs : List Value} (h : Rd wi.heap.size wi ao n cap xs) (hb : Below wi.heap.size wi w2) : Rd w2.heap.size w2 ao n cap xs :=
  (h.later hb).mono hb.size
theorem rd_alloc {wi : World} {o : Obj} {ao : Option Addr} {n cap : Nat} {xs : List Value} (h : Rd wi.heap.size wi ao n cap xs) : Rd (wi.alloc o).heap.size (wi.alloc o) ao n cap xs :=
  (h.later ((Below.refl wi.heap.size wi).alloc (Nat.le_refl _) o)).mono (by simp)

/-- what was made by a call stays, where a row that was there before it is written -/
theorem own_kept {w w1 : World} {o : Obj} {e : TypeId} {u : Value} {n b : Nat} {xs : List Value} {row : Option Nat} (h : w.ownsRow b e 1 u n xs) (hg : (w.alloc o).grownBy w1 row) (hrow : row = none ∨ ∃ k, row = some k ∧ k < b) : w1.ownsRow b e 1 u n xs := by
  refine (h.alloc o).kept hg ?_
  rcases hrow with rfl | ⟨k, rfl, hk⟩
  · cases hv : u.ownBlock with
    | none => exact .inl rfl
    | some z => exact .inr (by simp)
  · right
    intro hv
    have := (h.lt k hv).1
    omega
theorem own_block {w : World} {e : TypeId} {v : Value} {n b : Nat} {xs : List Value} (h : w.ownsRow b e 1 v n xs) : v.ownBlock = none ∨ ∃ k, v.ownBlock = some k ∧ k < w.heap.size := by
  cases hv : v.ownBlock with
  | none => exact .inl rfl
  | some k => exact .inr ⟨k, rfl, (h.lt k hv).2⟩
/-- what is owned stays, where nothing that was there is written -/
theorem own_below {w w' : World} {e : TypeId} {v : Value} {n b : Nat} {xs : List Value} (h : w.ownsRow b e 1 v n xs) (hb : Below w.heap.size w w') : w'.ownsRow b e 1 v n xs := by
  refine h.kept (row := none) ⟨hb.os, hb.tape, hb.output, hb.size, fun j hj _ => hb.block j hj⟩ ?_
  cases hv : v.ownBlock with
  | none => exact .inl rfl
  | some z => exact .inr (by simp)

theorem Take_eq (ao : Option Addr) (n cap : Nat) (l : List UInt8) (w : World) (h : Rd w.heap.size w ao n cap (Bs l)) (hb : n ≤ 140737488355328) {x er : Int} {r : List UInt8} (hS : takeS l = (x, r, er)) :
    Calls Try.prog 28 #[.slice ao n cap] w fun e w' => ∃ ao' cap', e = .returned (.tuple #[.int .i64 x, .slice ao' r.length cap', .int .i64 er]) ∧
      Rd w'.heap.size w' ao' r.length cap' (Bs r) ∧ Below w.heap.size w w' := by
  have := Take_any ao n cap l w h hb
  rw [hS] at this
  exact this
theorem Put_eq (ao : Option Addr) (n cap : Nat) (l : List UInt8) (ao2 : Option Addr) (n2 cap2 : Nat) (ns : List Int) (w : World)
    (h : Rd w.heap.size w ao n cap (Bs l)) (h2 : Rd w.heap.size w ao2 n2 cap2 (Is ns)) (hb : n + 9 * n2 ≤ 140737488355328) {r : List UInt8} (hS : putS l ns = r) :
    Calls Try.prog 16 #[.slice ao n cap, .slice ao2 n2 cap2] w fun e w' => ∃ ao' cap', e = .returned (.slice ao' r.length cap') ∧
      Rd w'.heap.size w' ao' r.length cap' (Bs r) ∧ Below w.heap.size w w' := by
  have := Put_any ao n cap l ao2 n2 cap2 ns w h h2 hb
  rw [hS] at this
  refine this.mono ?_
  rintro e w' ⟨ao', cap', he, h1, h2⟩
  exact ⟨ao', cap', he, ownsRow.rd h1, h2⟩
end Go.Proofs.Ytnmpagnibhaocaa
