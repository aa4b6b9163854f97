/- Walks of the small functions: ends, outside, Pick, Num, May. -/
import Derived.Test.YtnmpagnibhaocaaProg
import Derived.Test.YtnmpagnibhaocaaBase
import Derived.BigQuiet
import Derived.Deep.QuietTactic
namespace Go.Proofs.Ytnmpagnibhaocaa
open Go.RowKit

theorem ret_int {k : IntKind} {a b : Int} (h : a = b) : Ending.returned (.int k a) = .returned (.int k b) := by rw [h]
theorem ret_bool {a b : Bool} (h : a = b) : Ending.returned (.bool a) = .returned (.bool b) := by rw [h]
theorem ret_slice {ao : Option Addr} {n m cap : Nat} (h : n = m) : Ending.returned (.slice ao n cap) = .returned (.slice ao m cap) := by rw [h]
theorem and128 (c : Nat) (h : c < 256) : (bits .and .u8 (c : Int) 128 == 0) = decide (c < 128) := by
  rw [show (128 : Int) = ((128 : Nat) : Int) from rfl, u8_and_nat c 128 h (by omega)]
  have : ∀ k : Fin 256, (((k.1 &&& 128 : Nat) : Int) == 0) = decide (k.1 < 128) := by decide +kernel
  exact this ⟨c, h⟩

def endB (c : UInt8) : Bool := decide (c.toNat < 128)

set_option maxHeartbeats 400000 in
theorem ends_any (c : UInt8) (w : World) :
    Calls Try.prog 37 #[.int .u8 c.toNat] w fun e w' => e = .returned (.bool (endB c)) ∧ w' = w := by
  have hc := UInt8.toNat_lt c
  go_enter Try.func37, Try.ntmps37
  go_wp2
  go_ret
  exact ⟨by rw [and128 _ hc]; rfl, rfl⟩

def outB (n : Int) : Bool := decide (n < 0) || decide (4611686018427387903 < n)
theorem outB_no {n : Int} (h0 : 0 ≤ n) (h1 : n ≤ 4611686018427387903) : outB n = false := by simp [outB]; omega
theorem outB_lo {n : Int} (h0 : n < 0) : outB n = true := by simp [outB]; omega
theorem outB_hi {n : Int} (h0 : 4611686018427387903 < n) : outB n = true := by simp [outB]; omega

set_option maxHeartbeats 400000 in
theorem outside_any (n : Int) (w : World) :
    Calls Try.prog 25 #[.int .i64 n] w fun e w' => e = .returned (.bool (outB n)) ∧ w' = w := by
  by_cases h0 : n < 0
  · have H : Hid (outB n = true) := outB_lo h0
    go_enter Try.func25, Try.ntmps25
    go_wp2
    go_ret
    exact ⟨ret_bool H.out.symm, rfl⟩
  · by_cases h1 : 4611686018427387903 < n
    · have H : Hid (outB n = true) := outB_hi h1
      go_enter Try.func25, Try.ntmps25
      go_wp2
      go_ret
      exact ⟨ret_bool H.out.symm, rfl⟩
    · have H : Hid (outB n = false) := outB_no (by omega) (by omega)
      go_enter Try.func25, Try.ntmps25
      go_wp2
      go_ret
      exact ⟨ret_bool H.out.symm, rfl⟩

def pick (n m : Int) : Int := n % m
set_option maxHeartbeats 400000 in
theorem Pick_any (n m : Int) (w : World) (h0 : 0 < m) (h1 : m ≤ 9223372036854775807) :
    Calls Try.prog 13 #[.int .i64 n, .int .i64 m] w fun e w' => e = .returned (.int .i64 (pick n m)) ∧ w' = w := by
  have hp : pick n m = if n.tmod m < 0 then n.tmod m + m else n.tmod m := by
    unfold pick
    have e1 := Int.tmod_eq_emod (a := n) (b := m)
    have g1 := Int.emod_nonneg n (show m ≠ 0 by omega)
    have g2 := Int.emod_lt_of_pos n h0
    split at e1 <;> split <;> omega
  have b1 : n.tmod m < m := Int.tmod_lt_of_pos n h0
  have b2 : -m < n.tmod m := Int.lt_tmod_of_pos n h0
  have H : Hid (pick n m = if n.tmod m < 0 then n.tmod m + m else n.tmod m) := hp
  clear hp
  go_enter Try.func13, Try.ntmps13
  go_wp2
  · go_ret
    have hlt : n.tmod m < 0 := by assumption
    exact ⟨ret_int (by rw [H.out, if_pos hlt]), rfl⟩
  · go_ret
    have hge : 0 ≤ n.tmod m := by assumption
    exact ⟨ret_int (by rw [H.out, if_neg (by omega)]), rfl⟩
theorem pick_lo (n m : Int) (h : 0 < m) : 0 ≤ pick n m := Int.emod_nonneg n (by omega)
theorem pick_hi (n m : Int) (h : 0 < m) : pick n m < m := Int.emod_lt_of_pos n h

theorem Try.info5 : (Try.prog.info? 5).map (fun i => (i.zero, i.size, i.bytes)) = some (some (.int .u8 0), 1, 1) := by kernel_rfl
theorem Try.info3 : (Try.prog.info? 3).map (fun i => (i.zero, i.size, i.bytes)) = some (some (.int .i64 0), 1, 8) := by kernel_rfl

/-- append onto a []byte of one's own -/
theorem appB {w : World} {ops : Array Oper} {rest : List Oper} {o : Oper} {a : Act} {Q : Exit → Act → World → Prop} (hgd : o.guard = none) (s x : Operand) (tx : TypeId)
    (ho : o.op = .call { callee := .builtin .append, args := #[s, x], argTypes := #[22, tx] })
    (base : Nat) (v : Value) (n : Nat) (xs : List Value) (hs : a.eval s = v) (hown : w.ownsRow base 5 1 v n xs)
    (xv : Value) (m : Nat) (news : List Value) (hx : a.eval x = xv) (hsrc : Src Try.prog 1 tx xv m news w)
    (hbytes : n + m ≤ 140737488355328) (hbase : base ≤ w.heap.size)
    (h : ∀ ao' cap' w', w'.ownsRow base 5 1 (.slice ao' (n + m) cap') (n + m) (xs ++ news) → w.grownBy w' v.ownBlock → Below base w w' →
      wpList Try.prog ops Q rest (a.put o.dst (.slice ao' (n + m) cap')) w') : wpList Try.prog ops Q (o :: rest) a w := by
  obtain ⟨i0, hi, hz0, hz1, hz2⟩ := info_parts Try.info5
  exact wpList_app hgd s x 22 tx ho base 5 i0 _ 1 Try.underlying22 hi hz0 hz1 hz2 (Nat.le_refl _) rfl v n xs hs hown xv m news hx hsrc (by omega) hbase h

/-- append onto a []int of one's own -/
theorem appI {w : World} {ops : Array Oper} {rest : List Oper} {o : Oper} {a : Act} {Q : Exit → Act → World → Prop} (hgd : o.guard = none) (s x : Operand) (tx : TypeId)
    (ho : o.op = .call { callee := .builtin .append, args := #[s, x], argTypes := #[43, tx] })
    (base : Nat) (v : Value) (n : Nat) (xs : List Value) (hs : a.eval s = v) (hown : w.ownsRow base 3 1 v n xs)
    (xv : Value) (m : Nat) (news : List Value) (hx : a.eval x = xv) (hsrc : Src Try.prog 1 tx xv m news w)
    (hbytes : (n + m) * 8 ≤ 140737488355328) (hbase : base ≤ w.heap.size)
    (h : ∀ ao' cap' w', w'.ownsRow base 3 1 (.slice ao' (n + m) cap') (n + m) (xs ++ news) → w.grownBy w' v.ownBlock → Below base w w' →
      wpList Try.prog ops Q rest (a.put o.dst (.slice ao' (n + m) cap')) w') : wpList Try.prog ops Q (o :: rest) a w := by
  obtain ⟨i0, hi, hz0, hz1, hz2⟩ := info_parts Try.info3
  exact wpList_app hgd s x 43 tx ho base 3 i0 _ 8 Try.underlying43 hi hz0 hz1 hz2 (by omega) rfl v n xs hs hown xv m news hx hsrc hbytes hbase h

/-- 's == nil' of a []byte -/
theorem isNilB (w : World) (a : Option Addr) (n c : Nat) : (binOp .eql 22 (.slice a n c) (.slice none 0 0)).run Try.prog w = .ok (.bool a.isNone) w := Lib.run_eql_slice_nil w _ _ a n c 0 0 Try.underlying22

/-- an empty row that was just built -/
theorem own_built (w : World) (e : TypeId) : (w.alloc (.cells #[] e)).ownsRow w.heap.size e 1 (.slice (some ⟨w.heap.size, 0, none⟩) 0 0) 0 [] :=
  World.ownsRow_made w #[] 0 (Nat.le_refl _) (Nat.zero_le _) rfl

set_option maxHeartbeats 400000 in
theorem Clone_any (ao : Option Addr) (n cap : Nat) (l : List UInt8) (w : World) (h : Rd w.heap.size w ao n cap (Bs l)) (hb : n ≤ 140737488355328) :
    Calls Try.prog 15 #[.slice ao n cap] w fun e w' => ∃ ao' cap', e = .returned (.slice ao' n cap') ∧ w'.ownsRow w.heap.size 5 1 (.slice ao' n cap') n (Bs l) ∧ Below w.heap.size w w' := by
  have q := isNilB
  cases ao with
  | none =>
    have hn : n = 0 := by have h1 := h.2.1; have h2 := h.2.2.2.1 rfl; omega
    have hl : Bs l = [] := List.eq_nil_of_length_eq_zero (by rw [h.1, hn])
    have HL : Hid (Bs l = []) := hl
    clear hl
    subst hn
    go_enter Try.func15, Try.ntmps15
    go_wp2
    go_ret
    exact ⟨none, 0, rfl, by rw [HL.out]; exact World.ownsRow_nil _ _ _ _, Below.refl _ _⟩
  | some a =>
    go_enter Try.func15, Try.ntmps15
    go_wp2_with (at_builtin; refine appB rfl _ _ _ rfl _ _ _ _ rfl (own_built w _) _ n (Bs l) rfl ?src (by omega) (by simp) ?_)
    case src => exact (h.later ((Below.refl _ _).alloc (Nat.le_refl _) _)).src Try.underlying22 (Bs_one l)
    intro ao' cap' w' hown _ hbel
    go_wp2
    go_ret
    exact ⟨ao', cap', rfl, hown, ((Below.refl _ _).alloc (Nat.le_refl _) _).trans hbel⟩
end Go.Proofs.Ytnmpagnibhaocaa
