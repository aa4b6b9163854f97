/- a byte that is turned; FrameKnown -/
import Derived.Test.YtnmpagnibhaocaaFE
namespace Go.Proofs.Ytnmpagnibhaocaa
open Go.RowKit

theorem xor_ne {x y : UInt8} (h : ¬ y = 0) : ¬ x ^^^ y = x := by
  intro e
  apply h
  have : x ^^^ (x ^^^ y) = x ^^^ x := by rw [e]
  rwa [← UInt8.xor_assoc, UInt8.xor_self, UInt8.zero_xor] at this
theorem u8_xor (x y : UInt8) : bits .xor .u8 (x.toNat : Int) (y.toNat : Int) = ((x ^^^ y).toNat : Int) := by
  have hx := UInt8.toNat_lt x
  have hy := UInt8.toNat_lt y
  rw [UInt8.toNat_xor]
  have key : (BitVec.ofInt 8 x.toNat ^^^ BitVec.ofInt 8 y.toNat).toNat = (x.toNat ^^^ y.toNat) := by
    rw [BitVec.toNat_xor, BitVec.toNat_ofInt, BitVec.toNat_ofInt]
    congr 1 <;> omega
  show IntKind.u8.wrap ((BitVec.ofInt 8 x.toNat ^^^ BitVec.ofInt 8 y.toNat).toNat : Nat) = _
  have hlt : (x.toNat ^^^ y.toNat) < 2 ^ 8 := Nat.xor_lt_two_pow (by omega) (by omega)
  rw [key, IntKind.wrap_u8]
  omega
theorem Bs_set (l : List UInt8) (k : Nat) (x : UInt8) : (Bs l).set k (.int .u8 (x.toNat : Int)) = Bs (l.set k x) := by
  simp [Bs, List.map_set]

/-- a record, a byte of which, or of its sum, was turned, is not read -/
theorem turned_none (r tail : List UInt8) (hr : r.length ≤ 4000) (k : Nat) (hk : k < 8 + r.length) (x y : UInt8) (hx : (frameF sum8 r ++ tail)[(enc r.length).length + k]? = some x) (hy : ¬ y = 0) :
    recF sum8 ((frameF sum8 r ++ tail).set ((enc r.length).length + k) (x ^^^ y)) = none := by
  have e : frameF sum8 r ++ tail = enc r.length ++ (sum8 r ++ (r ++ tail)) := by simp [frameF]
  have h8 := sum8_length r
  rw [e] at hx ⊢
  rw [List.set_append_right _ _ (by omega), Nat.add_sub_cancel_left]
  rw [List.getElem?_append_right (by omega), Nat.add_sub_cancel_left] at hx
  by_cases h : k < 8
  · rw [List.set_append_left _ _ (by omega)]
    rw [List.getElem?_append_left (by omega)] at hx
    refine recF_turned sum8 r.length _ r tail (by simp [h8]) rfl hr ?_
    intro e2
    have := congrArg (fun l : List UInt8 => l[k]?) e2
    simp only [List.getElem?_set_self' , hx] at this
    simp at this
    exact xor_ne hy this
  · rw [List.set_append_right _ _ (by omega), List.set_append_left _ _ (by omega), h8]
    rw [List.getElem?_append_right (by omega), List.getElem?_append_left (by omega), h8] at hx
    refine recF_turned sum8 r.length (sum8 r) (r.set (k - 8) (x ^^^ y)) tail h8 (by simp) hr ?_
    intro e2
    have hl : k - 8 < r.length := by omega
    have hg : r[k - 8] = x := by rw [List.getElem?_eq_getElem hl] at hx; exact Option.some.inj hx
    have e3 : r = r.take (k - 8) ++ x :: r.drop (k - 8 + 1) := by
      rw [← hg, ← List.drop_eq_getElem_cons hl, List.take_append_drop]
    have e4 : r.set (k - 8) (x ^^^ y) = r.take (k - 8) ++ (x ^^^ y) :: r.drop (k - 8 + 1) := List.set_eq_take_append_cons_drop .. |>.trans (by rw [if_pos hl])
    rw [e4] at e2
    have e5 : sum8 (r.take (k - 8) ++ x :: r.drop (k - 8 + 1)) = sum8 (r.take (k - 8) ++ (x ^^^ y) :: r.drop (k - 8 + 1)) := by rw [← e3]; exact e2
    exact xor_ne hy (sum8_apart e5).symm
end Go.Proofs.Ytnmpagnibhaocaa
