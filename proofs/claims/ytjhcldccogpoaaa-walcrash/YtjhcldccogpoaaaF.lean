/- Take, Takes -/
import Derived.Test.YtjhcldccogpoaaaE
namespace Go.Proofs.Ytjhcldccogpoaaa
open Go.RowKit

theorem first_eq (ao : Option Addr) (n cap : Nat) (l : List UInt8) (w : World) (h : Rd w.heap.size w ao n cap (Bs l)) {x er : Int} {sz : Nat} (hS : firstS l = (x, sz, er)) :
    Calls Try.prog 58 #[.slice ao n cap] w fun e w' => e = .returned (.tuple #[.int .i64 x, .int .i64 sz, .int .i64 er]) ∧ w' = w := by
  have := first_any ao n cap l w h
  rw [hS] at this
  exact this

theorem firstS_cases (l : List UInt8) : firstS l = (0, 0, 3) ∨ firstS l = (0, 0, 2) ∨ ∃ x sz : Nat, firstS l = ((x : Int), sz, 0) ∧ sz ≤ l.length ∧ 0 < sz ∧ sz ≤ 9 ∧ x ≤ 4611686018427387903 := by
  cases hf : l.findIdx? endB with
  | none => exact .inl (firstS_none hf)
  | some i =>
    obtain ⟨hi, hc, _⟩ := List.findIdx?_eq_some_iff_getElem.1 hf
    by_cases h9 : 9 ≤ i
    · exact .inr (.inl (firstS_long hf h9))
    · by_cases hz : 0 < i ∧ l[i]? = some 0
      · exact .inr (.inl (firstS_zero hf h9 hz.1 hz.2))
      · by_cases hv : 4611686018427387903 < val (l.take (i + 1))
        · exact .inr (.inl (firstS_big hf h9 hz hv))
        · exact .inr (.inr ⟨_, _, firstS_ok hf h9 hz hv, by omega, by omega, by omega, by omega⟩)

/-- what Take answers -/
def takeS (l : List UInt8) : Int × List UInt8 × Int := if (firstS l).2.2 = 0 then ((firstS l).1, l.drop (firstS l).2.1, 0) else (0, [], (firstS l).2.2)

theorem takeS_ok {l : List UInt8} {x : Int} {sz : Nat} (h : firstS l = (x, sz, 0)) : takeS l = (x, l.drop sz, 0) := by simp [takeS, h]
theorem takeS_bad {l : List UInt8} {x er : Int} {sz : Nat} (h : firstS l = (x, sz, er)) (he : ¬ er = 0) : takeS l = (0, [], er) := by simp [takeS, h, he]

set_option maxHeartbeats 400000 in
theorem Take_any (ao : Option Addr) (n cap : Nat) (l : List UInt8) (w : World) (h : Rd w.heap.size w ao n cap (Bs l)) (hb : n ≤ 140737488355328) :
    Calls Try.prog 50 #[.slice ao n cap] w fun e w' => ∃ ao' cap', e = .returned (.tuple #[.int .i64 (takeS l).1, .slice ao' (takeS l).2.1.length cap', .int .i64 (takeS l).2.2]) ∧
      Rd w'.heap.size w' ao' (takeS l).2.1.length cap' (Bs (takeS l).2.1) ∧ Below w.heap.size w w' := by
  have hl : l.length = n := by rw [← Bs_length]; exact h.1
  subst hl
  have hcm : l.length ≤ maxLen := Nat.le_trans h.2.1 h.2.2.1
  unfold maxLen at hcm
  have bad : ∀ er : Int, (er == 0) = false → (er != 0) = true → firstS l = (0, 0, er) → Calls Try.prog 50 #[.slice ao l.length cap] w fun e w' => ∃ ao' cap', e = .returned (.tuple #[.int .i64 (takeS l).1, .slice ao' (takeS l).2.1.length cap', .int .i64 (takeS l).2.2]) ∧
      Rd w'.heap.size w' ao' (takeS l).2.1.length cap' (Bs (takeS l).2.1) ∧ Below w.heap.size w w' := by
    intro er he he' hS
    have HT : Hid (takeS l = (0, [], er)) := by
      show _ = _
      have : ¬ er = 0 := by simpa using he
      simp [takeS, hS, this]
    have HS : Hid (firstS l = (0, 0, er)) := hS
    clear hS
    go_enter Try.func50, Try.ntmps50
    go_wp2_with (go_at_call 58; refine (first_eq _ _ _ _ _ h HS.out).mono ?_; rintro e w ⟨rfl, rfl⟩)
    go_ret3
    rw [HT.out]
    exact ⟨none, 0, rfl, Rd.nil _ _, Below.refl _ _⟩
  rcases firstS_cases l with hS | hS | ⟨x, sz, hS, h1, h2, h3, h4⟩
  · exact bad 3 rfl rfl hS
  · exact bad 2 rfl rfl hS
  · have HT : Hid (takeS l = ((x : Int), l.drop sz, 0)) := by
      show _ = _
      simp [takeS, hS]
    have HS : Hid (firstS l = ((x : Int), sz, 0)) := hS
    have hR := h.from sz h1
    rw [← Bs_drop] at hR
    clear hS bad
    have HL : Hid (l.length - sz = (l.drop sz).length) := by show _ = _; simp
    by_cases hcs : cap = sz
    case' pos =>
      subst hcs
      rw [if_pos rfl, Nat.sub_self] at hR
    case' neg =>
      rw [if_neg hcs] at hR
    all_goals
      go_enter Try.func50, Try.ntmps50
      go_wp2_with (go_at_call 58; refine (first_eq _ _ _ _ _ h HS.out).mono ?_; rintro e w ⟨rfl, rfl⟩)
      refine (Clone_any _ _ _ _ _ hR (by omega)).mono ?_
      rintro e w1 ⟨ao1, cp1, rfl, hown, hbel⟩
      have hR1 := ownsRow.rd hown
      clear hown
      go_wp2
      go_ret3
      rw [HT.out]
      refine ⟨ao1, cp1, ?_, ?_, hbel⟩
      · rw [← HL.out]; rfl
      · rw [← HL.out]; exact hR1
end Go.Proofs.Ytjhcldccogpoaaa
