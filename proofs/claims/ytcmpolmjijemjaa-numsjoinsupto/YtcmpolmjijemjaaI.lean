/- Takes -/
import Derived.Test.YtcmpolmjijemjaaF
namespace Go.Proofs.Ytcmpolmjijemjaa
open Go.RowKit

theorem takeS_ok {l : List UInt8} {x : Int} {sz : Nat} (h : firstS l = (x, sz, 0)) : takeS l = (x, l.drop sz, 0) := by simp [takeS, h]
theorem takeS_bad {l : List UInt8} {x er : Int} {sz : Nat} (h : firstS l = (x, sz, er)) (he : ¬ er = 0) : takeS l = (0, [], er) := by simp [takeS, h, he]

/-- what Takes answers, with some taken already -/
def takesA : List Int → Nat → List UInt8 → List Int × List UInt8 × Int
  | acc, 0, l => (acc, l, 0)
  | acc, c + 1, l => if (takeS l).2.2 = 0 then takesA (acc ++ [(takeS l).1]) c (takeS l).2.1 else ([], [], (takeS l).2.2)
/-- what Takes answers -/
def takesS (l : List UInt8) (count : Int) : List Int × List UInt8 × Int := takesA [] count.toNat l

theorem takesA_bad {acc : List Int} {c : Nat} {l : List UInt8} {x er : Int} {sz : Nat} (h : firstS l = (x, sz, er)) (he : ¬ er = 0) : takesA acc (c + 1) l = ([], [], er) := by
  rw [takesA, takeS_bad h he, if_neg he]
theorem takesA_ok {acc : List Int} {c : Nat} {l : List UInt8} {x : Int} {sz : Nat} (h : firstS l = (x, sz, 0)) : takesA acc (c + 1) l = takesA (acc ++ [x]) c (l.drop sz) := by
  rw [takesA, takeS_ok h, if_pos rfl]

set_option maxHeartbeats 1000000 in
theorem Takes_any (ao : Option Addr) (n cap : Nat) (b : List UInt8) (count : Int) (w : World) (h : Rd w.heap.size w ao n cap (Bs b)) (hb : n ≤ 17592186044416) :
    Calls Try.prog 10 #[.slice ao n cap, .int .i64 count] w fun e w' => ∃ ao1 c1 ao2 c2, e = .returned (.tuple #[.slice ao1 (takesS b count).1.length c1, .slice ao2 (takesS b count).2.1.length c2, .int .i64 (takesS b count).2.2]) ∧
      Rd w'.heap.size w' ao1 (takesS b count).1.length c1 (Is (takesS b count).1) ∧ Rd w'.heap.size w' ao2 (takesS b count).2.1.length c2 (Bs (takesS b count).2.1) ∧ Below w.heap.size w w' := by
  have hl : b.length = n := by rw [← Bs_length]; exact h.1
  subst hl
  obtain ⟨B, hB⟩ : ∃ B, B = w.heap.size := ⟨_, rfl⟩
  have HB : Hid (B = w.heap.size) := hB
  rw [← hB] at h ⊢
  have hBle : B ≤ w.heap.size := by omega
  clear hB
  generalize hT : takesS b count = T
  have HT : Hid (takesA [] count.toNat b = T) := hT
  clear hT
  go_enter Try.func10, Try.ntmps10
  go_wp2
  go_loopw [4, 7] (fun v at_ wr => ∃ (acc : List Int) (p : Nat) (ao' : Option Addr) (cp' : Nat), v = .slice ao' acc.length cp' ∧ wr.ownsRow B 3 1 v acc.length (Is acc) ∧ at_ = .int .i64 p ∧ p ≤ b.length ∧ acc.length ≤ p ∧
      Hid (takesA acc (count.toNat - acc.length) (b.drop p) = T) ∧ Below B w wr)
    (fun _ at_ _ => b.length - (intOf at_).toNat)
  case atStart => exact ⟨[], 0, none, 0, rfl, World.ownsRow_nil _ _ _ _, rfl, Nat.zero_le _, Nat.zero_le _, HT.out, Below.refl _ _⟩
  case round =>
    obtain ⟨acc, p, ao1, cp1, rfl, hown, rfl, hp, hap, HA, hbel⟩ := hrel
    have hsz := hbel.size
    have hR := (h.later hbel).from p hp
    rw [← Bs_drop] at hR
    have HL : Hid (b.length - p = (b.drop p).length) := by show _ = _; simp
    by_cases hcs : cap = p
    case' pos =>
      have hcs2 := hcs.symm
      clear hcs
      subst hcs2
      rw [if_pos rfl, Nat.sub_self] at hR
    case' neg =>
      rw [if_neg hcs] at hR
    all_goals
      have hR1 := hR.mono (show B ≤ wr.heap.size by omega)
      clear hR
      by_cases hlt : (acc.length : Int) < count
      · obtain ⟨c, hc⟩ : ∃ c, count.toNat - acc.length = c + 1 := ⟨count.toNat - acc.length - 1, by omega⟩
        have HC : Hid (count.toNat - acc.length = c + 1) := hc
        clear hc
        rcases firstS_cases (b.drop p) with hS | hS | ⟨x, sz, hS, g1, g2, g3, g4⟩
        · have HS : Hid (firstS (b.drop p) = (0, 0, 3)) := hS
          clear hS
          go_wp2_with (go_at_call 27; refine (first_eq _ _ _ _ _ hR1 HS.out).mono ?_; rintro e wr ⟨rfl, rfl⟩)
          go_ret3
          have hA := HA.out
          rw [HC.out, takesA_bad HS.out (by omega)] at hA
          rw [← hA]
          exact ⟨none, 0, none, 0, rfl, Rd.nil _ _, Rd.nil _ _, hbel⟩
        · have HS : Hid (firstS (b.drop p) = (0, 0, 2)) := hS
          clear hS
          go_wp2_with (go_at_call 27; refine (first_eq _ _ _ _ _ hR1 HS.out).mono ?_; rintro e wr ⟨rfl, rfl⟩)
          go_ret3
          have hA := HA.out
          rw [HC.out, takesA_bad HS.out (by omega)] at hA
          rw [← hA]
          exact ⟨none, 0, none, 0, rfl, Rd.nil _ _, Rd.nil _ _, hbel⟩
        · have HS : Hid (firstS (b.drop p) = ((x : Int), sz, 0)) := hS
          have g1' : sz ≤ b.length - p := by rw [HL.out]; exact g1
          clear hS g1
          go_wp2_with (first | (go_at_call 27; refine (first_eq _ _ _ _ _ hR1 HS.out).mono ?_; rintro e wr ⟨rfl, rfl⟩) | (at_builtin; refine appI rfl _ _ _ rfl _ _ _ _ rfl (hown.alloc _) _ 1 [_] rfl (src_one _ Try.underlying27 _ 3 rfl) (by omega) (by simp; omega) ?_))
          intro ao3 cp3 w3 hown3 hg3 hb3
          have HF : Hid (w3.ownsRow B 3 1 (.slice ao3 (acc.length + 1) cp3) (acc ++ [(x : Int)]).length (Is (acc ++ [(x : Int)]))) := by
            show World.ownsRow _ _ _ _ _ _ _
            rw [Is_append, List.length_append]
            exact hown3
          have hbel3 := (hbel.alloc (by omega) _).trans hb3
          have hA := HA.out
          rw [HC.out, takesA_ok HS.out, List.drop_drop] at hA
          have HA2 : Hid (takesA (acc ++ [(x : Int)]) (count.toNat - (acc ++ [(x : Int)]).length) (b.drop (p + sz)) = T) := by
            show _ = _
            rw [show count.toNat - (acc ++ [(x : Int)]).length = c from by have := HC.out; simp; omega]
            exact hA
          clear hown3 hg3 hb3 hA
          go_wp2
          go_roundw
          case rel => exact ⟨acc ++ [(x : Int)], p + sz, ao3, cp3, by simp, HF.out, by go_num, by omega, by simp; omega, HA2.out, hbel3⟩
          case measure => simp [intOf]; omega
      · have HC : Hid (count.toNat - acc.length = 0) := by show _ = _; omega
        go_wp2_with fail
        refine (Clone_any _ _ _ _ _ hR1 (by omega)).mono ?_
        rintro e w1 ⟨ao2, cp2, rfl, hown2, hbel2⟩
        have hR2 := ownsRow.rd hown2
        have hR3 := (ownsRow.rd hown).later hbel2
        go_wp2
        go_ret3
        have hA := HA.out
        rw [HC.out, takesA] at hA
        rw [← hA]
        refine ⟨ao1, cp1, ao2, cp2, ?_, hR3.mono hbel2.size, ?_, hbel.trans (hbel2.mono (by omega))⟩
        · rw [← HL.out]; rfl
        · rw [← HL.out]; exact hR2
end Go.Proofs.Ytcmpolmjijemjaa
