/- TakeText -/
import Derived.Test.YtcmpolmjijemjaaG
import Derived.Deep.RegionWith
namespace Go.Proofs.Ytcmpolmjijemjaa
open Go.RowKit

/-- what TakeText answers -/
def takeTextS (l : List UInt8) : List UInt8 × List UInt8 × Int :=
  if (firstS l).2.2 = 0 then
    if (l.drop (firstS l).2.1).length < (firstS l).1.toNat then ([], [], 3) else ((l.drop (firstS l).2.1).take (firstS l).1.toNat, (l.drop (firstS l).2.1).drop (firstS l).1.toNat, 0)
  else ([], [], (firstS l).2.2)
theorem takeTextS_bad {l : List UInt8} {x er : Int} {sz : Nat} (h : firstS l = (x, sz, er)) (he : ¬ er = 0) : takeTextS l = ([], [], er) := by simp [takeTextS, h, he]
theorem takeTextS_short {l : List UInt8} {x sz : Nat} (h : firstS l = ((x : Int), sz, 0)) (hx : (l.drop sz).length < x) : takeTextS l = ([], [], 3) := by
  simp only [takeTextS, h, Int.toNat_natCast]; rw [if_pos trivial, if_pos hx]
theorem takeTextS_ok {l : List UInt8} {x sz : Nat} (h : firstS l = ((x : Int), sz, 0)) (hx : ¬ (l.drop sz).length < x) : takeTextS l = ((l.drop sz).take x, (l.drop sz).drop x, 0) := by
  simp only [takeTextS, h, Int.toNat_natCast]; rw [if_pos trivial, if_neg hx]

/-- what is told of TakeText's answer -/
def TTpost (T : List UInt8 × List UInt8 × Int) (w : World) (e : Ending) (w' : World) : Prop :=
  ∃ ao' cap', e = .returned (.tuple #[.string (str T.1), .slice ao' T.2.1.length cap', .int .i64 T.2.2]) ∧ Rd w'.heap.size w' ao' T.2.1.length cap' (Bs T.2.1) ∧ Below w.heap.size w w'

theorem below_undrew {B : Nat} {w w' : World} (h : Below B w.drew w') : Below B w w' := ⟨h.os, h.tape, h.output, h.size, h.block⟩

set_option maxHeartbeats 1000000 in
theorem TakeText_any (ao : Option Addr) (n cap : Nat) (l : List UInt8) (w : World) (h : Rd w.heap.size w ao n cap (Bs l)) (hb : n ≤ 140737488355328) :
    Calls Try.prog 12 #[.slice ao n cap] w (TTpost (takeTextS l) w) := by
  have hl : l.length = n := by rw [← Bs_length]; exact h.1
  subst hl
  have bad : ∀ er : Int, (er == 0) = false → (er != 0) = true → firstS l = (0, 0, er) → Calls Try.prog 12 #[.slice ao l.length cap] w (TTpost (takeTextS l) w) := by
    intro er he he' hS
    have HT : Hid (takeTextS l = ([], [], er)) := takeTextS_bad hS (by simpa using he)
    have HS : Hid (firstS l = (0, 0, er)) := hS
    clear hS
    go_enter Try.func12, Try.ntmps12
    go_wp2_with (go_at_call 27; refine (first_eq _ _ _ _ _ h HS.out).mono ?_; rintro e w ⟨rfl, rfl⟩)
    go_ret3
    rw [HT.out]
    exact ⟨none, 0, rfl, Rd.nil _ _, Below.refl _ _⟩
  rcases firstS_cases l with hS | hS | ⟨x, sz, hS, h1, h2, h3, h4⟩
  · exact bad 3 rfl rfl hS
  · exact bad 2 rfl rfl hS
  · have HS : Hid (firstS l = ((x : Int), sz, 0)) := hS
    have hR := h.from sz h1
    rw [← Bs_drop] at hR
    have HL : Hid (l.length - sz = (l.drop sz).length) := by show _ = _; simp
    clear bad
    have hcap := h.2.1
    by_cases hlong : l.length - sz < x
    · have HT : Hid (takeTextS l = ([], [], 3)) := takeTextS_short hS (by rw [← HL.out]; exact hlong)
      clear hS
      by_cases hcs : cap = sz
      case' pos =>
        have hcs2 := hcs.symm
        clear hcs
        subst hcs2
      all_goals
        go_enter Try.func12, Try.ntmps12
        go_wp2_with (go_at_call 27; refine (first_eq _ _ _ _ _ h HS.out).mono ?_; rintro e w ⟨rfl, rfl⟩)
        go_ret3
        rw [HT.out]
        exact ⟨none, 0, rfl, Rd.nil _ _, Below.refl _ _⟩
    · have HT : Hid (takeTextS l = ((l.drop sz).take x, (l.drop sz).drop x, 0)) := takeTextS_ok hS (by rw [← HL.out]; exact hlong)
      have HL2 : Hid (l.length - sz - x = ((l.drop sz).drop x).length) := by show _ = _; rw [List.length_drop, ← HL.out]
      clear hS
      by_cases hcs : cap = sz
      · have hcs2 := hcs.symm
        clear hcs
        subst hcs2
        rw [if_pos rfl, Nat.sub_self] at hR
        have hx : x = 0 := by omega
        subst hx
        have hn0 : l.length - sz = 0 := by omega
        rw [hn0] at hR
        have HN0 : Hid (l.length - sz = 0) := hn0
        clear hn0
        have hT1 := hR.till 0 (by omega)
        rw [← Bs_take] at hT1
        have hs1 := run_str _ _ _ _ _ hT1.drew
        go_enter Try.func12, Try.ntmps12
        go_wp2_with (go_at_call 27; refine (first_eq _ _ _ _ _ h HS.out).mono ?_; rintro e w ⟨rfl, rfl⟩)
        go_region_with (go_at_call 26; refine (Clone_any _ _ _ (l.drop sz) _ ?_ (by omega)).mono ?_; exact hR.drew; rintro e w1 ⟨ao3, cp3, rfl, hown3, hbel3⟩; have hs2 := run_str _ _ _ _ _ (hT1.drew.later hbel3))
        all_goals
          go_wp2
          go_ret3
          rw [HT.out]
          refine ⟨ao3, cp3, ?_, ?_, below_undrew hbel3⟩
          · rw [← HL2.out, HN0.out]; rfl
          · rw [← HL2.out, HN0.out]; exact ownsRow.rd hown3
      · rw [if_neg hcs] at hR
        go_enter Try.func12, Try.ntmps12
        go_wp2_with (go_at_call 27; refine (first_eq _ _ _ _ _ h HS.out).mono ?_; rintro e w ⟨rfl, rfl⟩)
        have hncp := hR.2.1
        generalize hao1 : Option.map (fun x => x.add sz) ao = ao1 at *
        generalize hcp1 : cap - sz = cp1 at *
        generalize hn1 : l.length - sz = n1 at *
        clear hao1 hcp1
        have hT1 := hR.till x (by omega)
        rw [← Bs_take] at hT1
        have hT2 := hR.from x (by omega)
        rw [← Bs_drop] at hT2
        have hs1 := run_str _ _ _ _ _ hT1.drew
        have hn1b : n1 ≤ 140737488355328 := by omega
        clear hn1
        by_cases hc2 : cp1 = x
        · have hnx : n1 = x := by omega
          subst hc2
          subst hnx
          rw [if_pos rfl, Nat.sub_self] at hT2
          go_region_with (go_at_call 26; refine (Clone_any _ _ _ ((l.drop sz).drop n1) _ ?_ (by omega)).mono ?_; exact hT2.drew; rintro e w1 ⟨ao3, cp3, rfl, hown3, hbel3⟩; have hs2 := run_str _ _ _ _ _ (hT1.drew.later hbel3))
          all_goals
            go_wp2
            go_ret3
            rw [HT.out]
            refine ⟨ao3, cp3, ?_, ?_, below_undrew hbel3⟩
            · rw [← HL2.out, Nat.sub_self]; rfl
            · rw [← HL2.out, Nat.sub_self]; exact ownsRow.rd hown3
        · rw [if_neg hc2] at hT2
          go_region_with (go_at_call 26; refine (Clone_any _ _ _ ((l.drop sz).drop x) _ ?_ (by omega)).mono ?_; exact hT2.drew; rintro e w1 ⟨ao3, cp3, rfl, hown3, hbel3⟩; have hs2 := run_str _ _ _ _ _ (hT1.drew.later hbel3))
          all_goals
            go_wp2
            go_ret3
            rw [HT.out]
            refine ⟨ao3, cp3, ?_, ?_, below_undrew hbel3⟩
            · rw [← HL2.out]; rfl
            · rw [← HL2.out]; exact ownsRow.rd hown3
end Go.Proofs.Ytcmpolmjijemjaa
