/- frame.first -/
import Derived.Test.YtjhcldccogpoaaaFL
import Derived.Test.YtjhcldccogpoaaaST
import Derived.Deep.RegionWith
import Derived.Deep.DeepCutAuto
import Derived.Deep.CutBlock
namespace Go.Proofs.Ytjhcldccogpoaaa
open Go.RowKit


/-- what frame.first answers -/
def FPost (l : List UInt8) (w : World) (e : Ending) (w' : World) : Prop :=
  ((recF sum8 l = none ∧ e = .returned (.tuple #[.slice none 0 0, .int .i64 0, .bool false])) ∨
    ∃ r k ao cap, recF sum8 l = some (r, k) ∧ e = .returned (.tuple #[.slice ao r.length cap, .int .i64 (k : Nat), .bool true]) ∧ Rd w.heap.size w ao r.length cap (Bs r)) ∧ Below w.heap.size w w'

theorem slice_eq {ao ao' : Option Addr} {n n' cap cap' : Nat} (h1 : ao = ao') (h2 : n = n') (h3 : cap = cap') : Value.slice ao n cap = Value.slice ao' n' cap' := by rw [h1, h2, h3]

set_option maxHeartbeats 1000000 in
theorem ffirst_any (ao : Option Addr) (n cap : Nat) (l : List UInt8) (w : World) (h : Rd w.heap.size w ao n cap (Bs l)) :
    Calls Try.prog 42 #[.slice ao n cap] w (FPost l w) := by
  have hl : l.length = n := by rw [← Bs_length]; exact h.1
  subst hl
  have hcap := h.2.1
  have hcm := h.2.2.1
  unfold maxLen at hcm
  obtain ⟨N, hN1, hN2, hN3⟩ : ∃ N, N ≤ 9 ∧ N ≤ l.length ∧ (l.length ≤ 9 ∧ N = l.length ∨ 9 < l.length ∧ N = 9) := by
    by_cases h9 : l.length ≤ 9
    · exact ⟨l.length, h9, Nat.le_refl _, .inl ⟨h9, rfl⟩⟩
    · exact ⟨9, Nat.le_refl _, by omega, .inr ⟨by omega, rfl⟩⟩
  have HRd : Hid (Rd w.heap.size w ao l.length cap (Bs l)) := h
  have hT := h.till N hN2
  rw [← Bs_take] at hT
  have e9 : l.take N = l.take 9 := by
    rcases hN3 with ⟨g1, rfl⟩ | ⟨g1, rfl⟩
    · rw [List.take_of_length_le (Nat.le_refl _), List.take_of_length_le g1]
    · rfl
  rw [e9] at hT
  clear e9
  have bad : ∀ er : Int, (er == 0) = false → (er != 0) = true → firstS (l.take 9) = (0, 0, er) → Calls Try.prog 42 #[.slice ao l.length cap] w (FPost l w) := by
    intro er he he' hS
    have HT : Hid (takeS (l.take 9) = (0, [], er)) := takeS_bad hS (by simpa using he)
    have HR : Hid (recF sum8 l = none) := by
      refine recF_bad sum8 ?_
      rcases first_nine l with g | g
      · rw [← g, hS]; simpa using he
      · exact g.2
    clear hS
    rcases hN3 with ⟨g1, rfl⟩ | ⟨g1, rfl⟩
    all_goals
      go_enter Try.func42, Try.ntmps42
      go_wp2_with fail
      refine (Take_eq _ _ _ _ _ hT (by omega) HT.out).mono ?_
      rintro e w1 ⟨ao1, cp1, rfl, _, hb1⟩
      go_wp2
      go_ret3
      exact ⟨.inl ⟨HR.out, rfl⟩, hb1⟩
  rcases firstS_cases (l.take 9) with hS | hS | ⟨x, sz, hS, h1, h2, h3, h4⟩
  · exact bad 3 rfl rfl hS
  · exact bad 2 rfl rfl hS
  · clear bad
    have HS : Hid (firstS l = ((x : Int), sz, 0)) := by
      rcases first_nine l with g | g
      · show _ = _
        rw [← g, hS]
      · rw [hS] at g; exact absurd rfl g.1
    have HT : Hid (takeS (l.take 9) = ((x : Int), (l.take 9).drop sz, 0)) := takeS_ok hS
    have hm : ((l.take 9).drop sz).length + sz = N := by
      rw [List.length_drop, List.length_take]; rw [List.length_take] at h1; omega
    obtain ⟨bl, off, rfl, _, _⟩ := h.atSome (by omega)
    generalize (l.take 9).drop sz = D at *
    clear hS h1
    rcases hN3 with ⟨g1, rfl⟩ | ⟨g1, rfl⟩
    all_goals
      by_cases hx : 4000 < x
      · have HR : Hid (recF sum8 l = none) := recF_long sum8 HS.out hx
        go_enter Try.func42, Try.ntmps42
        go_wp2_with (go_at_call 50; refine (Take_eq _ _ _ _ _ hT (by omega) HT.out).mono ?_; rintro e w1 ⟨ao1, cp1, rfl, _, hb1⟩)
        go_ret3
        exact ⟨.inl ⟨HR.out, rfl⟩, hb1⟩
      · go_enter Try.func42, Try.ntmps42
        go_wp2_with fail
        refine (Take_eq _ _ _ _ _ hT (by omega) HT.out).mono ?_
        rintro e w1 ⟨ao1, cp1, rfl, _, hb1⟩
        have hsz1 := hb1.size
        go_upto_region 5 with fail
        go_cut [9] (fun v wc => v = .int .i64 (sz : Int) ∧ wc = w1)
        case first =>
          go_wp2
          go_meet
          case rel => exact ⟨by go_num, rfl⟩
        case rest =>
          obtain ⟨rfl, rfl⟩ := hcut
          by_cases hlong : l.length < sz + 8 + x
          · have HR : Hid (recF sum8 l = none) := recF_short sum8 HS.out hlong
            go_wp2
            go_ret3
            exact ⟨.inl ⟨HR.out, rfl⟩, hb1⟩
          · have hA := (HRd.out.cut sz (sz + 8) (by omega) (by omega)).later hb1
            have hB := HRd.out.cut (sz + 8) (sz + 8 + x) (by omega) (by omega)
            rw [if_neg (by omega), ← Bs_take, ← Bs_drop] at hA
            rw [← Bs_take, ← Bs_drop] at hB
            rw [show sz + 8 - sz = 8 from by omega, show ((some ⟨bl, off, none⟩ : Option Addr).map (·.add sz)) = some ⟨bl, off + sz, none⟩ from by simp [Addr.add]; omega] at hA
            have HA : Hid (Rd wc.heap.size wc (some ⟨bl, off + sz, none⟩) 8 (cap - sz) (Bs ((l.take (sz + 8)).drop sz))) := hA.mono hsz1
            have e1 : (l.take (sz + 8)).drop sz = (l.drop sz).take 8 := by rw [List.drop_take]; congr 1; omega
            have e2 : (l.take (sz + 8 + x)).drop (sz + 8) = (l.drop (sz + 8)).take x := by rw [List.drop_take]; congr 1; omega
            have hxl : ((l.drop (sz + 8)).take x).length = x := by rw [List.length_take, List.length_drop]; omega
            rw [e1] at HA
            rw [e2] at hB
            obtain ⟨r, hr⟩ : ∃ r, (l.drop (sz + 8)).take x = r := ⟨_, rfl⟩
            obtain ⟨A, hA8⟩ : ∃ A, (l.drop sz).take 8 = A := ⟨_, rfl⟩
            rw [hA8] at HA
            rw [hr] at hB hxl
            have HR : Hid (recF sum8 l = if A = sum8 r then some (r, sz + 8 + x) else none) := by
              show _ = _
              by_cases hq : A = sum8 r
              · rw [if_pos hq, recF_ok sum8 HS.out (by omega) (by omega) (by rw [hr, hA8]; exact hq), hr]
              · rw [if_neg hq]; exact recF_other sum8 HS.out (by rw [hr, hA8]; exact hq)
            clear hA e1 e2 hr hA8
            have HXL : Hid (r.length = x) := hxl
            have HB : Hid (Rd w.heap.size w (if cap = sz + 8 then some ⟨bl, off, none⟩ else (some ⟨bl, off, none⟩ : Option Addr).map (·.add (sz + 8))) (sz + 8 + x - (sz + 8)) (cap - (sz + 8)) (Bs r)) := hB
            clear hB
            go_upto_region 10 with fail
            go_cut [2] (fun v wx => ∃ aoB cpB, v = .slice aoB x cpB ∧ Rd w.heap.size w aoB x cpB (Bs r) ∧ wx = wc)
            case first =>
              have hB := HB.out
              rw [show sz + 8 + x - (sz + 8) = x from by omega] at hB
              by_cases hcs : cap = sz + 8
              · rw [if_pos hcs] at hB
                have hcs2 := hcs.symm
                clear hcs HB HA HRd h hT
                subst hcs2
                go_wp2
                go_meet
                case rel => exact ⟨_, _, slice_eq rfl (by omega) rfl, hB, rfl⟩
              · rw [if_neg hcs] at hB
                go_wp2
                go_meet
                case rel => exact ⟨_, _, slice_eq rfl (by omega) rfl, hB, rfl⟩
            case rest =>
              obtain ⟨aoB, cpB, rfl, hB, rfl⟩ := hcut
              have HB1 : Hid (Rd w.heap.size w aoB x cpB (Bs r)) := hB
              have HB2 : Hid (Rd wc.heap.size wc aoB x cpB (Bs r)) := (hB.later hb1).mono hsz1
              clear hB HB HRd h hT hxl
              go_upto_region 11 with fail
              go_cut [53] (fun v wx => v = .bool (!decide (A = sum8 r)) ∧ Below w.heap.size w wx)
              case first =>
                have tokA : True := trivial
                go_region_with (first
                  | (have tA := tokA; go_at_call 46; refine (sumOf_any _ _ _ r wc.drew HB2.out.drew).mono ?_; rintro e w2 ⟨ao2, cp2, rfl, hown2, hb2⟩; have hA2 := (HA.out.drew.later hb2).mono hb2.size; have hS2 := ownsRow.rd hown2; clear tokA hown2 tA; have tokB : True := trivial)
                  | (have tB := tokB; go_at_call 51; refine (Equal_any _ _ _ A _ _ _ (sum8 r) w2 hA2 hS2).mono ?_; rintro e w3 ⟨rfl, rfl⟩; clear tokB tB))
                all_goals
                  go_wp2
                  go_meet
                  case rel => exact ⟨rfl, hb1.trans ((below_undrew hb2).mono hsz1)⟩
              case rest =>
                obtain ⟨rfl, hb3⟩ := hcut
                by_cases hq : A = sum8 r
                · have HR2 : Hid (recF sum8 l = some (r, sz + 8 + x)) := by show _ = _; rw [HR.out, if_pos hq]
                  have hq2 : decide (A = sum8 r) = true := decide_eq_true hq
                  rw [hq2]
                  go_wp2
                  go_ret3
                  refine ⟨.inr ⟨r, sz + 8 + x, aoB, cpB, HR2.out, ?_, by rw [HXL.out]; exact HB1.out⟩, hb3⟩
                  rw [HXL.out]; rfl
                · have HR2 : Hid (recF sum8 l = none) := by show _ = _; rw [HR.out, if_neg hq]
                  have hq2 : decide (A = sum8 r) = false := decide_eq_false hq
                  rw [hq2]
                  go_wp2
                  go_ret3
                  exact ⟨.inl ⟨HR2.out, rfl⟩, hb3⟩
end Go.Proofs.Ytjhcldccogpoaaa
