/- frame.Read -/
import Derived.Test.YtjhcldccogpoaaaFB
namespace Go.Proofs.Ytjhcldccogpoaaa
open Go.RowKit

section
variable {base n c c' : Nat} {w w' : World} {vs xs : List Value} {ls : List (List UInt8)} {v : Value}
end

/-- what frame.Read answers -/
def RPost (R : List (List UInt8) × Nat) (w : World) (e : Ending) (w' : World) : Prop :=
  ∃ ao cap, e = .returned (.tuple #[.slice ao R.1.length cap, .int .i64 (R.2 : Nat)]) ∧ OwnLL w.heap.size w' (.slice ao R.1.length cap) R.1.length R.1 ∧ Below w.heap.size w w'

set_option maxHeartbeats 1000000 in
theorem Read_any (ao : Option Addr) (n cap : Nat) (l : List UInt8) (w : World) (h : Rd w.heap.size w ao n cap (Bs l)) (hb : n ≤ 52776558133248) {R : List (List UInt8) × Nat} (hR : readS sum8 l = R) :
    Calls Try.prog 28 #[.slice ao n cap] w (RPost R w) := by
  have hl : l.length = n := by rw [← Bs_length]; exact h.1
  subst hl
  have hcap := h.2.1
  have hcm := h.2.2.1
  unfold maxLen at hcm
  obtain ⟨B, hB⟩ : ∃ B, B = w.heap.size := ⟨_, rfl⟩
  have HB : Hid (B = w.heap.size) := hB
  have hBw : B ≤ w.heap.size := by omega
  have HR : Hid (readS sum8 l = R) := hR
  have HRd : Hid (Rd B w ao l.length cap (Bs l)) := by rw [hB]; exact h
  unfold RPost
  rw [← hB] at ⊢
  clear hB hR h
  go_enter Try.func28, Try.ntmps28
  go_wp2
  go_loopw [2, 3] (fun v i wr => ∃ (u : Nat) (rs : List (List UInt8)) (ao' : Option Addr) (cp' : Nat), u ≤ l.length ∧ 9 * rs.length ≤ u ∧ i = .int .i64 u ∧ v = .slice ao' rs.length cp' ∧
      OwnLL B wr v rs.length rs ∧ Below B w wr ∧ Hid (R = (rs ++ (readS sum8 (l.drop u)).1, u + (readS sum8 (l.drop u)).2)))
    (fun _ i _ => l.length - (intOf i).toNat)
  case atStart =>
    refine ⟨0, [], none, 0, Nat.zero_le _, Nat.le_refl _, rfl, rfl, OwnLL.nil _ _, Below.refl _ _, ?_⟩
    show _ = _
    rw [List.drop_zero, HR.out]; simp
  case round =>
    obtain ⟨u, rs, ao1, cp1, hu, hu9, rfl, rfl, hown, hbel, HI⟩ := hrel
    have hsz := hbel.size
    have hF := ((HRd.out.from u hu).later hbel).mono (show B ≤ wr.heap.size by omega)
    rw [← Bs_drop] at hF
    by_cases hcs : cap = u
    case pos =>
      rw [if_pos hcs] at hF
      have hcs2 := hcs.symm
      clear hcs
      subst hcs2
      have hn : recF sum8 (l.drop u) = none := by rw [List.drop_of_length_le (by omega)]; exact recF_nil sum8
      rw [Nat.sub_self, show l.length - u = 0 from by omega] at hF
      go_wp2_with fail
      refine (ffirst_any _ _ _ (l.drop u) wr hF).mono ?_
      rintro e w2 ⟨hc, hb2⟩
      have hown2 := hown.below hb2
      have hbel2 : Below B w w2 := hbel.trans (hb2.mono (by omega))
      rcases hc with ⟨_, rfl⟩ | ⟨r, k, aor, cpr, hn2, rfl, hRr⟩
      · have HF : Hid (R = (rs, u)) := by
          show _ = _
          rw [HI.out, readS_none sum8 hn]; simp
        clear hn
        go_wp2
        go_ret2
        rw [HF.out]
        exact ⟨ao1, cp1, rfl, hown2, hbel2⟩
      · rw [hn] at hn2; cases hn2
    case neg =>
      rw [if_neg hcs] at hF
      go_wp2_with fail
      refine (ffirst_any _ _ _ (l.drop u) wr hF).mono ?_
      rintro e w2 ⟨hc, hb2⟩
      have hown2 := hown.below hb2
      have hbel2 : Below B w w2 := hbel.trans (hb2.mono (by omega))
      have hsz2 := hbel2.size
      rcases hc with ⟨hn, rfl⟩ | ⟨r, k, aor, cpr, hn, rfl, hRr⟩
      · have HF : Hid (R = (rs, u)) := by
          show _ = _
          rw [HI.out, readS_none sum8 hn]; simp
        clear hn
        go_wp2
        go_ret2
        rw [HF.out]
        exact ⟨ao1, cp1, rfl, hown2, hbel2⟩
      · have hk := recF_some sum8 hn
        have hk1 := hk.1
        have hk2 : u + k ≤ l.length := by have := hk.2.1; rw [List.length_drop] at this; omega
        have hk3 := hk.2.2
        have HF : Hid (R = ((rs ++ [r]) ++ (readS sum8 (l.drop (u + k))).1, (u + k) + (readS sum8 (l.drop (u + k))).2)) := by
          show _ = _
          rw [HI.out, readS_some sum8 hn, List.drop_drop]
          simp [Nat.add_assoc]
        have HRr : Hid (Rd w2.heap.size w2 aor r.length cpr (Bs r)) := (hRr.later hb2).mono hb2.size
        clear hn hk hRr hown hb2 hF
        go_wp2_with fail
        refine (Clone_any _ _ _ r w2 HRr.out (by omega)).mono ?_
        rintro e w3 ⟨ao3, cp3, rfl, hown3, hb3⟩
        obtain ⟨vs, hv1, hv2⟩ := hown2.below hb3
        have hbel3 : Below B w w3 := hbel2.trans (hb3.mono (by omega))
        have hsz3 := hbel3.size
        have hown3' := own_mono hown3 (show B ≤ w2.heap.size by omega)
        clear hown3 hb3 hown2
        go_wp2_with (at_builtin; refine appL rfl _ _ _ rfl _ _ _ _ rfl (hv1.alloc _) _ 1 [_] rfl (src_slice w3 ao3 r.length cp3) (by omega) (by simp; omega) ?_)
        intro ao4 cp4 w4 hown4 hg4 hb4
        have hbel4 := (hbel3.alloc (by omega) _).trans hb4
        have HO : Hid (OwnLL B w4 (.slice ao4 (rs.length + 1) cp4) (rs ++ [r]).length (rs ++ [r])) := by
          refine ⟨_, ?_, ((hv2.snoc hown3').alloc _).grown hg4 (hv1.alloc _)⟩
          rw [List.length_append]
          exact hown4
        clear hown4 hg4 hb4 hv1 hv2 hown3'
        go_wp2
        go_roundw
        case rel => exact ⟨u + k, rs ++ [r], ao4, cp4, hk2, by rw [List.length_append]; simp; omega, by go_num, by simp, HO.out, hbel4, HF⟩
        case measure => simp [intOf]; omega
end Go.Proofs.Ytjhcldccogpoaaa
