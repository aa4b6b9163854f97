/- osmosislaw5: some -/
import Derived.Test.YtjhcldccogpoaaaDB
namespace Go.Proofs.Ytjhcldccogpoaaa
open Go.RowKit

/-- what the laws take of what came in -/
def someS (ls : List (List UInt8)) : List (List UInt8) := (ls.take 5).map (·.take 60)
theorem someS_len (ls : List (List UInt8)) : (someS ls).length ≤ 5 := by simp [someS]; omega
theorem someS_le (ls : List (List UInt8)) : ∀ r ∈ someS ls, r.length ≤ 60 := by
  intro r hr
  simp only [someS, List.mem_map] at hr
  obtain ⟨x, _, rfl⟩ := hr
  simp; omega
theorem some_step {ls : List (List UInt8)} {k : Nat} {r : List UInt8} (h : ls[k]? = some r) : (ls.take (k + 1)).map (·.take 60) = (ls.take k).map (·.take 60) ++ [r.take 60] := by
  rw [List.take_add_one, h]; simp

set_option maxHeartbeats 1000000 in
theorem some_any (ao : Option Addr) (n cap : Nat) (ls : List (List UInt8)) (w : World) (h : RdLL w.heap.size w ao n cap ls) {R : List (List UInt8)} (hR : someS ls = R) :
    Calls Try.prog 8 #[.slice ao n cap] w fun e w' => ∃ ao' cap', e = .returned (.slice ao' R.length cap') ∧ OwnLL w.heap.size w' (.slice ao' R.length cap') R.length R ∧ Below w.heap.size w w' := by
  have hlen := h.len
  subst hlen
  have hcap := h.caps
  have hcm : ls.length ≤ maxLen := Nat.le_trans hcap.1 hcap.2
  unfold maxLen at hcm
  obtain ⟨B, hB⟩ : ∃ B, B = w.heap.size := ⟨_, rfl⟩
  have HB : Hid (B = w.heap.size) := hB
  have hBw : B ≤ w.heap.size := by omega
  have HR : Hid (someS ls = R) := hR
  have HA : Hid (RdLL B w ao ls.length cap ls) := by rw [hB]; exact h
  rw [← hB] at ⊢
  clear hB hR h hcap
  go_enter Try.func8, Try.ntmps8
  go_wp2
  go_loopw [3, 4] (fun v i wr => ∃ (k : Nat) (rs : List (List UInt8)) (ao' : Option Addr) (cp' : Nat), k ≤ ls.length ∧ k ≤ 5 ∧ rs.length ≤ 5 ∧ Hid (rs.length = k) ∧ i = .int .i64 k ∧ v = .slice ao' rs.length cp' ∧
      OwnLL B wr v rs.length rs ∧ Below B w wr ∧ Hid (rs = (ls.take k).map (·.take 60)))
    (fun _ i _ => ls.length - (intOf i).toNat)
  case atStart => exact ⟨0, [], none, 0, Nat.zero_le _, Nat.zero_le _, Nat.zero_le _, rfl, rfl, rfl, OwnLL.nil _ _, Below.refl _ _, rfl⟩
  case round =>
    obtain ⟨k, rs, ao1, cp1, hk, hk6, hrs, HK, rfl, rfl, hown, hbel, HI⟩ := hrel
    have hsz := hbel.size
    by_cases hlt : k < ls.length
    · by_cases hl6 : k < 5
      · obtain ⟨b, off, rfl, hbB, hcells⟩ := HA.out.at (by omega)
        obtain ⟨r, hr⟩ : ∃ r, ls[k]? = some r := ⟨ls[k], List.getElem?_eq_getElem _⟩
        obtain ⟨aor, cpr, hcr, hRr⟩ := hcells k r hr
        have hc : wr.cell? ⟨b, off + k, none⟩ = some (.slice aor r.length cpr) := (hbel.cell (p := ⟨b, off + k, none⟩) hbB).trans hcr
        have HRr : Hid (Rd wr.heap.size wr aor r.length cpr (Bs r)) := (hRr.later hbel).mono (by omega)
        have HN : Hid (rs ++ [r.take 60] = (ls.take (k + 1)).map (·.take 60)) := by show _ = _; rw [some_step hr, HI.out]
        obtain ⟨q, hq⟩ : ∃ q, r.take 60 = q := ⟨_, rfl⟩
        have HQ : Hid (r.take 60 = q) := hq
        rw [hq] at HN
        have hlen : rs.length + 1 ≤ 5 := by rw [HK.out]; omega
        clear hcells hcr hr hRr hq
        go_wp2_with fail
        refine (Few_geq _ _ _ r 60 wr HRr.out (by omega) HQ.out).mono ?_
        rintro e w3 ⟨ao3, cp3, rfl, hown3, hb3⟩
        obtain ⟨vs, hv1, hv2⟩ := hown.below hb3
        have hbel3 : Below B w w3 := hbel.trans (hb3.mono (by omega))
        have hsz3 := hbel3.size
        have hown3' := own_mono hown3 (show B ≤ wr.heap.size by omega)
        clear hown3 hb3 hown
        go_wp2_with (at_builtin; refine appL rfl _ _ _ rfl _ _ _ _ rfl (hv1.alloc _) _ 1 [_] rfl (src_slice w3 ao3 q.length cp3) (by omega) (by simp; omega) ?_)
        intro ao4 cp4 w4 hown4 hg4 hb4
        have hbel4 := (hbel3.alloc (by omega) _).trans hb4
        have HO : Hid (OwnLL B w4 (.slice ao4 (rs.length + 1) cp4) (rs ++ [q]).length (rs ++ [q])) := by
          refine ⟨_, ?_, ((hv2.snoc hown3').alloc _).grown hg4 (hv1.alloc _)⟩
          rw [List.length_append]
          exact hown4
        clear hown4 hg4 hb4 hv1 hv2 hown3'
        go_wp2
        go_roundw
        case rel => exact ⟨k + 1, rs ++ [q], ao4, cp4, by omega, by omega, by rw [List.length_append]; exact hlen, (by show _ = _; rw [List.length_append, HK.out]; rfl), by go_num, by simp, HO.out, hbel4, HN⟩
        case measure => simp [intOf]; omega
      · have HF : Hid (rs = R) := by
          show _ = _
          have : k = 5 := by omega
          rw [HI.out, ← HR.out, this]; rfl
        go_wp2
        go_ret
        rw [← HF.out]
        exact ⟨ao1, cp1, rfl, hown, hbel⟩
    · have HF : Hid (rs = R) := by
        show _ = _
        rw [HI.out, ← HR.out, someS, List.take_of_length_le (by omega), List.take_of_length_le (by omega)]
      go_wp2
      go_ret
      rw [← HF.out]
      exact ⟨ao1, cp1, rfl, hown, hbel⟩
end Go.Proofs.Ytjhcldccogpoaaa
