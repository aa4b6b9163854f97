/- slices.Equal of pairs, of sessions. -/
import Derived.Test.YtodgcfmacmfcpaaYE
namespace Go.Proofs.Ytodgcfmacmfcpaa
open Go.RowKit

instance : DecidableEq Se := fun a b => decidable_of_iff (a.cl = b.cl ∧ a.sq = b.sq ∧ a.why = b.why ∧ a.val = b.val) (by cases a; cases b; simp)
theorem take_next {α : Type} {l l' : List α} {j : Nat} (h : l.take j = l'.take j) (hj : j < l.length) (hj' : j < l'.length) (e : l[j] = l'[j]) : l.take (j + 1) = l'.take (j + 1) := by
  rw [List.take_succ_eq_append_getElem hj, List.take_succ_eq_append_getElem hj', h, e]
theorem list_ne {α : Type} {l l' : List α} {j : Nat} (hj : j < l.length) (hj' : j < l'.length) (e : ¬ l[j] = l'[j]) : ¬ l = l' := fun h => by subst h; exact e rfl
set_option maxHeartbeats 4000000 in
theorem EqP_any (ao : Option Addr) (cap : Nat) (T : List Pr) (ao' : Option Addr) (cap' : Nat) (T' : List Pr) (n n' : Nat) (w : World) (hn : T.length = n) (hn' : T'.length = n') (h : PrR w ao cap T) (h' : PrR w ao' cap' T') :
    Calls Try.prog 53 #[.slice ao n cap, .slice ao' n' cap'] w fun e w' => e = .returned (.bool (decide (T = T'))) ∧ Below w.heap.size w w' := by
  have hn3 := h.len
  rw [hn] at hn3
  have HR : Hid (PrR w ao cap T ∧ PrR w ao' cap' T' ∧ T.length = n ∧ T'.length = n') := ⟨h, h', hn, hn'⟩
  obtain ⟨eq, heq⟩ : ∃ eq, decide (T = T') = eq := ⟨_, rfl⟩
  have HE : Hid (decide (T = T') = eq) := heq
  rw [heq]
  clear h h' hn hn' heq
  by_cases hl : n = n'
  · subst hl
    go_enter Try.func53, Try.ntmps53
    go_wp2_with fail
    go_loopw [13] (fun i wr => ∃ j : Nat, j ≤ n ∧ i = .int .i64 j ∧ Below w.heap.size w wr ∧ T.take j = T'.take j) (fun i _ => n - (intOf i).toNat)
    case atStart => exact ⟨0, Nat.zero_le _, rfl, Below.refl _ _, rfl⟩
    case round =>
      obtain ⟨j, hj, rfl, hbel, htk⟩ := hrel
      have HB : Hid (Below w.heap.size w wr ∧ T.take j = T'.take j) := ⟨hbel, htk⟩
      clear htk
      by_cases hlt : j < n
      · have HJ : Hid (j < T.length ∧ j < T'.length) := ⟨by rw [HR.out.2.2.1]; exact hlt, by rw [HR.out.2.2.2]; exact hlt⟩
        obtain ⟨x, hx⟩ : ∃ x, T[j]'HJ.out.1 = x := ⟨_, rfl⟩
        obtain ⟨y, hy⟩ : ∃ y, T'[j]'HJ.out.2 = y := ⟨_, rfl⟩
        obtain ⟨b, off, rfl, hb, hc⟩ := HR.out.1.at j HJ.out.1 x hx
        obtain ⟨b', off', rfl, hb', hc'⟩ := HR.out.2.1.at j HJ.out.2 y hy
        obtain ⟨c0, c1⟩ := hc wr hbel
        obtain ⟨d0, d1⟩ := hc' wr hbel
        have hji : (j : Int) < (n : Int) := by omega
        have HXY : Hid (T[j]'HJ.out.1 = x ∧ T'[j]'HJ.out.2 = y) := ⟨hx, hy⟩
        obtain ⟨x0, x1⟩ := x
        obtain ⟨y0, y1⟩ := y
        simp only at c0 c1 d0 d1
        clear hc hc' hbel hx hy
        by_cases h0 : x0 = y0
        · subst h0
          by_cases h1 : x1 = y1
          · subst h1
            go_wp2_with fail
            go_region
            all_goals
              go_wp2
              refine ⟨⟨j + 1, by omega, by go_num, HB.out.1.drew, take_next HB.out.2 HJ.out.1 HJ.out.2 (HXY.out.1.trans HXY.out.2.symm)⟩, by simp [intOf]; omega⟩
          · have hne := toList_ne h1
            have HF : Hid (eq = false) := by show _ = _; rw [← HE.out]; exact decide_eq_false (list_ne HJ.out.1 HJ.out.2 (by rw [HXY.out.1, HXY.out.2]; intro e; exact h1 (Prod.mk.inj e).2))
            go_wp2_with fail
            go_region
            all_goals
              go_wp2
              go_ret
              exact ⟨by rw [HF.out]; rfl, HB.out.1.drew⟩
        · have hne := toList_ne h0
          have HF : Hid (eq = false) := by show _ = _; rw [← HE.out]; exact decide_eq_false (list_ne HJ.out.1 HJ.out.2 (by rw [HXY.out.1, HXY.out.2]; intro e; exact h0 (Prod.mk.inj e).1))
          go_wp2_with fail
          go_region
          all_goals
            go_wp2
            go_ret
            exact ⟨by rw [HF.out]; rfl, HB.out.1.drew⟩
      · have hjn : j = n := by omega
        have HF : Hid (eq = true) := by
          show _ = _
          rw [← HE.out]
          have h := HB.out.2
          rw [List.take_of_length_le (by rw [HR.out.2.2.1]; omega), List.take_of_length_le (by rw [HR.out.2.2.2]; omega)] at h
          exact decide_eq_true h
        go_wp2
        go_ret
        exact ⟨by rw [HF.out]; rfl, HB.out.1⟩
  · have HF : Hid (eq = false) := by show _ = _; rw [← HE.out]; exact decide_eq_false (fun e => hl (by rw [← HR.out.2.2.1, ← HR.out.2.2.2, e]))
    have hl2 : ¬ (n : Int) = (n' : Int) := by omega
    go_enter Try.func53, Try.ntmps53
    go_wp2
    go_ret
    exact ⟨by rw [HF.out]; rfl, Below.refl _ _⟩
set_option maxHeartbeats 4000000 in
theorem EqS_any (ao : Option Addr) (cap : Nat) (T : List Se) (ao' : Option Addr) (cap' : Nat) (T' : List Se) (n n' : Nat) (w : World) (hn : T.length = n) (hn' : T'.length = n') (h : SeR w ao cap T) (h' : SeR w ao' cap' T') :
    Calls Try.prog 54 #[.slice ao n cap, .slice ao' n' cap'] w fun e w' => e = .returned (.bool (decide (T = T'))) ∧ Below w.heap.size w w' := by
  have hn3 := h.len
  rw [hn] at hn3
  have HR : Hid (SeR w ao cap T ∧ SeR w ao' cap' T' ∧ T.length = n ∧ T'.length = n') := ⟨h, h', hn, hn'⟩
  obtain ⟨eq, heq⟩ : ∃ eq, decide (T = T') = eq := ⟨_, rfl⟩
  have HE : Hid (decide (T = T') = eq) := heq
  rw [heq]
  clear h h' hn hn' heq
  by_cases hl : n = n'
  · subst hl
    go_enter Try.func54, Try.ntmps54
    go_wp2_with fail
    go_loopw [13] (fun i wr => ∃ j : Nat, j ≤ n ∧ i = .int .i64 j ∧ Below w.heap.size w wr ∧ T.take j = T'.take j) (fun i _ => n - (intOf i).toNat)
    case atStart => exact ⟨0, Nat.zero_le _, rfl, Below.refl _ _, rfl⟩
    case round =>
      obtain ⟨j, hj, rfl, hbel, htk⟩ := hrel
      have HB : Hid (Below w.heap.size w wr ∧ T.take j = T'.take j) := ⟨hbel, htk⟩
      clear htk
      by_cases hlt : j < n
      · have HJ : Hid (j < T.length ∧ j < T'.length) := ⟨by rw [HR.out.2.2.1]; exact hlt, by rw [HR.out.2.2.2]; exact hlt⟩
        obtain ⟨x, hx⟩ : ∃ x, T[j]'HJ.out.1 = x := ⟨_, rfl⟩
        obtain ⟨y, hy⟩ : ∃ y, T'[j]'HJ.out.2 = y := ⟨_, rfl⟩
        obtain ⟨b, off, rfl, hb, hc⟩ := HR.out.1.at j HJ.out.1 x hx
        obtain ⟨b', off', rfl, hb', hc'⟩ := HR.out.2.1.at j HJ.out.2 y hy
        obtain ⟨c0, c1, c2, c3⟩ := hc wr hbel
        obtain ⟨d0, d1, d2, d3⟩ := hc' wr hbel
        have hji : (j : Int) < (n : Int) := by omega
        have HXY : Hid (T[j]'HJ.out.1 = x ∧ T'[j]'HJ.out.2 = y) := ⟨hx, hy⟩
        obtain ⟨x0, x1, x2, x3⟩ := x
        obtain ⟨y0, y1, y2, y3⟩ := y
        simp only at c0 c1 c2 c3 d0 d1 d2 d3
        clear hc hc' hbel hx hy
        by_cases h0 : x0 = y0
        · subst h0
          by_cases h1 : x1 = y1
          · subst h1
            by_cases h2 : x2 = y2
            · subst h2
              by_cases h3 : x3 = y3
              · subst h3
                go_wp2_with fail
                go_region
                all_goals
                  go_wp2
                  refine ⟨⟨j + 1, by omega, by go_num, HB.out.1.drew, take_next HB.out.2 HJ.out.1 HJ.out.2 (HXY.out.1.trans HXY.out.2.symm)⟩, by simp [intOf]; omega⟩
              · have hne := toList_ne h3
                have HF : Hid (eq = false) := by show _ = _; rw [← HE.out]; exact decide_eq_false (list_ne HJ.out.1 HJ.out.2 (by rw [HXY.out.1, HXY.out.2]; intro e; exact h3 (Se.mk.inj e).2.2.2))
                go_wp2_with fail
                go_region
                all_goals
                  go_wp2
                  go_ret
                  exact ⟨by rw [HF.out]; rfl, HB.out.1.drew⟩
            · have HF : Hid (eq = false) := by show _ = _; rw [← HE.out]; exact decide_eq_false (list_ne HJ.out.1 HJ.out.2 (by rw [HXY.out.1, HXY.out.2]; intro e; exact h2 (Se.mk.inj e).2.2.1))
              go_wp2_with fail
              go_region
              all_goals
                go_wp2
                go_ret
                exact ⟨by rw [HF.out]; rfl, HB.out.1.drew⟩
          · have HF : Hid (eq = false) := by show _ = _; rw [← HE.out]; exact decide_eq_false (list_ne HJ.out.1 HJ.out.2 (by rw [HXY.out.1, HXY.out.2]; intro e; exact h1 (Se.mk.inj e).2.1))
            go_wp2_with fail
            go_region
            all_goals
              go_wp2
              go_ret
              exact ⟨by rw [HF.out]; rfl, HB.out.1.drew⟩
        · have HF : Hid (eq = false) := by show _ = _; rw [← HE.out]; exact decide_eq_false (list_ne HJ.out.1 HJ.out.2 (by rw [HXY.out.1, HXY.out.2]; intro e; exact h0 (Se.mk.inj e).1))
          go_wp2_with fail
          go_region
          all_goals
            go_wp2
            go_ret
            exact ⟨by rw [HF.out]; rfl, HB.out.1.drew⟩
      · have hjn : j = n := by omega
        have HF : Hid (eq = true) := by
          show _ = _
          rw [← HE.out]
          have h := HB.out.2
          rw [List.take_of_length_le (by rw [HR.out.2.2.1]; omega), List.take_of_length_le (by rw [HR.out.2.2.2]; omega)] at h
          exact decide_eq_true h
        go_wp2
        go_ret
        exact ⟨by rw [HF.out]; rfl, HB.out.1⟩
  · have HF : Hid (eq = false) := by show _ = _; rw [← HE.out]; exact decide_eq_false (fun e => hl (by rw [← HR.out.2.2.1, ← HR.out.2.2.2, e]))
    have hl2 : ¬ (n : Int) = (n' : Int) := by omega
    go_enter Try.func54, Try.ntmps54
    go_wp2
    go_ret
    exact ⟨by rw [HF.out]; rfl, Below.refl _ _⟩
end Go.Proofs.Ytodgcfmacmfcpaa
