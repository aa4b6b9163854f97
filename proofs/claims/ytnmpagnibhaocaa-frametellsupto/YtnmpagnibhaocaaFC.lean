/- frame.Read -/
import Derived.Test.YtnmpagnibhaocaaFB
namespace Go.Proofs.Ytnmpagnibhaocaa
open Go.RowKit

theorem Try.info22 : (Try.prog.info? 22).map (fun i => (i.zero, i.size, i.bytes)) = some (some (.slice none 0 0), 1, 24) := by kernel_rfl

/-- append onto a [][]byte of one's own -/
theorem appL {w : World} {ops : Array Oper} {rest : List Oper} {o : Oper} {a : Act} {Q : Exit → Act → World → Prop} (hgd : o.guard = none) (s x : Operand) (tx : TypeId)
    (ho : o.op = .call { callee := .builtin .append, args := #[s, x], argTypes := #[24, tx] })
    (base : Nat) (v : Value) (n : Nat) (xs : List Value) (hs : a.eval s = v) (hown : w.ownsRow base 22 1 v n xs)
    (xv : Value) (m : Nat) (news : List Value) (hx : a.eval x = xv) (hsrc : Src Try.prog 1 tx xv m news w)
    (hbytes : (n + m) * 24 ≤ 140737488355328) (hbase : base ≤ w.heap.size)
    (h : ∀ ao' cap' w', w'.ownsRow base 22 1 (.slice ao' (n + m) cap') (n + m) (xs ++ news) → w.grownBy w' v.ownBlock → Below base w w' →
      wpList Try.prog ops Q rest (a.put o.dst (.slice ao' (n + m) cap')) w') : wpList Try.prog ops Q (o :: rest) a w := by
  obtain ⟨i0, hi, hz0, hz1, hz2⟩ := info_parts Try.info22
  exact wpList_app hgd s x 24 tx ho base 22 i0 _ 24 Try.underlying24 hi hz0 hz1 hz2 (by omega) rfl v n xs hs hown xv m news hx hsrc hbytes hbase h

/-- each of the values is a slice of bytes with a row of its own, not below base -/
def OwnL (base : Nat) (w : World) (vs : List Value) (ls : List (List UInt8)) : Prop :=
  vs.length = ls.length ∧ ∀ (k : Nat) (v : Value) (l : List UInt8), vs[k]? = some v → ls[k]? = some l → ∃ (ao : Option Addr) (cap : Nat), v = Value.slice ao l.length cap ∧ w.ownsRow base 5 1 (.slice ao l.length cap) l.length (Bs l)
theorem OwnL.nil (B : Nat) (w : World) : OwnL B w [] [] := ⟨rfl, by simp⟩
/-- a list of slices of one's own, each with a row of its own -/
def OwnLL (base : Nat) (w : World) (v : Value) (n : Nat) (ls : List (List UInt8)) : Prop := ∃ vs, w.ownsRow base 22 1 v n vs ∧ OwnL base w vs ls
section
variable {base n c c' : Nat} {w w' : World} {vs xs : List Value} {ls : List (List UInt8)} {v : Value}
theorem own_apart {ao : Option Addr} {ys : List Value} (h : w.ownsRow base 22 1 v n xs) (r : w.ownsRow base 5 1 (.slice ao c c') c ys) : Value.ownBlock (.slice ao c c') = none ∨ Value.ownBlock (.slice ao c c') ≠ v.ownBlock := by
  cases hv : Value.ownBlock (.slice ao c c') with
  | none => exact .inl rfl
  | some g =>
    right
    rcases r.2 with ⟨e1, _⟩ | ⟨g', cap, cur, e1, _, hg, _⟩
    · rw [e1] at hv; simp [Value.ownBlock] at hv
    · rw [e1] at hv
      simp [Value.ownBlock] at hv
      subst hv
      exact ownsRow.apart h (.inr ⟨hg, by decide⟩)
theorem OwnL.grown (h : OwnL base w vs ls) (hg : w.grownBy w' v.ownBlock) (hown : w.ownsRow base 22 1 v n xs) : OwnL base w' vs ls := by
  refine ⟨h.1, fun k u l h1 h2 => ?_⟩
  obtain ⟨ao, cap, e, r⟩ := h.2 k u l h1 h2
  exact ⟨ao, cap, e, r.kept hg (own_apart hown r)⟩
theorem OwnL.alloc (h : OwnL base w vs ls) (o : Obj) : OwnL base (w.alloc o) vs ls := by
  refine ⟨h.1, fun k u l h1 h2 => ?_⟩
  obtain ⟨ao, cap, e, r⟩ := h.2 k u l h1 h2
  exact ⟨ao, cap, e, r.alloc o⟩
theorem OwnL.below (h : OwnL base w vs ls) (hb : Below w.heap.size w w') : OwnL base w' vs ls := by
  refine ⟨h.1, fun k u l h1 h2 => ?_⟩
  obtain ⟨ao, cap, e, r⟩ := h.2 k u l h1 h2
  exact ⟨ao, cap, e, own_below r hb⟩
theorem OwnL.rd (h : OwnL base w vs ls) : RdL w.heap.size w vs ls := by
  refine ⟨h.1, fun k u l h1 h2 => ?_⟩
  obtain ⟨ao, cap, e, r⟩ := h.2 k u l h1 h2
  exact ⟨ao, cap, e, ownsRow.rd r⟩
theorem OwnL.snoc {l : List UInt8} {ao : Option Addr} (h : OwnL base w vs ls) (hr : w.ownsRow base 5 1 (.slice ao l.length c) l.length (Bs l)) : OwnL base w (vs ++ [Value.slice ao l.length c]) (ls ++ [l]) := by
  refine ⟨by simp [h.1], ?_⟩
  intro k v l' h1 h2
  by_cases hk : k < vs.length
  · rw [List.getElem?_append_left hk] at h1
    rw [List.getElem?_append_left (by rw [← h.1]; exact hk)] at h2
    exact h.2 k v l' h1 h2
  · rw [List.getElem?_append_right (by omega)] at h1
    rw [List.getElem?_append_right (by rw [← h.1]; omega), ← h.1] at h2
    cases hj : k - vs.length with
    | zero =>
      rw [hj] at h1 h2
      simp at h1 h2
      subst h1; subst h2
      exact ⟨ao, c, rfl, hr⟩
    | succ j => rw [hj] at h1; simp at h1
theorem OwnLL.nil (base : Nat) (w : World) : OwnLL base w (.slice none 0 0) 0 [] := ⟨[], World.ownsRow_nil _ _ _ _, OwnL.nil _ _⟩
theorem OwnLL.below (h : OwnLL base w v n ls) (hb : Below w.heap.size w w') : OwnLL base w' v n ls := by
  obtain ⟨vs, h1, h2⟩ := h; exact ⟨vs, own_below h1 hb, h2.below hb⟩
theorem OwnLL.alloc (h : OwnLL base w v n ls) (o : Obj) : OwnLL base (w.alloc o) v n ls := by
  obtain ⟨vs, h1, h2⟩ := h; exact ⟨vs, h1.alloc o, h2.alloc o⟩
theorem OwnLL.len (h : OwnLL base w v n ls) : ls.length = n := by
  obtain ⟨vs, h1, h2⟩ := h; rw [← h2.1]; have := h1.1; omega
theorem OwnLL.rd {ao : Option Addr} {cap : Nat} (h : OwnLL base w (.slice ao n cap) n ls) : RdLL w.heap.size w ao n cap ls := by
  obtain ⟨vs, h1, h2⟩ := h; exact ⟨vs, ownsRow.rd h1, h2.rd⟩
end
/-- a row that is owned above one place is owned above a lower one -/
theorem own_mono {B B' : Nat} {w : World} {e : TypeId} {v : Value} {n : Nat} {xs : List Value} (h : w.ownsRow B' e 1 v n xs) (hB : B ≤ B') : w.ownsRow B e 1 v n xs := by
  refine ⟨h.1, ?_⟩
  rcases h.2 with hn | ⟨g, cap, cur, rfl, hb, rest⟩
  · exact .inl hn
  · exact .inr ⟨g, cap, cur, rfl, by omega, rest⟩
/-- one slice that was just laid, as the source of an append -/
theorem src_slice (w : World) (ao : Option Addr) (n cap : Nat) : Src Try.prog 1 24 (.slice (some ⟨w.heap.size, 0, none⟩) 1 1) 1 [.slice ao n cap] (w.alloc (.cells #[.slice ao n cap] 22)) :=
  src_one w Try.underlying24 (.slice ao n cap) 22 rfl

/-- what frame.Read answers -/
def RPost (R : List (List UInt8) × Nat) (w : World) (e : Ending) (w' : World) : Prop :=
  ∃ ao cap, e = .returned (.tuple #[.slice ao R.1.length cap, .int .i64 (R.2 : Nat)]) ∧ OwnLL w.heap.size w' (.slice ao R.1.length cap) R.1.length R.1 ∧ Below w.heap.size w w'

set_option maxHeartbeats 1000000 in
theorem Read_any (ao : Option Addr) (n cap : Nat) (l : List UInt8) (w : World) (h : Rd w.heap.size w ao n cap (Bs l)) (hb : n ≤ 52776558133248) {R : List (List UInt8) × Nat} (hR : readS sum8 l = R) :
    Calls Try.prog 9 #[.slice ao n cap] w (RPost R w) := by
  have hl : l.length = n := by rw [← Bs_length]; exact h.1
  subst hl
  have hcap := h.2.1
  have hcm := h.2.2.1
  unfold maxLen at hcm
  obtain ⟨B, hB⟩ : ∃ B, B = w.heap.size := ⟨_, rfl⟩
  have HB : Hid (B = w.heap.size) := hB
  have hBw : B ≤ w.heap.size := by omega
  have HR : Hid (readS sum8 l = R) := hR
  have HRd : Hid (Rd B w ao l.length cap (Bs l)) := by rw [hB]; exact h
  unfold RPost
  rw [← hB] at ⊢
  clear hB hR h
  go_enter Try.func9, Try.ntmps9
  go_wp2
  go_loopw [2, 3] (fun v i wr => ∃ (u : Nat) (rs : List (List UInt8)) (ao' : Option Addr) (cp' : Nat), u ≤ l.length ∧ 9 * rs.length ≤ u ∧ i = .int .i64 u ∧ v = .slice ao' rs.length cp' ∧
      OwnLL B wr v rs.length rs ∧ Below B w wr ∧ Hid (R = (rs ++ (readS sum8 (l.drop u)).1, u + (readS sum8 (l.drop u)).2)))
    (fun _ i _ => l.length - (intOf i).toNat)
  case atStart =>
    refine ⟨0, [], none, 0, Nat.zero_le _, Nat.le_refl _, rfl, rfl, OwnLL.nil _ _, Below.refl _ _, ?_⟩
    show _ = _
    rw [List.drop_zero, HR.out]; simp
  case round =>
    obtain ⟨u, rs, ao1, cp1, hu, hu9, rfl, rfl, hown, hbel, HI⟩ := hrel
    have hsz := hbel.size
    have hF := ((HRd.out.from u hu).later hbel).mono (show B ≤ wr.heap.size by omega)
    rw [← Bs_drop] at hF
    by_cases hcs : cap = u
    case pos =>
      rw [if_pos hcs] at hF
      have hcs2 := hcs.symm
      clear hcs
      subst hcs2
      have hn : recF sum8 (l.drop u) = none := by rw [List.drop_of_length_le (by omega)]; exact recF_nil sum8
      rw [Nat.sub_self, show l.length - u = 0 from by omega] at hF
      go_wp2_with fail
      refine (ffirst_any _ _ _ (l.drop u) wr hF).mono ?_
      rintro e w2 ⟨hc, hb2⟩
      have hown2 := hown.below hb2
      have hbel2 : Below B w w2 := hbel.trans (hb2.mono (by omega))
      rcases hc with ⟨_, rfl⟩ | ⟨r, k, aor, cpr, hn2, rfl, hRr⟩
      · have HF : Hid (R = (rs, u)) := by
          show _ = _
          rw [HI.out, readS_none sum8 hn]; simp
        clear hn
        go_wp2
        go_ret2
        rw [HF.out]
        exact ⟨ao1, cp1, rfl, hown2, hbel2⟩
      · rw [hn] at hn2; cases hn2
    case neg =>
      rw [if_neg hcs] at hF
      go_wp2_with fail
      refine (ffirst_any _ _ _ (l.drop u) wr hF).mono ?_
      rintro e w2 ⟨hc, hb2⟩
      have hown2 := hown.below hb2
      have hbel2 : Below B w w2 := hbel.trans (hb2.mono (by omega))
      have hsz2 := hbel2.size
      rcases hc with ⟨hn, rfl⟩ | ⟨r, k, aor, cpr, hn, rfl, hRr⟩
      · have HF : Hid (R = (rs, u)) := by
          show _ = _
          rw [HI.out, readS_none sum8 hn]; simp
        clear hn
        go_wp2
        go_ret2
        rw [HF.out]
        exact ⟨ao1, cp1, rfl, hown2, hbel2⟩
      · have hk := recF_some sum8 hn
        have hk1 := hk.1
        have hk2 : u + k ≤ l.length := by have := hk.2.1; rw [List.length_drop] at this; omega
        have hk3 := hk.2.2
        have HF : Hid (R = ((rs ++ [r]) ++ (readS sum8 (l.drop (u + k))).1, (u + k) + (readS sum8 (l.drop (u + k))).2)) := by
          show _ = _
          rw [HI.out, readS_some sum8 hn, List.drop_drop]
          simp [Nat.add_assoc]
        have HRr : Hid (Rd w2.heap.size w2 aor r.length cpr (Bs r)) := (hRr.later hb2).mono hb2.size
        clear hn hk hRr hown hb2 hF
        go_wp2_with fail
        refine (Clone_any _ _ _ r w2 HRr.out (by omega)).mono ?_
        rintro e w3 ⟨ao3, cp3, rfl, hown3, hb3⟩
        obtain ⟨vs, hv1, hv2⟩ := hown2.below hb3
        have hbel3 : Below B w w3 := hbel2.trans (hb3.mono (by omega))
        have hsz3 := hbel3.size
        have hown3' := own_mono hown3 (show B ≤ w2.heap.size by omega)
        clear hown3 hb3 hown2
        go_wp2_with (at_builtin; refine appL rfl _ _ _ rfl _ _ _ _ rfl (hv1.alloc _) _ 1 [_] rfl (src_slice w3 ao3 r.length cp3) (by omega) (by simp; omega) ?_)
        intro ao4 cp4 w4 hown4 hg4 hb4
        have hbel4 := (hbel3.alloc (by omega) _).trans hb4
        have HO : Hid (OwnLL B w4 (.slice ao4 (rs.length + 1) cp4) (rs ++ [r]).length (rs ++ [r])) := by
          refine ⟨_, ?_, ((hv2.snoc hown3').alloc _).grown hg4 (hv1.alloc _)⟩
          rw [List.length_append]
          exact hown4
        clear hown4 hg4 hb4 hv1 hv2 hown3'
        go_wp2
        go_roundw
        case rel => exact ⟨u + k, rs ++ [r], ao4, cp4, hk2, by rw [List.length_append]; simp; omega, by go_num, by simp, HO.out, hbel4, HF⟩
        case measure => simp [intOf]; omega
end Go.Proofs.Ytnmpagnibhaocaa
