/- WalCrash: the walk -/
import Derived.Test.YtjhcldccogpoaaaWI
import Derived.Test.YtjhcldccogpoaaaST
import Derived.Deep.DeepCutAuto
import Derived.Deep.CutBlock
import Derived.Deep.RegionHeldLaw
namespace Go.Proofs.Ytjhcldccogpoaaa
open Go.RowKit

/-- append onto a []int of one's own, as a step of a region that draws, and where it lies then -/
theorem stepI {w : World} {ops : Array Oper} {o : Oper} {a : Act} {K : Act → World → Prop} {Q : Exit → Act → World → Prop} {E : Prop} (hgd : o.guard = none) (s x : Operand) (tx : TypeId)
    (ho : o.op = .call { callee := .builtin .append, args := #[s, x], argTypes := #[52, tx] })
    (base : Nat) (v : Value) (n : Nat) (xs : List Value) (hs : a.eval s = v) (hown : w.ownsRow base 3 1 v n xs)
    (xv : Value) (m : Nat) (news : List Value) (hx : a.eval x = xv) (hsrc : Src Try.prog 1 tx xv m news w)
    (hbytes : (n + m) * 8 ≤ 140737488355328) (hbase : base ≤ w.heap.size)
    (h : ∀ ao' cap' w', w'.ownsRow base 3 1 (.slice ao' (n + m) cap') (n + m) (xs ++ news) → w.grownBy w' v.ownBlock → Below base w w' → (∀ k, Value.ownBlock (.slice ao' (n + m) cap') = some k → v.ownBlock = some k ∨ w.heap.size ≤ k) → K (a.put o.dst (.slice ao' (n + m) cap')) w') :
    if Region.wanted o (yielded ops a.tmps) = true then Oper.wp Try.prog o a w K Q else E := by
  have hw : Region.wanted o (yielded ops a.tmps) = true := by simp [Region.wanted, hgd]
  rw [if_pos hw]
  obtain ⟨i0, hi, hz0, hz1, hz2⟩ := info_parts Try.info3
  obtain ⟨ao', cap', w', hr, h2, h3, h4⟩ := run_append_src2 (P := Try.prog) (ty := o.type) w base 52 tx 3 i0 _ Try.underlying52 hi hz0 hz1 (by omega) rfl v n xs hown xv m news hsrc (by rw [hz2]; exact hbytes) hbase
  unfold Oper.wp execOp
  simp only [ho, resolve, invoke, builtin, Sem.run_bind, Sem.run_pure, Result.andThen_ok, List.map_toArray, List.map_cons, List.map_nil, hs, hx, hr]
  exact h ao' cap' w' h2 h3 ((Below.refl base w).grown h3 hbase fun k hk => (hown.lt k hk).1) h4
theorem Try.infoL : (Try.prog.info? 23).map (fun i => (i.zero, i.size, i.bytes)) = some (some (.slice none 0 0), 1, 24) := by kernel_rfl
/-- append onto a [][]byte of one's own, as a step of a region that draws, under a guard that says yes -/
theorem stepL {w : World} {ops : Array Oper} {o : Oper} {a : Act} {K : Act → World → Prop} {Q : Exit → Act → World → Prop} {E : Prop} (hw : Region.wanted o (yielded ops a.tmps) = true) (s x : Operand)
    (ho : o.op = .call { callee := .builtin .append, args := #[s, x], argTypes := #[32, 32] })
    (base : Nat) (ao : Option Addr) (n cap : Nat) (xs : List Value) (hs : a.eval s = .slice ao n cap) (hown : w.ownsRow base 23 1 (.slice ao n cap) n xs)
    (xo : Option Addr) (m c : Nat) (news : List Value) (hx : a.eval x = .slice xo m c) (hsrc : Src Try.prog 1 32 (.slice xo m c) m news w)
    (hbytes : (n + m) * 24 ≤ 140737488355328) (hbase : base ≤ w.heap.size) {N : Nat} (hN : n + m = N)
    (h : ∀ ao' cap' w', w'.ownsRow base 23 1 (.slice ao' N cap') N (xs ++ news) → Only (fun i => (Value.slice ao n cap).ownBlock = some i) w w' → Below base w w' → (∀ k, Value.ownBlock (.slice ao' N cap') = some k → (Value.slice ao n cap).ownBlock = some k ∨ w.heap.size ≤ k) → K (a.put o.dst (.slice ao' N cap')) w') :
    if Region.wanted o (yielded ops a.tmps) = true then Oper.wp Try.prog o a w K Q else E := by
  rw [if_pos hw]
  subst hN
  obtain ⟨i0, hi, hz0, hz1, hz2⟩ := info_parts Try.infoL
  obtain ⟨ao', cap', w', hr, h2, h3, h4⟩ := run_append_src2 (P := Try.prog) (ty := o.type) w base 32 32 23 i0 _ Try.underlying32 hi hz0 hz1 (by omega) rfl _ n xs hown _ m news hsrc (by rw [hz2]; exact hbytes) hbase
  unfold Oper.wp execOp
  simp only [ho, resolve, invoke, builtin, Sem.run_bind, Sem.run_pure, Result.andThen_ok, List.map_toArray, List.map_cons, List.map_nil, hs, hx, hr]
  exact h ao' cap' w' h2 (Only.of_grown h3 fun _ h => h) ((Below.refl base w).grown h3 hbase fun k hk => (hown.lt k hk).1) h4
theorem not_own {w : World} {top : Nat} : ∀ g, (Value.slice (some ⟨w.heap.size, 0, none⟩) 0 0).ownBlock = some g → ¬ ((w.alloc (.cells #[] 23)).drew.heap.size ≤ g ∧ g < top) := by
  intro g hg hA
  have e : (w.alloc (.cells #[] 23)).drew.heap.size = w.heap.size + 1 := by show (w.heap.push _).size = _; simp
  have h1 := hA.1
  simp only [Value.ownBlock, Option.some.injEq] at hg
  omega
theorem step_rec {AM : Nat → Prop} {W W' : World} {aoM : Option Addr} {m cpM : Nat} {ls : List (List UInt8)} {v v' : Value} (HM : RdLLP AM W aoM m cpM ls) (hlt : ∀ i, AM i → i < W.heap.size) (hv : ∀ g, v.ownBlock = some g → ¬ AM g) (hO : Only (fun i => v.ownBlock = some i) W W')
    (hk : ∀ k, v'.ownBlock = some k → v.ownBlock = some k ∨ W.heap.size ≤ k) : ∃ AM' : Nat → Prop, RdLLP AM' W' aoM m cpM ls ∧ (∀ i, AM' i → i < W'.heap.size) ∧ ∀ g, v'.ownBlock = some g → ¬ AM' g :=
  ⟨AM, HM.only hO fun i hi hT => hv i hT hi, fun i hi => Nat.lt_of_lt_of_le (hlt i hi) hO.size, fun g hg hA => by
    rcases hk g hg with h | h
    · exact hv g h hA
    · have := hlt g hA; omega⟩
theorem rows_one {B : Nat} {w : World} {vs : List Value} {ls : List (List UInt8)} (h : RdL B w vs ls) : ∀ u ∈ vs, u.oneCell' = true := by
  intro u hu
  obtain ⟨k, hk, rfl⟩ := List.getElem_of_mem hu
  obtain ⟨ao, cap, e, _⟩ := h.2 k _ (ls[k]'(by rw [← h.1]; exact hk)) (List.getElem?_eq_getElem hk) (List.getElem?_eq_getElem _)
  rw [e]
  rfl
theorem RdLP.rdl {A : Nat → Prop} {w : World} {vs : List Value} {ls : List (List UInt8)} (h : RdLP A w vs ls) : RdL w.heap.size w vs ls :=
  ⟨h.1, fun k v l h1 h2 => by obtain ⟨ao, cap, e, r⟩ := h.2 k v l h1 h2; exact ⟨ao, cap, e, r.rd⟩⟩
theorem RdL.join {B : Nat} {w : World} {vs us : List Value} {ls ms : List (List UInt8)} (h : RdL B w vs ls) (g : RdL B w us ms) : RdL B w (vs ++ us) (ls ++ ms) := by
  refine ⟨by simp [h.1, g.1], fun k v l h1 h2 => ?_⟩
  by_cases hk : k < vs.length
  · rw [List.getElem?_append_left hk] at h1
    rw [List.getElem?_append_left (by rw [← h.1]; exact hk)] at h2
    exact h.2 k v l h1 h2
  · rw [List.getElem?_append_right (by omega)] at h1
    rw [List.getElem?_append_right (by rw [← h.1]; omega), ← h.1] at h2
    exact g.2 _ v l h1 h2
theorem RdL.till {B : Nat} {w : World} {vs : List Value} {ls : List (List UInt8)} (h : RdL B w vs ls) (n : Nat) : RdL B w (vs.take n) (ls.take n) := by
  refine ⟨by simp [h.1], fun k v l h1 h2 => ?_⟩
  rw [List.getElem?_take] at h1 h2
  split at h1
  · rename_i hk
    rw [if_pos hk] at h2
    exact h.2 k v l h1 h2
  · cases h1
/-- where the k-th record ends -/
def endsS (Y : List (List UInt8)) (k : Nat) : List Int := (List.range k).map fun j => ((framesF sum8 (Y.take (j + 1))).length : Int)
theorem endsS_len (Y : List (List UInt8)) (k : Nat) : (endsS Y k).length = k := by simp [endsS]
theorem endsS_snoc (Y : List (List UInt8)) (k : Nat) : endsS Y (k + 1) = endsS Y k ++ [((framesF sum8 (Y.take (k + 1))).length : Int)] := by simp [endsS, List.range_succ]
theorem endsS_at (Y : List (List UInt8)) (k n : Nat) (h : n < k) : (Is (endsS Y k))[n]? = some (.int .i64 ((framesF sum8 (Y.take (n + 1))).length : Int)) := by
  simp [Is, endsS, h]
/-- a log stays while a row that is none of its own is turned; what was made in between is none of its -/
theorem LK.shrinkO {N T : Nat → Prop} {w w' : World} {lg g s : Nat} {l : List UInt8} (h : LK N w lg g l s) (ho : Only T w w') (hd : ∀ i, N i → i < w.heap.size → ¬ T i) (hl : ¬ T lg) : LK (fun i => N i ∧ ¬ (w.heap.size ≤ i ∧ i < w'.heap.size)) w' lg g l s := by
  have hsz := ho.size
  obtain ⟨⟨h0, S, h1, h2⟩, h3, h4⟩ := h
  refine ⟨⟨fun i hi => ⟨h0 i (by omega), by omega⟩, S, h1.only ho (fun i hi => hd i (h2 i hi).1 (h2 i hi).2), fun i hi => ?_⟩, h3.only ho hl, fun x => h4 x.1⟩
  have := h2 i hi
  exact ⟨⟨this.1, by omega⟩, by omega⟩
/-- what the first loop of WalCrash keeps -/
def Tail (w w6 : World) (lg : Nat) (K : List UInt8) (aoX : Option Addr) (cpX : Nat) (X : List (List UInt8)) (aoY : Option Addr) (cpY : Nat) (Y : List (List UInt8)) (k : Nat) (v : Value) (wr : World) : Prop :=
  ∃ (N A : Nat → Prop), LK N wr lg w.heap.size (K ++ framesF sum8 (Y.take k)) K.length ∧ (∀ i, N i → w.heap.size ≤ i) ∧ (∀ i, A i → ¬ N i ∧ i < w6.heap.size) ∧ RdLLP A wr aoX X.length cpX X ∧ RdLLP A wr aoY Y.length cpY Y ∧
    (∃ ao cp, v = .slice ao k cp) ∧ wr.ownsRow w6.heap.size 3 1 v k (Is (endsS Y k)) ∧ (∀ g, v.ownBlock = some g → ¬ N g) ∧ Below w.heap.size w wr ∧ lg < w6.heap.size ∧ w6.heap.size ≤ wr.heap.size

set_option maxRecDepth 100000 in
set_option maxHeartbeats 8000000 in
theorem walCrash_walk (ao : Option Addr) (n cap : Nat) (a : List (List UInt8)) (ao2 : Option Addr) (n2 cap2 : Nat) (b : List (List UInt8)) (keep : Int) (w : World)
    (h : RdLL w.heap.size w ao n cap a) (h2 : RdLL w.heap.size w ao2 n2 cap2 b) :
    Calls Try.prog 4 #[.slice ao n cap, .slice ao2 n2 cap2, .int .i64 keep] w fun e w' => e = .returned (.bool true) ∧ Below w.heap.size w w' := by
  have HA : Hid (RdLL w.heap.size w ao n cap a) := h
  have HB : Hid (RdLL w.heap.size w ao2 n2 cap2 b) := h2
  obtain ⟨X, hX⟩ : ∃ X, someS a = X := ⟨_, rfl⟩
  obtain ⟨Y, hY⟩ : ∃ Y, someS b = Y := ⟨_, rfl⟩
  have HSX : Hid (someS a = X) := hX
  have HSY : Hid (someS b = Y) := hY
  have hYl : Y.length ≤ 5 := by rw [← hY]; exact someS_len b
  have hXl : X.length ≤ 5 := by rw [← hX]; exact someS_len a
  have HX60 : Hid (∀ r ∈ X, r.length ≤ 60) := by show ∀ r ∈ X, _; rw [← hX]; exact someS_le a
  have HY60 : Hid (∀ r ∈ Y, r.length ≤ 60) := by show ∀ r ∈ Y, _; rw [← hY]; exact someS_le b
  obtain ⟨K, hK⟩ : ∃ K, framesF sum8 X = K := ⟨_, rfl⟩
  have HK : Hid (framesF sum8 X = K) := hK
  have hKl : K.length ≤ 385 := by rw [← hK, ← hX]; exact someS_frames a
  have HW : Hid ((framesF sum8 X).length ≤ 140737488355328) := by rw [hK]; show _ ≤ _; omega
  have HAB : Hid (addB [] X = true) := by
    show _ = _
    rw [addB, hK, ← hX, someS_ok]; exact decide_eq_true (by simp; omega)
  have HAL : Hid ((if true = true then [] ++ framesF sum8 X else []) = K) := by show _ = _; rw [if_pos rfl, hK]; rfl
  have HFY : Hid (∀ k, (framesF sum8 (Y.take k)).length ≤ 385) := by
    intro k
    have h1 := framesF_take_le sum8 Y k
    have h2 := someS_frames b
    rw [hY] at h2
    omega
  clear h h2 hX hY hK
  go_enter Try.func4, Try.ntmps4
  go_wp2_with fail
  refine (New_any w).mono ?_
  rintro e w1 ⟨rfl, hw1⟩
  have hD1 : DK (fun i => w.heap.size ≤ i) w1 w.heap.size [] 0 := by rw [hw1]; exact DK.made w
  have hB1 : Below w.heap.size w w1 := by rw [hw1]; exact (Below.refl _ _).alloc (Nat.le_refl _) _
  clear hw1
  go_wp2_with fail
  refine (Open_dk hD1 openS_nil).mono ?_
  rintro e w2 ⟨lg, rfl, hlg, N, hL2, hN, hO2⟩
  have HN : Hid (∀ i, N i → w.heap.size ≤ i) := hN
  have hB2 := hB1.trans (hO2.below (fun _ h => h) hB1.size)
  clear hD1 hB1 hO2 hN hlg
  go_wp2_with fail
  refine (known_any w2).mono ?_
  rintro e w3 ⟨rfl, hb3⟩
  have hL3 := hL2.below hb3
  have hB3 := bel_call hB2 hb3
  clear hL2 hB2 hb3
  go_wp2_with fail
  refine (some_any _ _ _ a w3 ((HA.out.later hB3).mono hB3.size) HSX.out).mono ?_
  rintro e w4 ⟨aoX, cpX, rfl, hown4, hb4⟩
  have hB4 := bel_call hB3 hb4
  go_wp2_with fail
  refine (some_any _ _ _ b w4 ((HB.out.later hB4).mono hB4.size) HSY.out).mono ?_
  rintro e w5 ⟨aoY, cpY, rfl, hown5, hb5⟩
  have hB5 := bel_call hB4 hb5
  have hs34 := hb4.size
  have hs45 := hb5.size
  have hb35 : Below w3.heap.size w3 w5 := hb4.trans (hb5.mono hs34)
  obtain ⟨N5, A5, hL5, hN5, HAN, hX5, hY5⟩ : ∃ N5 A5 : Nat → Prop, LK N5 w5 lg w.heap.size [] 0 ∧ (∀ i, N5 i → N i) ∧ Hid (∀ i, A5 i → ¬ N5 i ∧ i < w5.heap.size) ∧ RdLLP A5 w5 aoX X.length cpX X ∧ RdLLP A5 w5 aoY Y.length cpY Y :=
    ⟨_, fun i => w3.heap.size ≤ i ∧ i < w5.heap.size, hL3.shrink hb35, fun i hi => hi.1, fun i hi => ⟨fun hn => hn.2 hi, hi.2⟩, (hown4.below hb5).rdP fun i h1 h2 => ⟨h1, h2⟩, hown5.rdP fun i h1 h2 => ⟨by omega, h2⟩⟩
  have HN5 : Hid (∀ i, N5 i → w.heap.size ≤ i) := fun i hi => HN.out i (hN5 i hi)
  have HX5 : Hid (RdLLP A5 w5 aoX X.length cpX X) := hX5
  have HY5 : Hid (RdLLP A5 w5 aoY Y.length cpY Y) := hY5
  clear hL3 hB3 hB4 hb4 hb5 hown4 hown5 hb35 hN5 HN hX5 hY5 hs34 hs45
  go_wp2_with fail
  refine (Add_lk hL5 HX5.out.rd HW.out HAB.out HAL.out).mono ?_
  rintro e w6 ⟨rfl, hL6, hO6⟩
  have hB6 := hB5.trans (hO6.below HN5.out hB5.size)
  have hs56 := hO6.size
  have HX6 : Hid (RdLLP A5 w6 aoX X.length cpX X) := HX5.out.only hO6 fun i hi => (HAN.out i hi).1
  have HY6 : Hid (RdLLP A5 w6 aoY Y.length cpY Y) := HY5.out.only hO6 fun i hi => (HAN.out i hi).1
  have hc6 := hL6.cell
  clear hL5 hB5 hO6 HX5 HY5
  go_wp2_with fail
  refine (Sync_dk hL6.dk).mono ?_
  rintro e w7 ⟨rfl, hD7, hO7⟩
  have hL7 := hL6.next hD7 hO7
  have hB7 := hB6.trans (hO7.below HN5.out hB6.size)
  have hs67 := hO7.size
  have HT7 : Hid (Tail w w7 lg K aoX cpX X aoY cpY Y 0 (.slice none 0 0) w7) := ⟨N5, A5, by simpa [framesF] using hL7, HN5.out, fun i hi => ⟨(HAN.out i hi).1, by have := (HAN.out i hi).2; omega⟩, HX6.out.only hO7 fun i hi => (HAN.out i hi).1, HY6.out.only hO7 fun i hi => (HAN.out i hi).1,
    ⟨none, 0, rfl⟩, World.ownsRow_nil _ _ _ _, (fun g hg => by cases hg), hB7, hL7.lt, Nat.le_refl _⟩
  have HB7 : Hid (w.heap.size ≤ w7.heap.size) := hB7.size
  clear hL6 hL7 hD7 hO7 hB6 hB7 HX6 HY6 HN5 HAN hc6 hs56 hs67
  go_wp2
  go_loopw [11, 44] (fun v i wr => ∃ k : Nat, k ≤ Y.length ∧ i = .int .i64 k ∧ Tail w w7 lg K aoX cpX X aoY cpY Y k v wr) (fun _ i _ => Y.length - (intOf i).toNat)
  case atStart => exact ⟨0, Nat.zero_le _, rfl, HT7.out⟩
  case round =>
    clear HT7
    obtain ⟨k, hk, rfl, N8, A8, hL8, hN8, hA8, hX8, hY8, ⟨aoE, cpE, rfl⟩, hE8, hEN8, hB8, hlg8, hs78⟩ := hrel
    by_cases hlt : k < Y.length
    · obtain ⟨b0, off, rfl, hbB, hAb, hcells⟩ := hY8.at (by omega)
      obtain ⟨r, hr⟩ : ∃ r, Y[k]? = some r := ⟨Y[k], List.getElem?_eq_getElem _⟩
      obtain ⟨aor, cpr, hcr, hRr⟩ := hcells k r hr
      have hr60 : r.length ≤ 60 := HY60.out r (List.mem_of_getElem? hr)
      have hsn := framesF_snoc sum8 hr
      obtain ⟨M, hM⟩ : ∃ M, K ++ framesF sum8 (Y.take (k + 1)) = M := ⟨_, rfl⟩
      obtain ⟨q, hq⟩ : ∃ q, (framesF sum8 (Y.take (k + 1))).length = q := ⟨_, rfl⟩
      have hq385 : q ≤ 385 := by rw [← hq]; exact HFY.out (k + 1)
      have HML : Hid (M.length = K.length + q) := by show _ = _; rw [← hM, List.length_append, hq]
      have HAD : Hid (addB (K ++ framesF sum8 (Y.take k)) [r] = true) := by
        show _ = _
        have h1 : (K ++ framesF sum8 (Y.take k)).length + (framesF sum8 [r]).length = K.length + q := by
          rw [← hq, hsn, framesF_one, List.length_append, List.length_append]; omega
        rw [addB, okL_of (ls := [r]) (by simp; omega), h1]; exact decide_eq_true (by omega)
      have HAL2 : Hid ((if true = true then (K ++ framesF sum8 (Y.take k)) ++ framesF sum8 [r] else (K ++ framesF sum8 (Y.take k))) = M) := by
        show _ = _
        rw [if_pos rfl, ← hM, hsn, framesF_one, List.append_assoc]
      have HFW : Hid ((framesF sum8 [r]).length ≤ 140737488355328) := by
        show _ ≤ _
        rw [framesF_one]; have := frameF_le sum8 sum8_length r (by omega); omega
      have HRr : Hid (RdP A8 wr aor r.length cpr (Bs r)) := hRr
      have HM2 : Hid (K ++ framesF sum8 (Y.take (k + 1)) = M) := hM
      have HQ2 : Hid ((framesF sum8 (Y.take (k + 1))).length = q) := hq
      clear hcells hr hRr hsn hM hq
      go_wp2_with fail
      refine (Add_lk (hL8.below ((Below.refl _ _).alloc (Nat.le_refl _) _)) (box_one (fun _ => True) wr aor cpr r (HRr.out.mono fun _ _ _ => trivial) trivial).rd HFW.out HAD.out HAL2.out).mono ?_
      rintro e w9 ⟨rfl, hL9, hO9⟩
      have hbo : Below wr.heap.size wr (wr.alloc (.cells #[.slice aor r.length cpr] 23)) := (Below.refl _ _).alloc (Nat.le_refl _) _
      have hE9 : w9.ownsRow w7.heap.size 3 1 (.slice aoE k cpE) k (Is (endsS Y k)) := own_only (hE8.alloc _) hO9 hEN8
      have HX9 : Hid (RdLLP A8 w9 aoX X.length cpX X) := (hX8.below hbo).only hO9 fun i hi => (hA8 i hi).1
      have HY9 : Hid (RdLLP A8 w9 (some ⟨b0, off, none⟩) Y.length cpY Y) := (hY8.below hbo).only hO9 fun i hi => (hA8 i hi).1
      have HB9 : Hid (Below w.heap.size w w9) := (hB8.alloc hB8.size _).trans (hO9.below hN8 (hB8.alloc hB8.size _).size)
      have HS9 : Hid (w7.heap.size ≤ w9.heap.size ∧ lg < w7.heap.size) := ⟨Nat.le_trans hs78 (Nat.le_trans hbo.size hO9.size), hlg8⟩
      have HL9 : Hid (LK N8 w9.drew lg w.heap.size M K.length) := hL9.below (below_drew w9)
      have HE9 : Hid (w9.ownsRow w7.heap.size 3 1 (.slice aoE k cpE) k (Is (endsS Y k))) := hE9
      have HEN : Hid (∀ g, (Value.slice aoE k cpE).ownBlock = some g → ¬ N8 g) := hEN8
      have HNA : Hid ((∀ i, N8 i → w.heap.size ≤ i) ∧ ∀ i, A8 i → ¬ N8 i ∧ i < w7.heap.size) := ⟨hN8, hA8⟩
      have hc9 := hL9.cell
      have hwr : IntKind.i64.wrap ((M.length : Int) - (K.length : Int)) = (q : Int) := by rw [IntKind.wrap_i64]; have := HML.out; omega
      have hk5 : (k : Int) ≤ 5 := by omega
      clear hbo hE9 hE8 hX8 hY8 hB8 hs78 hlg8 hL9 hL8 hO9 hEN8 hN8 hA8 HAD HAL2 HFW HRr
      go_upto_region 16 with fail
      have hbA : Below w9.heap.size w9 (w9.alloc (.cells #[.int .i64 q] 3)).drew := ⟨rfl, rfl, rfl, by show _ ≤ (w9.heap.push _).size; simp, fun k hk => Below.heap_alloc w9 _ k hk⟩
      have HBA : Hid (Below w9.heap.size w9 (w9.alloc (.cells #[.int .i64 q] 3)).drew) := hbA
      have HSA : Hid (w7.heap.size ≤ (w9.alloc (.cells #[.int .i64 q] 3)).drew.heap.size) := Nat.le_trans HS9.out.1 hbA.size
      have HEA : Hid ((w9.alloc (.cells #[.int .i64 q] 3)).drew.ownsRow w7.heap.size 3 1 (.slice aoE k cpE) k (Is (endsS Y k))) := HE9.out.alloc _
      have HSRC : Hid (Src Try.prog 1 52 (.slice (some ⟨w9.heap.size, 0, none⟩) 1 1) 1 [.int .i64 q] (w9.alloc (.cells #[.int .i64 q] 3)).drew) := (Rd.drew (Rd.built w9 [.int .i64 q] 3 (by unfold maxLen; simp))).src Try.underlying52 (by simp [Value.oneCell'])
      have HLA : Hid (LK N8 (w9.alloc (.cells #[.int .i64 q] 3)).drew lg w.heap.size M K.length) := HL9.out.below ⟨rfl, rfl, rfl, hbA.size, hbA.block⟩
      clear hbA
      have tokA : True := trivial
      have tokB : True := trivial
      go_region_held_law (fun w' => w'.cell? ⟨lg, 0, none⟩ = some (.pointer (some ⟨w.heap.size, 0, none⟩))) (first | with_reducible assumption | go_keep) (first
        | (have _t := tokA; go_at_call 27; refine (Size_dk HL9.out.dk).mono ?_; rintro e wq ⟨rfl, hwq⟩; subst wq; clear tokA)
        | (have _t := tokB; go_at_call 24; refine (Synced_dk HL9.out.dk).mono ?_; rintro e wq ⟨rfl, hwq⟩; subst wq; clear tokB)
        | (refine stepI rfl _ _ _ rfl w7.heap.size (.slice aoE k cpE) k (Is (endsS Y k)) rfl HEA.out (.slice (some ⟨w9.heap.size, 0, none⟩) 1 1) 1 [.int .i64 q] rfl HSRC.out (by omega) HSA.out ?_; intro ao' cap' w10 hown10 hg10 hb10 hk10; have HW10 : Hid (w10.ownsRow w7.heap.size 3 1 (.slice ao' (k + 1) cap') (k + 1) (Is (endsS Y k) ++ [.int .i64 q])) := hown10; have HO10 := Only.of_grown (S := fun i => (Value.slice aoE k cpE).ownBlock = some i) hg10 (fun _ h => h); have HL10 : Hid (LK _ w10 lg w.heap.size M K.length) := HLA.out.shrinkO HO10 (fun i hi _ hT => HEN.out i hT hi) (fun hT => by have := (HEA.out.lt lg hT).1; have := HS9.out.2; omega); have hc10 := HL10.out.cell; have HO10h : Hid (Only (fun i => (Value.slice aoE k cpE).ownBlock = some i) (w9.alloc (.cells #[.int .i64 q] 3)).drew w10) := HO10; have HK10 : Hid (∀ g, Value.ownBlock (.slice ao' (k + 1) cap') = some g → (Value.slice aoE k cpE).ownBlock = some g ∨ ((w9.alloc (.cells #[.int .i64 q] 3)).drew).heap.size ≤ g) := hk10; clear hown10 hg10 hb10 hk10 HO10))
      all_goals
        go_wp2
        have hbo : Below w9.heap.size w9 (w9.alloc (.cells #[.int .i64 q] 3)).drew := HBA.out
        have hz10 := HO10h.out.size
        have hz9 := hbo.size
        have hAT : ∀ i, A8 i → ¬ (Value.slice aoE k cpE).ownBlock = some i := by
          intro i hi hT
          have h1 := (HEA.out.lt i hT).1
          have h2 := (HNA.out.2 i hi).2
          omega
        refine ⟨⟨k + 1, hlt, by go_num, fun i => N8 i ∧ ¬ ((w9.alloc (.cells #[.int .i64 q] 3)).drew.heap.size ≤ i ∧ i < w10.heap.size), A8, ?_, fun i hi => HNA.out.1 i hi.1, fun i hi => ⟨fun hn => (HNA.out.2 i hi).1 hn.1, (HNA.out.2 i hi).2⟩, (HX9.out.below hbo).only HO10h.out hAT, (HY9.out.below hbo).only HO10h.out hAT, ⟨_, _, rfl⟩, ?_, ?_, ?_, HS9.out.2, by have := HS9.out.1; omega⟩, by simp [intOf]; omega⟩
        · rw [HM2.out]
          exact HL10.out
        · rw [endsS_snoc, HQ2.out, Is_append]
          exact HW10.out
        · intro i hi hn
          rcases HK10.out i hi with h1 | h1
          · exact HEN.out i h1 hn.1
          · exact hn.2 ⟨h1, by have := (HW10.out.lt i hi).2; omega⟩
        · exact (bel_call HB9.out hbo).trans (HO10h.out.below (fun i hT => by have h1 := (HEA.out.lt i hT).1; have h2 := HS9.out.2; have h3 := HL10.out.lt; have h4 := HB7.out; omega) (bel_call HB9.out hbo).size)
    · obtain rfl : k = Y.length := by omega
      rw [List.take_length] at hL8
      have hT1 := HFY.out Y.length
      rw [List.take_length] at hT1
      obtain ⟨T, hT⟩ : ∃ T, framesF sum8 Y = T := ⟨_, rfl⟩
      have HT : Hid (framesF sum8 Y = T) := hT
      rw [hT] at hL8 hT1
      obtain ⟨q, hq⟩ : ∃ q : Nat, pick keep ((T.length : Int) + 1) = q := ⟨(pick keep ((T.length : Int) + 1)).toNat, by have := pick_lo keep ((T.length : Int) + 1) (by omega); omega⟩
      have hqT : q ≤ T.length := by have := pick_hi keep ((T.length : Int) + 1) (by omega); omega
      have HQ : Hid (pick keep ((T.length : Int) + 1) = q) := hq
      obtain ⟨M, hM⟩ : ∃ M, K ++ T = M := ⟨_, rfl⟩
      have HM : Hid (K ++ T = M) := hM
      have HML : Hid (M.length = K.length + T.length) := by show _ = _; rw [← hM, List.length_append]
      rw [hM] at hL8
      have hwr1 : IntKind.i64.wrap ((M.length : Int) - (K.length : Int)) = (T.length : Int) := by rw [IntKind.wrap_i64]; have := HML.out; omega
      have hwr2 : IntKind.i64.wrap ((T.length : Int) + 1) = (T.length : Int) + 1 := by rw [IntKind.wrap_i64]; omega
      have HL8 : Hid (LK N8 wr lg w.heap.size M K.length) := hL8
      have HL8d : Hid (LK N8 wr.drew lg w.heap.size M K.length) := hL8.below (below_drew wr)
      have HX8 : Hid (RdLLP A8 wr aoX X.length cpX X) := hX8
      have HY8 : Hid (RdLLP A8 wr aoY Y.length cpY Y) := hY8
      have HE8 : Hid (wr.ownsRow w7.heap.size 3 1 (.slice aoE Y.length cpE) Y.length (Is (endsS Y Y.length))) := hE8
      have HEN : Hid (∀ g, (Value.slice aoE Y.length cpE).ownBlock = some g → ¬ N8 g) := hEN8
      have HNA : Hid ((∀ i, N8 i → w.heap.size ≤ i) ∧ ∀ i, A8 i → ¬ N8 i ∧ i < w7.heap.size) := ⟨hN8, hA8⟩
      have HB8 : Hid (Below w.heap.size w wr ∧ lg < w7.heap.size ∧ w7.heap.size ≤ wr.heap.size) := ⟨hB8, hlg8, hs78⟩
      have hc8 := hL8.cell
      clear hT hq hM hL8 hX8 hY8 hE8 hEN8 hN8 hA8 hB8 hlg8 hs78 hlt
      go_upto_region 18 with fail
      go_cut [2] (fun v wx => v = .int .i64 q ∧ LK N8 wx lg w.heap.size M K.length ∧ Only (fun _ => False) wr wx)
      case first =>
        have tokA : True := trivial
        have tokB : True := trivial
        have tokC : True := trivial
        go_region_held_law (fun w' => w'.cell? ⟨lg, 0, none⟩ = some (.pointer (some ⟨w.heap.size, 0, none⟩))) (first | with_reducible assumption | go_keep) (first
          | (have _t := tokA; go_at_call 27; refine (Size_dk HL8d.out.dk).mono ?_; rintro e wq ⟨rfl, hwq⟩; subst wq; clear tokA)
          | (have _t := tokB; go_at_call 24; refine (Synced_dk HL8d.out.dk).mono ?_; rintro e wq ⟨rfl, hwq⟩; subst wq; clear tokB)
          | (have _t := tokC; go_at_call 9; refine (Pick_eq _ _ _ (by omega) (by omega) HQ.out).mono ?_; rintro e wq ⟨rfl, hwq⟩; subst wq; clear tokC))
        all_goals
          go_wp2
          go_meet
          case rel => exact ⟨rfl, HL8d.out, Only.of_drew _ _⟩
      case rest =>
      obtain ⟨rfl, hL9, hO9⟩ := hcut
      obtain ⟨w9, rfl⟩ : ∃ w9 : World, w9 = wc := ⟨_, rfl⟩
      have hX9 := HX8.out.only hO9 fun _ _ => id
      have hY9 := HY8.out.only hO9 fun _ _ => id
      have hE9 := own_only HE8.out hO9 fun _ _ => id
      have hB9 := HB8.out.1.trans (hO9.below (fun _ h => h.elim) HB8.out.1.size)
      have hs9 := hO9.size
      have hc9 := hL9.cell
      clear hO9 hc8 HX8 HY8 HE8 HL8 HL8d hwr1 hwr2
      go_wp2_with fail
      have hkq : kept (q : Int) (M.length - K.length) = q := by unfold kept; have := HML.out; omega
      obtain ⟨C, hC⟩ : ∃ C, M.take (K.length + q) = C := ⟨_, rfl⟩
      have HCM : Hid (M.take (K.length + q) = C) := hC
      refine (Crash_dk hL9.dk (q : Int) hkq hC rfl).mono ?_
      rintro e w10 ⟨rfl, hD10, hO10⟩
      have HX10 : Hid (RdLLP A8 w10 aoX X.length cpX X) := hX9.only hO10 fun i hi => (HNA.out.2 i hi).1
      have HY10 : Hid (RdLLP A8 w10 aoY Y.length cpY Y) := hY9.only hO10 fun i hi => (HNA.out.2 i hi).1
      have HE10 : Hid (w10.ownsRow w7.heap.size 3 1 (.slice aoE Y.length cpE) Y.length (Is (endsS Y Y.length))) := own_only hE9 hO10 HEN.out
      have HB10 : Hid (Below w.heap.size w w10) := hB9.trans (hO10.below HNA.out.1 hB9.size)
      have HD10 : Hid (DK N8 w10 w.heap.size C (K.length + q)) := hD10
      clear hkq hC hL9 hX9 hY9 hE9 hB9 hs9 hc9 hO10 hD10
      go_upto_block 2 with fail
      go_cut [14] (fun v wx => wx = w10 ∧ ∃ n : Nat, v = .int .i64 n ∧ n ≤ Y.length ∧ (framesF sum8 (Y.take n)).length ≤ q ∧ (Y.length ≤ n ∨ ∃ r, Y[n]? = some r ∧ q < (framesF sum8 (Y.take n)).length + (frameF sum8 r).length))
      case first =>
        go_wp2
        go_loopw [14] (fun i wr => ∃ n : Nat, n ≤ Y.length ∧ i = .int .i64 n ∧ wr = w10 ∧ Hid ((framesF sum8 (Y.take n)).length ≤ q)) (fun i _ => Y.length - (intOf i).toNat)
        case atStart => exact ⟨0, Nat.zero_le _, rfl, rfl, by show _ ≤ _; simp [framesF]⟩
        case round =>
          obtain ⟨n, hn, rfl, rfl, hfn⟩ := hrel
          by_cases hlt : n < Y.length
          · obtain ⟨d, off, rfl, hd, hcs⟩ := (ownsRow.rd HE10.out).atSome (by omega)
            have hcn := hcs n _ (endsS_at Y Y.length n hlt)
            obtain ⟨e1, he1⟩ : ∃ e1 : Nat, (framesF sum8 (Y.take (n + 1))).length = e1 := ⟨_, rfl⟩
            rw [he1] at hcn
            have HE1 : Hid ((framesF sum8 (Y.take (n + 1))).length = e1) := he1
            have hni : (n : Int) < (Y.length : Int) := by omega
            clear hcs he1
            by_cases hle : e1 ≤ q
            · have hlei : (e1 : Int) ≤ (q : Int) := by omega
              go_wp2
              go_roundw
              case rel => exact ⟨n + 1, hlt, by go_num, by first | trivial | rfl, by show _ ≤ _; rw [HE1.out]; exact hle⟩
              case measure => simp [intOf]; omega
            · have hlei : (q : Int) < (e1 : Int) := by omega
              have hr : Y[n]? = some Y[n] := List.getElem?_eq_getElem hlt
              have HR : Hid (Y.length ≤ n ∨ ∃ r, Y[n]? = some r ∧ q < (framesF sum8 (Y.take n)).length + (frameF sum8 r).length) := by
                refine .inr ⟨_, hr, ?_⟩
                have h1 := HE1.out
                rw [framesF_snoc sum8 hr, List.length_append] at h1
                omega
              clear hr
              go_wp2
              go_meet
              case rel => exact ⟨by first | trivial | rfl, n, rfl, hn, hfn.out, HR.out⟩
          · have hni : (Y.length : Int) ≤ (n : Int) := by omega
            go_wp2
            go_meet
            case rel => exact ⟨by first | trivial | rfl, n, rfl, hn, hfn.out, .inl (by omega)⟩
      case rest =>
      obtain ⟨rfl, n, rfl, hn, hfn, hstop⟩ := hcut
      obtain ⟨F, hF⟩ : ∃ F, framesF sum8 (X ++ Y.take n) = F := ⟨_, rfl⟩
      have HF : Hid (framesF sum8 (X ++ Y.take n) = F) := hF
      have hXY : ∀ r ∈ X ++ Y, r.length ≤ 4000 := fun r hr => by
        rcases List.mem_append.1 hr with h | h
        · have := HX60.out r h; omega
        · have := HY60.out r h; omega
      have htk : (X ++ Y).take (X.length + n) = X ++ Y.take n := by rw [List.take_length_add_append]
      have hFM : framesF sum8 (X ++ Y) = M := by rw [framesF_append, HK.out, HT.out, HM.out]
      have hFl : F.length = K.length + (framesF sum8 (Y.take n)).length := by rw [← hF, framesF_append, List.length_append, HK.out]
      have hop : openS C (K.length + q) = (F, F.length) := by
        have h := openS_cut (X ++ Y) hXY (K.length + q) (X.length + n) (by rw [htk, hF, hFl]; omega) ?_ (n := K.length + q) ?_
        · rw [hFM, HCM.out, htk, hF] at h
          exact h
        · rcases hstop with h | ⟨r, h1, h2⟩
          · left; rw [List.length_append]; omega
          · right
            refine ⟨r, ?_, ?_⟩
            · rw [List.getElem?_append_right (by omega)]
              rw [show X.length + n - X.length = n by omega]
              exact h1
            · rw [htk, hF, hFl]; omega
        · rw [hFM, List.length_take]
          have := HML.out
          omega
      have HRD : Hid (readS sum8 F = (X ++ Y.take n, F.length)) := by
        have h := readS_all sum8 sum8_length (X ++ Y.take n) (fun r hr => by
          rcases List.mem_append.1 hr with h | h
          · exact hXY r (List.mem_append_left _ h)
          · exact hXY r (List.mem_append_right _ (List.mem_of_mem_take h)))
        rw [hF] at h
        exact h
      have HOP : Hid (openS C (K.length + q) = (F, F.length)) := hop
      have hn5 : (n : Int) ≤ (Y.length : Int) := by omega
      clear hF hXY htk hFM hFl hop hstop hfn
      go_wp2_with fail
      refine (Open_dk HD10.out HOP.out).mono ?_
      rintro e w11 ⟨lm, rfl, hlm, N', hL11, hN', hO11⟩
      have HX11 : Hid (RdLLP A8 w11 aoX X.length cpX X) := HX10.out.only hO11 fun i hi => (HNA.out.2 i hi).1
      have HY11 : Hid (RdLLP A8 w11 aoY Y.length cpY Y) := HY10.out.only hO11 fun i hi => (HNA.out.2 i hi).1
      have HL11 : Hid (LK N' w11 lm w.heap.size F F.length) := hL11
      have HN11 : Hid (∀ i, N' i → w.heap.size ≤ i) := fun i hi => HNA.out.1 i (hN' i hi)
      have HB11 : Hid (Below w.heap.size w w11) := HB10.out.trans (hO11.below HNA.out.1 HB10.out.size)
      have hc11 := hL11.cell
      clear hlm hL11 hN' hO11 HX10 HY10 HE10 HD10 HB10
      go_upto_region 24 with fail
      obtain ⟨vX, hvX, hlX⟩ := HX11.out
      obtain ⟨vY, hvY, hlY⟩ := HY11.out
      have hvXl : vX.length = X.length := hvX.1.1
      have hvYl : vY.length = Y.length := hvY.1.1
      have HSX : Hid (∀ W, Below w11.heap.size w11 W → Src Try.prog 1 32 (.slice aoX X.length cpX) X.length vX W) := fun W hW => (hvX.1.later hW).src Try.underlying32 (rows_one hlX.rdl)
      have HSY : Hid (∀ W, Below w11.heap.size w11 W → Src Try.prog 1 32 (.slice aoY n cpY) n (vY.take n) W) := fun W hW => ((hvY.1.later hW).till n hn).src Try.underlying32 fun u hu => rows_one hlY.rdl u (List.mem_of_mem_take hu)
      have HLS : Hid (∀ W, Below w11.heap.size w11 W → RdL W.heap.size W (([] ++ vX) ++ vY.take n) (X ++ Y.take n)) := fun W hW => by
        have h1 := (hlX.only (Only.of_below (fun _ => False) hW) fun _ _ => id).rdl
        have h2 := (hlY.only (Only.of_below (fun _ => False) hW) fun _ _ => id).rdl
        simpa using h1.join (h2.till n)
      have HVL : Hid ((([] ++ vX) ++ vY.take n).length = X.length + n) := by show _ = _; simp; omega
      have HREC : Hid (∀ W, Below w11.heap.size w11 W → Calls Try.prog 26 #[.pointer (some ⟨lm, 0, none⟩)] W fun e w' => ∃ aoM cpM, e = .returned (.slice aoM (X ++ Y.take n).length cpM) ∧ Hid (RdLLP (fun i => W.heap.size ≤ i ∧ i < w'.heap.size) w' aoM (X ++ Y.take n).length cpM (X ++ Y.take n)) ∧ Below W.heap.size W w') := fun W hW => by
        refine (Records_lk (HL11.out.below hW) HRD.out rfl).mono ?_
        rintro e w' ⟨aoM, cpM, rfl, h1, h2⟩
        exact ⟨aoM, cpM, rfl, h1.rdP fun i a b => ⟨a, b⟩, h2⟩
      have HBd : Below w11.heap.size w11 w11.drew := (Below.refl _ _).drew
      have HBa : Below w11.heap.size w11 (w11.alloc (.cells #[] 23)).drew := ⟨rfl, rfl, rfl, by show _ ≤ (w11.heap.push _).size; simp, fun k hk => Below.heap_alloc w11 _ k hk⟩
      have hlm : lm < w11.heap.size := HL11.out.lt
      have hcY : (n : Int) ≤ (cpY : Int) := by have := hvY.1.2.1; omega
      obtain ⟨m, hm⟩ : ∃ m, (X ++ Y.take n).length = m := ⟨_, rfl⟩
      rw [hm] at HREC
      have HM2 : Hid ((X ++ Y.take n).length = m ∧ m = X.length + n) := ⟨hm, by rw [← hm]; simp; omega⟩
      clear hvX hlX hvY hlY hvXl hvYl hm
      have tokR : True := trivial
      go_region_held_law (fun w' => w'.cell? ⟨lm, 0, none⟩ = some (.pointer (some ⟨w.heap.size, 0, none⟩))) (first | with_reducible assumption | go_keep) (first
        | (have _t := tokR; go_at_call 26; refine Calls.mono (HREC.out _ (by first | with_reducible exact HBd | with_reducible exact HBa)) ?_; rintro e w12 ⟨aoM, cpM, rfl, hrd, hb⟩; first
            | (have hb2 : Below w11.drew.heap.size w11.drew w12 := (by with_reducible exact hb); have HB12 : Hid (Below w11.heap.size w11 w12) := HBd.trans hb2; have hc12 := (HL11.out.below HB12.out).cell; have hlm12 : lm < w12.heap.size := Nat.lt_of_lt_of_le hlm HB12.out.size; have hba : Below w12.heap.size w12 (w12.alloc (.cells #[] 23)) := ⟨rfl, rfl, rfl, by (show _ ≤ (w12.heap.push _).size; simp), fun k hk => Below.heap_alloc w12 _ k hk⟩; have HB0 : Hid (Below w11.heap.size w11 (w12.alloc (.cells #[] 23))) := HB12.out.trans (hba.mono HB12.out.size); have HO0 : Hid ((w12.alloc (.cells #[] 23)).ownsRow w11.heap.size 23 1 (.slice (some ⟨w12.heap.size, 0, none⟩) 0 0) 0 []) := own_mono (own_built w12 23) HB12.out.size; have HJ0 : Hid (∃ AM : Nat → Prop, RdLLP AM (w12.alloc (.cells #[] 23)) aoM m cpM (X ++ Y.take n) ∧ (∀ i, AM i → i < (w12.alloc (.cells #[] 23)).heap.size) ∧ ∀ g, (Value.slice (some ⟨w12.heap.size, 0, none⟩) 0 0).ownBlock = some g → ¬ AM g) := ⟨_, hrd.out.below hba, fun i hi => Nat.lt_of_lt_of_le hi.2 hba.size, fun g hg hA => by (simp [Value.ownBlock] at hg; have := hA.2; omega)⟩; have tokA : True := trivial; clear hb hb2 hrd hba tokR)
            | (have hb2 : Below (w11.alloc (.cells #[] 23)).drew.heap.size (w11.alloc (.cells #[] 23)).drew w12 := (by with_reducible exact hb); have HB12 : Hid (Below w11.heap.size w11 w12) := HBa.trans (hb2.mono HBa.size); have hc12 := (HL11.out.below HB12.out).cell; have HOB : Hid (w12.ownsRow w11.heap.size 23 1 (.slice (some ⟨w11.heap.size, 0, none⟩) 0 0) 0 []) := own_below (w := (w11.alloc (.cells #[] 23)).drew) (own_built w11 23) hb2; have HJ0 : Hid (∃ AM : Nat → Prop, RdLLP AM w12 aoM m cpM (X ++ Y.take n) ∧ (∀ i, AM i → i < w12.heap.size) ∧ ∀ g, (Value.slice (some ⟨w11.heap.size, 0, none⟩) 0 0).ownBlock = some g → ¬ AM g) := ⟨_, hrd.out, fun i hi => hi.2, not_own⟩; have tokB : True := trivial; clear hb hb2 hrd tokR))
        | (have _t := tokA; (refine stepL ?_ _ _ rfl w11.heap.size (some ⟨w12.heap.size, 0, none⟩) 0 0 [] rfl HO0.out aoX X.length cpX vX rfl (HSX.out _ HB0.out) (by omega) HB0.out.size (Nat.zero_add _) ?_; rfl; intro ao1 cp1 x1 hown1 hO1 hb1 hk1; have HX1 : Hid (x1.ownsRow w11.heap.size 23 1 (.slice ao1 X.length cp1) X.length ([] ++ vX)) := hown1; obtain ⟨AM, j1, j2, j3⟩ := HJ0.out; have HJ1 : Hid (∃ AM : Nat → Prop, RdLLP AM x1 aoM m cpM (X ++ Y.take n) ∧ (∀ i, AM i → i < x1.heap.size) ∧ ∀ g, (Value.slice ao1 X.length cp1).ownBlock = some g → ¬ AM g) := step_rec j1 j2 j3 hO1 hk1; have HB1 : Hid (Below w11.heap.size w11 x1) := HB0.out.trans hb1; have hcx1 := (HL11.out.below HB1.out).cell; have tokC : True := trivial; clear hown1 hO1 hb1 hk1 j1 j2 j3; clear tokA))
        | (have _t := tokB; (refine stepL ?_ _ _ rfl w11.heap.size (some ⟨w11.heap.size, 0, none⟩) 0 0 [] rfl HOB.out aoX X.length cpX vX rfl (HSX.out _ HB12.out) (by omega) HB12.out.size (Nat.zero_add _) ?_; rfl; intro ao1 cp1 x1 hown1 hO1 hb1 hk1; have HX1 : Hid (x1.ownsRow w11.heap.size 23 1 (.slice ao1 X.length cp1) X.length ([] ++ vX)) := hown1; obtain ⟨AM, j1, j2, j3⟩ := HJ0.out; have HJ1 : Hid (∃ AM : Nat → Prop, RdLLP AM x1 aoM m cpM (X ++ Y.take n) ∧ (∀ i, AM i → i < x1.heap.size) ∧ ∀ g, (Value.slice ao1 X.length cp1).ownBlock = some g → ¬ AM g) := step_rec j1 j2 j3 hO1 hk1; have HB1 : Hid (Below w11.heap.size w11 x1) := HB12.out.trans hb1; have hcx1 := (HL11.out.below HB1.out).cell; have tokC : True := trivial; clear hown1 hO1 hb1 hk1 j1 j2 j3; clear tokB))
        | (have _t := tokC; (refine stepL ?_ _ _ rfl w11.heap.size ao1 X.length cp1 ([] ++ vX) rfl HX1.out aoY n cpY (vY.take n) rfl (HSY.out _ HB1.out) (by omega) HB1.out.size HM2.out.2.symm ?_; rfl; intro ao2 cp2 x2 hown2 hO2 hb2 hk2; have HX2 : Hid (x2.ownsRow w11.heap.size 23 1 (.slice ao2 m cp2) m (([] ++ vX) ++ vY.take n)) := hown2; obtain ⟨AM, j1, j2, j3⟩ := HJ1.out; have HJ2 : Hid (∃ AM : Nat → Prop, RdLLP AM x2 aoM m cpM (X ++ Y.take n) ∧ (∀ i, AM i → i < x2.heap.size) ∧ ∀ g, (Value.slice ao2 m cp2).ownBlock = some g → ¬ AM g) := step_rec j1 j2 j3 hO2 hk2; have HB2 : Hid (Below w11.heap.size w11 x2) := HB1.out.trans hb2; have hcx2 := (HL11.out.below HB2.out).cell; have tokD : True := trivial; clear hown2 hO2 hb2 hk2 j1 j2 j3 tokC))
        | (have _t := tokD; go_at_call 25; (refine (same_any aoM m cpM (X ++ Y.take n) ao2 m cp2 (X ++ Y.take n) x2 (by (obtain ⟨AM, j1, _⟩ := HJ2.out; exact j1.rd)) ⟨_, ownsRow.rd HX2.out, HLS.out _ HB2.out⟩ rfl).mono ?_; rintro e w13 ⟨rfl, hb13⟩; have HB13 : Hid (Below w11.heap.size w11 w13) := HB2.out.trans (hb13.mono HB2.out.size); have HL13 : Hid (LK N' w13 lm w.heap.size F F.length) := HL11.out.below HB13.out; have hc13 := HL13.out.cell; have tokE : True := trivial; clear hb13 tokD))
        | (have _t := tokE; go_at_call 10; (refine (Sync_dk HL13.out.dk).mono ?_; rintro e w14 ⟨rfl, hD14, hO14⟩; have hc14 := (HL13.out.next hD14 hO14).cell; have HO14 : Hid (Only N' w13 w14) := hO14; clear hD14 hO14 tokE)))
      all_goals
        go_wp2
        go_ret
        refine ⟨by first | rfl | simp, ?_⟩
        exact (bel_call HB11.out HB13.out).trans (HO14.out.below HN11.out (bel_call HB11.out HB13.out).size)
end Go.Proofs.Ytjhcldccogpoaaa
