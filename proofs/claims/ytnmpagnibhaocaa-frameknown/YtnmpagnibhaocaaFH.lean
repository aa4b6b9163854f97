/- FrameKnown: the walk -/
import Derived.Test.YtnmpagnibhaocaaFG
namespace Go.Proofs.Ytnmpagnibhaocaa
open Go.RowKit

/-- what FrameKnown keeps: b, m, and what was there -/
def KP (w : World) (B0 B : Nat) (ao1 : Option Addr) (cp1 : Nat) (v : Value) (vs : List Value) (W : World) : Prop :=
  Rd B0 W ao1 1 cp1 (Bs [120]) ∧ B0 ≤ W.heap.size ∧ w.heap.size ≤ B0 ∧ W.ownsRow B 22 1 v 3 vs ∧ Below w.heap.size w W
section
variable {w W W' : World} {B0 B cp1 : Nat} {ao1 : Option Addr} {v : Value} {vs : List Value}
theorem KP.step (h : KP w B0 B ao1 cp1 v vs W) (hb : Below W.heap.size W W') : KP w B0 B ao1 cp1 v vs W' :=
  ⟨h.1.later (hb.mono h.2.1), Nat.le_trans h.2.1 hb.size, h.2.2.1, own_below h.2.2.2.1 hb, bel_call h.2.2.2.2 hb⟩
theorem KP.alloc (h : KP w B0 B ao1 cp1 v vs W) (o : Obj) : KP w B0 B ao1 cp1 v vs (W.alloc o) := h.step ((Below.refl _ _).alloc (Nat.le_refl _) o)
theorem KP.grown {g n cg : Nat} {xs : List Value} (h : KP w B0 B ao1 cp1 v vs W) {row : Option Nat} (hrow : Value.ownBlock (.slice (some ⟨g, 0, none⟩) n cg) = row) (hg : W.grownBy W' row) (hown : W.ownsRow B0 5 1 (.slice (some ⟨g, 0, none⟩) n cg) n xs) : KP w B0 B ao1 cp1 v vs W' := by
  subst hrow
  have hlt := hown.lt g rfl
  have hb : Below B0 W W' := (Below.refl B0 W).grown hg h.2.1 (fun k hk => by cases hk; exact hlt.1)
  refine ⟨h.1.later hb, Nat.le_trans h.2.1 hb.size, h.2.2.1, h.2.2.2.1.kept hg ?_, h.2.2.2.2.trans (hb.mono h.2.2.1)⟩
  rcases hown.2 with ⟨e1, _⟩ | ⟨g', cap, cur, e1, _, hgg, _⟩
  · cases e1
  · cases e1
    right
    intro e2
    exact ownsRow.apart h.2.2.2.1 (.inr ⟨hgg, by decide⟩) e2.symm
end

/-- make([]byte, n), as a list -/
theorem mkZ (n : Nat) (hn : n ≤ 140737488355328) (Z : List UInt8) (hZ : List.replicate n (0 : UInt8) = Z) (w : World) : (Instr.makeSlice 22 (.int .i64 (n : Nat)) (.int .i64 (n : Nat))).run Try.prog w = .ok (.slice (some ⟨w.heap.size, 0, none⟩) n n) (w.alloc (.cells (Bs Z).toArray 5)) := by
  rw [mkB n hn w, ← hZ]
  congr 3
  simp [Bs]
theorem Rd.long (W : World) (l : List UInt8) (n : Nat) (hl : l.length = n) (hm : n ≤ 1000000) : Rd (W.alloc (.cells (Bs l).toArray 5)).heap.size (W.alloc (.cells (Bs l).toArray 5)) (some ⟨W.heap.size, 0, none⟩) l.length n (Bs l) := by
  subst hl
  have := Rd.built W (Bs l) 5 (by rw [Bs_length]; unfold maxLen; omega)
  rwa [Bs_length] at this
theorem enc_len2 {n : Nat} (h : 128 ≤ n) (h2 : n < 16384) : (enc n).length = 2 := by
  rw [enc_large h, List.length_cons, enc_len_small (by omega)]
theorem long_read (Z : List UInt8) (hZ : Z.length = 4001) : readS sum8 (framesF sum8 [Z]) = ([], 0) := by
  refine readS_none sum8 ?_
  rw [framesF_one, frameF]
  exact recF_long sum8 (first_enc Z.length (by omega) _) (by omega)
theorem fine_read (Z : List UInt8) (hZ : Z.length = 4000) : readS sum8 (framesF sum8 [Z] ++ [200]) = ([Z], 4010) := by
  rw [readS_frames sum8 sum8_length [Z] (by intro r hr; rw [List.mem_singleton] at hr; rw [hr]; omega) [200] (recF_bad sum8 (by decide)), framesF_one, frameF_length sum8 sum8_length, hZ, enc_len2 (by omega) (by omega)]
theorem abc_len : (framesF sum8 [[97, 98, 99], [], [100]]).length = 31 := by
  rw [framesF_cons, framesF_cons, framesF_one, List.length_append, List.length_append, frame_small (n := 3) rfl (by omega), frame_small (n := 0) rfl (by omega), frame_small (n := 1) rfl (by omega)]
theorem abc_read : readS sum8 (framesF sum8 [[97, 98, 99], [], [100]]) = ([[97, 98, 99], [], [100]], 31) := by
  rw [readS_all sum8 sum8_length _ (by simp), abc_len]
theorem abc_turned (x : UInt8) (hx : (framesF sum8 [[97, 98, 99], [], [100]])[5]? = some x) : readS sum8 ((framesF sum8 [[97, 98, 99], [], [100]]).set 5 (x ^^^ 1)) = ([], 0) := by
  refine readS_none sum8 ?_
  have e : framesF sum8 [[97, 98, 99], [], [100]] = frameF sum8 [97, 98, 99] ++ framesF sum8 [[], [100]] := framesF_cons _ _ _
  have h1 : (enc ([97, 98, 99] : List UInt8).length).length = 1 := enc_len_small (n := 3) (by omega)
  rw [e] at hx ⊢
  have := turned_none [97, 98, 99] (framesF sum8 [[], [100]]) (by simp) 4 (by simp) x 1 (by rw [h1]; exact hx) (by decide)
  rwa [h1] at this

theorem three_lit (W : World) : RdLL (((W.alloc (.cells #[.int .u8 97, .int .u8 98, .int .u8 99] 5 (3, 4))).alloc (.cells #[.int .u8 100] 5 (1, 2))).alloc (.cells #[.slice (some ⟨W.heap.size, 0, none⟩) 3 3, .slice none 0 0, .slice (some ⟨W.heap.size + 1, 0, none⟩) 1 1] 22)).heap.size
    (((W.alloc (.cells #[.int .u8 97, .int .u8 98, .int .u8 99] 5 (3, 4))).alloc (.cells #[.int .u8 100] 5 (1, 2))).alloc (.cells #[.slice (some ⟨W.heap.size, 0, none⟩) 3 3, .slice none 0 0, .slice (some ⟨W.heap.size + 1, 0, none⟩) 1 1] 22)) (some ⟨W.heap.size + 1 + 1, 0, none⟩) 3 3 [[97, 98, 99], [], [100]] :=
  RdLL.of _ [.slice (some ⟨W.heap.size, 0, none⟩) 3 3, .slice none 0 0, .slice (some ⟨W.heap.size + 1, 0, none⟩) 1 1] [[97, 98, 99], [], [100]] _ (by simp)
    (RdL.cons (l := [97, 98, 99]) (rd_alloc (Rd.lit W [97, 98, 99] (3, 4) _ rfl (by simp))) (RdL.cons (l := []) (Rd.nil _ _) (RdL.cons (l := [100]) (Rd.lit (W.alloc (.cells #[.int .u8 97, .int .u8 98, .int .u8 99] 5 (3, 4))) [100] (1, 2) _ (by simp) (by simp)) (RdL.nil _ _)))) (by simp)
theorem one_long (W : World) (Y : List UInt8) (n : Nat) (hn : Y.length = n) (hm : n ≤ 1000000) : RdLL ((W.alloc (.cells (Bs Y).toArray 5)).alloc (.cells #[.slice (some ⟨W.heap.size, 0, none⟩) n n] 22)).heap.size ((W.alloc (.cells (Bs Y).toArray 5)).alloc (.cells #[.slice (some ⟨W.heap.size, 0, none⟩) n n] 22)) (some ⟨W.heap.size + 1, 0, none⟩) 1 1 [Y] := by
  subst hn
  exact RdLL.built _ _ _ Y _ (by simp) (Rd.long W Y _ rfl hm)
theorem two_bel {W W' : World} {a b : Obj} (h : Below ((W.alloc a).alloc b).heap.size ((W.alloc a).alloc b) W') : Below W.heap.size W W' :=
  (((Below.refl W.heap.size W).alloc (Nat.le_refl _) _).alloc (by simp) _).trans (h.mono (by simp; omega))
theorem three_bel {W W' : World} {a b c : Obj} (h : Below (((W.alloc a).alloc b).alloc c).heap.size (((W.alloc a).alloc b).alloc c) W') : Below W.heap.size W W' :=
  ((((Below.refl W.heap.size W).alloc (Nat.le_refl _) _).alloc (by simp) _).alloc (by simp; omega) _).trans (h.mono (by simp; omega))
theorem three_le (W : World) {a b c : Obj} : W.heap.size ≤ (((W.alloc a).alloc b).alloc c).heap.size := by simp; omega
set_option maxRecDepth 100000 in
set_option maxHeartbeats 2000000 in
theorem frameKnown_walk (w : World) : Calls Try.prog 3 #[] w fun e w' => e = .returned (.bool true) ∧ Below w.heap.size w w' := by
  obtain ⟨C, hC⟩ : ∃ C, framesF sum8 [[97, 98, 99], [], [100]] = C := ⟨_, rfl⟩
  have HC : Hid ([] ++ framesF sum8 [[97, 98, 99], [], [100]] = C) := hC
  have HCL : Hid (C.length = 31) := by show _ = _; rw [← hC, abc_len]
  have HCR : Hid (readS sum8 C = ([[97, 98, 99], [], [100]], 31)) := by show _ = _; rw [← hC, abc_read]
  obtain ⟨x5, hx5⟩ : ∃ x5, C[5]? = some x5 := ⟨C[5]'(by rw [HCL.out]; omega), List.getElem?_eq_getElem _⟩
  have HX5 : Hid (C[5]? = some x5) := hx5
  have HCT : Hid (readS sum8 (C.set 5 (x5 ^^^ 1)) = ([], 0)) := by show _ = _; rw [← hC] at hx5 ⊢; exact abc_turned x5 hx5
  have HXOR : Hid (bits .xor .u8 (x5.toNat : Int) 1 = ((x5 ^^^ 1).toNat : Int)) := u8_xor x5 1
  obtain ⟨Y, hY⟩ : ∃ Y, List.replicate 4001 (0 : UInt8) = Y := ⟨_, rfl⟩
  obtain ⟨Z, hZ⟩ : ∃ Z, List.replicate 4000 (0 : UInt8) = Z := ⟨_, rfl⟩
  have HYL : Hid (Y.length = 4001) := by show _ = _; rw [← hY, List.length_replicate]
  have HZL : Hid (Z.length = 4000) := by show _ = _; rw [← hZ, List.length_replicate]
  have mkY : ∀ w, (Instr.makeSlice 22 (.int .i64 4001) (.int .i64 4001)).run Try.prog w = .ok (.slice (some ⟨w.heap.size, 0, none⟩) 4001 4001) (w.alloc (.cells (Bs Y).toArray 5)) := mkZ 4001 (by omega) Y hY
  have mkZ0 : ∀ w, (Instr.makeSlice 22 (.int .i64 4000) (.int .i64 4000)).run Try.prog w = .ok (.slice (some ⟨w.heap.size, 0, none⟩) 4000 4000) (w.alloc (.cells (Bs Z).toArray 5)) := mkZ 4000 (by omega) Z hZ
  obtain ⟨P, hP⟩ : ∃ P, framesF sum8 [Y] = P := ⟨_, rfl⟩
  have HP : Hid ([] ++ framesF sum8 [Y] = P) := hP
  have HPL : Hid (P.length = 4011) := by show _ = _; rw [← hP, framesF_one, frameF_length sum8 sum8_length, HYL.out, enc_len2 (by omega) (by omega)]
  have HPR : Hid (readS sum8 P = ([], 0)) := by show _ = _; rw [← hP]; exact long_read Y HYL.out
  obtain ⟨Q, hQ⟩ : ∃ Q, framesF sum8 [Z] = Q := ⟨_, rfl⟩
  have HQ : Hid ([] ++ framesF sum8 [Z] = Q) := hQ
  have HQL : Hid (Q.length = 4010) := by show _ = _; rw [← hQ, framesF_one, frameF_length sum8 sum8_length, HZL.out, enc_len2 (by omega) (by omega)]
  have HQR : Hid (readS sum8 (Q ++ [200]) = ([Z], 4010)) := by show _ = _; rw [← hQ]; exact fine_read Z HZL.out
  clear hC hx5 hY hZ hP hQ
  have kc := fun (W : World) (C : Array Value) (n c : Nat) => Lib.run_convert_bytes_const (P := Try.prog) W 22 5 C n c Try.underlying22 Try.underlying5
  have kd := fun (W : World) => Go.Joins.run_convert_bytes_const_at (P := Try.prog) (W.alloc (.cells #[.int .u8 97, .int .u8 98, .int .u8 99] 5 (3, 4))) 22 5 #[.int .u8 100] 1 1 (W.heap.size + 1) (by simp) Try.underlying22 Try.underlying5
  go_enter Try.func3, Try.ntmps3
  go_wp2_with fail
  refine (Lay_n _ _ _ [120] none 0 0 [] _ (by exact Rd.lit w [120] (1, 2) _ rfl (by simp)) (RdLL.nil _ _) (R := [120]) rfl rfl (by simp)).mono ?_
  rintro e w1 ⟨ao1, cp1, rfl, hown1, hb1⟩
  have hB1 : Below w.heap.size w w1 := bel_new (Below.refl _ _) hb1
  have hR1 := ownsRow.rd hown1
  clear hown1 hb1
  go_wp2_with fail
  refine (Read_n none 0 0 [] w1 (Rd.nil _ _) (by omega) (rs := []) (u := 0) (readS_none sum8 (recF_nil sum8)) rfl).mono ?_
  rintro e w2 ⟨ao2, cp2, rfl, _, hb2⟩
  have hB2 := bel_call hB1 hb2
  have hR2 := rd_call hR1 hb2
  clear hb2 hR1 hB1
  go_wp2_with fail
  refine (Lay_n none 0 0 [] _ _ _ [[97, 98, 99], [], [100]] _ (Rd.nil _ _) (by exact three_lit w2) HC.out HCL.out (by omega)).mono ?_
  rintro e w3 ⟨ao3, cp3, rfl, hown3, hb3⟩
  have hb3' : Below w2.heap.size w2 w3 := three_bel hb3
  have hown3' := own_mono hown3 (three_le w2)
  have hB3 := bel_call hB2 hb3'
  obtain ⟨g, cg, hform⟩ := Go.Joins.ownsRow_form hown3' (by omega)
  cases hform
  clear hb3 hown3 kc kd
  go_wp2_with fail
  refine (Read_n _ _ _ C w3 (ownsRow.rd hown3') (by omega) HCR.out rfl).mono ?_
  rintro e w4 ⟨ao4, cp4, rfl, ⟨vs, hv4, hL4⟩, hb4⟩
  have hown4 := own_below hown3' hb4
  have hK4 : KP w w2.heap.size w3.heap.size ao1 cp1 (.slice ao4 3 cp4) vs w4 := ⟨hR2.later (hb3'.trans (hb4.mono hb3'.size)), Nat.le_trans hb3'.size hb4.size, hB2.size, hv4, bel_call hB3 hb4⟩
  have hvl : vs.length = 3 := by have := hv4.1; simpa using this
  obtain ⟨ao5, cp5, hv5, _⟩ := hL4.2 1 _ [] (List.getElem?_eq_getElem (by omega)) rfl
  have HV5 : Hid (vs[1]? = some (.slice ao5 0 cp5)) := by
    show _ = _
    rw [List.getElem?_eq_getElem (by omega), hv5]; rfl
  clear hvl hb4 hown3' hB3 hR2 hB2 hb3' hL4 hv5 hv4
  go_wp2_with fail
  refine (known_any w4).mono ?_
  rintro e w5 ⟨rfl, hb5⟩
  have hown5 := own_below hown4 hb5
  have hK5 := hK4.step hb5
  have hc5 := hown5.cellAt 5 (by omega)
  rw [show (Bs C)[5]? = some (.int .u8 x5.toNat) from by simp [Bs, HX5.out]] at hc5
  have hf5 := hown5.frozenAt 5
  clear hb5 hown4 hK4
  go_wp2_with fail
  rw [HXOR.out]
  have hst := hown5.stored 5 (.int .u8 ((x5 ^^^ 1).toNat : Int))
  rw [Bs_set] at hst
  obtain ⟨hown6, hg6⟩ := hst
  have hK6 := hK5.grown (row := some g) rfl hg6 hown5
  clear hown5 hK5 hg6 hc5 hf5
  generalize w5.setCell ⟨g, 5, none⟩ (.int .u8 ((x5 ^^^ 1).toNat : Int)) = w6 at *
  refine (Read_n _ _ _ (C.set 5 (x5 ^^^ 1)) w6 (ownsRow.rd hown6) (by omega) HCT.out rfl).mono ?_
  rintro e w7 ⟨ao7, cp7, rfl, _, hb7⟩
  have hK7 := hK6.step hb7
  clear hK6 hb7 hown6
  go_wp2_with fail
  refine (Lay_n none 0 0 [] _ _ _ [Y] _ (Rd.nil _ _) (by exact one_long w7 Y 4001 HYL.out (by omega)) HP.out HPL.out (by omega)).mono ?_
  rintro e w8 ⟨ao8, cp8, rfl, hown8, hb8⟩
  have hK8 := hK7.step (two_bel hb8)
  have hR8 := ownsRow.rd hown8
  clear hK7 hb8 hown8
  go_wp2_with fail
  refine (Read_n _ _ _ P w8 hR8 (by omega) HPR.out rfl).mono ?_
  rintro e w9 ⟨ao9, cp9, rfl, _, hb9⟩
  have hK9 := hK8.step hb9
  clear hK8 hb9 hR8
  go_wp2_with fail
  refine (Lay_n none 0 0 [] _ _ _ [Z] _ (Rd.nil _ _) (by exact one_long w9 Z 4000 HZL.out (by omega)) HQ.out HQL.out (by omega)).mono ?_
  rintro e w10 ⟨ao10, cp10, rfl, hown10, hb10⟩
  have hK10 := hK9.step (two_bel hb10)
  have hown10' := own_mono hown10 (show w2.heap.size ≤ _ from Nat.le_trans hK9.2.1 (by simp; omega))
  obtain ⟨g10, c10, hform⟩ := Go.Joins.ownsRow_form hown10' (by omega)
  cases hform
  clear hK9 hb10 hown10
  go_wp2_with (at_builtin; refine appB rfl _ _ _ rfl _ _ _ _ rfl (hown10'.alloc _) _ 1 [_] rfl (src_one w10 Try.underlying22 _ 5 rfl) (by omega) (by have := hK10.2.1; simp; omega) ?_)
  intro ao11 cp11 w11 hown11 hg11 _
  have hK11 := (hK10.alloc _).grown rfl hg11 (hown10'.alloc _)
  have HO11 : Hid (w11.ownsRow w2.heap.size 5 1 (.slice ao11 4011 cp11) 4011 (Bs (Q ++ [200]))) := by
    show World.ownsRow _ _ _ _ _ _ _
    rw [Bs_append]
    exact hown11
  clear hK10 hg11 hown11 hown10'
  go_wp2_with fail
  refine (Read_n _ _ _ (Q ++ [200]) w11 (ownsRow.rd HO11.out) (by omega) HQR.out rfl).mono ?_
  rintro e w12 ⟨ao12, cp12, rfl, _, hb12⟩
  have hK12 := hK11.step hb12
  have hs := run_str _ _ _ _ _ hK12.1
  have hst := str_toList [120]
  have hRm := ownsRow.rd hK12.2.2.2.1
  obtain ⟨gm, om, rfl, _, hcm⟩ := hRm.atSome (by omega)
  have hc1 := hcm 1 _ HV5.out
  have HB : Hid (Below w.heap.size w w12) := hK12.2.2.2.2
  clear hK11 hb12 HO11 hK12 hRm hcm
  go_wp2
  go_ret
  exact ⟨rfl, HB.out⟩
end Go.Proofs.Ytnmpagnibhaocaa
