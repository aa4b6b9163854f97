/- DiskKnown: the walk -/
import Derived.Test.YtlbjkeijakefcaaDK
namespace Go.Proofs.Ytlbjkeijakefcaa
open Go.RowKit

/-- three parts that are literals, the second one nil -/
theorem lit_three (A : Nat → Prop) (W : World) (a b : List UInt8) (f1 f2 : Nat × Nat) (ha : a.length ≤ 1000) (hb : b.length ≤ 1000) (hA : ∀ i, W.heap.size ≤ i → A i) :
    RdLLP A (((W.alloc (.cells (Bs a).toArray 5 f1)).alloc (.cells (Bs b).toArray 5 f2)).alloc (.cells #[.slice (some ⟨W.heap.size, 0, none⟩) a.length a.length, .slice none 0 0, .slice (some ⟨W.heap.size + 1, 0, none⟩) b.length b.length] 26)) (some ⟨W.heap.size + 1 + 1, 0, none⟩) 3 3 [a, [], b] :=
  RdLLP.of A _ [.slice (some ⟨W.heap.size, 0, none⟩) a.length a.length, .slice none 0 0, .slice (some ⟨W.heap.size + 1, 0, none⟩) b.length b.length] [a, [], b] _ (by simp)
    (RdLP.cons (l := a) ⟨rd_alloc (Rd.lit W a f1 _ rfl ha), fun x e _ => by cases e; exact hA _ (Nat.le_refl _)⟩ (RdLP.cons (l := []) (RdP.nil _ _) (RdLP.cons (l := b) ⟨Rd.lit _ b f2 _ (by simp) hb, fun x e _ => by cases e; exact hA _ (Nat.le_succ _)⟩ (RdLP.nil _ _)))) (by simp) (hA _ (by omega))
/-- a long part, and one that is a literal -/
theorem long_two (A : Nat → Prop) (W : World) (Y b : List UInt8) (n : Nat) (f : Nat × Nat) (hn : Y.length = n) (hm : n ≤ 1000000) (hb : b.length ≤ 1000) (hA : ∀ i, W.heap.size ≤ i → A i) :
    RdLLP A (((W.alloc (.cells (Bs Y).toArray 5)).alloc (.cells (Bs b).toArray 5 f)).alloc (.cells #[.slice (some ⟨W.heap.size, 0, none⟩) n n, .slice (some ⟨W.heap.size + 1, 0, none⟩) b.length b.length] 26)) (some ⟨W.heap.size + 1 + 1, 0, none⟩) 2 2 [Y, b] := by
  subst hn
  exact RdLLP.of A _ [.slice (some ⟨W.heap.size, 0, none⟩) Y.length Y.length, .slice (some ⟨W.heap.size + 1, 0, none⟩) b.length b.length] [Y, b] _ (by simp)
    (RdLP.cons (l := Y) ⟨rd_alloc (Rd.long W Y _ rfl hm), fun x e _ => by cases e; exact hA _ (Nat.le_refl _)⟩ (RdLP.cons (l := b) ⟨Rd.lit _ b f _ (by simp) hb, fun x e _ => by cases e; exact hA _ (Nat.le_succ _)⟩ (RdLP.nil _ _))) (by simp) (hA _ (by omega))
theorem long_one (A : Nat → Prop) (W : World) (Y : List UInt8) (n : Nat) (hn : Y.length = n) (hm : n ≤ 1000000) (hA : ∀ i, W.heap.size ≤ i → A i) (B : Nat) (hB : W.heap.size = B) :
    RdLLP A ((W.alloc (.cells (Bs Y).toArray 5)).alloc (.cells #[.slice (some ⟨B, 0, none⟩) n n] 26)) (some ⟨B + 1, 0, none⟩) 1 1 [Y] := by
  subst hn
  subst hB
  exact RdLLP.of A _ [.slice (some ⟨W.heap.size, 0, none⟩) Y.length Y.length] [Y] _ (by simp)
    (RdLP.cons (l := Y) ⟨Rd.long W Y _ rfl hm, fun x e _ => by cases e; exact hA _ (Nat.le_refl _)⟩ (RdLP.nil _ _)) (by simp) (hA _ (by omega))
theorem bel_three (W : World) (a b c : Obj) : Below W.heap.size W (((W.alloc a).alloc b).alloc c) := (bel_two W a b).alloc (by simp; omega) _
theorem fits_of {l : List UInt8} {ls : List (List UInt8)} {b : Bool} (h : decide (l.length + (cat ls).length ≤ 65536) = b) : fitsB l ls = b := h

set_option maxRecDepth 100000 in
set_option maxHeartbeats 2000000 in
theorem diskKnown_walk (w : World) : Calls Try.prog 3 #[] w fun e w' => e = .returned (.bool true) ∧ Below w.heap.size w w' := by
  obtain ⟨Y, hY⟩ : ∃ Y, List.replicate 65533 (0 : UInt8) = Y := ⟨_, rfl⟩
  obtain ⟨Z, hZ⟩ : ∃ Z, List.replicate 65537 (0 : UInt8) = Z := ⟨_, rfl⟩
  have HYL : Hid (Y.length = 65533) := by show _ = _; rw [← hY, List.length_replicate]
  have HZL : Hid (Z.length = 65537) := by show _ = _; rw [← hZ, List.length_replicate]
  have mkY : ∀ w, (Instr.makeSlice 26 (.int .i64 65533) (.int .i64 65533)).run Try.prog w = .ok (.slice (some ⟨w.heap.size, 0, none⟩) 65533 65533) (w.alloc (.cells (Bs Y).toArray 5)) := mkZ 65533 (by omega) Y hY
  have mkZ0 : ∀ w, (Instr.makeSlice 26 (.int .i64 65537) (.int .i64 65537)).run Try.prog w = .ok (.slice (some ⟨w.heap.size, 0, none⟩) 65537 65537) (w.alloc (.cells (Bs Z).toArray 5)) := mkZ 65537 (by omega) Z hZ
  have HF1 : Hid (fitsB [97, 98, 99] [Y, [120]] = false) := by
    refine decide_eq_false ?_
    simp [cat]; have := HYL.out; omega
  have HF2 : Hid (fitsB [97, 98, 99] [Y] = true) := by
    refine decide_eq_true ?_
    simp [cat]; have := HYL.out; omega
  clear hY hZ
  have kc := fun (W : World) (C : Array Value) (n c : Nat) => Lib.run_convert_bytes_const (P := Try.prog) W 26 5 C n c Try.underlying26 Try.underlying5
  have kd := fun (W : World) (o : Obj) (C : Array Value) (n c : Nat) => Go.Joins.run_convert_bytes_const_at (P := Try.prog) (W.alloc o) 26 5 C n c (W.heap.size + 1) (by simp) Try.underlying26 Try.underlying5
  go_enter Try.func3, Try.ntmps3
  go_wp2_with fail
  refine (New_any w).mono ?_
  rintro e w1 ⟨rfl, hw1⟩
  have hD1 : DK (fun i => w.heap.size ≤ i) w1 w.heap.size [] 0 := by rw [hw1]; exact DK.made w
  have hB1 : Below w.heap.size w w1 := by rw [hw1]; exact (Below.refl _ _).alloc (Nat.le_refl _) _
  clear hw1
  go_wp2_with fail
  refine (known_any w1).mono ?_
  rintro e w2 ⟨rfl, hb2⟩
  have hD2 := hD1.below hb2
  have hB2 := bel_call hB1 hb2
  clear hD1 hB1 hb2
  go_wp2_with fail
  refine (Append_dk hD2 (bel_three w2 _ _ _) (by exact lit_three _ w2 [97] [98, 99] (1, 2) (2, 3) (by simp) (by simp) (fun i hi => .inl hi)) (b := true) (l' := [97, 98, 99]) rfl rfl).mono ?_
  rintro e w3 ⟨rfl, hD3, hb3⟩
  have hB3 := hB2.trans (hb3.below (fun _ h => h) hB2.size)
  clear hD2 hB2 hb3
  go_wp2_with fail
  refine (Append_dk hD3 (bel_three w3 _ _ _) (by exact long_two _ w3 Y [120] 65533 (1, 2) HYL.out (by omega) (by simp) (fun i hi => .inl hi)) HF1.out (l' := [97, 98, 99]) rfl).mono ?_
  rintro e w4 ⟨rfl, hD4, hb4⟩
  have hB4 := hB3.trans (hb4.below (fun _ h => h) hB3.size)
  clear hD3 hB3 hb4
  go_wp2_with fail
  refine (Bytes_dk hD4).mono ?_
  rintro e w5 ⟨ao5, cp5, rfl, hown5, hb5⟩
  rw [show ([97, 98, 99] : List UInt8).length = 3 from rfl] at hown5
  have hB5 := bel_call hB4 hb5
  obtain ⟨gx, cx, hform⟩ := Go.Joins.ownsRow_form hown5 (by omega)
  cases hform
  have hc5 := hown5.cellAt 0 (by omega)
  have hf5 := hown5.frozenAt 0
  obtain ⟨hown6, hg6⟩ := hown5.stored 0 (.int .u8 122)
  have hx := hown5.lt gx rfl
  have hb6 : Below w4.heap.size w4 (w5.setCell ⟨gx, 0, none⟩ (.int .u8 122)) := hb5.setCell hx.1 _
  have hD6 := hD4.shrink hb6
  have hB6 := bel_call hB4 hb6
  simp only [Bs, List.map_cons, List.map_nil, List.set_cons_zero] at hown6
  have hx2 : gx < (w5.setCell ⟨gx, 0, none⟩ (.int .u8 122)).heap.size := by simpa using hx.2
  have HO6 : Hid ((w5.setCell ⟨gx, 0, none⟩ (.int .u8 122)).cell? ⟨gx, 1, none⟩ = some (.int .u8 98)) := (hown6.cellAt 1 (by omega)).trans rfl
  clear hown5 hown6 hg6 hD4 hB4 hb5 hB5
  go_wp2_with fail
  refine (Append_dk hD6 (bel_two _ _ _) (by exact long_one _ _ Y 65533 HYL.out (by omega) (fun i hi => .inl hi) _ (by simp)) HF2.out (l' := [97, 98, 99] ++ Y) (by rw [if_pos rfl, cat_one])).mono ?_
  rintro e w7 ⟨rfl, hD7, hb7⟩
  have hB7 := hB6.trans (hb7.below (fun _ h => h.1) hB6.size)
  have HX7 : Hid (w7.cell? ⟨gx, 1, none⟩ = some (.int .u8 98)) := (World.cell?_of_block (hb7.block gx hx2 fun h => h.2 ⟨hx.1, hx2⟩)).trans HO6.out
  have hx7 := Nat.lt_of_lt_of_le hx2 hb7.size
  generalize (w5.setCell ⟨gx, 0, none⟩ (.int .u8 122)).heap.size = M at *
  clear hD6 hB6 hb7 HO6 hb6 hc5 hf5
  go_wp2_with fail
  refine (Swap_dk (hD7.below ((Below.refl _ _).alloc (Nat.le_refl _) _)) (by have := Rd.long w7 Z 65537 HZL.out (by omega); rw [HZL.out] at this; exact this) (b := false) (l' := [97, 98, 99] ++ Y) (s' := 0) (decide_eq_false (by rw [HZL.out]; omega)) rfl).mono ?_
  rintro e w8 ⟨rfl, hD8, hb8⟩
  have hb8' : Only (fun i => w.heap.size ≤ i ∧ ¬ (w4.heap.size ≤ i ∧ i < M)) w7 w8 := (Only.of_alloc _ _ _).trans hb8
  have hB8 := hB7.trans (hb8'.below (fun _ h => h.1) hB7.size)
  have HX8 : Hid (w8.cell? ⟨gx, 1, none⟩ = some (.int .u8 98)) := (World.cell?_of_block (hb8'.block gx hx7 fun h => h.2 ⟨hx.1, hx2⟩)).trans HX7.out
  have hx8 := Nat.lt_of_lt_of_le hx7 hb8'.size
  clear hD7 hB7 hb8 hb8' HX7 hx7
  go_wp2_with fail
  refine (Swap_dk (hD8.below ((Below.refl _ _).alloc (Nat.le_refl _) _)) (by exact Rd.lit w8 [110, 101, 119] (3, 4) _ rfl (by simp)) (b := true) (l' := [110, 101, 119]) (s' := 3) rfl rfl).mono ?_
  rintro e w9 ⟨rfl, hD9, hb9⟩
  have hb9' : Only (fun i => w.heap.size ≤ i ∧ ¬ (w4.heap.size ≤ i ∧ i < M)) w8 w9 := (Only.of_alloc _ _ _).trans hb9
  have hB9 := hB8.trans (hb9'.below (fun _ h => h.1) hB8.size)
  have HX9 : Hid (w9.cell? ⟨gx, 1, none⟩ = some (.int .u8 98)) := (World.cell?_of_block (hb9'.block gx hx8 fun h => h.2 ⟨hx.1, hx2⟩)).trans HX8.out
  have hx9 := Nat.lt_of_lt_of_le hx8 hb9'.size
  clear hD8 hB8 hb9 hb9' HX8 hx8
  go_wp2_with fail
  refine (Crash_dk hD9 (-5) (q := 0) (l' := [110, 101, 119]) (s' := 3) rfl rfl rfl).mono ?_
  rintro e w10 ⟨rfl, hD10, hb10⟩
  have hB10 := hB9.trans (hb10.below (fun _ h => h.1) hB9.size)
  have HX10 : Hid (w10.cell? ⟨gx, 1, none⟩ = some (.int .u8 98)) := (World.cell?_of_block (hb10.block gx hx9 fun h => h.2 ⟨hx.1, hx2⟩)).trans HX9.out
  have hx10 := Nat.lt_of_lt_of_le hx9 hb10.size
  clear hD9 hB9 hb10 HX9 hx9
  go_wp2_with fail
  refine (Append_dk hD10 (bel_two w10 _ _) (by exact lit_one _ w10 [116, 97, 105, 108] (4, 5) (by simp) (fun i hi => .inl hi)) (b := true) (l' := [110, 101, 119, 116, 97, 105, 108]) rfl rfl).mono ?_
  rintro e w11 ⟨rfl, hD11, hb11⟩
  have hB11 := hB10.trans (hb11.below (fun _ h => h.1) hB10.size)
  have HX11 : Hid (w11.cell? ⟨gx, 1, none⟩ = some (.int .u8 98)) := (World.cell?_of_block (hb11.block gx hx10 fun h => h.2 ⟨hx.1, hx2⟩)).trans HX10.out
  have hx11 := Nat.lt_of_lt_of_le hx10 hb11.size
  clear hD10 hB10 hb11 HX10 hx10
  go_wp2_with fail
  refine (Size_dk hD11).mono ?_
  rintro e w12 ⟨rfl, rfl⟩
  go_wp2_with fail
  refine (Crash_dk hD11 99 (q := 4) (l' := [110, 101, 119, 116, 97, 105, 108]) (s' := 7) rfl rfl rfl).mono ?_
  rintro e w13 ⟨rfl, hD13, hb13⟩
  have hB13 := hB11.trans (hb13.below (fun _ h => h.1) hB11.size)
  have hx13 : w13.cell? ⟨gx, 1, none⟩ = some (.int .u8 98) := (World.cell?_of_block (hb13.block gx hx11 fun h => h.2 ⟨hx.1, hx2⟩)).trans HX11.out
  clear hD11 hB11 hb13 HX11 hx11 kc kd mkY mkZ0
  go_wp2_with fail
  refine (Bytes_dk hD13).mono ?_
  rintro e w14 ⟨ao14, cp14, rfl, hown14, hb14⟩
  have hD14 := hD13.below hb14
  have hB14 := bel_call hB13 hb14
  have hs14 := run_str _ _ _ _ _ (ownsRow.rd hown14)
  rw [show ([110, 101, 119, 116, 97, 105, 108] : List UInt8).length = 7 from rfl] at hs14
  have hst := str_toList [110, 101, 119, 116, 97, 105, 108]
  clear hD13 hB13 hb14 hown14 hx13
  go_wp2_with fail
  refine (Sync_dk hD14).mono ?_
  rintro e w15 ⟨rfl, hD15, hb15⟩
  have hB15 := hB14.trans (hb15.below (fun _ h => h.1) hB14.size)
  clear hD14 hB14 hb15 hs14
  go_wp2_with fail
  refine (Append_dk hD15 (Below.refl _ _) (RdLLP.nil _ _) (b := true) (l' := [110, 101, 119, 116, 97, 105, 108]) rfl rfl).mono ?_
  rintro e w16 ⟨rfl, _, hb16⟩
  have hB16 := hB15.trans (hb16.below (fun _ h => h.1) hB15.size)
  clear hD15 hB15 hb16
  go_wp2
  go_ret
  exact ⟨rfl, hB16⟩
end Go.Proofs.Ytlbjkeijakefcaa
