/- WalKnown: the walk -/
import Derived.Test.YtapocoijfdgcfaaWF
namespace Go.Proofs.Ytapocoijfdgcfaa
open Go.RowKit

theorem Open_nil (w : World) : Calls Try.prog 9 #[.pointer none] w fun e w' => e = .returned (.pointer none) ∧ w' = w := by
  go_enter Try.func9, Try.ntmps9
  go_wp2
  go_ret
  exact ⟨rfl, rfl⟩
/-- another log of the same disk -/
theorem LK.other {N N' : Nat → Prop} {w w' : World} {lg lm g s s' : Nat} {l l' : List UInt8} (h : LK N w lg g l s) (ho : Only N w w') (hL : LK N' w' lm g l' s') (hN : ∀ i, N' i → N i) : LK N' w' lg g l' s' :=
  ⟨hL.1, h.2.1.only ho h.2.2, fun x => h.2.2 (hN lg x)⟩
/-- a part that is a literal, and a long one -/
theorem lit_long (W : World) (b Y : List UInt8) (n : Nat) (f : Nat × Nat) (hn : Y.length = n) (hm : n ≤ 1000000) (hb : b.length ≤ 1000) :
    RdLLP (fun _ => True) (((W.alloc (.cells (Bs b).toArray 5 f)).alloc (.cells (Bs Y).toArray 5)).alloc (.cells #[.slice (some ⟨W.heap.size, 0, none⟩) b.length b.length, .slice (some ⟨W.heap.size + 1, 0, none⟩) n n] 28)) (some ⟨W.heap.size + 1 + 1, 0, none⟩) 2 2 [b, Y] := by
  subst hn
  refine RdLLP.of _ _ [.slice (some ⟨W.heap.size, 0, none⟩) b.length b.length, .slice (some ⟨W.heap.size + 1, 0, none⟩) Y.length Y.length] [b, Y] _ (by simp)
    (RdLP.cons (l := b) ⟨rd_alloc (Rd.lit W b f _ rfl hb), fun x e _ => trivial⟩ (RdLP.cons (l := Y) ⟨?_, fun x e _ => trivial⟩ (RdLP.nil _ _))) (by simp) trivial
  have := Rd.long (W.alloc (.cells (Bs b).toArray 5 f)) Y _ rfl hm
  rwa [show (W.alloc (.cells (Bs b).toArray 5 f)).heap.size = W.heap.size + 1 from by simp] at this
theorem long_one (A : Nat → Prop) (W : World) (Y : List UInt8) (n : Nat) (hn : Y.length = n) (hm : n ≤ 1000000) (hA : ∀ i, W.heap.size ≤ i → A i) (B : Nat) (hB : W.heap.size = B) :
    RdLLP A ((W.alloc (.cells (Bs Y).toArray 5)).alloc (.cells #[.slice (some ⟨B, 0, none⟩) n n] 28)) (some ⟨B + 1, 0, none⟩) 1 1 [Y] := by
  subst hn
  subst hB
  exact RdLLP.of A _ [.slice (some ⟨W.heap.size, 0, none⟩) Y.length Y.length] [Y] _ (by simp)
    (RdLP.cons (l := Y) ⟨Rd.long W Y _ rfl hm, fun x e _ => by cases e; exact hA _ (Nat.le_refl _)⟩ (RdLP.nil _ _)) (by simp) (hA _ (by omega))
theorem lit_at (A : Nat → Prop) (W : World) (l : List UInt8) (fr : Nat × Nat) (B : Nat) (hB : W.heap.size = B) (hm : l.length ≤ 1000) (hA : ∀ i, W.heap.size ≤ i → A i) :
    RdLLP A ((W.alloc (.cells (Bs l).toArray 5 fr)).alloc (.cells #[.slice (some ⟨B, 0, none⟩) l.length l.length] 28)) (some ⟨B + 1, 0, none⟩) 1 1 [l] := by
  subst hB
  exact lit_one A W l fr hm hA
/-- a part that is a literal, and nil -/
theorem lit_nil (W : World) (b : List UInt8) (f : Nat × Nat) (hb : b.length ≤ 1000) :
    RdLLP (fun _ => True) ((W.alloc (.cells (Bs b).toArray 5 f)).alloc (.cells #[.slice (some ⟨W.heap.size, 0, none⟩) b.length b.length, .slice none 0 0] 28)) (some ⟨W.heap.size + 1, 0, none⟩) 2 2 [b, []] :=
  RdLLP.of _ _ [.slice (some ⟨W.heap.size, 0, none⟩) b.length b.length, .slice none 0 0] [b, []] _ (by simp)
    (RdLP.cons (l := b) ⟨Rd.lit W b f _ rfl hb, fun x e _ => trivial⟩ (RdLP.cons (l := []) (RdP.nil _ _) (RdLP.nil _ _))) (by simp) trivial
theorem bel_three (W : World) (a b c : Obj) : Below W.heap.size W (((W.alloc a).alloc b).alloc c) := (bel_two W a b).alloc (by simp; omega) _
/-- frames of a few records are few bytes -/
theorem frames_sum (ls : List (List UInt8)) (h : ∀ r ∈ ls, r.length ≤ 4611686018427387903) : (framesF sum8 ls).length ≤ 17 * ls.length + (cat ls).length := by
  induction ls with
  | nil => simp [framesF]
  | cons r ls ih =>
    have h1 := ih (fun x hx => h x (List.mem_cons_of_mem _ hx))
    have h3 := frameF_le sum8 sum8_length r (h r List.mem_cons_self)
    rw [framesF_cons, List.length_append, List.length_cons, show cat (r :: ls) = r ++ cat ls from rfl, List.length_append]
    omega
theorem openS_tail (ls : List (List UInt8)) (h : ∀ r ∈ ls, r.length ≤ 4000) (t : List UInt8) (ht : recF sum8 t = none) (hl : 0 < t.length) (s : Nat) : openS (framesF sum8 ls ++ t) s = (framesF sum8 ls, (framesF sum8 ls).length) := by
  unfold openS
  rw [readS_frames sum8 sum8_length ls h t ht, if_pos (by rw [List.length_append]; show (framesF sum8 ls).length < _; omega)]
  show (List.take (framesF sum8 ls).length _, _) = _
  rw [List.take_left' rfl]
theorem t123 : recF sum8 [1, 2, 3] = none := recF_short sum8 (x := 1) (sz := 1) (by decide) (by decide)

set_option maxRecDepth 100000 in
set_option maxHeartbeats 2000000 in
theorem walKnown_walk (w : World) : Calls Try.prog 3 #[] w fun e w' => e = .returned (.bool true) ∧ Below w.heap.size w w' := by
  obtain ⟨Z, hZ⟩ : ∃ Z, List.replicate 4001 (0 : UInt8) = Z := ⟨_, rfl⟩
  have HZL : Hid (Z.length = 4001) := by show _ = _; rw [← hZ, List.length_replicate]
  have mkY : ∀ w, (Instr.makeSlice 28 (.int .i64 4001) (.int .i64 4001)).run Try.prog w = .ok (.slice (some ⟨w.heap.size, 0, none⟩) 4001 4001) (w.alloc (.cells (Bs Z).toArray 5)) := mkZ 4001 (by omega) Z hZ
  have hbad : longB Z = true := decide_eq_true (by rw [HZL.out]; omega)
  have HF1 : Hid (addB [] [[120], Z] = false) := by show _ = _; simp [addB, okL, hbad]
  have HW1 : Hid ((framesF sum8 [[120], Z]).length ≤ 140737488355328) := by
    show _ ≤ _
    have := frames_sum [[120], Z] (by simp; have := HZL.out; omega)
    simp [cat] at this; have := HZL.out; omega
  have HF4 : Hid (rewB [Z] = false) := by show _ = _; simp [rewB, okL, hbad]
  have HW4 : Hid ((framesF sum8 [Z]).length ≤ 140737488355328) := by
    show _ ≤ _
    have := frames_sum [Z] (by simp; have := HZL.out; omega)
    simp [cat] at this; have := HZL.out; omega
  obtain ⟨K, hK⟩ : ∃ K, framesF sum8 [[111, 110, 101], []] = K := ⟨_, rfl⟩
  obtain ⟨J, hJ⟩ : ∃ J, framesF sum8 [[111, 110, 108, 121]] = J := ⟨_, rfl⟩
  have HKL : Hid (K.length = 21) := by show _ = _; rw [← hK, framesF_cons, framesF_one, List.length_append, frame_small (n := 3) rfl (by omega), frame_small (n := 0) rfl (by omega)]
  have HJL : Hid (J.length = 13) := by show _ = _; rw [← hJ, one_len (n := 4) rfl (by omega)]
  have HF3 : Hid (addB [] [[111, 110, 101], []] = true) := by show _ = _; rw [addB, hK, HKL.out]; rfl
  have HW3 : Hid ((framesF sum8 [[111, 110, 101], []]).length ≤ 140737488355328) := by show _ ≤ _; rw [hK, HKL.out]; omega
  have HL3 : Hid ((if true = true then [] ++ framesF sum8 [[111, 110, 101], []] else []) = K) := by show _ = _; rw [if_pos rfl, hK]; rfl
  have HF5 : Hid (rewB [[111, 110, 108, 121]] = true) := by show _ = _; rw [rewB, hJ, HJL.out]; rfl
  have HW5 : Hid ((framesF sum8 [[111, 110, 108, 121]]).length ≤ 140737488355328) := by show _ ≤ _; rw [hJ, HJL.out]; omega
  have HL5 : Hid ((if true = true then (framesF sum8 [[111, 110, 108, 121]], (framesF sum8 [[111, 110, 108, 121]]).length) else (K, 0)) = (J, 13)) := by show _ = _; rw [if_pos rfl, hJ, HJL.out]
  have HR5 : Hid (readS sum8 J = ([[111, 110, 108, 121]], 13)) := by
    show _ = _
    rw [← hJ, readS_all sum8 sum8_length _ (by simp), one_len (n := 4) rfl (by omega)]
  have HF6 : Hid (fitsB J [[1, 2, 3]] = true) := by
    refine decide_eq_true ?_
    rw [HJL.out]; decide
  have HO7 : Hid (openS (J ++ [1, 2, 3]) 13 = (J, 13)) := by
    show _ = _
    rw [← hJ, openS_tail _ (by simp) _ t123 (by simp), one_len (n := 4) rfl (by omega)]
  clear hK hJ hZ hbad
  have kc := fun (W : World) (C : Array Value) (n c : Nat) => Lib.run_convert_bytes_const (P := Try.prog) W 28 5 C n c Try.underlying28 Try.underlying5
  go_enter Try.func3, Try.ntmps3
  go_wp2_with fail
  refine (New_any w).mono ?_
  rintro e w1 ⟨rfl, hw1⟩
  have hD1 : DK (fun i => w.heap.size ≤ i) w1 w.heap.size [] 0 := by rw [hw1]; exact DK.made w
  have hB1 : Below w.heap.size w w1 := by rw [hw1]; exact (Below.refl _ _).alloc (Nat.le_refl _) _
  clear hw1
  go_wp2_with fail
  refine (Open_dk hD1 openS_nil).mono ?_
  rintro e w2 ⟨lg, rfl, hlg, N, hL2, hN, hO2⟩
  have HN : Hid (∀ i, N i → w.heap.size ≤ i) := hN
  have hB2 := hB1.trans (hO2.below (fun _ h => h) hB1.size)
  clear hD1 hB1 hO2 hN hlg
  go_wp2_with fail
  refine (known_any w2).mono ?_
  rintro e w3 ⟨rfl, hb3⟩
  have hL3 := hL2.below hb3
  have hB3 := bel_call hB2 hb3
  clear hL2 hB2 hb3
  go_wp2_with fail
  refine (Open_nil w3).mono ?_
  rintro e wq ⟨rfl, hwq⟩
  subst wq
  go_wp2_with fail
  refine (Add_lk (hL3.below (bel_three w3 _ _ _)) (by exact (lit_long w3 [120] Z 4001 (1, 2) HZL.out (by omega) (by simp)).rd) HW1.out HF1.out (l' := []) rfl).mono ?_
  rintro e w4 ⟨rfl, hL4, hO4⟩
  have hB4 := hB3.trans (((Only.of_below N (bel_three w3 _ _ _)).trans hO4).below HN.out hB3.size)
  have hc4 := hL4.cell
  clear hL3 hB3 hO4
  go_wp2_with fail
  refine (Size_dk hL4.dk).mono ?_
  rintro e wq ⟨rfl, hwq⟩
  subst wq
  clear hc4
  go_wp2_with fail
  refine (Add_lk hL4 (RdLL.nil _ _) (by simp [framesF]) (b := true) (l' := []) (by simp [addB, okL, framesF]) rfl).mono ?_
  rintro e w5 ⟨rfl, hL5, hO5⟩
  have hB5 := hB4.trans (hO5.below HN.out hB4.size)
  clear hL4 hB4 hO5
  go_wp2_with fail
  refine (Add_lk (hL5.below (bel_two w5 _ _)) (by exact (lit_nil w5 [111, 110, 101] (3, 4) (by simp)).rd) HW3.out HF3.out HL3.out).mono ?_
  rintro e w6 ⟨rfl, hL6, hO6⟩
  have hB6 := hB5.trans (((Only.of_below N (bel_two w5 _ _)).trans hO6).below HN.out hB5.size)
  have hc6 := hL6.cell
  clear hL5 hB5 hO6
  go_wp2_with fail
  refine (Synced_dk hL6.dk).mono ?_
  rintro e wq ⟨rfl, hwq⟩
  subst wq
  clear hc6
  go_wp2_with fail
  refine (Rewrite_lk (hL6.below (bel_two w6 _ _)) (by exact (long_one (fun _ => True) w6 Z 4001 HZL.out (by omega) (fun _ _ => trivial) _ rfl).rd) HW4.out HF4.out (l' := K) (s' := 0) rfl).mono ?_
  rintro e w7 ⟨rfl, hL7, hO7⟩
  have hB7 := hB6.trans (((Only.of_below N (bel_two w6 _ _)).trans hO7).below HN.out hB6.size)
  clear hL6 hB6 hO7
  go_wp2_with fail
  refine (Size_dk hL7.dk).mono ?_
  rw [HKL.out]
  rintro e wq ⟨rfl, hwq⟩
  subst wq
  go_wp2_with fail
  refine (Rewrite_lk (hL7.below (bel_two w7 _ _)) (by exact (lit_one (fun _ => True) w7 [111, 110, 108, 121] (4, 5) (by simp) (fun _ _ => trivial)).rd) HW5.out HF5.out HL5.out).mono ?_
  rintro e w8 ⟨rfl, hL8, hO8⟩
  have hB8 := hB7.trans (((Only.of_below N (bel_two w7 _ _)).trans hO8).below HN.out hB7.size)
  clear hL7 hB7 hO8
  go_wp2_with fail
  refine (Records_lk hL8 HR5.out rfl).mono ?_
  rintro e w9 ⟨ao9, cp9, rfl, hown9, hb9⟩
  obtain ⟨vs, hv1, hv2⟩ := hown9
  obtain ⟨v, rfl⟩ : ∃ v, vs = [v] := by
    have := hv2.1
    match vs, this with
    | [v], _ => exact ⟨v, rfl⟩
  obtain ⟨aor, cpr, rfl, hownr⟩ := hv2.2 0 v [111, 110, 108, 121] rfl rfl
  rw [show ([111, 110, 108, 121] : List UInt8).length = 4 from rfl] at hownr hv1
  rw [show ([[111, 110, 108, 121]] : List (List UInt8)).length = 1 from rfl] at hv1 ⊢
  obtain ⟨gx, cx, hform⟩ := Go.Joins.ownsRow_form hownr (by omega)
  cases hform
  obtain ⟨g9, c9, hform9⟩ := Go.Joins.ownsRow_form hv1 (by omega)
  cases hform9
  have hc9 : w9.cell? ⟨g9, 0, none⟩ = some (.slice (some ⟨gx, 0, none⟩) 4 cpr) := (hv1.cellAt 0 (by omega)).trans rfl
  have hcx : w9.cell? ⟨gx, 0, none⟩ = some (.int .u8 111) := (hownr.cellAt 0 (by omega)).trans rfl
  have hfx := hownr.frozenAt 0
  have hx := hownr.lt gx rfl
  have hb10 : Below w8.heap.size w8 (w9.setCell ⟨gx, 0, none⟩ (.int .u8 122)) := hb9.setCell hx.1 _
  have hL10 := hL8.below hb10
  have hB10 := bel_call hB8 hb10
  clear hownr hv1 hv2 hL8 hB8 hb9 hb10 kc mkY
  go_wp2_with fail
  refine (Append_dk hL10.dk (bel_two _ _ _) (by exact lit_at _ _ [1, 2, 3] (0, 0) _ (by simp) (by simp) (fun i hi => .inl hi)) HF6.out (l' := J ++ [1, 2, 3]) (by rw [if_pos rfl, cat_one])).mono ?_
  rintro e w11 ⟨rfl, hD11, hO11⟩
  have hL11 := hL10.next hD11 hO11
  have hB11 := hB10.trans (hO11.below HN.out hB10.size)
  clear hL10 hB10 hO11 hD11 hc9 hcx hfx hx
  go_wp2_with fail
  refine (Open_dk hL11.dk HO7.out).mono ?_
  rintro e w12 ⟨lm, rfl, hlm, N12, hL12, hN12, hO12⟩
  have hM12 := hL11.other hO12 hL12 hN12
  have hB12 := hB11.trans (hO12.below HN.out hB11.size)
  clear hL11 hB11 hO12 hN12 hlm
  go_wp2_with fail
  refine (Records_lk hM12 HR5.out rfl).mono ?_
  rintro e w13 ⟨ao13, cp13, rfl, hown13, hb13⟩
  have hL13 := hL12.below hb13
  have hM13 := hM12.below hb13
  have hB13 := bel_call hB12 hb13
  have hcL := hL13.cell
  have hcM := hM13.cell
  obtain ⟨bb, off, rfl, _, hcells⟩ := hown13.rd.at (by simp)
  obtain ⟨ao14, cp14, hc14, hR14⟩ := hcells 0 [111, 110, 108, 121] rfl
  have hs14 := run_str _ _ _ _ _ hR14
  have hst := str_toList [111, 110, 108, 121]
  rw [Nat.add_zero] at hc14
  rw [show ([111, 110, 108, 121] : List UInt8).length = 4 from rfl] at hc14 hs14
  clear hL12 hM12 hB12 hb13 hown13 hcells hR14
  go_wp2_with fail
  refine (Synced_dk hL13.dk).mono ?_
  rintro e wq ⟨rfl, hwq⟩
  subst wq
  go_wp2_with fail
  refine (Size_dk hL13.dk).mono ?_
  rw [HJL.out]
  rintro e wq ⟨rfl, hwq⟩
  subst wq
  go_wp2_with fail
  refine (Size_dk hL13.dk).mono ?_
  rw [HJL.out]
  rintro e wq ⟨rfl, hwq⟩
  subst wq
  go_wp2
  go_ret
  exact ⟨rfl, hB13⟩
end Go.Proofs.Ytapocoijfdgcfaa
