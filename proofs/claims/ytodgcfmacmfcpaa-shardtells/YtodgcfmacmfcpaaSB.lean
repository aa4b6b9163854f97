/- Sessions: All, OfAll. -/
import Derived.Test.YtodgcfmacmfcpaaSA
import Derived.Laws.CopyOwn
namespace Go.Proofs.Ytodgcfmacmfcpaa
open Go.RowKit

theorem run_ix4 (l : List Se) (k : Nat) (x : Se) (w : World) (hl : l.length = 4) (hk : k < 4) (hx : l[k]? = some x) : (Instr.index 32 (.agg (flt seK l).toArray) (.int .i64 k)).run Try.prog w = .ok (seV x) w := by
  obtain ⟨i0, hi, hz0, hz1, hz2⟩ := info_parts se_info
  unfold Instr.index
  have e : List.take 4 (List.drop (k * 4) (flt seK l)) = Se.cells x := by
    have hkl : k < l.length := by omega
    rw [List.getElem?_eq_getElem hkl] at hx
    have hx := Option.some.inj hx
    have h1 := flt_drop (K := seK) l k
    have h2 : l.drop k = x :: l.drop (k + 1) := by rw [List.drop_eq_getElem_cons hkl, hx]
    rw [h2, flt_cons] at h1
    show List.take 4 (List.drop (k * seK.c) (flt seK l)) = _
    rw [← h1]
    rfl
  simp [asIntOf, part, sizeOf, typeInfo, hi, hz1, hk, e]
  rfl
set_option maxHeartbeats 2000000 in
theorem All_o (g o : Nat) (l : List Se) (w : World) (h : SesO w g o l) :
    Calls Try.prog 33 #[.pointer (some ⟨g, o, none⟩)] w fun e w' => ∃ ao cap, e = .returned (.slice ao (allS l).length cap) ∧ OwnK seK w.heap.size w' ao cap (allS l) ∧ Below w.heap.size w w' := by
  have hg := h.lt
  have hrow := h.2
  have hI : Hid (SInv l) := h.1
  clear h
  have hi : (Try.prog.info? 32).map (·.size) = some (flt seK l).length := by rw [flt_length, hI.out.1]; kernel_rfl
  obtain ⟨C, hC⟩ : ∃ C, (flt seK l) = C := ⟨_, rfl⟩
  have hix := fun k x w => run_ix4 l k x w hI.out.1
  rw [hC] at hrow hi hix
  clear hC
  go_enter Try.func33, Try.ntmps33
  go_wp2_with (refine wpList_load_ob rfl 32 _ rfl g o rfl C _ hrow Try.underlying32 rfl hi ?_)
  obtain ⟨C2, hC2⟩ : ∃ C2, C.toArray = C2 := ⟨_, rfl⟩
  rw [hC2] at hix ⊢
  clear hC2
  clear hi hrow
  go_loopw [3, 10] (fun v i wr => ∃ (j : Nat) (ao : Option Addr) (cap n : Nat), j ≤ 4 ∧ i = .int .i64 j ∧ v = .slice ao n cap ∧ n = (allS (l.take j)).length ∧ OwnK seK w.heap.size wr ao cap (allS (l.take j)) ∧ Below w.heap.size w wr) (fun _ i _ => 4 - (intOf i).toNat)
  case atStart => exact ⟨0, none, 0, 0, by omega, rfl, rfl, rfl, OwnK.nil _ _ _, Below.refl _ _⟩
  case round =>
    obtain ⟨j, ao, cap, n, hj, rfl, rfl, hn, hown, hbel⟩ := hrel
    by_cases hlt : j < 4
    · have hjl : j < l.length := by rw [hI.out.1]; exact hlt
      obtain ⟨x, hx⟩ : ∃ x, l[j] = x := ⟨_, rfl⟩
      have hx2 : l[j]? = some x := by rw [List.getElem?_eq_getElem hjl, hx]
      have hrun := fun w => hix j x w hlt hx2
      unfold seV at hrun
      have hj4 : (j : Int) < 4 := by omega
      have HT : Hid (l.take (j + 1) = l.take j ++ [x]) := by show _ = _; rw [List.take_succ_eq_append_getElem hjl, hx]
      have HN : Hid (n = (allS (l.take j)).length) := hn
      have HO : Hid (OwnK seK w.heap.size wr ao cap (allS (l.take j))) := hown
      have HB : Hid (Below w.heap.size w wr) := hbel
      have hsz : n ≤ 4 := by rw [hn]; refine Nat.le_trans (List.length_filter_le _ _) ?_; simp; omega
      clear hix hx hx2 hn hown hbel
      by_cases hp : 0 < x.sq
      · have HA : Hid (allS (l.take (j + 1)) = allS (l.take j) ++ [x]) := by show _ = _; rw [HT.out]; simp [allS, hasS, hp]
        go_wp2_with (at_builtin; go_loud (refine appK seK rfl _ _ rfl rfl rfl w.heap.size ao cap n (allS (l.take j)) rfl HN.out.symm ((HO.out.below (bel_al wr _)).below (bel_al _ _)) (some ⟨wr.heap.size + 1, 0, none⟩) 1 1 [x] rfl (src_se _ x _ (size_al _ _)) ?_ ?_ ?_ ?_))
        · show (n + 1 + (n + 1) / 4 + 192) * 40 ≤ _; omega
        · omega
        · exact Nat.le_trans HB.out.size (bel_al2 wr _ _).size
        intro ao' cap' w2 hown2 hgr2 hb2
        have HO2 : Hid (OwnK seK w.heap.size w2 ao' cap' (allS (l.take (j + 1)))) := by rw [HA.out]; exact hown2
        have HB2 : Hid (Below w.heap.size w w2) := (HB.out.trans ((bel_al2 wr _ _).mono HB.out.size)).trans hb2
        have HN2 : Hid (n + 1 = (allS (l.take (j + 1))).length) := by show _ = _; rw [HA.out, List.length_append, HN.out]; rfl
        clear hown2 hgr2 hb2 hrun
        go_wp2
        go_roundw
        case rel => exact ⟨j + 1, ao', cap', n + 1, by omega, by go_num, rfl, HN2.out, HO2.out, HB2.out⟩
        case measure => simp [intOf]; omega
      · have HA : Hid (allS (l.take (j + 1)) = allS (l.take j)) := by show _ = _; rw [HT.out]; simp [allS, hasS, hp]
        go_wp2
        go_roundw
        case rel => exact ⟨j + 1, ao, cap, n, by omega, by go_num, rfl, by rw [HA.out]; exact HN.out, by rw [HA.out]; exact HO.out.below (bel_al wr _), HB.out.alloc HB.out.size _⟩
        case measure => simp [intOf]; omega
    · have hj4 : j = 4 := by omega
      subst hj4
      have e : l.take 4 = l := List.take_of_length_le (by rw [hI.out.1]; exact Nat.le_refl _)
      rw [e] at hn hown
      clear hix
      go_wp2
      go_ret
      exact ⟨ao, cap, by rw [hn]; rfl, hown, hbel⟩
theorem All_any (g : Nat) (l : List Se) (w : World) (h : SesAt w g l) :
    Calls Try.prog 33 #[.pointer (some ⟨g, 0, none⟩)] w fun e w' => ∃ ao cap, e = .returned (.slice ao (allS l).length cap) ∧ OwnK seK w.heap.size w' ao cap (allS l) ∧ Below w.heap.size w w' := All_o g 0 l w h.o
/-- all of them noted, in order -/
def notesS (l xs : List Se) : List Se := xs.foldl noteS l
theorem notesS_next (xs : List Se) (j : Nat) (h : j < xs.length) (l : List Se) : notesS l (xs.take (j + 1)) = noteS (notesS l (xs.take j)) xs[j] := by
  unfold notesS
  rw [List.take_succ_eq_append_getElem h, List.foldl_append]
  rfl
theorem SInv.notes (xs : List Se) : ∀ {l : List Se}, SInv l → SInv (notesS l xs) := by
  induction xs with
  | nil => intro l h; exact h
  | cons x r ih => intro l h; exact ih (h.note x)
def zeroSO : Obj := .cells #[.int .i64 0, .int .i64 0, .int .i64 0, .string ⟨#[]⟩, .int .i64 0, .int .i64 0, .int .i64 0, .string ⟨#[]⟩, .int .i64 0, .int .i64 0, .int .i64 0, .string ⟨#[]⟩, .int .i64 0, .int .i64 0, .int .i64 0, .string ⟨#[]⟩] 34
theorem SesAt.zero {w : World} {g : Nat} (h : w.heap[g]? = some zeroSO) : SesAt w g zeroS := ⟨SInv.zero, h⟩
theorem ses_info : (Try.prog.info? 34).map (·.size) = some 16 := by kernel_rfl
theorem flt16 {l : List Se} (h : SInv l) : (flt seK l).toArray.size = 16 := by rw [List.size_toArray, flt_length, h.1]; rfl
theorem flt_size {l : List Se} (h : SInv l) : (Try.prog.info? 34).map (·.size) = some (flt seK l).toArray.size := by rw [ses_info, flt16 h]
theorem flt_ones {α : Type} (K : Knd α) (l : List α) : (flt K l).toArray.all (·.oneCell') = true := by
  rw [Array.all_eq_true']
  intro u hu
  exact flt_one l u (by simpa using hu)
/-- a slice of elements that is read -/
abbrev SeR (w : World) (ao : Option Addr) (cap : Nat) (l : List Se) : Prop := ArK seK (fun _ => True) w ao cap l
theorem RdK.se {w : World} {g off : Nat} {l : List Se} (h : RdK seK w g off l) (k : Nat) (hk : k < l.length) : w.cell? ⟨g, off + k * 4, none⟩ = some (.int .i64 l[k].cl) ∧ w.cell? ⟨g, off + k * 4 + 1, none⟩ = some (.int .i64 l[k].sq) ∧ w.cell? ⟨g, off + k * 4 + 2, none⟩ = some (.int .i64 l[k].why) ∧ w.cell? ⟨g, off + k * 4 + 3, none⟩ = some (.string l[k].val) :=
  ⟨h k hk 0 _ rfl, h k hk 1 _ rfl, h k hk 2 _ rfl, h k hk 3 _ rfl⟩
theorem Note_sp (g : Nat) (l : List Se) (a b c : Int) (v : ByteArray) (w : World) (h : SesAt w g l) :
    Calls Try.prog 31 #[.pointer (some ⟨g, 0, none⟩), .agg #[.int .i64 a, .int .i64 b, .int .i64 c, .string v]] w fun e w' => e = .returned (.bool (mayS l ⟨a, b, c, v⟩)) ∧ SesAt w' g (noteS l ⟨a, b, c, v⟩) ∧ Only (fun k => k = g) w w' := Note_any g l ⟨a, b, c, v⟩ w h
set_option maxHeartbeats 2000000 in
theorem OfAll_any (ao : Option Addr) (n cap : Nat) (xs : List Se) (w : World) (hn : xs.length = n) (hR : SeR w ao cap xs) :
    Calls Try.prog 28 #[.slice ao n cap] w fun e w' => e = .returned (.agg (flt seK (notesS zeroS xs)).toArray) ∧ Below w.heap.size w w' := by
  subst hn
  have hcm := hR.len
  have HR : Hid (SeR w ao cap xs) := hR
  clear hR
  go_enter Try.func28, Try.ntmps28
  go_wp2_with fail
  go_loopw [8] (fun i wr => ∃ j : Nat, j ≤ xs.length ∧ i = .int .i64 j ∧ wr.heap[w.heap.size]? = some zeroSO ∧ SesAt wr (w.heap.size + 1) (notesS zeroS (xs.take j)) ∧ Below w.heap.size w wr) (fun i _ => xs.length - (intOf i).toNat)
  case atStart => exact ⟨0, Nat.zero_le _, rfl, al2_fst w _ _, SesAt.zero (al2_snd w _ _), bel_al2 w _ _⟩
  case round =>
    obtain ⟨j, hj, rfl, hz, hT, hbel⟩ := hrel
    by_cases hlt : j < xs.length
    · obtain ⟨g, off, rfl, hg, _, hrd⟩ := HR.out.at (by omega)
      obtain ⟨c0, c1, c2, c3⟩ := (hrd.below hbel hg).se j hlt
      have HP := notesS_next xs j hlt zeroS
      obtain ⟨x, hx⟩ : ∃ x, xs[j] = x := ⟨_, rfl⟩
      rw [hx] at c0 c1 c2 c3 HP
      obtain ⟨a, b, c, v⟩ := x
      simp only at c0 c1 c2 c3
      have hm1 : (j : Int) < (xs.length : Int) := by omega
      have HZ : Hid (wr.heap[w.heap.size]? = some zeroSO) := hz
      have HT : Hid (SesAt wr (w.heap.size + 1) (notesS zeroS (xs.take j))) := hT
      have HP2 : Hid (notesS zeroS (xs.take (j + 1)) = _) := HP
      have HBel : Hid (Below w.heap.size w wr) := hbel
      have hsz : w.heap.size + 1 < wr.heap.size := hT.lt
      clear hrd hx hz hT HP hbel
      go_wp2_with (go_at_call 31; refine (Note_sp (w.heap.size + 1) (notesS zeroS (xs.take j)) _ _ _ _ _ (HT.out.below (bel_al wr _))).mono ?_; rintro e w2 ⟨rfl, hT2, hO⟩; have HT2 : Hid (SesAt w2 _ _) := hT2; have HO : Hid (Only _ _ w2) := hO; clear hT2 hO)
      have hO := (Only.of_alloc (fun k => k = w.heap.size + 1) wr _).trans HO.out
      refine ⟨⟨j + 1, hlt, by go_num, (hO.block w.heap.size (by omega) (by omega)).trans HZ.out, ?_, HBel.out.trans (hO.below (fun i e => by omega) (by omega))⟩, by simp [intOf]; omega⟩
      rw [HP2.out]
      exact HT2.out
    · have hjn : j = xs.length := by omega
      subst hjn
      rw [List.take_length] at hT
      obtain ⟨hr, hcell⟩ := hT
      have hi := flt_size hr
      have h16 : Hid (16 = (flt seK (notesS zeroS xs)).toArray.size) := (flt16 hr).symm
      have h1 := flt_ones seK (notesS zeroS xs)
      obtain ⟨C, hC⟩ : ∃ C, (flt seK (notesS zeroS xs)).toArray = C := ⟨_, rfl⟩
      have HBel : Hid (Below w.heap.size w wr) := hbel
      have HC : Hid ((flt seK (notesS zeroS xs)).toArray = C) := hC
      rw [hC] at hcell hi h16 h1
      have hrow : Hid ((wr.setRow w.heap.size C).heap[w.heap.size]? = some (.cells C 34 (0, 0))) := setRow_heap wr _ _ C _ _ hz
      clear hC hr hbel
      go_wp2_with first | (refine wpList_load_row rfl 34 _ rfl (w.heap.size + 1) rfl 34 C (0, 0) _ hcell Try.underlying34 rfl hi ?_) | (refine wpList_store_row rfl 34 _ _ rfl w.heap.size C rfl rfl 34 _ hz hi h16.out h1 ?_)
      try simp only [Exit.inBlock, Exit.then]
      refine bodyPost_ret (results_cell_row Try.results28 _ _ w.heap.size 34 C (0, 0) _ rfl hrow.out Try.underlying34 rfl hi) rfl ?_
      exact ⟨by rw [HC.out], below_setRow HBel.out (Nat.le_refl _) C⟩
/-- what is asked of the cells of sessions -/
theorem rowsS {l : List Se} (h : SInv l) : ∃ C : Array Value, (flt seK l).toArray = C ∧ (Try.prog.info? 34).map (·.size) = some C.size ∧ Hid (16 = C.size) ∧ C.all (·.oneCell') = true ∧ ∀ (w : World) (g : Nat), w.heap[g]? = some (.cells C 34 (0, 0)) → SesAt w g l :=
  ⟨_, rfl, flt_size h, (flt16 h).symm, flt_ones seK l, fun _ _ e => ⟨h, e⟩⟩
theorem store_newS {w w2 : World} {C : Array Value} (h : w2 = (w.alloc zeroSO).setRow w.heap.size C) : w2.heap[w.heap.size]? = some (.cells C 34 (0, 0)) ∧ Below w.heap.size w w2 ∧ w.heap.size < w2.heap.size := by
  subst h
  refine ⟨setRow_heap _ _ _ C _ _ (alloc_new w zeroSO), below_setRow (bel_al w _) (Nat.le_refl _) C, ?_⟩
  rw [size_setRow]
  show _ < (w.heap.push _).size
  simp
end Go.Proofs.Ytodgcfmacmfcpaa
