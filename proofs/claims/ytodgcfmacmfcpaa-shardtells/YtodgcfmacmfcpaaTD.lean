/- insert, remove. -/
import Derived.Test.YtodgcfmacmfcpaaTC
namespace Go.Proofs.Ytodgcfmacmfcpaa
open Go.RowKit

/-- a table's cells from cell fo of block g on, rising or not -/
def TabRawO (w : World) (g fo : Nat) (l : List Pr) : Prop := ∃ z : List Pr, l.length + z.length = 8 ∧ Ob w g fo (tcells l z)
theorem TabO.raw {w : World} {g fo : Nat} {l : List Pr} (h : TabO w g fo l) : TabRawO w g fo l := by obtain ⟨z, h1, _, h2⟩ := h; exact ⟨z, h1, h2⟩
theorem TabRawO.at {w : World} {g fo : Nat} {l : List Pr} (h : TabRawO w g fo l) (hr : Rise l) : TabO w g fo l := by obtain ⟨z, h1, h2⟩ := h; exact ⟨z, h1, hr, h2⟩

/-- a table's cells: eight pairs, a number behind them -/
def Row (w : World) (g fo : Nat) (F : List Pr) (u : Value) : Prop := Ob w g fo (flat F ++ [u])
section
variable {w : World} {g fo : Nat} {F : List Pr} {u : Value}
theorem Row.lt (h : Row w g fo F u) : g < w.heap.size := Ob.lt h
theorem Row.key (h : Row w g fo F u) {p : Nat} (hp : p < F.length) : w.cell? ⟨g, fo + p * 2, none⟩ = some (.string F[p].1) := by
  have hf := flat_length F
  refine Ob.at h (p * 2) _ ?_
  rw [List.getElem?_append_left (by omega), Nat.mul_comm, flat_key _ p hp]
theorem Row.val (h : Row w g fo F u) {p : Nat} (hp : p < F.length) : w.cell? ⟨g, fo + p * 2 + 1, none⟩ = some (.string F[p].2) := by
  have hf := flat_length F
  refine Ob.at h (p * 2 + 1) _ ?_
  rw [List.getElem?_append_left (by omega), Nat.mul_comm, flat_val _ p hp]
theorem Row.used (h : Row w g fo F u) (h8 : F.length = 8) : w.cell? ⟨g, fo + 16, none⟩ = some u := by
  have hf := flat_length F
  refine Ob.at h 16 _ ?_
  rw [List.getElem?_append_right (by omega), hf, h8]; rfl
theorem Row.free (h : Row w g fo F u) (o : Nat) : w.frozen? ⟨g, o, none⟩ = false := Ob.free h o
theorem flat_set_key (F : List Pr) : ∀ (p : Nat) (k : ByteArray), (flat F).set (2 * p) (.string k) = flat (F.modify p fun q => (k, q.2)) := by
  induction F with
  | nil => intro p k; simp [flat]
  | cons q r ih =>
    intro p k
    cases p with
    | zero => rfl
    | succ p => rw [show 2 * (p + 1) = 2 * p + 1 + 1 by omega]; simp only [flat, List.set_cons_succ, ih, List.modify_succ_cons]
theorem flat_set_val (F : List Pr) : ∀ (p : Nat) (k : ByteArray), (flat F).set (2 * p + 1) (.string k) = flat (F.modify p fun q => (q.1, k)) := by
  induction F with
  | nil => intro p k; simp [flat]
  | cons q r ih =>
    intro p k
    cases p with
    | zero => rfl
    | succ p => rw [show 2 * (p + 1) + 1 = 2 * p + 1 + 1 + 1 by omega]; simp only [flat, List.set_cons_succ, ih, List.modify_succ_cons]
theorem Row.setKey (h : Row w g fo F u) {p : Nat} (hp : p < F.length) (k : ByteArray) : Row (w.setCell ⟨g, fo + p * 2, none⟩ (.string k)) g fo (F.modify p fun q => (k, q.2)) u := by
  have hf := flat_length F
  have := Ob.set h (p * 2) (by simp; omega) (.string k)
  rw [List.set_append_left _ _ (by omega), Nat.mul_comm p 2, flat_set_key, Nat.mul_comm 2 p] at this
  exact this
theorem Row.setVal (h : Row w g fo F u) {p : Nat} (hp : p < F.length) (k : ByteArray) : Row (w.setCell ⟨g, fo + p * 2 + 1, none⟩ (.string k)) g fo (F.modify p fun q => (q.1, k)) u := by
  have hf := flat_length F
  have := Ob.set h (p * 2 + 1) (by simp; omega) (.string k)
  rw [List.set_append_left _ _ (by omega), Nat.mul_comm p 2, flat_set_val, Nat.mul_comm 2 p] at this
  exact this
theorem Row.setUsed (h : Row w g fo F u) (h8 : F.length = 8) (u' : Value) : Row (w.setCell ⟨g, fo + 16, none⟩ u') g fo F u' := by
  have hf := flat_length F
  have := Ob.set h 16 (by simp; omega) u'
  rw [List.set_append_right _ _ (by omega), hf, h8] at this
  exact this
theorem Row.setBoth (h : Row w g fo F u) {p : Nat} (hp : p < F.length) (k v : ByteArray) : Row ((w.setCell ⟨g, fo + p * 2, none⟩ (.string k)).setCell ⟨g, fo + p * 2 + 1, none⟩ (.string v)) g fo (F.set p (k, v)) u := by
  have h2 := (h.setKey hp k).setVal (p := p) (by simpa using hp) v
  have e : (F.modify p fun q => (k, q.2)).modify p (fun q => (q.1, v)) = F.set p (k, v) := by
    apply List.ext_getElem?
    intro i
    simp only [List.getElem?_modify, List.getElem?_set]
    by_cases hi : p = i
    · subst hi; simp [hp]
    · simp [hi]
  rw [e] at h2
  exact h2
end
theorem TabRawO.row {w : World} {g fo : Nat} {l : List Pr} (h : TabRawO w g fo l) : ∃ z : List Pr, l.length + z.length = 8 ∧ Row w g fo (l ++ z) (.int .i64 l.length) := h
theorem part3 {w : World} {g fo : Nat} (a b c : Nat) (x y u : Value) (ha : fo ≤ a ∧ a < fo + 17) (hb : fo ≤ b ∧ b < fo + 17) (hc : fo ≤ c ∧ c < fo + 17) : Part g fo 17 w (((w.setCell ⟨g, a, none⟩ x).setCell ⟨g, b, none⟩ y).setCell ⟨g, c, none⟩ u) :=
  ((Part.setIn w ha.1 ha.2 x).trans (Part.setIn _ hb.1 hb.2 y)).trans (Part.setIn _ hc.1 hc.2 u)
theorem ins_list (l z : List Pr) (p : Nat) (x : Pr) (hp : p ≤ l.length) (hz : 0 < z.length) : (splice (l ++ z) (p + 1) (l.drop p)).set p x = (l.take p ++ x :: l.drop p) ++ z.drop 1 := by
  have hlt : p < (l ++ z).length := by simp; omega
  have e1 : (l ++ z).take (p + 1) = l.take p ++ [(l ++ z)[p]] := by
    rw [List.take_add_one, List.take_append_of_le_length hp, List.getElem?_eq_getElem hlt]; rfl
  have e2 : (l ++ z).drop (p + 1 + (l.drop p).length) = z.drop 1 := by
    rw [List.length_drop, show p + 1 + (l.length - p) = l.length + 1 by omega, List.drop_append]
    simp
  have e3 : (l.take p).length = p := by simp; omega
  unfold splice
  rw [e1, e2, List.append_assoc, List.set_append_right _ _ (by omega), e3]
  simp

set_option maxHeartbeats 2000000 in
theorem insert_last (g fo : Nat) (l : List Pr) (k v : ByteArray) (w : World) (h : TabRawO w g fo l) (hl : l.length = 7) :
    Calls Try.prog 52 #[.pointer (some ⟨g, fo, none⟩), .int .i64 7, .agg #[.string k, .string v]] w fun e w' => e = .returned (.tuple #[]) ∧ TabRawO w' g fo (l.take 7 ++ (k, v) :: l.drop 7) ∧ Part g fo 17 w w' := by
  obtain ⟨z, hz, hg⟩ := h.row
  have HZ8 : Hid (l.length + z.length = 8) := hz
  have hlt : g < w.heap.size := hg.lt
  have hu : w.cell? ⟨g, fo + 16, none⟩ = some (.int .i64 l.length) := hg.used (by simpa using hz)
  have HG : Hid (Ob (w.alloc (.cells #[.string k, .string v] 23)).drew g fo (flat (l ++ z) ++ [Value.int .i64 l.length])) := Ob.heap hg (Below.heap_alloc w _ g hlt)
  have HZ : Hid (l.length + z.length = 8) := hz
  clear hg hz
  have HL : Hid (l.length = 7) := hl
  rw [hl] at hu HG
  clear hl
  have j1 : IntKind.i64.wrap 8 = 8 := by rw [IntKind.wrap_i64]; omega
  have HZ17 : Hid (2 * (l ++ z).length + 1 ≤ 17) := by show _ ≤ _; rw [List.length_append]; have := HZ8.out; omega
  go_enter Try.func52, Try.ntmps52
  go_wp2_with fail
  go_region_law (go_loud (refine step_copyT rfl _ _ rfl _ _ _ _ _ _ rfl rfl g fo 0 0 (l ++ z) [] _ HG.out rfl rfl (fun h => absurd h (by simp)) (Nat.zero_le _) ?_; intro w2 HG2 HO2'; have HO2 : Hid (Part g fo 17 _ w2) := HO2'.out.mono (Nat.le_refl _) (by have := HZ17.out; omega); clear HO2'))
  all_goals
    have HF : Hid ((splice (l ++ z) 0 []).length = 8 ∧ (splice (l ++ z) 0 []).set 7 (k, v) = (l.take 7 ++ (k, v) :: l.drop 7) ++ z.drop 1 ∧ (z.drop 1).length = 7 - l.length) := by
      have h1 := HZ.out
      have h2 := HL.out
      refine ⟨by simp [splice]; exact h1, ?_, by simp; omega⟩
      rw [List.take_of_length_le (by omega), List.drop_of_length_le (by omega)]
      obtain ⟨y, rfl⟩ : ∃ y, z = [y] := by
        match z, h1 with
        | [y], _ => exact ⟨y, rfl⟩
        | [], h1 => simp at h1; omega
        | _ :: _ :: _, h1 => simp at h1; omega
      simp [splice, List.set_append_right, h2]
    obtain ⟨F2, HF2⟩ : ∃ F2, Hid (F2 = splice (l ++ z) 0 []) := ⟨_, rfl⟩
    rw [← HF2.out] at HF HG2
    have R2 : Row w2 g fo F2 (.int .i64 7) := HG2.out
    have hpF : 7 < F2.length := by rw [HF.out.1]; omega
    have c1 := R2.key hpF
    have c2 := R2.val hpF
    have c3 := R2.used HF.out.1
    have f1 := R2.free (fo + 14)
    have f2 := R2.free (fo + 15)
    have f3 := R2.free (fo + 16)
    obtain ⟨b1, b2⟩ := boxed HO2.out.only hlt
    have R3 : Hid (Row ((w2.setCell ⟨g, fo + 14, none⟩ (.string k)).setCell ⟨g, fo + 15, none⟩ (.string v)) g fo (F2.set 7 (k, v)) (.int .i64 7)) := R2.setBoth hpF k v
    clear R2 HG2 HG
    go_wp2_with fail
    go_region
    all_goals
      go_wp2
      go_end0
      refine ⟨rfl, ⟨z.drop 1, ?_, ?_⟩, ?_⟩
      · have := HF.out.2.2
        have h3 := HL.out
        simp only [List.length_append, List.length_cons, List.length_take, List.length_drop] at this ⊢
        omega
      · have h4 := R3.out.setUsed (by simpa using HF.out.1) (.int .i64 8)
        rw [HF.out.2.1] at h4
        have h5 : ((l.take 7 ++ (k, v) :: l.drop 7).length : Int) = 8 := by
          have h3 := HL.out
          simp only [List.length_append, List.length_cons, List.length_take, List.length_drop]
          omega
        unfold tcells
        rw [h5]
        exact h4
      · exact (((Part.al fo 17 hlt _).trans (Part.drew _ _ _ _)).trans HO2.out).trans ((part3 _ _ _ _ _ _ (by omega) (by omega) (by omega)).trans (Part.drew _ _ _ _))
set_option maxHeartbeats 2000000 in
theorem insert_o (g fo : Nat) (l : List Pr) (p : Nat) (k v : ByteArray) (w : World) (h : TabRawO w g fo l) (hl : l.length < 8) (hp : p ≤ l.length) :
    Calls Try.prog 52 #[.pointer (some ⟨g, fo, none⟩), .int .i64 p, .agg #[.string k, .string v]] w fun e w' => e = .returned (.tuple #[]) ∧ TabRawO w' g fo (l.take p ++ (k, v) :: l.drop p) ∧ Part g fo 17 w w' := by
  obtain ⟨z, hz, hg⟩ := h.row
  have HZ8 : Hid (l.length + z.length = 8) := hz
  have hlt : g < w.heap.size := hg.lt
  have hu : w.cell? ⟨g, fo + 16, none⟩ = some (.int .i64 l.length) := hg.used (by simpa using hz)
  have HG : Hid (Ob (w.alloc (.cells #[.string k, .string v] 23)).drew g fo (flat (l ++ z) ++ [Value.int .i64 l.length])) := Ob.heap hg (Below.heap_alloc w _ g hlt)
  have HZ : Hid (l.length + z.length = 8) := hz
  clear hg hz
  have i1 : (p : Int) ≤ l.length := by omega
  have i2 : (l.length : Int) < 8 := by omega
  have i3 : (p : Int) + 1 ≤ 8 := by omega
  obtain ⟨n, hn⟩ : ∃ n, n = l.length := ⟨_, rfl⟩
  rw [← hn] at hu i1 i2 hl hp
  have HN : Hid (n = l.length) := hn
  clear hn
  have j1 : IntKind.i64.wrap ((p : Int) + 1) = (p : Int) + 1 := by rw [IntKind.wrap_i64]; omega
  have j2 : 0 ≤ (p : Int) + 1 := by omega
  have j3 : ((p : Int) + 1).toNat = p + 1 := by omega
  by_cases h8 : p + 1 = 8
  · obtain rfl : p = 7 := by omega
    have h7 : l.length = 7 := by rw [← HN.out]; omega
    exact insert_last g fo l k v w h h7
  have j6 : (n : Int) ≤ 8 := by omega
  have j7 : n ≤ 8 := by omega
  have j4 : ¬ (8 = p + 1) := by omega
  have j5 : ¬ (8 = p) := by omega
  have HCC : Hid (l.drop p = ((l ++ z).drop p).take (l.drop p).length) := by
    show _ = _
    rw [List.drop_append_of_le_length (by rw [← HN.out]; exact hp), List.take_left']; rfl
  have HCL : Hid ((l.drop p).length = Nat.min (n - p) (7 - p)) := by
    show _ = _
    rw [List.length_drop, ← HN.out]
    exact (Nat.min_eq_left (by omega)).symm
  have HPOS : Hid (0 < (l.drop p).length → (some ⟨g, fo + (p + 1) * 2, none⟩ : Option Addr) = some ⟨g, fo + 2 * (p + 1), none⟩ ∧ (some ⟨g, fo + p * 2, none⟩ : Option Addr) = some ⟨g, fo + 2 * p, none⟩) := fun _ => ⟨by rw [Nat.mul_comm], by rw [Nat.mul_comm]⟩
  have HFIT : Hid (p + 1 + (l.drop p).length ≤ (l ++ z).length) := by
    show _ ≤ _
    have := HZ.out
    rw [List.length_drop, List.length_append, ← HN.out]
    rw [← HN.out] at this
    omega
  have HZ17 : Hid (2 * (l ++ z).length + 1 ≤ 17) := by show _ ≤ _; rw [List.length_append]; have := HZ8.out; omega
  go_enter Try.func52, Try.ntmps52
  go_wp2_with fail
  go_region_law (go_loud (refine step_copyT rfl _ _ rfl _ _ _ _ _ _ rfl rfl g fo (p + 1) p (l ++ z) (l.drop p) _ HG.out HCC.out HCL.out HPOS.out HFIT.out ?_; intro w2 HG2 HO2'; have HO2 : Hid (Part g fo 17 _ w2) := HO2'.out.mono (Nat.le_refl _) (by have := HZ17.out; omega); clear HO2'))
  all_goals
    have HF : Hid ((splice (l ++ z) (p + 1) (l.drop p)).length = 8 ∧ (splice (l ++ z) (p + 1) (l.drop p)).set p (k, v) = (l.take p ++ (k, v) :: l.drop p) ++ z.drop 1 ∧ (z.drop 1).length = 7 - l.length) := by
      have h1 := HZ.out
      have h2 := HN.out
      refine ⟨by rw [length_splice _ _ _ HFIT.out, List.length_append]; exact h1, ins_list l z p (k, v) (by omega) (by omega), by simp; omega⟩
    obtain ⟨F2, HF2⟩ : ∃ F2, Hid (F2 = splice (l ++ z) (p + 1) (l.drop p)) := ⟨_, rfl⟩
    rw [← HF2.out] at HF HG2
    have R2 : Row w2 g fo F2 (.int .i64 l.length) := HG2.out
    have hpF : p < F2.length := by rw [HF.out.1]; omega
    have c1 := R2.key hpF
    have c2 := R2.val hpF
    have c3 := R2.used HF.out.1
    have f1 := R2.free (fo + p * 2)
    have f2 := R2.free (fo + p * 2 + 1)
    have f3 := R2.free (fo + 16)
    obtain ⟨b1, b2⟩ := boxed HO2.out.only hlt
    have R3 : Hid (Row ((w2.setCell ⟨g, fo + p * 2, none⟩ (.string k)).setCell ⟨g, fo + p * 2 + 1, none⟩ (.string v)) g fo (F2.set p (k, v)) (.int .i64 l.length)) := R2.setBoth hpF k v
    have hpi : (p : Int) < 8 := by omega
    have hwn : IntKind.i64.wrap ((n : Int) + 1) = (n : Int) + 1 := by rw [IntKind.wrap_i64]; omega
    rw [← HN.out] at c3 R3
    clear R2 HG2 HG HCC HCL HPOS HFIT
    go_wp2_with fail
    go_region
    all_goals
      go_wp2
      go_end0
      refine ⟨rfl, ⟨z.drop 1, ?_, ?_⟩, ?_⟩
      · have := HF.out.2.2
        have h3 := HN.out
        simp only [List.length_append, List.length_cons, List.length_take, List.length_drop] at this ⊢
        omega
      · have h4 := R3.out.setUsed (by simpa using HF.out.1) (.int .i64 ((n : Int) + 1))
        rw [HF.out.2.1] at h4
        have h5 : ((l.take p ++ (k, v) :: l.drop p).length : Int) = (n : Int) + 1 := by
          have h3 := HN.out
          simp only [List.length_append, List.length_cons, List.length_take, List.length_drop]
          omega
        unfold tcells
        rw [h5]
        exact h4
      · exact (((Part.al fo 17 hlt _).trans (Part.drew _ _ _ _)).trans HO2.out).trans ((part3 _ _ _ _ _ _ (by omega) (by omega) (by omega)).trans (Part.drew _ _ _ _))

theorem rem_list (l z : List Pr) (p : Nat) (x : Pr) (hp : p < l.length) : (splice (l ++ z) p (l.drop (p + 1))).set (l.length - 1) x = (l.take p ++ l.drop (p + 1)) ++ x :: z := by
  have e1 : (l ++ z).take p = l.take p := List.take_append_of_le_length (by omega)
  have e2 : (l ++ z).drop (p + (l.drop (p + 1)).length) = l[l.length - 1] :: z := by
    rw [List.length_drop, show p + (l.length - (p + 1)) = l.length - 1 by omega, List.drop_append_of_le_length (by omega), List.drop_eq_getElem_cons (by omega), show l.length - 1 + 1 = l.length by omega]
    simp
  have e3 : (l.take p ++ l.drop (p + 1)).length = l.length - 1 := by simp; omega
  unfold splice
  rw [e1, e2, ← List.append_assoc, List.set_append_right _ _ (by omega), e3]
  simp

set_option maxHeartbeats 2000000 in
theorem remove_last (g fo : Nat) (l : List Pr) (w : World) (h : TabRawO w g fo l) (hl : l.length = 8) :
    Calls Try.prog 63 #[.pointer (some ⟨g, fo, none⟩), .int .i64 7] w fun e w' => e = .returned (.tuple #[]) ∧ TabRawO w' g fo (l.take 7 ++ l.drop 8) ∧ Part g fo 17 w w' := by
  obtain ⟨z, hz, hg⟩ := h.row
  have HZ8 : Hid (l.length + z.length = 8) := hz
  have hlt : g < w.heap.size := hg.lt
  have hu : w.cell? ⟨g, fo + 16, none⟩ = some (.int .i64 l.length) := hg.used (by simpa using hz)
  have HG : Hid (Ob w.drew g fo (flat (l ++ z) ++ [Value.int .i64 l.length])) := hg
  have HL : Hid (l.length = 8) := hl
  have HZ : Hid (z = []) := List.eq_nil_of_length_eq_zero (by omega)
  rw [hl] at hu HG
  clear hl hg hz
  have j1 : IntKind.i64.wrap 8 = 8 := by rw [IntKind.wrap_i64]; omega
  have HZ17 : Hid (2 * (l ++ z).length + 1 ≤ 17) := by show _ ≤ _; rw [List.length_append]; have := HZ8.out; omega
  go_enter Try.func63, Try.ntmps63
  go_wp2_with fail
  go_region_law (go_loud (refine step_copyT rfl _ _ rfl _ _ _ _ _ _ rfl rfl g fo 0 0 (l ++ z) [] _ HG.out rfl rfl (fun h => absurd h (by simp)) (Nat.zero_le _) ?_; intro w2 HG2 HO2'; have HO2 : Hid (Part g fo 17 _ w2) := HO2'.out.mono (Nat.le_refl _) (by have := HZ17.out; omega); clear HO2'))
  all_goals
    have HF : Hid ((l ++ z).length = 8) := by show _ = _; rw [HZ.out]; simpa using HL.out
    have R2 : Row w2 g fo (l ++ z) (.int .i64 8) := by have := HG2.out; simp [splice] at this; exact this
    have c3 := R2.used HF.out
    have f3 := R2.free (fo + 16)
    have R3 : Row (w2.setCell ⟨g, fo + 16, none⟩ (.int .i64 7)) g fo (l ++ z) (.int .i64 7) := R2.setUsed HF.out _
    have hpF : 7 < (l ++ z).length := by rw [HF.out]; omega
    have c1 := R3.key hpF
    have c2 := R3.val hpF
    have c4 := R3.used HF.out
    have f1 := R3.free (fo + 14)
    have f2 := R3.free (fo + 15)
    have R4 : Hid (Row (((w2.setCell ⟨g, fo + 16, none⟩ (.int .i64 7)).setCell ⟨g, fo + 14, none⟩ (.string ⟨#[]⟩)).setCell ⟨g, fo + 15, none⟩ (.string ⟨#[]⟩)) g fo ((l ++ z).set 7 (⟨#[]⟩, ⟨#[]⟩)) (.int .i64 7)) := R3.setBoth hpF ⟨#[]⟩ ⟨#[]⟩
    clear R2 HG2 HG R3 HF
    go_wp2_with fail
    go_region
    all_goals
      go_wp2
      go_end0
      have e0 : l.drop 8 = [] := List.drop_of_length_le (by rw [HL.out]; exact Nat.le_refl _)
      have e1 : (l ++ z).set 7 (⟨#[]⟩, ⟨#[]⟩) = (l.take 7 ++ l.drop 8) ++ [(⟨#[]⟩, ⟨#[]⟩)] := by
        rw [HZ.out, e0]
        have := rem_list l [] 7 (⟨#[]⟩, ⟨#[]⟩) (by rw [HL.out]; omega)
        rw [HL.out, e0] at this
        simpa [splice] using this
      have e2 : (l.take 7 ++ l.drop 8).length = 7 := by rw [e0]; simp [HL.out]
      refine ⟨rfl, ⟨[(⟨#[]⟩, ⟨#[]⟩)], by rw [e2]; rfl, ?_⟩, ?_⟩
      · unfold tcells
        rw [e2, ← e1]
        exact R4.out
      · exact ((Part.drew _ _ _ _).trans HO2.out).trans ((part3 _ _ _ _ _ _ (by omega) (by omega) (by omega)).trans (Part.drew _ _ _ _))

set_option maxHeartbeats 2000000 in
theorem remove_o (g fo : Nat) (l : List Pr) (p : Nat) (w : World) (h : TabRawO w g fo l) (hp : p < l.length) :
    Calls Try.prog 63 #[.pointer (some ⟨g, fo, none⟩), .int .i64 p] w fun e w' => e = .returned (.tuple #[]) ∧ TabRawO w' g fo (l.take p ++ l.drop (p + 1)) ∧ Part g fo 17 w w' := by
  obtain ⟨z, hz, hg⟩ := h.row
  have HZ8 : Hid (l.length + z.length = 8) := hz
  by_cases h7 : p = 7
  · subst h7
    exact remove_last g fo l w h (by omega)
  have hlt : g < w.heap.size := hg.lt
  have hu : w.cell? ⟨g, fo + 16, none⟩ = some (.int .i64 l.length) := hg.used (by simpa using hz)
  have HG : Hid (Ob w.drew g fo (flat (l ++ z) ++ [Value.int .i64 l.length])) := hg
  have HZ : Hid (l.length + z.length = 8) := hz
  obtain ⟨n, hn⟩ : ∃ n, n = l.length := ⟨_, rfl⟩
  have hn8 : n ≤ 8 := by omega
  rw [← hn] at hu hp
  have HN : Hid (n = l.length) := hn
  clear hg hz hn
  have i1 : (p : Int) < n := by omega
  have i2 : (n : Int) ≤ 8 := by omega
  have i3 : (p : Int) + 1 ≤ 8 := by omega
  have i4 : (p : Int) + 1 ≤ n := by omega
  have i5 : (p : Int) ≤ 8 := by omega
  have j1 : IntKind.i64.wrap ((p : Int) + 1) = (p : Int) + 1 := by rw [IntKind.wrap_i64]; omega
  have j2 : 0 ≤ (p : Int) + 1 := by omega
  have j3 : ((p : Int) + 1).toNat = p + 1 := by omega
  have j4 : ¬ (8 = p + 1) := by omega
  have j5 : ¬ (8 = p) := by omega
  have HCC : Hid (l.drop (p + 1) = ((l ++ z).drop (p + 1)).take (l.drop (p + 1)).length) := by
    show _ = _
    rw [List.drop_append_of_le_length (by rw [← HN.out]; exact hp), List.take_left']; rfl
  have HCL : Hid ((l.drop (p + 1)).length = Nat.min (n - (p + 1)) (8 - p)) := by
    show _ = _
    rw [List.length_drop, ← HN.out]
    exact (Nat.min_eq_left (by omega)).symm
  have HPOS : Hid (0 < (l.drop (p + 1)).length → (some ⟨g, fo + p * 2, none⟩ : Option Addr) = some ⟨g, fo + 2 * p, none⟩ ∧ (some ⟨g, fo + (p + 1) * 2, none⟩ : Option Addr) = some ⟨g, fo + 2 * (p + 1), none⟩) := fun _ => ⟨by rw [Nat.mul_comm], by rw [Nat.mul_comm]⟩
  have HFIT : Hid (p + (l.drop (p + 1)).length ≤ (l ++ z).length) := by
    show _ ≤ _
    have := HZ.out
    rw [List.length_drop, List.length_append, ← HN.out]
    rw [← HN.out] at this
    omega
  have HZ17 : Hid (2 * (l ++ z).length + 1 ≤ 17) := by show _ ≤ _; rw [List.length_append]; have := HZ8.out; omega
  go_enter Try.func63, Try.ntmps63
  go_wp2_with fail
  go_region_law (go_loud (refine step_copyT rfl _ _ rfl _ _ _ _ _ _ rfl rfl g fo p (p + 1) (l ++ z) (l.drop (p + 1)) _ HG.out HCC.out HCL.out HPOS.out HFIT.out ?_; intro w2 HG2 HO2'; have HO2 : Hid (Part g fo 17 _ w2) := HO2'.out.mono (Nat.le_refl _) (by have := HZ17.out; omega); clear HO2'))
  all_goals
    have HF : Hid ((splice (l ++ z) p (l.drop (p + 1))).length = 8 ∧ (splice (l ++ z) p (l.drop (p + 1))).set (n - 1) (⟨#[]⟩, ⟨#[]⟩) = (l.take p ++ l.drop (p + 1)) ++ (⟨#[]⟩, ⟨#[]⟩) :: z) := by
      have h1 := HZ.out
      have h2 := HN.out
      refine ⟨by rw [length_splice _ _ _ HFIT.out, List.length_append]; exact h1, by rw [h2]; exact rem_list l z p _ (by omega)⟩
    obtain ⟨F2, HF2⟩ : ∃ F2, Hid (F2 = splice (l ++ z) p (l.drop (p + 1))) := ⟨_, rfl⟩
    rw [← HF2.out] at HF HG2
    have R2 : Row w2 g fo F2 (.int .i64 l.length) := HG2.out
    rw [← HN.out] at R2
    have c3 := R2.used HF.out.1
    have f3 := R2.free (fo + 16)
    have hwn : IntKind.i64.wrap ((n : Int) - 1) = (n : Int) - 1 := by rw [IntKind.wrap_i64]; omega
    have R3 : Row (w2.setCell ⟨g, fo + 16, none⟩ (.int .i64 ((n : Int) - 1))) g fo F2 (.int .i64 ((n : Int) - 1)) := R2.setUsed HF.out.1 _
    have hpF : n - 1 < F2.length := by rw [HF.out.1]; omega
    have c1 := R3.key hpF
    have c2 := R3.val hpF
    have c4 := R3.used HF.out.1
    have f1 := R3.free (fo + (n - 1) * 2)
    have f2 := R3.free (fo + (n - 1) * 2 + 1)
    have k1 : 0 ≤ (n : Int) - 1 := by omega
    have k2 : (n : Int) - 1 < 8 := by omega
    have k3 : ((n : Int) - 1).toNat = n - 1 := by omega
    have R4 : Hid (Row (((w2.setCell ⟨g, fo + 16, none⟩ (.int .i64 ((n : Int) - 1))).setCell ⟨g, fo + (n - 1) * 2, none⟩ (.string ⟨#[]⟩)).setCell ⟨g, fo + (n - 1) * 2 + 1, none⟩ (.string ⟨#[]⟩)) g fo (F2.set (n - 1) (⟨#[]⟩, ⟨#[]⟩)) (.int .i64 ((n : Int) - 1))) := R3.setBoth hpF ⟨#[]⟩ ⟨#[]⟩
    clear R2 HG2 HG R3 HCC HCL HPOS HFIT
    go_wp2_with fail
    go_region
    all_goals
      go_wp2
      go_end0
      have h3 := HN.out
      have h4 := HZ.out
      have e2 : (l.take p ++ l.drop (p + 1)).length = n - 1 := by simp only [List.length_append, List.length_take, List.length_drop]; omega
      refine ⟨rfl, ⟨(⟨#[]⟩, ⟨#[]⟩) :: z, by rw [e2, List.length_cons]; omega, ?_⟩, ?_⟩
      · unfold tcells
        rw [e2, ← HF.out.2, show ((n - 1 : Nat) : Int) = (n : Int) - 1 by omega]
        exact R4.out
      · exact ((Part.drew _ _ _ _).trans HO2.out).trans ((part3 _ _ _ _ _ _ (by omega) (by omega) (by omega)).trans (Part.drew _ _ _ _))
end Go.Proofs.Ytodgcfmacmfcpaa
