/- insert, remove. -/
import Derived.Test.YtinobhaemmddjaaTC
namespace Go.Proofs.Ytinobhaemmddjaa
open Go.RowKit

/-- a table's cells, rising or not -/
def TabRaw (w : World) (g : Nat) (l : List Pr) : Prop := ∃ z : List Pr, l.length + z.length = 8 ∧ w.heap[g]? = some (.cells (tcells l z).toArray 26 (0, 0))
theorem TabAt.raw {w : World} {g : Nat} {l : List Pr} (h : TabAt w g l) : TabRaw w g l := by obtain ⟨z, h1, _, h2⟩ := h; exact ⟨z, h1, h2⟩
theorem TabRaw.at {w : World} {g : Nat} {l : List Pr} (h : TabRaw w g l) (hr : Rise l) : TabAt w g l := by obtain ⟨z, h1, h2⟩ := h; exact ⟨z, h1, hr, h2⟩

/-- the block of a table: eight pairs, a number behind them -/
def Row (w : World) (g : Nat) (F : List Pr) (u : Value) : Prop := w.heap[g]? = some (.cells (flat F ++ [u]).toArray 26 (0, 0))
section
variable {w : World} {g : Nat} {F : List Pr} {u : Value}
theorem Row.lt (h : Row w g F u) : g < w.heap.size := (Array.getElem?_eq_some_iff.1 h).1
theorem Row.key (h : Row w g F u) {p : Nat} (hp : p < F.length) : w.cell? ⟨g, p * 2, none⟩ = some (.string F[p].1) := by
  have hf := flat_length F
  rw [cell_of_row w g _ _ _ (0, 0) h, List.getElem?_toArray, List.getElem?_append_left (by omega), Nat.mul_comm, flat_key _ p hp]
theorem Row.val (h : Row w g F u) {p : Nat} (hp : p < F.length) : w.cell? ⟨g, p * 2 + 1, none⟩ = some (.string F[p].2) := by
  have hf := flat_length F
  rw [cell_of_row w g _ _ _ (0, 0) h, List.getElem?_toArray, List.getElem?_append_left (by omega), Nat.mul_comm, flat_val _ p hp]
theorem Row.used (h : Row w g F u) (h8 : F.length = 8) : w.cell? ⟨g, 16, none⟩ = some u := by
  have hf := flat_length F
  rw [cell_of_row w g _ _ _ (0, 0) h, List.getElem?_toArray, List.getElem?_append_right (by omega), hf, h8]; rfl
theorem Row.free (h : Row w g F u) (o : Nat) : w.frozen? ⟨g, o, none⟩ = false := by
  unfold Row at h; simp [World.frozen?, h]
theorem flat_set_key (F : List Pr) : ∀ (p : Nat) (k : ByteArray), (flat F).set (2 * p) (.string k) = flat (F.modify p fun q => (k, q.2)) := by
  induction F with
  | nil => intro p k; simp [flat]
  | cons q r ih =>
    intro p k
    cases p with
    | zero => rfl
    | succ p => rw [show 2 * (p + 1) = 2 * p + 1 + 1 by omega]; simp only [flat, List.set_cons_succ, ih, List.modify_succ_cons]
theorem flat_set_val (F : List Pr) : ∀ (p : Nat) (k : ByteArray), (flat F).set (2 * p + 1) (.string k) = flat (F.modify p fun q => (q.1, k)) := by
  induction F with
  | nil => intro p k; simp [flat]
  | cons q r ih =>
    intro p k
    cases p with
    | zero => rfl
    | succ p => rw [show 2 * (p + 1) + 1 = 2 * p + 1 + 1 + 1 by omega]; simp only [flat, List.set_cons_succ, ih, List.modify_succ_cons]
theorem Row.setKey (h : Row w g F u) {p : Nat} (hp : p < F.length) (k : ByteArray) : Row (w.setCell ⟨g, p * 2, none⟩ (.string k)) g (F.modify p fun q => (k, q.2)) u := by
  have hf := flat_length F
  unfold Row
  rw [setCell_eq_setRow w g _ _ _ _ _ h, setRow_heap w g _ _ _ _ h]
  simp only [List.setIfInBounds_toArray]
  rw [List.set_append_left _ _ (by omega), Nat.mul_comm, flat_set_key]
theorem Row.setVal (h : Row w g F u) {p : Nat} (hp : p < F.length) (k : ByteArray) : Row (w.setCell ⟨g, p * 2 + 1, none⟩ (.string k)) g (F.modify p fun q => (q.1, k)) u := by
  have hf := flat_length F
  unfold Row
  rw [setCell_eq_setRow w g _ _ _ _ _ h, setRow_heap w g _ _ _ _ h]
  simp only [List.setIfInBounds_toArray]
  rw [List.set_append_left _ _ (by omega), Nat.mul_comm, flat_set_val]
theorem Row.setUsed (h : Row w g F u) (h8 : F.length = 8) (u' : Value) : Row (w.setCell ⟨g, 16, none⟩ u') g F u' := by
  have hf := flat_length F
  unfold Row
  rw [setCell_eq_setRow w g _ _ _ _ _ h, setRow_heap w g _ _ _ _ h]
  simp only [List.setIfInBounds_toArray]
  rw [List.set_append_right _ _ (by omega), hf, h8]; rfl
theorem Row.setBoth (h : Row w g F u) {p : Nat} (hp : p < F.length) (k v : ByteArray) : Row ((w.setCell ⟨g, p * 2, none⟩ (.string k)).setCell ⟨g, p * 2 + 1, none⟩ (.string v)) g (F.set p (k, v)) u := by
  have h2 := (h.setKey hp k).setVal (p := p) (by simpa using hp) v
  have e : (F.modify p fun q => (k, q.2)).modify p (fun q => (q.1, v)) = F.set p (k, v) := by
    apply List.ext_getElem?
    intro i
    simp only [List.getElem?_modify, List.getElem?_set]
    by_cases hi : p = i
    · subst hi; simp [hp]
    · simp [hi]
  rw [e] at h2
  exact h2
end
theorem TabRaw.row {w : World} {g : Nat} {l : List Pr} (h : TabRaw w g l) : ∃ z : List Pr, l.length + z.length = 8 ∧ Row w g (l ++ z) (.int .i64 l.length) := h
theorem only3 {w : World} {g : Nat} (a b c : Nat) (x y u : Value) : Only (fun k => k = g) w (((w.setCell ⟨g, a, none⟩ x).setCell ⟨g, b, none⟩ y).setCell ⟨g, c, none⟩ u) :=
  ((Only.of_set (S := fun k => k = g) w ⟨g, a, none⟩ x rfl).trans (Only.of_set (S := fun k => k = g) (w.setCell ⟨g, a, none⟩ x) ⟨g, b, none⟩ y rfl)).trans (Only.of_set (S := fun k => k = g) _ ⟨g, c, none⟩ u rfl)
theorem alloc_new (w : World) (o : Obj) : (w.alloc o).heap[w.heap.size]? = some o := by
  show (w.heap.push o)[w.heap.size]? = _
  simp
theorem boxed {w w2 : World} {g : Nat} {t : TypeId} {a b : Value} (h : Only (fun k => k = g) (w.alloc (.cells #[a, b] t)).drew w2) (hg : g < w.heap.size) : w2.cell? ⟨w.heap.size, 0, none⟩ = some a ∧ w2.cell? ⟨w.heap.size, 1, none⟩ = some b := by
  have e : w2.heap[w.heap.size]? = some (.cells #[a, b] t) := (h.block w.heap.size (by show w.heap.size < (w.heap.push _).size; simp) (by omega)).trans (alloc_new w _)
  rw [cell_of_row w2 _ 0 _ _ (0, 0) e, cell_of_row w2 _ 1 _ _ (0, 0) e]
  exact ⟨rfl, rfl⟩
theorem ins_list (l z : List Pr) (p : Nat) (x : Pr) (hp : p ≤ l.length) (hz : 0 < z.length) : (splice (l ++ z) (p + 1) (l.drop p)).set p x = (l.take p ++ x :: l.drop p) ++ z.drop 1 := by
  have hlt : p < (l ++ z).length := by simp; omega
  have e1 : (l ++ z).take (p + 1) = l.take p ++ [(l ++ z)[p]] := by
    rw [List.take_add_one, List.take_append_of_le_length hp, List.getElem?_eq_getElem hlt]; rfl
  have e2 : (l ++ z).drop (p + 1 + (l.drop p).length) = z.drop 1 := by
    rw [List.length_drop, show p + 1 + (l.length - p) = l.length + 1 by omega, List.drop_append]
    simp
  have e3 : (l.take p).length = p := by simp; omega
  unfold splice
  rw [e1, e2, List.append_assoc, List.set_append_right _ _ (by omega), e3]
  simp

set_option maxHeartbeats 2000000 in
theorem insert_last (g : Nat) (l : List Pr) (k v : ByteArray) (w : World) (h : TabRaw w g l) (hl : l.length = 7) :
    Calls Try.prog 25 #[.pointer (some ⟨g, 0, none⟩), .int .i64 7, .agg #[.string k, .string v]] w fun e w' => e = .returned (.tuple #[]) ∧ TabRaw w' g (l.take 7 ++ (k, v) :: l.drop 7) ∧ Only (fun k => k = g) w w' := by
  obtain ⟨z, hz, hg⟩ := h.row
  have hlt : g < w.heap.size := hg.lt
  have hu : w.cell? ⟨g, 16, none⟩ = some (.int .i64 l.length) := hg.used (by simpa using hz)
  have HG : Hid ((w.alloc (.cells #[.string k, .string v] 23)).drew.heap[g]? = some (.cells (flat (l ++ z) ++ [Value.int .i64 l.length]).toArray 26 (0, 0))) := (Below.heap_alloc w _ g hlt).trans hg
  have HZ : Hid (l.length + z.length = 8) := hz
  clear hg hz
  have HL : Hid (l.length = 7) := hl
  rw [hl] at hu HG
  clear hl
  have j1 : IntKind.i64.wrap 8 = 8 := by rw [IntKind.wrap_i64]; omega
  go_enter Try.func25, Try.ntmps25
  go_wp2_with fail
  go_region_law (go_loud (refine step_copyT rfl _ _ rfl _ _ _ _ _ _ rfl rfl g 0 0 (l ++ z) [] _ HG.out rfl rfl (fun h => absurd h (by simp)) (Nat.zero_le _) ?_; intro w2 HG2 HO2))
  all_goals
    have HF : Hid ((splice (l ++ z) 0 []).length = 8 ∧ (splice (l ++ z) 0 []).set 7 (k, v) = (l.take 7 ++ (k, v) :: l.drop 7) ++ z.drop 1 ∧ (z.drop 1).length = 7 - l.length) := by
      have h1 := HZ.out
      have h2 := HL.out
      refine ⟨by simp [splice]; exact h1, ?_, by simp; omega⟩
      rw [List.take_of_length_le (by omega), List.drop_of_length_le (by omega)]
      obtain ⟨y, rfl⟩ : ∃ y, z = [y] := by
        match z, h1 with
        | [y], _ => exact ⟨y, rfl⟩
        | [], h1 => simp at h1; omega
        | _ :: _ :: _, h1 => simp at h1; omega
      simp [splice, List.set_append_right, h2]
    obtain ⟨F2, HF2⟩ : ∃ F2, Hid (F2 = splice (l ++ z) 0 []) := ⟨_, rfl⟩
    rw [← HF2.out] at HF HG2
    have R2 : Row w2 g F2 (.int .i64 7) := HG2.out
    have hpF : 7 < F2.length := by rw [HF.out.1]; omega
    have c1 := R2.key hpF
    have c2 := R2.val hpF
    have c3 := R2.used HF.out.1
    have f1 := R2.free 14
    have f2 := R2.free 15
    have f3 := R2.free 16
    obtain ⟨b1, b2⟩ := boxed HO2.out hlt
    have R3 : Hid (Row ((w2.setCell ⟨g, 14, none⟩ (.string k)).setCell ⟨g, 15, none⟩ (.string v)) g (F2.set 7 (k, v)) (.int .i64 7)) := R2.setBoth hpF k v
    clear R2 HG2 HG
    go_wp2_with fail
    go_region
    all_goals
      go_wp2
      go_end0
      refine ⟨rfl, ⟨z.drop 1, ?_, ?_⟩, ?_⟩
      · have := HF.out.2.2
        have h3 := HL.out
        simp only [List.length_append, List.length_cons, List.length_take, List.length_drop] at this ⊢
        omega
      · have h4 := R3.out.setUsed (by simpa using HF.out.1) (.int .i64 8)
        rw [HF.out.2.1] at h4
        have h5 : ((l.take 7 ++ (k, v) :: l.drop 7).length : Int) = 8 := by
          have h3 := HL.out
          simp only [List.length_append, List.length_cons, List.length_take, List.length_drop]
          omega
        unfold tcells
        rw [h5]
        exact h4
      · exact (((Only.of_alloc _ w _).trans (Only.of_drew _ _)).trans HO2.out).trans ((only3 _ _ _ _ _ _).trans (Only.of_drew _ _))
set_option maxHeartbeats 2000000 in
theorem insert_any (g : Nat) (l : List Pr) (p : Nat) (k v : ByteArray) (w : World) (h : TabRaw w g l) (hl : l.length < 8) (hp : p ≤ l.length) :
    Calls Try.prog 25 #[.pointer (some ⟨g, 0, none⟩), .int .i64 p, .agg #[.string k, .string v]] w fun e w' => e = .returned (.tuple #[]) ∧ TabRaw w' g (l.take p ++ (k, v) :: l.drop p) ∧ Only (fun k => k = g) w w' := by
  obtain ⟨z, hz, hg⟩ := h.row
  have hlt : g < w.heap.size := hg.lt
  have hu : w.cell? ⟨g, 16, none⟩ = some (.int .i64 l.length) := hg.used (by simpa using hz)
  have HG : Hid ((w.alloc (.cells #[.string k, .string v] 23)).drew.heap[g]? = some (.cells (flat (l ++ z) ++ [Value.int .i64 l.length]).toArray 26 (0, 0))) := (Below.heap_alloc w _ g hlt).trans hg
  have HZ : Hid (l.length + z.length = 8) := hz
  clear hg hz
  have i1 : (p : Int) ≤ l.length := by omega
  have i2 : (l.length : Int) < 8 := by omega
  have i3 : (p : Int) + 1 ≤ 8 := by omega
  obtain ⟨n, hn⟩ : ∃ n, n = l.length := ⟨_, rfl⟩
  rw [← hn] at hu i1 i2 hl hp
  have HN : Hid (n = l.length) := hn
  clear hn
  have j1 : IntKind.i64.wrap ((p : Int) + 1) = (p : Int) + 1 := by rw [IntKind.wrap_i64]; omega
  have j2 : 0 ≤ (p : Int) + 1 := by omega
  have j3 : ((p : Int) + 1).toNat = p + 1 := by omega
  by_cases h8 : p + 1 = 8
  · obtain rfl : p = 7 := by omega
    have h7 : l.length = 7 := by rw [← HN.out]; omega
    exact insert_last g l k v w h h7
  have j6 : (n : Int) ≤ 8 := by omega
  have j7 : n ≤ 8 := by omega
  have j4 : ¬ (8 = p + 1) := by omega
  have j5 : ¬ (8 = p) := by omega
  have HCC : Hid (l.drop p = ((l ++ z).drop p).take (l.drop p).length) := by
    show _ = _
    rw [List.drop_append_of_le_length (by rw [← HN.out]; exact hp), List.take_left']; rfl
  have HCL : Hid ((l.drop p).length = Nat.min (n - p) (7 - p)) := by
    show _ = _
    rw [List.length_drop, ← HN.out]
    exact (Nat.min_eq_left (by omega)).symm
  have HPOS : Hid (0 < (l.drop p).length → (some ⟨g, (p + 1) * 2, none⟩ : Option Addr) = some ⟨g, 2 * (p + 1), none⟩ ∧ (some ⟨g, p * 2, none⟩ : Option Addr) = some ⟨g, 2 * p, none⟩) := fun _ => ⟨by rw [Nat.mul_comm], by rw [Nat.mul_comm]⟩
  have HFIT : Hid (p + 1 + (l.drop p).length ≤ (l ++ z).length) := by
    show _ ≤ _
    have := HZ.out
    rw [List.length_drop, List.length_append, ← HN.out]
    rw [← HN.out] at this
    omega
  go_enter Try.func25, Try.ntmps25
  go_wp2_with fail
  go_region_law (go_loud (refine step_copyT rfl _ _ rfl _ _ _ _ _ _ rfl rfl g (p + 1) p (l ++ z) (l.drop p) _ HG.out HCC.out HCL.out HPOS.out HFIT.out ?_; intro w2 HG2 HO2))
  all_goals
    have HF : Hid ((splice (l ++ z) (p + 1) (l.drop p)).length = 8 ∧ (splice (l ++ z) (p + 1) (l.drop p)).set p (k, v) = (l.take p ++ (k, v) :: l.drop p) ++ z.drop 1 ∧ (z.drop 1).length = 7 - l.length) := by
      have h1 := HZ.out
      have h2 := HN.out
      refine ⟨by rw [length_splice _ _ _ HFIT.out, List.length_append]; exact h1, ins_list l z p (k, v) (by omega) (by omega), by simp; omega⟩
    obtain ⟨F2, HF2⟩ : ∃ F2, Hid (F2 = splice (l ++ z) (p + 1) (l.drop p)) := ⟨_, rfl⟩
    rw [← HF2.out] at HF HG2
    have R2 : Row w2 g F2 (.int .i64 l.length) := HG2.out
    have hpF : p < F2.length := by rw [HF.out.1]; omega
    have c1 := R2.key hpF
    have c2 := R2.val hpF
    have c3 := R2.used HF.out.1
    have f1 := R2.free (p * 2)
    have f2 := R2.free (p * 2 + 1)
    have f3 := R2.free 16
    obtain ⟨b1, b2⟩ := boxed HO2.out hlt
    have R3 : Hid (Row ((w2.setCell ⟨g, p * 2, none⟩ (.string k)).setCell ⟨g, p * 2 + 1, none⟩ (.string v)) g (F2.set p (k, v)) (.int .i64 l.length)) := R2.setBoth hpF k v
    have hpi : (p : Int) < 8 := by omega
    have hwn : IntKind.i64.wrap ((n : Int) + 1) = (n : Int) + 1 := by rw [IntKind.wrap_i64]; omega
    rw [← HN.out] at c3 R3
    clear R2 HG2 HG HCC HCL HPOS HFIT
    go_wp2_with fail
    go_region
    all_goals
      go_wp2
      go_end0
      refine ⟨rfl, ⟨z.drop 1, ?_, ?_⟩, ?_⟩
      · have := HF.out.2.2
        have h3 := HN.out
        simp only [List.length_append, List.length_cons, List.length_take, List.length_drop] at this ⊢
        omega
      · have h4 := R3.out.setUsed (by simpa using HF.out.1) (.int .i64 ((n : Int) + 1))
        rw [HF.out.2.1] at h4
        have h5 : ((l.take p ++ (k, v) :: l.drop p).length : Int) = (n : Int) + 1 := by
          have h3 := HN.out
          simp only [List.length_append, List.length_cons, List.length_take, List.length_drop]
          omega
        unfold tcells
        rw [h5]
        exact h4
      · exact (((Only.of_alloc _ w _).trans (Only.of_drew _ _)).trans HO2.out).trans ((only3 _ _ _ _ _ _).trans (Only.of_drew _ _))

theorem rem_list (l z : List Pr) (p : Nat) (x : Pr) (hp : p < l.length) : (splice (l ++ z) p (l.drop (p + 1))).set (l.length - 1) x = (l.take p ++ l.drop (p + 1)) ++ x :: z := by
  have e1 : (l ++ z).take p = l.take p := List.take_append_of_le_length (by omega)
  have e2 : (l ++ z).drop (p + (l.drop (p + 1)).length) = l[l.length - 1] :: z := by
    rw [List.length_drop, show p + (l.length - (p + 1)) = l.length - 1 by omega, List.drop_append_of_le_length (by omega), List.drop_eq_getElem_cons (by omega), show l.length - 1 + 1 = l.length by omega]
    simp
  have e3 : (l.take p ++ l.drop (p + 1)).length = l.length - 1 := by simp; omega
  unfold splice
  rw [e1, e2, ← List.append_assoc, List.set_append_right _ _ (by omega), e3]
  simp

set_option maxHeartbeats 2000000 in
theorem remove_last (g : Nat) (l : List Pr) (w : World) (h : TabRaw w g l) (hl : l.length = 8) :
    Calls Try.prog 33 #[.pointer (some ⟨g, 0, none⟩), .int .i64 7] w fun e w' => e = .returned (.tuple #[]) ∧ TabRaw w' g (l.take 7 ++ l.drop 8) ∧ Only (fun k => k = g) w w' := by
  obtain ⟨z, hz, hg⟩ := h.row
  have hlt : g < w.heap.size := hg.lt
  have hu : w.cell? ⟨g, 16, none⟩ = some (.int .i64 l.length) := hg.used (by simpa using hz)
  have HG : Hid (w.drew.heap[g]? = some (.cells (flat (l ++ z) ++ [Value.int .i64 l.length]).toArray 26 (0, 0))) := hg
  have HL : Hid (l.length = 8) := hl
  have HZ : Hid (z = []) := List.eq_nil_of_length_eq_zero (by omega)
  rw [hl] at hu HG
  clear hl hg hz
  have j1 : IntKind.i64.wrap 8 = 8 := by rw [IntKind.wrap_i64]; omega
  go_enter Try.func33, Try.ntmps33
  go_wp2_with fail
  go_region_law (go_loud (refine step_copyT rfl _ _ rfl _ _ _ _ _ _ rfl rfl g 0 0 (l ++ z) [] _ HG.out rfl rfl (fun h => absurd h (by simp)) (Nat.zero_le _) ?_; intro w2 HG2 HO2))
  all_goals
    have HF : Hid ((l ++ z).length = 8) := by show _ = _; rw [HZ.out]; simpa using HL.out
    have R2 : Row w2 g (l ++ z) (.int .i64 8) := by have := HG2.out; simp [splice] at this; exact this
    have c3 := R2.used HF.out
    have f3 := R2.free 16
    have R3 : Row (w2.setCell ⟨g, 16, none⟩ (.int .i64 7)) g (l ++ z) (.int .i64 7) := R2.setUsed HF.out _
    have hpF : 7 < (l ++ z).length := by rw [HF.out]; omega
    have c1 := R3.key hpF
    have c2 := R3.val hpF
    have c4 := R3.used HF.out
    have f1 := R3.free 14
    have f2 := R3.free 15
    have R4 : Hid (Row (((w2.setCell ⟨g, 16, none⟩ (.int .i64 7)).setCell ⟨g, 14, none⟩ (.string ⟨#[]⟩)).setCell ⟨g, 15, none⟩ (.string ⟨#[]⟩)) g ((l ++ z).set 7 (⟨#[]⟩, ⟨#[]⟩)) (.int .i64 7)) := R3.setBoth hpF ⟨#[]⟩ ⟨#[]⟩
    clear R2 HG2 HG R3 HF
    go_wp2_with fail
    go_region
    all_goals
      go_wp2
      go_end0
      have e0 : l.drop 8 = [] := List.drop_of_length_le (by rw [HL.out]; exact Nat.le_refl _)
      have e1 : (l ++ z).set 7 (⟨#[]⟩, ⟨#[]⟩) = (l.take 7 ++ l.drop 8) ++ [(⟨#[]⟩, ⟨#[]⟩)] := by
        rw [HZ.out, e0]
        have := rem_list l [] 7 (⟨#[]⟩, ⟨#[]⟩) (by rw [HL.out]; omega)
        rw [HL.out, e0] at this
        simpa [splice] using this
      have e2 : (l.take 7 ++ l.drop 8).length = 7 := by rw [e0]; simp [HL.out]
      refine ⟨rfl, ⟨[(⟨#[]⟩, ⟨#[]⟩)], by rw [e2]; rfl, ?_⟩, ?_⟩
      · unfold tcells
        rw [e2, ← e1]
        exact R4.out
      · exact ((Only.of_drew _ _).trans HO2.out).trans ((only3 _ _ _ _ _ _).trans (Only.of_drew _ _))

set_option maxHeartbeats 2000000 in
theorem remove_any (g : Nat) (l : List Pr) (p : Nat) (w : World) (h : TabRaw w g l) (hp : p < l.length) :
    Calls Try.prog 33 #[.pointer (some ⟨g, 0, none⟩), .int .i64 p] w fun e w' => e = .returned (.tuple #[]) ∧ TabRaw w' g (l.take p ++ l.drop (p + 1)) ∧ Only (fun k => k = g) w w' := by
  obtain ⟨z, hz, hg⟩ := h.row
  by_cases h7 : p = 7
  · subst h7
    exact remove_last g l w h (by omega)
  have hlt : g < w.heap.size := hg.lt
  have hu : w.cell? ⟨g, 16, none⟩ = some (.int .i64 l.length) := hg.used (by simpa using hz)
  have HG : Hid (w.drew.heap[g]? = some (.cells (flat (l ++ z) ++ [Value.int .i64 l.length]).toArray 26 (0, 0))) := hg
  have HZ : Hid (l.length + z.length = 8) := hz
  obtain ⟨n, hn⟩ : ∃ n, n = l.length := ⟨_, rfl⟩
  have hn8 : n ≤ 8 := by omega
  rw [← hn] at hu hp
  have HN : Hid (n = l.length) := hn
  clear hg hz hn
  have i1 : (p : Int) < n := by omega
  have i2 : (n : Int) ≤ 8 := by omega
  have i3 : (p : Int) + 1 ≤ 8 := by omega
  have i4 : (p : Int) + 1 ≤ n := by omega
  have i5 : (p : Int) ≤ 8 := by omega
  have j1 : IntKind.i64.wrap ((p : Int) + 1) = (p : Int) + 1 := by rw [IntKind.wrap_i64]; omega
  have j2 : 0 ≤ (p : Int) + 1 := by omega
  have j3 : ((p : Int) + 1).toNat = p + 1 := by omega
  have j4 : ¬ (8 = p + 1) := by omega
  have j5 : ¬ (8 = p) := by omega
  have HCC : Hid (l.drop (p + 1) = ((l ++ z).drop (p + 1)).take (l.drop (p + 1)).length) := by
    show _ = _
    rw [List.drop_append_of_le_length (by rw [← HN.out]; exact hp), List.take_left']; rfl
  have HCL : Hid ((l.drop (p + 1)).length = Nat.min (n - (p + 1)) (8 - p)) := by
    show _ = _
    rw [List.length_drop, ← HN.out]
    exact (Nat.min_eq_left (by omega)).symm
  have HPOS : Hid (0 < (l.drop (p + 1)).length → (some ⟨g, p * 2, none⟩ : Option Addr) = some ⟨g, 2 * p, none⟩ ∧ (some ⟨g, (p + 1) * 2, none⟩ : Option Addr) = some ⟨g, 2 * (p + 1), none⟩) := fun _ => ⟨by rw [Nat.mul_comm], by rw [Nat.mul_comm]⟩
  have HFIT : Hid (p + (l.drop (p + 1)).length ≤ (l ++ z).length) := by
    show _ ≤ _
    have := HZ.out
    rw [List.length_drop, List.length_append, ← HN.out]
    rw [← HN.out] at this
    omega
  go_enter Try.func33, Try.ntmps33
  go_wp2_with fail
  go_region_law (go_loud (refine step_copyT rfl _ _ rfl _ _ _ _ _ _ rfl rfl g p (p + 1) (l ++ z) (l.drop (p + 1)) _ HG.out HCC.out HCL.out HPOS.out HFIT.out ?_; intro w2 HG2 HO2))
  all_goals
    have HF : Hid ((splice (l ++ z) p (l.drop (p + 1))).length = 8 ∧ (splice (l ++ z) p (l.drop (p + 1))).set (n - 1) (⟨#[]⟩, ⟨#[]⟩) = (l.take p ++ l.drop (p + 1)) ++ (⟨#[]⟩, ⟨#[]⟩) :: z) := by
      have h1 := HZ.out
      have h2 := HN.out
      refine ⟨by rw [length_splice _ _ _ HFIT.out, List.length_append]; exact h1, by rw [h2]; exact rem_list l z p _ (by omega)⟩
    obtain ⟨F2, HF2⟩ : ∃ F2, Hid (F2 = splice (l ++ z) p (l.drop (p + 1))) := ⟨_, rfl⟩
    rw [← HF2.out] at HF HG2
    have R2 : Row w2 g F2 (.int .i64 l.length) := HG2.out
    rw [← HN.out] at R2
    have c3 := R2.used HF.out.1
    have f3 := R2.free 16
    have hwn : IntKind.i64.wrap ((n : Int) - 1) = (n : Int) - 1 := by rw [IntKind.wrap_i64]; omega
    have R3 : Row (w2.setCell ⟨g, 16, none⟩ (.int .i64 ((n : Int) - 1))) g F2 (.int .i64 ((n : Int) - 1)) := R2.setUsed HF.out.1 _
    have hpF : n - 1 < F2.length := by rw [HF.out.1]; omega
    have c1 := R3.key hpF
    have c2 := R3.val hpF
    have c4 := R3.used HF.out.1
    have f1 := R3.free ((n - 1) * 2)
    have f2 := R3.free ((n - 1) * 2 + 1)
    have k1 : 0 ≤ (n : Int) - 1 := by omega
    have k2 : (n : Int) - 1 < 8 := by omega
    have k3 : ((n : Int) - 1).toNat = n - 1 := by omega
    have R4 : Hid (Row (((w2.setCell ⟨g, 16, none⟩ (.int .i64 ((n : Int) - 1))).setCell ⟨g, (n - 1) * 2, none⟩ (.string ⟨#[]⟩)).setCell ⟨g, (n - 1) * 2 + 1, none⟩ (.string ⟨#[]⟩)) g (F2.set (n - 1) (⟨#[]⟩, ⟨#[]⟩)) (.int .i64 ((n : Int) - 1))) := R3.setBoth hpF ⟨#[]⟩ ⟨#[]⟩
    clear R2 HG2 HG R3 HCC HCL HPOS HFIT
    go_wp2_with fail
    go_region
    all_goals
      go_wp2
      go_end0
      have h3 := HN.out
      have h4 := HZ.out
      have e2 : (l.take p ++ l.drop (p + 1)).length = n - 1 := by simp only [List.length_append, List.length_take, List.length_drop]; omega
      refine ⟨rfl, ⟨(⟨#[]⟩, ⟨#[]⟩) :: z, by rw [e2, List.length_cons]; omega, ?_⟩, ?_⟩
      · unfold tcells
        rw [e2, ← HF.out.2, show ((n - 1 : Nat) : Int) = (n : Int) - 1 by omega]
        exact R4.out
      · exact ((Only.of_drew _ _).trans HO2.out).trans ((only3 _ _ _ _ _ _).trans (Only.of_drew _ _))
end Go.Proofs.Ytinobhaemmddjaa
