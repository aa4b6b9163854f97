/- Right, change, Do. -/
import Derived.Test.YtodgcfmacmfcpaaTD
import Derived.Handy
namespace Go.Proofs.Ytodgcfmacmfcpaa
open Go.RowKit

def opV (kind : Int) (key v old : ByteArray) : Value := .agg #[.int .i64 kind, .string key, .string v, .string old]
def ansV (why : Int) (v : ByteArray) : Value := .agg #[.int .i64 why, .string v]
def nameB (kind : Int) : Bool := kind == 2 || kind == 4
def rightS (kind : Int) (key v old : ByteArray) : Bool :=
  decide (1 ≤ kind) && decide (kind ≤ 4) && decide (1 ≤ (key.size : Int)) && decide ((key.size : Int) ≤ 8) && decide ((v.size : Int) ≤ 16) && (v.toList.isEmpty || nameB kind) && decide ((old.size : Int) ≤ 16) && (old.toList.isEmpty || kind == 4)

theorem names_any (kind : Int) (w : World) : Calls Try.prog 59 #[.int .i64 kind] w fun e w' => e = .returned (.bool (nameB kind)) ∧ w' = w := by
  by_cases h2 : kind = 2
  · subst h2
    go_enter Try.func59, Try.ntmps59
    go_wp2
    go_ret
    exact ⟨rfl, rfl⟩
  · go_enter Try.func59, Try.ntmps59
    go_wp2
    go_ret
    exact ⟨by simp [nameB], rfl⟩
set_option maxHeartbeats 2000000 in
theorem Right_any (kind : Int) (key v old : ByteArray) (w : World) :
    Calls Try.prog 49 #[opV kind key v old] w fun e w' => e = .returned (.bool (rightS kind key v old)) ∧ Below w.heap.size w w' := by
  have hb : Below w.heap.size w (w.alloc (.cells #[.int .i64 kind, .string key, .string v, .string old] 45)) := (Below.refl _ _).alloc (Nat.le_refl _) _
  unfold opV
  go_enter Try.func49, Try.ntmps49
  go_wp2_with (go_at_call 59; refine (names_any _ _).mono ?_; rintro e w' ⟨rfl, rfl⟩)
  all_goals
    go_ret
    refine ⟨?_, hb⟩
    refine congrArg (fun b => Ending.returned (Value.bool b)) ?_
    clear hb
    simp only [rightS]
    first
    | (simp_all; done)
    | (simp_all; omega)
    | trace_state

/-- what a change of the pair at place p makes, and tells -/
def changeS (l : List Pr) (p : Nat) (kind : Int) (v old x : ByteArray) : List Pr × Int × ByteArray :=
  if kind = 1 then (l, 0, x) else if kind = 3 then (l.take p ++ l.drop (p + 1), 0, ⟨#[]⟩)
  else if kind = 4 then if x = old then (l.modify p fun q => (q.1, v), 0, ⟨#[]⟩) else (l, 6, x)
  else if kind = 2 then (l.modify p fun q => (q.1, v), 0, ⟨#[]⟩) else (l, 0, ⟨#[]⟩)
theorem TabRawO.heap {w w' : World} {g fo : Nat} {l : List Pr} (h : TabRawO w g fo l) (e : w'.heap[g]? = w.heap[g]?) : TabRawO w' g fo l := by
  obtain ⟨z, hz, h⟩ := h
  exact ⟨z, hz, h.heap e⟩
theorem TabRawO.lt {w : World} {g fo : Nat} {l : List Pr} (h : TabRawO w g fo l) : g < w.heap.size := by obtain ⟨z, _, h⟩ := h; exact h.lt
theorem TabRawO.below {w w' : World} {g fo : Nat} {l : List Pr} (h : TabRawO w g fo l) (e : Below w.heap.size w w') : TabRawO w' g fo l := h.heap (e.block g h.lt)
theorem TabRawO.setVal {w : World} {g fo : Nat} {l : List Pr} (h : TabRawO w g fo l) {p : Nat} (hp : p < l.length) (k : ByteArray) : TabRawO (w.setCell ⟨g, fo + p * 2 + 1, none⟩ (.string k)) g fo (l.modify p fun q => (q.1, k)) := by
  obtain ⟨z, hz, h⟩ := h.row
  refine ⟨z, by simpa using hz, ?_⟩
  have h2 := h.setVal (p := p) (by simp; omega) k
  have e : (l ++ z).modify p (fun q => (q.1, k)) = l.modify p (fun q => (q.1, k)) ++ z := by
    apply List.ext_getElem?
    intro i
    simp only [List.getElem?_modify, List.getElem?_append, List.length_modify]
    by_cases hi : i < l.length
    · simp [hi]
    · have : ¬ p = i := by omega
      simp [hi, this]
  rw [e] at h2
  unfold tcells
  rw [List.length_modify]
  exact h2

theorem TabRawO.al {w : World} {g fo : Nat} {l : List Pr} (h : TabRawO w g fo l) (o : Obj) : TabRawO (w.alloc o) g fo l := h.below (bel_al w o)
theorem part_al2 {w : World} {g fo : Nat} (hg : g < w.heap.size) (a b : Obj) : Part g fo 17 w ((w.alloc a).alloc b) := Part.of_below _ _ hg ((bel_al w a).alloc (by show _ ≤ (w.heap.push _).size; simp) b)
/-- what lies in the block of the answer, behind a call that changes block g alone -/
theorem kept2 {w w2 : World} {g : Nat} {t : TypeId} {o : Obj} {a b : Value} (h : Only (fun k => k = g) ((w.alloc o).alloc (.cells #[a, b] t)) w2) (hg : g < w.heap.size) : w2.cell? ⟨w.heap.size + 1, 0, none⟩ = some a ∧ w2.cell? ⟨w.heap.size + 1, 1, none⟩ = some b ∧ w2.frozen? ⟨w.heap.size + 1, 0, none⟩ = false ∧ w2.frozen? ⟨w.heap.size + 1, 1, none⟩ = false ∧ (∀ u, (w2.setCell ⟨w.heap.size + 1, 0, none⟩ u).cell? ⟨w.heap.size + 1, 0, none⟩ = some u) ∧ ∀ u u2, ((w2.setCell ⟨w.heap.size + 1, 0, none⟩ u).setCell ⟨w.heap.size + 1, 1, none⟩ u2).cell? ⟨w.heap.size + 1, 1, none⟩ = some u2 := by
  have e : w2.heap[w.heap.size + 1]? = some (.cells #[a, b] t) := by
    refine (h.block (w.heap.size + 1) (by show _ < ((w.heap.push _).push _).size; simp) (by omega)).trans ?_
    have := alloc_new (w.alloc o) (.cells #[a, b] t)
    have hs : (w.alloc o).heap.size = w.heap.size + 1 := by show (w.heap.push _).size = _; simp
    rw [hs] at this
    exact this
  have c0 : w2.cell? ⟨w.heap.size + 1, 0, none⟩ = some a := (cell_of_row w2 _ 0 _ _ (0, 0) e).trans rfl
  have c1 : w2.cell? ⟨w.heap.size + 1, 1, none⟩ = some b := (cell_of_row w2 _ 1 _ _ (0, 0) e).trans rfl
  refine ⟨c0, c1, by simp [World.frozen?, e], by simp [World.frozen?, e], fun u => World.cell?_setCell_same' _ _ _ (by rw [c0]; rfl), fun u u2 => World.cell?_setCell_same' _ _ _ ?_⟩
  have e2 : ∀ u, (w2.setCell ⟨w.heap.size + 1, 0, none⟩ u).cell? ⟨w.heap.size + 1, 1, none⟩ = some b := fun u => (World.cell?_setCell_other _ _ _ _ (by simp)).trans c1
  rw [e2]; rfl
theorem tail2 {w w2 : World} {g fo : Nat} {l : List Pr} (hg : g < w.heap.size) (ho : Part g fo 17 w w2) (h : TabRawO w2 g fo l) (a c : Nat) (u v : Value) :
    TabRawO ((w2.setCell ⟨w.heap.size + 1, a, none⟩ u).setCell ⟨w.heap.size + 1, c, none⟩ v) g fo l ∧ Part g fo 17 w ((w2.setCell ⟨w.heap.size + 1, a, none⟩ u).setCell ⟨w.heap.size + 1, c, none⟩ v) := by
  have o2 : Only (fun k => k = w.heap.size + 1) w2 ((w2.setCell ⟨w.heap.size + 1, a, none⟩ u).setCell ⟨w.heap.size + 1, c, none⟩ v) :=
    only_set (only_set (Only.refl _ _) _ _) _ _
  exact ⟨h.heap (o2.block g h.lt (by omega)), ho.fresh o2 (by omega) hg⟩
set_option maxHeartbeats 2000000 in
theorem change_o (g fo : Nat) (l : List Pr) (p : Nat) (kind : Int) (key v old x : ByteArray) (w : World) (h : TabRawO w g fo l) (hp : p < l.length) (hx : l[p].2 = x) :
    Calls Try.prog 51 #[.pointer (some ⟨g, fo, none⟩), .int .i64 p, opV kind key v old] w fun e w' =>
      e = .returned (ansV (changeS l p kind v old x).2.1 (changeS l p kind v old x).2.2) ∧ TabRawO w' g fo (changeS l p kind v old x).1 ∧ Part g fo 17 w w' := by
  obtain ⟨z, hz, hg⟩ := h.row
  have hlt := h.lt
  have hc := hg.val (p := p) (by simp; omega)
  rw [List.getElem_append_left hp, hx] at hc
  have hf := hg.free (fo + p * 2 + 1)
  have hp8 : (p : Int) < 8 := by omega
  have H : Hid (TabRawO w g fo l) := h
  have HP : Hid (p < l.length) := hp
  clear hg hx h hz hp
  unfold opV
  by_cases k1 : kind = 1
  · have HS : Hid (changeS l p kind v old x = (l, 0, x)) := by show _ = _; simp [changeS, k1]
    rw [HS.out]
    go_enter Try.func51, Try.ntmps51
    go_wp2
    go_returns
    exact ⟨rfl, (H.out.al _).al _, part_al2 hlt _ _⟩
  by_cases k3 : kind = 3
  · subst k3
    have HS : Hid (changeS l p 3 v old x = (l.take p ++ l.drop (p + 1), 0, ⟨#[]⟩)) := by show _ = _; simp [changeS]
    rw [HS.out]
    have HB : Hid (TabRawO ((w.alloc (.cells #[.int .i64 3, .string key, .string v, .string old] 45)).alloc (.cells #[.int .i64 0, .string ⟨#[]⟩] 29)) g fo l) := (H.out.al _).al _
    go_enter Try.func51, Try.ntmps51
    go_wp2_with (go_at_call 63; refine (remove_o _ _ _ _ _ HB.out HP.out).mono ?_; rintro e w2 ⟨rfl, hT, hO⟩; obtain ⟨q1, q2, q3, q4, q5, q6⟩ := kept2 hO.only hlt; have q7 := q5 (.int .i64 0); have q8 := q6 (.int .i64 0) (.string ⟨#[]⟩); clear q5 q6; have HT : Hid (TabRawO w2 g fo _) := hT; have HO : Hid (Part _ _ 17 _ w2) := hO; clear hT hO)
    try simp only [Exit.inBlock, Exit.then]
    refine bodyPost_ret (by simp [results, Try.results51, go_sem, q7, q8]; try rfl) rfl ?_
    have T := tail2 hlt ((part_al2 hlt _ _).trans HO.out) HT.out 0 1 (.int .i64 0) (.string ⟨#[]⟩)
    exact ⟨rfl, T.1, T.2⟩
  by_cases k4 : kind = 4
  · subst k4
    by_cases hxo : x = old
    · have HS : Hid (changeS l p 4 v old x = (l.modify p (fun q => (q.1, v)), 0, ⟨#[]⟩)) := by show _ = _; simp [changeS, hxo]
      rw [HS.out]
      go_enter Try.func51, Try.ntmps51
      go_wp2_with fail
      go_region
      go_wp2
      go_returns
      exact ⟨rfl, ((H.out.setVal HP.out v).al _).al _, ((Part.setIn w (by omega) (by omega) _).trans (part_al2 (Nat.lt_of_lt_of_le hlt (only_set (Only.refl (fun k => k = g) w) _ _).size) _ _)).trans (Part.drew _ _ _ _)⟩
    · have HS : Hid (changeS l p 4 v old x = (l, 6, x)) := by show _ = _; simp [changeS, hxo]
      have hne := toList_ne hxo
      rw [HS.out]
      go_enter Try.func51, Try.ntmps51
      go_wp2_with fail
      go_returns
      exact ⟨rfl, (H.out.al _).al _, part_al2 hlt _ _⟩
  by_cases k2 : kind = 2
  · subst k2
    have HS : Hid (changeS l p 2 v old x = (l.modify p (fun q => (q.1, v)), 0, ⟨#[]⟩)) := by show _ = _; simp [changeS]
    rw [HS.out]
    go_enter Try.func51, Try.ntmps51
    go_wp2_with fail
    go_region
    go_wp2
    go_returns
    exact ⟨rfl, ((H.out.setVal HP.out v).al _).al _, ((Part.setIn w (by omega) (by omega) _).trans (part_al2 (Nat.lt_of_lt_of_le hlt (only_set (Only.refl (fun k => k = g) w) _ _).size) _ _)).trans (Part.drew _ _ _ _)⟩
  · have HS : Hid (changeS l p kind v old x = (l, 0, ⟨#[]⟩)) := by show _ = _; simp [changeS, k1, k2, k3, k4]
    rw [HS.out]
    go_enter Try.func51, Try.ntmps51
    go_wp2
    go_returns
    exact ⟨rfl, (H.out.al _).al _, part_al2 hlt _ _⟩
end Go.Proofs.Ytodgcfmacmfcpaa
