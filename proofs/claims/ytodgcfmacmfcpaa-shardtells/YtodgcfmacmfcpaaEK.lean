/- Kinds of elements: slices whose elements are c cells each, whatever they are: reading, owning, appending. -/
import Derived.Test.YtodgcfmacmfcpaaST
import Derived.Test.YtodgcfmacmfcpaaRG
import Derived.Deep.DeepAppendWide
import Derived.Laws.OwnMore
namespace Go.Proofs.Ytodgcfmacmfcpaa
open Go.RowKit

/-- a kind of elements: how they lie in cells; the types of an element, and of a slice of them -/
structure Knd (α : Type) where
  e : TypeId
  t : TypeId
  c : Nat
  by_ : Nat
  z : Value
  cells : α → List Value
  len : ∀ a, (cells a).length = c
  one : ∀ a, ∀ u ∈ cells a, u.oneCell' = true
  ht : Try.prog.underlying t = some (.slice e)
  hi : (Try.prog.info? e).map (fun i => (i.zero, i.size, i.bytes)) = some (some z, c, by_)
  hz : z.cells.size = c
  hc : 0 < c

section
variable {α : Type} {K : Knd α} {A A' S : Nat → Prop} {w w' : World} {g off cap n m B : Nat} {l l2 : List α} {ao xo : Option Addr}

/-- elements as cells -/
def flt (K : Knd α) (l : List α) : List Value := l.flatMap K.cells
theorem flt_nil : flt K [] = [] := rfl
theorem flt_cons (x : α) : flt K (x :: l) = K.cells x ++ flt K l := rfl
theorem flt_length (l : List α) : (flt K l).length = l.length * K.c := by
  induction l with
  | nil => simp [flt]
  | cons x r ih => rw [flt_cons, List.length_append, K.len, ih, List.length_cons, Nat.add_mul]; omega
theorem flt_append (a b : List α) : flt K (a ++ b) = flt K a ++ flt K b := by simp [flt]
theorem flt_take (l : List α) : ∀ n, flt K (l.take n) = (flt K l).take (n * K.c) := by
  induction l with
  | nil => intro n; simp [flt]
  | cons x r ih =>
    intro n
    cases n with
    | zero => simp [flt]
    | succ n =>
      rw [List.take_succ_cons, flt_cons, flt_cons, ih, List.take_append, K.len, Nat.add_mul, Nat.one_mul, List.take_of_length_le (l := K.cells x) (by rw [K.len]; omega), show n * K.c + K.c - K.c = n * K.c by omega]
theorem flt_drop (l : List α) : ∀ n, flt K (l.drop n) = (flt K l).drop (n * K.c) := by
  induction l with
  | nil => intro n; simp [flt]
  | cons x r ih =>
    intro n
    cases n with
    | zero => simp
    | succ n =>
      rw [List.drop_succ_cons, flt_cons, ih, List.drop_append, K.len, Nat.add_mul, Nat.one_mul, List.drop_of_length_le (l := K.cells x) (by rw [K.len]; omega), List.nil_append, show n * K.c + K.c - K.c = n * K.c by omega]
theorem flt_get (l : List α) : ∀ (k : Nat) (h : k < l.length) (j : Nat), j < K.c → (flt K l)[k * K.c + j]? = (K.cells l[k])[j]? := by
  induction l with
  | nil => intro k h; simp at h
  | cons x r ih =>
    intro k h j hj
    cases k with
    | zero => rw [flt_cons, List.getElem?_append_left (by rw [K.len]; omega)]; simp
    | succ k =>
      rw [flt_cons, List.getElem?_append_right (by rw [K.len, Nat.add_mul]; omega), K.len, show (k + 1) * K.c + j - K.c = k * K.c + j by rw [Nat.add_mul]; omega]
      exact ih k (by simpa using h) j hj
theorem flt_one (l : List α) : ∀ u ∈ flt K l, u.oneCell' = true := by
  intro u hu
  simp only [flt, List.mem_flatMap] at hu
  obtain ⟨x, _, h⟩ := hu
  exact K.one x u h
theorem flt_set (l : List α) (k : Nat) (hk : k < l.length) (x : α) : flt K (l.set k x) = (flt K l).take (k * K.c) ++ K.cells x ++ (flt K l).drop (k * K.c + K.c) := by
  rw [List.set_eq_take_append_cons_drop, if_pos hk, flt_append, flt_cons, flt_take, flt_drop, Nat.add_mul, Nat.one_mul, List.append_assoc]

/-- elements behind an address -/
def RdK (K : Knd α) (w : World) (g off : Nat) (l : List α) : Prop := ∀ (k : Nat) (h : k < l.length) (j : Nat) (u : Value), (K.cells l[k])[j]? = some u → w.cell? ⟨g, off + k * K.c + j, none⟩ = some u
theorem flt_at (h : RdK K w g off l) (j : Nat) (u : Value) (hj : (flt K l)[j]? = some u) : w.cell? ⟨g, off + j, none⟩ = some u := by
  have hl : j < (flt K l).length := (List.getElem?_eq_some_iff.1 hj).1
  rw [flt_length] at hl
  have hk : j / K.c < l.length := (Nat.div_lt_iff_lt_mul K.hc).2 hl
  have hr : j % K.c < K.c := Nat.mod_lt _ K.hc
  have e : j / K.c * K.c + j % K.c = j := by rw [Nat.mul_comm]; exact Nat.div_add_mod j K.c
  have h1 := h _ hk (j % K.c) u (by rw [← flt_get l _ hk _ hr, e]; exact hj)
  rw [Nat.add_assoc, e] at h1
  exact h1
theorem add_at (g off j : Nat) : (⟨g, off, none⟩ : Addr).add j = ⟨g, off + j, none⟩ := by
  unfold Addr.add
  split
  · rename_i h0; subst h0; rfl
  · rfl
theorem flt_add (h : RdK K w g off l) (j : Nat) (u : Value) (hj : (flt K l)[j]? = some u) : w.cell? ((⟨g, off, none⟩ : Addr).add j) = some u := by
  rw [add_at]; exact flt_at h j u hj
theorem rd_flt (h : ∀ j u, (flt K l)[j]? = some u → w.cell? ⟨g, off + j, none⟩ = some u) : RdK K w g off l := by
  intro k hk j u hj
  have hjc : j < K.c := by rw [← K.len l[k]]; exact (List.getElem?_eq_some_iff.1 hj).1
  rw [Nat.add_assoc]
  exact h _ u (by rw [flt_get l k hk j hjc]; exact hj)
theorem RdK.heap (h : RdK K w g off l) (e : w'.heap[g]? = w.heap[g]?) : RdK K w' g off l := fun k hk j u hj =>
  (World.cell?_of_block (w := w) (a := ⟨g, off + k * K.c + j, none⟩) e).trans (h k hk j u hj)
theorem RdK.below (h : RdK K w g off l) (hb : Below B w w') (hg : g < B) : RdK K w' g off l := h.heap (hb.block g hg)
theorem RdK.row {cs : List Value} {t : TypeId} {fr : Nat × Nat} (hg : w.heap[g]? = some (.cells cs.toArray t fr)) (h : ∀ j u, (flt K l)[j]? = some u → cs[off + j]? = some u) : RdK K w g off l :=
  rd_flt fun j u hj => by rw [cell_of_row w _ _ _ _ fr hg]; simpa using h j u hj

/-- a slice of elements that is read, in a block of A -/
def ArK (K : Knd α) (A : Nat → Prop) (w : World) (ao : Option Addr) (cap : Nat) (l : List α) : Prop :=
  l.length ≤ cap ∧ cap ≤ maxLen ∧ (ao = none → cap = 0) ∧ (0 < l.length → ∃ g off, ao = some ⟨g, off, none⟩ ∧ g < w.heap.size ∧ A g ∧ RdK K w g off l)
theorem ArK.at (h : ArK K A w ao cap l) (hl : 0 < l.length) : ∃ g off, ao = some ⟨g, off, none⟩ ∧ g < w.heap.size ∧ A g ∧ RdK K w g off l := h.2.2.2 hl
theorem ArK.nil (K : Knd α) (A : Nat → Prop) (w : World) : ArK K A w none 0 [] := ⟨Nat.le_refl _, Nat.zero_le _, fun _ => rfl, fun h => by simp at h⟩
theorem ArK.mono (h : ArK K A w ao cap l) (ha : ∀ i, i < w.heap.size → A i → A' i) : ArK K A' w ao cap l :=
  ⟨h.1, h.2.1, h.2.2.1, fun hl => by obtain ⟨g, off, a, b, c, d⟩ := h.2.2.2 hl; exact ⟨g, off, a, b, ha g b c, d⟩⟩
theorem ArK.only (h : ArK K A w ao cap l) (o : Only S w w') (hd : ∀ i, A i → ¬ S i) : ArK K A w' ao cap l :=
  ⟨h.1, h.2.1, h.2.2.1, fun hl => by obtain ⟨g, off, a, b, c, d⟩ := h.2.2.2 hl; exact ⟨g, off, a, Nat.lt_of_lt_of_le b o.size, c, d.heap (o.block g b (hd g c))⟩⟩
theorem ArK.below (h : ArK K A w ao cap l) (o : Below w.heap.size w w') : ArK K A w' ao cap l := h.only (S := fun _ => False) (Only.of_below _ o) fun _ _ => id
theorem ArK.len (h : ArK K A w ao cap l) : l.length ≤ 9223372036854775807 := Nat.le_trans h.1 (Nat.le_trans h.2.1 (by unfold maxLen; omega))
/-- a slice that came in, as RdG tells it -/
theorem ArK.of_g {Q : Nat → World → List Value → α → Prop} (h : RdG K.c Q B w ao n cap l) (hB : B ≤ w.heap.size) (hQ : ∀ cs x, Q B w cs x → cs = K.cells x) (hA : ∀ i, i < B → A i) : ArK K A w ao cap l := by
  obtain ⟨h1, h2, h3, h4, h5⟩ := h
  refine ⟨by omega, h3, h4, fun hl => ?_⟩
  rcases h5 with rfl | ⟨b, off, e1, e2, e3⟩
  · simp at hl
  · refine ⟨b, off, e1, by omega, hA b e2, fun k hk j u hj => ?_⟩
    obtain ⟨cs, _, g2, g3⟩ := e3 k l[k] (List.getElem?_eq_getElem hk)
    rw [hQ cs _ g2] at g3
    exact g3 j u hj

/-- a slice of elements, in memory of its own from block B on -/
def OwnK (K : Knd α) (B : Nat) (w : World) (ao : Option Addr) (cap : Nat) (l : List α) : Prop := w.ownsRow B K.e K.c (.slice ao l.length cap) l.length (flt K l)
theorem OwnK.nil (K : Knd α) (B : Nat) (w : World) : OwnK K B w none 0 [] := ⟨by simp [flt], .inl ⟨rfl, rfl⟩⟩
theorem OwnK.row (h : OwnK K B w ao cap l) (hl : 0 < l.length) : ∃ g cur, ao = some ⟨g, 0, none⟩ ∧ B ≤ g ∧ g < w.heap.size ∧ w.heap[g]? = some (.cells cur K.e (0, 0)) ∧ l.length * K.c ≤ cur.size ∧ cur.toList.take (l.length * K.c) = flt K l := by
  rcases h.2 with ⟨_, e⟩ | ⟨g, cp, cur, e, hB, hg, h1, h2, hs, ht⟩
  · omega
  · simp only [Value.slice.injEq] at e
    exact ⟨g, cur, e.1, hB, (Array.getElem?_eq_some_iff.1 hg).1, hg, by rw [hs]; exact Nat.mul_le_mul_right _ h1, ht⟩
theorem OwnK.at (h : OwnK K B w ao cap l) (hl : 0 < l.length) : ∃ g, ao = some ⟨g, 0, none⟩ ∧ B ≤ g ∧ g < w.heap.size ∧ RdK K w g 0 l := by
  obtain ⟨g, cur, e, hB, hg, hc, _, ht⟩ := h.row hl
  refine ⟨g, e, hB, hg, rd_flt fun j u hj => ?_⟩
  rw [cell_of_row w _ _ _ _ (0, 0) hc, Nat.zero_add]
  rw [← ht, List.getElem?_take] at hj
  split at hj
  · rw [← hj]; simp
  · cases hj
theorem OwnK.caps (h : OwnK K B w ao cap l) : l.length ≤ cap ∧ cap ≤ maxLen ∧ (ao = none → cap = 0) := by
  rcases h.2 with ⟨e, e2⟩ | ⟨g, cp, cur, e, hB, hg, h1, h2, _⟩
  · simp only [Value.slice.injEq] at e
    have : maxLen = 9223372036854775807 := rfl
    exact ⟨by omega, by omega, fun _ => e.2.2⟩
  · simp only [Value.slice.injEq] at e
    exact ⟨by omega, by omega, fun x => by rw [e.1] at x; cases x⟩
theorem OwnK.arK (h : OwnK K B w ao cap l) : ArK K (fun i => B ≤ i ∧ i < w.heap.size) w ao cap l :=
  ⟨h.caps.1, h.caps.2.1, h.caps.2.2, fun hl => by obtain ⟨g, e, h1, h2, h3⟩ := h.at hl; exact ⟨g, 0, e, h2, ⟨h1, h2⟩, h3⟩⟩
theorem OwnK.only (h : OwnK K B w ao cap l) (o : Only S w w') (hd : ∀ i, B ≤ i → i < w.heap.size → ¬ S i) : OwnK K B w' ao cap l := by
  refine ⟨h.1, ?_⟩
  rcases h.2 with e | ⟨g, cp, cur, e, hB, hg, r⟩
  · exact .inl e
  · have hlt := (Array.getElem?_eq_some_iff.1 hg).1
    exact .inr ⟨g, cp, cur, e, hB, (o.block g hlt (hd g hB hlt)).trans hg, r⟩
theorem OwnK.below (h : OwnK K B w ao cap l) (o : Below w.heap.size w w') : OwnK K B w' ao cap l := h.only (S := fun _ => False) (Only.of_below _ o) fun _ _ _ => id
theorem OwnK.mono {B' : Nat} (h : OwnK K B w ao cap l) (hB : B' ≤ B) : OwnK K B' w ao cap l := by
  refine ⟨h.1, ?_⟩
  rcases h.2 with e | ⟨g, cp, cur, e, hb, r⟩
  · exact .inl e
  · exact .inr ⟨g, cp, cur, e, by omega, r⟩
/-- what is owned in a block below T stays, where blocks of S turn, and none of them lies in [B, T) -/
theorem OwnK.apart (h : OwnK K B w ao cap l) (o : Only S w w') (hd : ∀ g, ao = some ⟨g, 0, none⟩ → ¬ S g) : OwnK K B w' ao cap l := by
  refine ⟨h.1, ?_⟩
  rcases h.2 with e | ⟨g, cp, cur, e, hB, hg, r⟩
  · exact .inl e
  · have hlt := (Array.getElem?_eq_some_iff.1 hg).1
    simp only [Value.slice.injEq] at e
    exact .inr ⟨g, cp, cur, by simp [e.1, e.2.2], hB, (o.block g hlt (hd g e.1)).trans hg, r⟩
theorem OwnK.built (K : Knd α) (w : World) : OwnK K w.heap.size (w.alloc (.cells #[] K.e)) (some ⟨w.heap.size, 0, none⟩) 0 [] :=
  World.ownsRow_made w #[] 0 (Nat.le_refl _) (Nat.zero_le _) (by simp)
theorem OwnK.built_d (K : Knd α) (w : World) : OwnK K w.heap.size (w.alloc (.cells #[] K.e)).drew (some ⟨w.heap.size, 0, none⟩) 0 [] := OwnK.built K w

/-- a slice of elements that is appended -/
def SrcK (K : Knd α) (w : World) (xo : Option Addr) (m c : Nat) (l : List α) : Prop :=
  l.length = m ∧ (xo = none → m = 0 ∧ c = 0) ∧ ∀ a, xo = some a → ∀ j u, (flt K l)[j]? = some u → w.cell? (a.add j) = some u
theorem SrcK.below {c : Nat} (h : SrcK K w xo m c l) (hb : Below w.heap.size w w') : SrcK K w' xo m c l :=
  ⟨h.1, h.2.1, fun a ha j u hj => by
    have h1 := h.2.2 a ha j u hj
    exact (hb.cell (World.block_lt_of_cell? w _ h1)).trans h1⟩
theorem SrcK.take (h : ArK K A w ao cap l) (p : Nat) (hp : p ≤ l.length) : SrcK K w ao p cap (l.take p) := by
  refine ⟨by simp; omega, fun e => ?_, fun a e j u hj => ?_⟩
  · have := h.2.2.1 e; have := h.1; omega
  · rw [flt_take, List.getElem?_take] at hj
    split at hj
    · have hl : j < (flt K l).length := (List.getElem?_eq_some_iff.1 hj).1
      rw [flt_length] at hl
      obtain ⟨g, off, e2, h1, h2, h3⟩ := h.2.2.2 (by cases l with | nil => simp at hl | cons _ _ => simp)
      rw [e] at e2
      cases e2
      exact flt_add h3 j u hj
    · cases hj
theorem SrcK.all (h : ArK K A w ao cap l) : SrcK K w ao l.length cap l := by
  have := SrcK.take h l.length (Nat.le_refl _)
  rwa [List.take_length] at this
theorem SrcK.drop (h : ArK K A w ao cap l) (p : Nat) (hp : p ≤ l.length) (e : K.c = n) : SrcK K w (if cap = p then ao else ao.map (·.add (p * n))) (l.length - p) (cap - p) (l.drop p) := by
  have hc := h.1
  subst e
  refine ⟨by simp, fun e => ?_, fun a e j u hj => ?_⟩
  · have : ao = none := by split at e; exact e; simpa using e
    have := h.2.2.1 this; omega
  · rw [flt_drop, List.getElem?_drop] at hj
    have hl : p * K.c + j < (flt K l).length := (List.getElem?_eq_some_iff.1 hj).1
    rw [flt_length] at hl
    have hpl : p < l.length := by
      rcases Nat.lt_or_ge p l.length with h | h
      · exact h
      · have := Nat.mul_le_mul_right K.c h; omega
    obtain ⟨g, off, e2, h1, h2, h3⟩ := h.2.2.2 (by omega)
    rw [if_neg (by omega), e2] at e
    simp only [Option.map_some, Option.some.injEq] at e
    have := flt_at h3 _ _ hj
    subst e
    rw [← this, add_at, add_at, Nat.add_assoc]
/-- one element that was just laid -/
theorem SrcK.one (w : World) (x : α) : SrcK K (w.alloc (.cells (K.cells x).toArray K.e)) (some ⟨w.heap.size, 0, none⟩) 1 1 [x] :=
  ⟨rfl, by simp, fun a e j u hj => by
    simp only [Option.some.injEq] at e
    subst e
    rw [add_at, cell_of_row _ _ _ _ _ (0, 0) (alloc_new w _), Nat.zero_add]
    rw [flt_cons, flt_nil, List.append_nil] at hj
    simpa using hj⟩
/-- elements that were just laid -/
theorem SrcK.lits (w : World) (l : List α) : SrcK K (w.alloc (.cells (flt K l).toArray K.e)) (some ⟨w.heap.size, 0, none⟩) l.length l.length l :=
  ⟨rfl, by simp, fun a e j u hj => by
    simp only [Option.some.injEq] at e
    subst e
    rw [add_at, cell_of_row _ _ _ _ _ (0, 0) (alloc_new w _), Nat.zero_add]
    simpa using hj⟩
theorem ArK.lits (w : World) (l : List α) (hl : l.length ≤ 1000000) (A : Nat → Prop) (hA : A w.heap.size) : ArK K A (w.alloc (.cells (flt K l).toArray K.e)) (some ⟨w.heap.size, 0, none⟩) l.length l :=
  ⟨Nat.le_refl _, by unfold maxLen; omega, fun h => (by cases h), fun _ => ⟨w.heap.size, 0, rfl, by show _ < (w.heap.push _).size; simp, hA, rd_flt fun j u hj => by rw [cell_of_row _ _ _ _ _ (0, 0) (alloc_new w _), Nat.zero_add]; simpa using hj⟩⟩

theorem run_appK {ty : TypeId} (hn : l.length = n) (hown : OwnK K B w ao cap l) {c : Nat} (hx : SrcK K w xo m c l2) (hfew : ((n + m) + (n + m) / 4 + 192) * K.by_ ≤ 281474976710656) (h63 : n + m ≤ 9223372036854775807) (hB : B ≤ w.heap.size) :
    ∃ ao' cap' w', (Builtin.append_ #[K.t, K.t] ty #[.slice ao n cap, .slice xo m c]).run Try.prog w = .ok (.slice ao' (n + m) cap') w' ∧ OwnK K B w' ao' cap' (l ++ l2) ∧ w.grownBy w' (Value.slice ao n cap).ownBlock ∧ Below B w w' := by
  subst hn
  obtain ⟨h1, h2, h3⟩ := hx
  subst h1
  obtain ⟨i0, hi, hz0, hz1, hz2⟩ := info_parts K.hi
  cases xo with
  | none =>
    obtain ⟨h4, rfl⟩ := h2 rfl
    obtain rfl : l2 = [] := List.eq_nil_of_length_eq_zero h4
    have hr := run_append_owned_none (P := Try.prog) (w := w) B K.t ty K.e i0 K.c K.ht hi _ _ _ hown
    exact ⟨ao, cap, w, by simpa using hr, by simpa using hown, ⟨rfl, rfl, rfl, Nat.le_refl _, fun _ _ _ => rfl⟩, Below.refl _ _⟩
  | some ad =>
    obtain ⟨v', w', hr, g2, g3, _⟩ := run_append_own_wide (P := Try.prog) w B K.t ty K.e i0 _ K.c K.by_ K.ht hi hz0 hz1 hz2 K.hz K.hc (.slice ao l.length cap) l.length (flt K l) hown ad l2.length c (flt K l2)
      (by rw [flt_length]) (h3 ad rfl) (flt_one l2) (by unfold maxLen; omega) hfew hB
    have hsh : ∃ ao' cap', v' = .slice ao' (l.length + l2.length) cap' := by
      rcases g2.2 with ⟨e, e2⟩ | ⟨g, cp, cur, e, _⟩
      · exact ⟨none, 0, by rw [e, e2]⟩
      · exact ⟨_, _, e⟩
    obtain ⟨ao', cap', rfl⟩ := hsh
    refine ⟨ao', cap', w', hr, ?_, g3, (Below.refl B w).grown g3 hB fun k hk => (hown.lt k hk).1⟩
    show w'.ownsRow B _ K.c (.slice ao' (l ++ l2).length cap') (l ++ l2).length (flt K (l ++ l2))
    rw [flt_append, List.length_append]
    exact g2
/-- append of elements onto a slice of one's own: at a call -/
theorem appK (K : Knd α) {t t2 : TypeId} {ops : Array Oper} {rest : List Oper} {o : Oper} {a : Act} {Q : Exit → Act → World → Prop} (hgd : o.guard = none) (s x : Operand)
    (ho : o.op = .call { callee := .builtin .append, args := #[s, x], argTypes := #[t, t2] }) (ht : K.t = t) (ht2 : K.t = t2)
    (B : Nat) (ao : Option Addr) (cap n : Nat) (l : List α) (hs : a.eval s = .slice ao n cap) (hn : l.length = n) (hown : OwnK K B w ao cap l)
    (xo : Option Addr) (m c : Nat) (l2 : List α) (hx : a.eval x = .slice xo m c) (hsrc : SrcK K w xo m c l2) (hfew : ((n + m) + (n + m) / 4 + 192) * K.by_ ≤ 281474976710656) (h63 : n + m ≤ 9223372036854775807) (hB : B ≤ w.heap.size)
    (h : ∀ ao' cap' w', OwnK K B w' ao' cap' (l ++ l2) → w.grownBy w' (Value.slice ao n cap).ownBlock → Below B w w' → wpList Try.prog ops Q rest (a.put o.dst (.slice ao' (n + m) cap')) w') : wpList Try.prog ops Q (o :: rest) a w := by
  subst ht2
  subst ht
  obtain ⟨ao', cap', w', hr, h2, h4, h3⟩ := run_appK (ty := o.type) hn hown hsrc hfew h63 hB
  refine wpList_plain hgd fun _ hK => ?_
  unfold Oper.wp execOp
  simp only [ho, resolve, invoke, builtin, Sem.run_bind, Sem.run_pure, Result.andThen_ok, List.map_toArray, List.map_cons, List.map_nil, hs, hx, hr]
  exact hK _ _ (h ao' cap' w' h2 h4 h3)
/-- .. and as a step of a region that draws -/
theorem stepK (K : Knd α) {t t2 : TypeId} {ops : Array Oper} {o : Oper} {a : Act} {R : Act → World → Prop} {Q : Exit → Act → World → Prop} {E : Prop} (hgd : o.guard = none) (s x : Operand)
    (ho : o.op = .call { callee := .builtin .append, args := #[s, x], argTypes := #[t, t2] }) (ht : K.t = t) (ht2 : K.t = t2)
    (B : Nat) (ao : Option Addr) (cap n : Nat) (l : List α) (hs : a.eval s = .slice ao n cap) (hn : l.length = n) (hown : OwnK K B w ao cap l)
    (xo : Option Addr) (m c : Nat) (l2 : List α) (hx : a.eval x = .slice xo m c) (hsrc : SrcK K w xo m c l2) (hfew : ((n + m) + (n + m) / 4 + 192) * K.by_ ≤ 281474976710656) (h63 : n + m ≤ 9223372036854775807) (hB : B ≤ w.heap.size)
    (h : ∀ ao' cap' w', OwnK K B w' ao' cap' (l ++ l2) → w.grownBy w' (Value.slice ao n cap).ownBlock → Below B w w' → R (a.put o.dst (.slice ao' (n + m) cap')) w') : if Region.wanted o (yielded ops a.tmps) = true then Oper.wp Try.prog o a w R Q else E := by
  subst ht2
  subst ht
  have hw : Region.wanted o (yielded ops a.tmps) = true := by simp [Region.wanted, hgd]
  rw [if_pos hw]
  obtain ⟨ao', cap', w', hr, h2, h4, h3⟩ := run_appK (ty := o.type) hn hown hsrc hfew h63 hB
  unfold Oper.wp execOp
  simp only [ho, resolve, invoke, builtin, Sem.run_bind, Sem.run_pure, Result.andThen_ok, List.map_toArray, List.map_cons, List.map_nil, hs, hx, hr]
  exact h ao' cap' w' h2 h4 h3
end
/-- cells that are written one behind the other -/
def setsL : List Value → Nat → List Value → List Value
  | cs, _, [] => cs
  | cs, o, v :: r => setsL (cs.set o v) (o + 1) r
theorem setsL_eq (vs : List Value) : ∀ (cs : List Value) (o : Nat), o + vs.length ≤ cs.length → setsL cs o vs = cs.take o ++ vs ++ cs.drop (o + vs.length) := by
  induction vs with
  | nil => intro cs o h; simp [setsL]
  | cons v r ih =>
    intro cs o h
    simp only [List.length_cons] at h
    rw [setsL, ih _ _ (by simp; omega)]
    have ho : o < cs.length := by omega
    have e1 : (cs.set o v).take (o + 1) = cs.take o ++ [v] := by
      rw [List.set_eq_take_append_cons_drop, if_pos ho, List.take_append]
      have : (cs.take o).length = o := by simp; omega
      rw [this, Nat.add_sub_cancel_left, List.take_of_length_le (l := cs.take o) (by omega)]
      simp
    have e2 : (cs.set o v).drop (o + 1 + r.length) = cs.drop (o + (v :: r).length) := by
      rw [List.drop_set_of_lt (by omega), List.length_cons, show o + 1 + r.length = o + (r.length + 1) by omega]
    rw [e1, e2]
    simp
def wsets (w : World) (g : Nat) : Nat → List Value → World
  | _, [] => w
  | o, v :: r => wsets (w.setCell ⟨g, o, none⟩ v) g (o + 1) r
theorem wsets_heap {g : Nat} {t : TypeId} (vs : List Value) : ∀ (w : World) (cs : List Value) (o : Nat), w.heap[g]? = some (.cells cs.toArray t (0, 0)) → (wsets w g o vs).heap[g]? = some (.cells (setsL cs o vs).toArray t (0, 0)) := by
  induction vs with
  | nil => intro w cs o h; exact h
  | cons v r ih =>
    intro w cs o h
    refine ih _ _ _ ?_
    rw [setCell_eq_setRow w g _ _ _ _ _ h, setRow_heap w g _ _ _ _ h]
    simp
theorem wsets_only (g : Nat) (vs : List Value) : ∀ (w : World) (o : Nat), Only (fun k => k = g) w (wsets w g o vs) := by
  induction vs with
  | nil => intro w o; exact Only.refl _ _
  | cons v r ih => intro w o; exact (only_set (Only.refl _ _) o v).trans (ih _ _)
/-- a list's element is written, cell by cell -/
theorem wsets_elem {α : Type} {K : Knd α} {w : World} {g : Nat} {t : TypeId} {l : List α} (h : w.heap[g]? = some (.cells (flt K l).toArray t (0, 0))) (k : Nat) (hk : k < l.length) (x : α) :
    (wsets w g (k * K.c) (K.cells x)).heap[g]? = some (.cells (flt K (l.set k x)).toArray t (0, 0)) := by
  rw [wsets_heap _ _ _ _ h, setsL_eq _ _ _ (by rw [flt_length, K.len]; have := Nat.mul_le_mul_right K.c hk; rw [Nat.succ_mul] at this; exact this), flt_set _ _ hk, K.len]
end Go.Proofs.Ytodgcfmacmfcpaa
