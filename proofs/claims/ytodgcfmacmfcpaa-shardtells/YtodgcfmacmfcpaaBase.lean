/-
  My own ground: lists of bytes and numbers as cells, slices that read as lists ('Rd'), the append law of any source onto a row of one's own. No program is loaded here.
-/
import Derived.WalkKit
import Derived.WalkSpells
import Derived.WalkLawsBesides
import Derived.Laws.AppendOwnNone
import Derived.Laws.BytesArg
import Derived.Deep.AppendSrc
namespace Go.Proofs.Ytodgcfmacmfcpaa
open Go.RowKit

/-- bytes as cells -/
def Bs (l : List UInt8) : List Value := l.map fun c => Value.int .u8 (c.toNat : Int)
/-- numbers as cells -/
def Is (l : List Int) : List Value := l.map (Value.int .i64)
/-- strings as cells -/
def Ss (l : List ByteArray) : List Value := l.map Value.string

theorem Bs_length (l : List UInt8) : (Bs l).length = l.length := by simp [Bs]
theorem Is_length (l : List Int) : (Is l).length = l.length := by simp [Is]
theorem Ss_length (l : List ByteArray) : (Ss l).length = l.length := by simp [Ss]
theorem Bs_append (a b : List UInt8) : Bs (a ++ b) = Bs a ++ Bs b := by simp [Bs]
theorem Is_append (a b : List Int) : Is (a ++ b) = Is a ++ Is b := by simp [Is]
theorem Bs_drop (a : List UInt8) (k : Nat) : Bs (a.drop k) = (Bs a).drop k := by simp [Bs]
theorem Bs_take (a : List UInt8) (k : Nat) : Bs (a.take k) = (Bs a).take k := by simp [Bs]
theorem Is_drop (a : List Int) (k : Nat) : Is (a.drop k) = (Is a).drop k := by simp [Is]
theorem Is_take (a : List Int) (k : Nat) : Is (a.take k) = (Is a).take k := by simp [Is]
theorem Bs_one (l : List UInt8) : ∀ u ∈ Bs l, u.oneCell' = true := by
  intro u hu; simp [Bs] at hu; obtain ⟨c, _, rfl⟩ := hu; rfl
theorem Is_one (l : List Int) : ∀ u ∈ Is l, u.oneCell' = true := by
  intro u hu; simp [Is] at hu; obtain ⟨c, _, rfl⟩ := hu; rfl
theorem Ss_one (l : List ByteArray) : ∀ u ∈ Ss l, u.oneCell' = true := by
  intro u hu; simp [Ss] at hu; obtain ⟨c, _, rfl⟩ := hu; rfl
theorem byteCells_eq (s : ByteArray) : byteCells s = Bs s.data.toList := rfl

/-- In w the slice '.slice ao n cap' reads as the cells xs; they lie in a block below B. -/
def Rd (B : Nat) (w : World) (ao : Option Addr) (n cap : Nat) (xs : List Value) : Prop :=
  xs.length = n ∧ n ≤ cap ∧ cap ≤ maxLen ∧ (ao = none → cap = 0) ∧
  (xs = [] ∨ ∃ b off, ao = some ⟨b, off, none⟩ ∧ b < B ∧ ∀ j u, xs[j]? = some u → w.cell? ⟨b, off + j, none⟩ = some u)

section
variable {B : Nat} {w w' : World} {ao : Option Addr} {n cap : Nat} {xs : List Value}

theorem Rd.nil (B : Nat) (w : World) : Rd B w none 0 0 [] := ⟨rfl, Nat.le_refl _, Nat.zero_le _, fun _ => rfl, .inl rfl⟩

theorem Rd.len (h : Rd B w ao n cap xs) : xs.length = n := h.1

theorem Rd.later (h : Rd B w ao n cap xs) (hb : Below B w w') : Rd B w' ao n cap xs := by
  obtain ⟨h1, h2, h3, h4, h5⟩ := h
  refine ⟨h1, h2, h3, h4, ?_⟩
  rcases h5 with h5 | ⟨b, off, e1, e2, e3⟩
  · exact .inl h5
  · exact .inr ⟨b, off, e1, e2, fun j u hj => (hb.cell (p := ⟨b, off + j, none⟩) e2).trans (e3 j u hj)⟩

theorem Rd.mono {B' : Nat} (h : Rd B w ao n cap xs) (hB : B ≤ B') : Rd B' w ao n cap xs := by
  obtain ⟨h1, h2, h3, h4, h5⟩ := h
  refine ⟨h1, h2, h3, h4, ?_⟩
  rcases h5 with h5 | ⟨b, off, e1, e2, e3⟩
  · exact .inl h5
  · exact .inr ⟨b, off, e1, by omega, e3⟩

theorem Rd.drew (h : Rd B w ao n cap xs) : Rd B w.drew ao n cap xs := by
  obtain ⟨h1, h2, h3, h4, h5⟩ := h
  exact ⟨h1, h2, h3, h4, h5⟩

/-- what is read has a block below the heap's size -/
theorem Rd.here (h : Rd B w ao n cap xs) : Rd w.heap.size w ao n cap xs := by
  obtain ⟨h1, h2, h3, h4, h5⟩ := h
  refine ⟨h1, h2, h3, h4, ?_⟩
  rcases h5 with h5 | ⟨b, off, e1, e2, e3⟩
  · exact .inl h5
  · cases xs with
    | nil => exact .inl rfl
    | cons x xs => exact .inr ⟨b, off, e1, World.block_lt_of_cell? w ⟨b, off + 0, none⟩ (e3 0 x rfl), e3⟩

theorem Rd.src (h : Rd B w ao n cap xs) {P : Program} {tx e' : TypeId} (hk : P.underlying tx = some (.slice e')) (h1 : ∀ u ∈ xs, u.oneCell' = true) :
    Src P 1 tx (.slice ao n cap) n xs w := by
  obtain ⟨g1, g2, g3, g4, g5⟩ := h
  cases ao with
  | none =>
    have hc := g4 rfl
    have : n = 0 := by omega
    subst this
    have : xs = [] := List.eq_nil_of_length_eq_zero g1
    subst this
    exact Src.ofNil w hk cap
  | some a =>
    refine Src.ofSlice w hk a n cap xs (by omega) ?_ h1
    rcases g5 with rfl | ⟨b, off, e1, e2, e3⟩
    · intro j u hj; simp at hj
    · cases e1
      intro j u hj
      rw [show (⟨b, off, none⟩ : Addr).add j = ⟨b, off + j, none⟩ from by unfold Addr.add; split <;> simp_all]
      exact e3 j u hj

/-- 'x[l:h]': what the model writes for a cut -/
theorem Rd.cut (h : Rd B w ao n cap xs) (lo hi : Nat) (h1 : lo ≤ hi) (h2 : hi ≤ n) :
    Rd B w (if cap = lo then ao else ao.map (·.add lo)) (hi - lo) (cap - lo) ((xs.take hi).drop lo) := by
  obtain ⟨g1, g2, g3, g4, g5⟩ := h
  refine ⟨by simp; omega, by omega, by omega, ?_, ?_⟩
  · split
    · intro _; omega
    · intro h; cases ao <;> simp at h; have := g4 rfl; omega
  · rcases g5 with rfl | ⟨b, off, e1, e2, e3⟩
    · left; simp
    · subst e1
      by_cases hc : cap = lo
      · left
        apply List.eq_nil_of_length_eq_zero
        simp; omega
      · rw [if_neg hc]
        right
        refine ⟨b, off + lo, ?_, e2, ?_⟩
        · simp [Addr.add]
        · intro j u hj
          rw [List.getElem?_drop, List.getElem?_take] at hj
          split at hj
          · have := e3 _ _ hj
            rwa [Nat.add_assoc]
          · cases hj

/-- 'x[k:]' -/
theorem Rd.from (h : Rd B w ao n cap xs) (k : Nat) (hk : k ≤ n) :
    Rd B w (if cap = k then ao else ao.map (·.add k)) (n - k) (cap - k) (xs.drop k) := by
  have := h.cut k n hk (Nat.le_refl _)
  rwa [List.take_of_length_le (by rw [h.1]; exact Nat.le_refl _)] at this

/-- 'x[:k]' -/
theorem Rd.till (h : Rd B w ao n cap xs) (k : Nat) (hk : k ≤ n) : Rd B w ao k cap (xs.take k) := by
  obtain ⟨g1, g2, g3, g4, g5⟩ := h
  refine ⟨by simp; omega, by omega, g3, g4, ?_⟩
  rcases g5 with rfl | ⟨b, off, e1, e2, e3⟩
  · left; simp
  · right
    refine ⟨b, off, e1, e2, ?_⟩
    intro j u hj
    rw [List.getElem?_take] at hj
    split at hj
    · exact e3 _ _ hj
    · cases hj

/-- the shape where there is something -/
theorem Rd.atSome (h : Rd B w ao n cap xs) (hn : 0 < n) : ∃ b off, ao = some ⟨b, off, none⟩ ∧ b < B ∧ ∀ j u, xs[j]? = some u → w.cell? ⟨b, off + j, none⟩ = some u := by
  obtain ⟨g1, g2, g3, g4, g5⟩ := h
  rcases g5 with rfl | h5
  · simp at g1; omega
  · exact h5

theorem ownsRow.form {e : TypeId} {v : Value} {base : Nat} (h : w.ownsRow base e 1 v n xs) : ∃ ao cap, v = .slice ao n cap := by
  rcases h.2 with ⟨rfl, rfl⟩ | ⟨g, cap, cur, rfl, _⟩
  · exact ⟨_, _, rfl⟩
  · exact ⟨_, _, rfl⟩

theorem ownsRow.rd {e : TypeId} {base : Nat} (h : w.ownsRow base e 1 (.slice ao n cap) n xs) : Rd w.heap.size w ao n cap xs := by
  have h0 := h.1
  rcases h.2 with ⟨e1, rfl⟩ | ⟨g, cap', cur, e1, hb, hg, hn, hc, hs, ht⟩
  · cases e1
    have : xs = [] := List.eq_nil_of_length_eq_zero (by omega)
    subst this
    exact Rd.nil _ _
  · cases e1
    refine ⟨by omega, hn, hc, by simp, .inr ⟨g, 0, rfl, (Array.getElem?_eq_some_iff.1 hg).1, ?_⟩⟩
    intro j u hj
    have := h.cells (g := g) rfl j u hj
    rwa [show (⟨g, 0, none⟩ : Addr).add j = ⟨g, 0 + j, none⟩ from by unfold Addr.add; split <;> simp_all] at this

/-- the block of what is owned is not one whose cells are of another type, nor one below base -/
theorem ownsRow.apart {e e' : TypeId} {v : Value} {base b : Nat} {cs : Array Value} {fr : Nat × Nat} (h : w.ownsRow base e 1 v n xs) (hb : b < base ∨ (w.heap[b]? = some (.cells cs e' fr) ∧ e' ≠ e)) : some b ≠ v.ownBlock := by
  intro hv
  rcases h.2 with ⟨rfl, _⟩ | ⟨g, cap, cur, rfl, hbg, hg, _⟩
  · simp [Value.ownBlock] at hv
  · simp [Value.ownBlock] at hv
    subst hv
    rcases hb with hb | ⟨hb, hne⟩
    · omega
    · rw [hg] at hb
      simp at hb
      exact hne hb.2.1.symm
end

/-- append of whatever source onto a row of one's own: the run, and where the row lies then -/
theorem run_append_src2 {P : Program} (w : World) (base : Nat) (t tx ty e : TypeId) (i : TypeInfo) (z : Value) (ht : P.underlying t = some (.slice e)) (hi : P.info? e = some i) (hz : i.zero = some z)
    (hsize : i.size = 1) (hby : 1 ≤ i.bytes) (hzs : z.cells.size = 1)
    (v : Value) (n : Nat) (xs : List Value) (hown : w.ownsRow base e 1 v n xs)
    (x : Value) (m : Nat) (news : List Value) (hs : Src P 1 tx x m news w)
    (hbytes : (n + m) * i.bytes ≤ 140737488355328) (hbase : base ≤ w.heap.size) :
    ∃ ao cap w', (Builtin.append_ #[t, tx] ty #[v, x]).run P w = .ok (.slice ao (n + m) cap) w' ∧ w'.ownsRow base e 1 (.slice ao (n + m) cap) (n + m) (xs ++ news) ∧ w.grownBy w' v.ownBlock ∧ ∀ k, Value.ownBlock (.slice ao (n + m) cap) = some k → v.ownBlock = some k ∨ w.heap.size ≤ k := by
  have hnm : n + m ≤ (n + m) * i.bytes := Nat.le_mul_of_pos_right _ hby
  have h63 : n + m ≤ maxLen := by simp only [maxLen]; omega
  have hl : news.length = m := by have := hs.newsLen; omega
  have hlen : (xs ++ news).length = (n + m) * 1 := by rw [List.length_append, hown.1, hl]; omega
  have hs' : Src P i.size tx x m news w := by rw [hsize]; exact hs
  have grown : ∀ (old : Nat), old < n + m → ∀ (row : Option Nat),
      (w.drew.alloc (.cells ((xs ++ news).toArray ++ Builtin.zeroCells z.cells (grownCap w (n + m) old e - (n + m))) e)).ownsRow base e 1
        (.slice (some ⟨w.heap.size, 0, none⟩) (n + m) (grownCap w (n + m) old e)) (n + m) (xs ++ news) ∧
      w.grownBy (w.drew.alloc (.cells ((xs ++ news).toArray ++ Builtin.zeroCells z.cells (grownCap w (n + m) old e - (n + m))) e)) row := by
    intro old ho row
    have hge := grownCap_ge w (n + m) old e
    have hcm : grownCap w (n + m) old e ≤ maxLen := grownCap_le_maxLen w (n + m) old e h63
    refine ⟨⟨hlen, .inr ⟨w.heap.size, _, _, rfl, hbase, heap_alloc_new w.drew _, hge, hcm, ?_, ?_⟩⟩, ⟨rfl, rfl, rfl, by simp, fun k hk _ => Below.heap_alloc w.drew _ k hk⟩⟩
    · simp only [Array.size_append, List.size_toArray, size_zeroCells, hzs]
      omega
    · simp only [Array.toList_append]
      rw [← hlen]
      exact List.take_left
  have zero : m = 0 → news = [] := fun h => List.eq_nil_of_length_eq_zero (by omega)
  rcases hown.2 with ⟨rfl, rfl⟩ | ⟨g, cap, cur, rfl, hbg, hg, hnc, hcm, hcs, htake⟩
  · have hx : xs = [] := List.eq_nil_of_length_eq_zero (by simpa using hown.1)
    subst hx
    by_cases hm : m = 0
    · have hn := zero hm
      subst hm; subst hn
      refine ⟨none, 0, w, ?_, World.ownsRow_nil w base e 1, ⟨rfl, rfl, rfl, Nat.le_refl _, fun _ _ _ => rfl⟩, fun k hk => by cases hk⟩
      have hc1 := hs.cells
      rcases hs.kind with ⟨e', hk⟩ | hk <;>
        simp [Builtin.append_, run_underlying ht, run_underlying hk, sizeOf, typeInfo, hi, hs.len, hc1, hsize]
    · have hr := run_append_grow_src (P := P) w t tx ty e i z ht hi hz none 0 0 [] (by simp [Builtin.firstCells]) x m news hs' (by omega) (by simp only [maxLen] at h63; omega) (growslice_fits (by omega) hbytes)
      have hgr := grown 0 (by omega) (Value.ownBlock (.slice none 0 0))
      exact ⟨_, _, _, hr, hgr.1, hgr.2, fun k hk => .inr (by simp [Value.ownBlock] at hk; omega)⟩
  · by_cases hroom : n + m ≤ cap
    · have hcell : ∀ j, j < cur.size → w.cell? ⟨g, j, none⟩ = cur[j]? := fun j hj => by
        rw [cell_of_row w g j cur e (0, 0) hg]
      by_cases hm : m = 0
      · have hn := zero hm
        subst hm; subst hn
        have hr := run_append_room_src (P := P) w t tx ty e i ht hi g 0 n cap x 0 [] hs' hroom (by simp) (by simp)
        refine ⟨_, _, _, hr, ?_, ?_, fun k hk => .inl hk⟩
        · simpa [World.setCells] using hown
        · simp only [World.setCells]
          exact ⟨rfl, rfl, rfl, Nat.le_refl _, fun _ _ _ => rfl⟩
      · obtain ⟨v', w', hr, h2, h3, h4⟩ : ∃ v' w', (Builtin.append_ #[t, tx] ty #[.slice (some ⟨g, 0, none⟩) n cap, x]).run P w = .ok v' w' ∧ v' = .slice (some ⟨g, 0, none⟩) (n + m) cap ∧ w' = w.setRow g (xs ++ news ++ cur.toList.drop (n + news.length)).toArray ∧ True := by
          have hf := hs'.cells
          have hst := run_storeCells_at P g n e news 0 cur w hg (by omega) hs.one
          simp only [Nat.add_zero] at hst
          refine ⟨_, _, ?_, rfl, rfl, trivial⟩
          have htk : List.take n cur.toList = xs := by rw [← htake]; simp
          rcases hs.kind with ⟨e', hk⟩ | hk <;>
            simp [Builtin.append_, run_underlying ht, run_underlying hk, sizeOf, typeInfo, hi, hs.len, hroom, hs.cells, Addr.add_lit, hst, hsize, htk]
        subst h2; subst h3
        refine ⟨_, _, _, hr, ⟨hlen, .inr ⟨g, cap, _, rfl, hbg, setRow_heap w g cur _ e _ hg, hroom, hcm, ?_, ?_⟩⟩, ⟨rfl, rfl, rfl, by simp, fun k _ hk => setRow_other w g k _ (fun e => hk (by simp [Value.ownBlock, e]))⟩, fun k hk => .inl hk⟩
        · have h1 := hown.1
          simp only [List.size_toArray, List.length_append, List.length_drop, Array.length_toList]
          omega
        · rw [← hlen]
          exact List.take_left
    · have holds : ∀ j u, xs[j]? = some u → w.cell? ((⟨g, 0, none⟩ : Addr).add j) = some u := hown.cells (g := g) rfl
      have hold := run_firstCells_some (P := P) w.drew i.size n ⟨g, 0, none⟩ n cap xs (by rw [hsize]; exact hown.1) (by simpa using holds)
      have hr := run_append_grow_src (P := P) w t tx ty e i z ht hi hz (some ⟨g, 0, none⟩) n cap xs hold x m news hs' (by omega) (by simp only [maxLen] at h63; omega) (growslice_fits (by omega) hbytes)
      have hgr := grown cap (by omega) (Value.ownBlock (.slice (some ⟨g, 0, none⟩) n cap))
      exact ⟨_, _, _, hr, hgr.1, hgr.2, fun k hk => .inr (by simp [Value.ownBlock] at hk; omega)⟩

/-- append of whatever source onto a row of one's own: the run -/
theorem run_append_src {P : Program} (w : World) (base : Nat) (t tx ty e : TypeId) (i : TypeInfo) (z : Value) (ht : P.underlying t = some (.slice e)) (hi : P.info? e = some i) (hz : i.zero = some z)
    (hsize : i.size = 1) (hby : 1 ≤ i.bytes) (hzs : z.cells.size = 1)
    (v : Value) (n : Nat) (xs : List Value) (hown : w.ownsRow base e 1 v n xs)
    (x : Value) (m : Nat) (news : List Value) (hs : Src P 1 tx x m news w)
    (hbytes : (n + m) * i.bytes ≤ 140737488355328) (hbase : base ≤ w.heap.size) :
    ∃ ao cap w', (Builtin.append_ #[t, tx] ty #[v, x]).run P w = .ok (.slice ao (n + m) cap) w' ∧ w'.ownsRow base e 1 (.slice ao (n + m) cap) (n + m) (xs ++ news) ∧ w.grownBy w' v.ownBlock := by
  obtain ⟨ao, cap, w', h1, h2, h3, _⟩ := run_append_src2 (P := P) w base t tx ty e i z ht hi hz hsize hby hzs v n xs hown x m news hs hbytes hbase
  exact ⟨ao, cap, w', h1, h2, h3⟩

/-- append of whatever source onto a row of one's own: the law at the call -/
theorem wpList_app {P : Program} {w : World} {ops : Array Oper} {rest : List Oper} {o : Oper} {a : Act} {Q : Exit → Act → World → Prop} (hgd : o.guard = none) (s x : Operand) (t tx : TypeId)
    (ho : o.op = .call { callee := .builtin .append, args := #[s, x], argTypes := #[t, tx] })
    (base : Nat) (e : TypeId) (i : TypeInfo) (z : Value) (bytes : Nat) (ht : P.underlying t = some (.slice e)) (hi : P.info? e = some i) (hz : i.zero = some z)
    (hsize : i.size = 1) (hby : i.bytes = bytes) (hby1 : 1 ≤ bytes) (hzs : z.cells.size = 1)
    (v : Value) (n : Nat) (xs : List Value) (hs : a.eval s = v) (hown : w.ownsRow base e 1 v n xs)
    (xv : Value) (m : Nat) (news : List Value) (hx : a.eval x = xv) (hsrc : Src P 1 tx xv m news w)
    (hbytes : (n + m) * bytes ≤ 140737488355328) (hbase : base ≤ w.heap.size)
    (h : ∀ ao' cap' w', w'.ownsRow base e 1 (.slice ao' (n + m) cap') (n + m) (xs ++ news) → w.grownBy w' v.ownBlock → Below base w w' →
      wpList P ops Q rest (a.put o.dst (.slice ao' (n + m) cap')) w') : wpList P ops Q (o :: rest) a w := by
  subst hby
  obtain ⟨ao', cap', w', hr, h2, h3⟩ := run_append_src (P := P) w base t tx o.type e i z ht hi hz hsize hby1 hzs v n xs hown xv m news hsrc hbytes hbase
  refine wpList_plain hgd fun _ hK => ?_
  unfold Oper.wp execOp
  simp only [ho, resolve, invoke, builtin, Sem.run_bind, Sem.run_pure, Result.andThen_ok, List.map_toArray, List.map_cons, List.map_nil, hs, hx, hr]
  exact hK _ _ (h ao' cap' w' h2 h3 ((Below.refl base w).grown h3 hbase fun k hk => (hown.lt k hk).1))

/-- append of whatever source onto a row of one's own: the law at the call, and where the row lies then -/
theorem wpList_app2 {P : Program} {w : World} {ops : Array Oper} {rest : List Oper} {o : Oper} {a : Act} {Q : Exit → Act → World → Prop} (hgd : o.guard = none) (s x : Operand) (t tx : TypeId)
    (ho : o.op = .call { callee := .builtin .append, args := #[s, x], argTypes := #[t, tx] })
    (base : Nat) (e : TypeId) (i : TypeInfo) (z : Value) (bytes : Nat) (ht : P.underlying t = some (.slice e)) (hi : P.info? e = some i) (hz : i.zero = some z)
    (hsize : i.size = 1) (hby : i.bytes = bytes) (hby1 : 1 ≤ bytes) (hzs : z.cells.size = 1)
    (v : Value) (n : Nat) (xs : List Value) (hs : a.eval s = v) (hown : w.ownsRow base e 1 v n xs)
    (xv : Value) (m : Nat) (news : List Value) (hx : a.eval x = xv) (hsrc : Src P 1 tx xv m news w)
    (hbytes : (n + m) * bytes ≤ 140737488355328) (hbase : base ≤ w.heap.size)
    (h : ∀ ao' cap' w', w'.ownsRow base e 1 (.slice ao' (n + m) cap') (n + m) (xs ++ news) → w.grownBy w' v.ownBlock → Below base w w' → (∀ k, Value.ownBlock (.slice ao' (n + m) cap') = some k → v.ownBlock = some k ∨ w.heap.size ≤ k) →
      wpList P ops Q rest (a.put o.dst (.slice ao' (n + m) cap')) w') : wpList P ops Q (o :: rest) a w := by
  subst hby
  obtain ⟨ao', cap', w', hr, h2, h3, h4⟩ := run_append_src2 (P := P) w base t tx o.type e i z ht hi hz hsize hby1 hzs v n xs hown xv m news hsrc hbytes hbase
  refine wpList_plain hgd fun _ hK => ?_
  unfold Oper.wp execOp
  simp only [ho, resolve, invoke, builtin, Sem.run_bind, Sem.run_pure, Result.andThen_ok, List.map_toArray, List.map_cons, List.map_nil, hs, hx, hr]
  exact hK _ _ (h ao' cap' w' h2 h3 ((Below.refl base w).grown h3 hbase fun k hk => (hown.lt k hk).1) h4)

end Go.Proofs.Ytodgcfmacmfcpaa
