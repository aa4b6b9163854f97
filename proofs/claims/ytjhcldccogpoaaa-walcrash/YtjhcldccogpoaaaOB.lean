/- Objects and what they own: worlds that differ in a set of blocks alone ('Only'), slices that read as lists and lie in a set of blocks ('RdP', 'RdLP', 'RdLLP'). -/
import Derived.Test.YtjhcldccogpoaaaGA
namespace Go.Proofs.Ytjhcldccogpoaaa
open Go.RowKit

theorem below_undrew {B : Nat} {w w' : World} (h : Below B w.drew w') : Below B w w' := ⟨h.os, h.tape, h.output, h.size, h.block⟩
/-- w' is as w was, but for blocks of S, and new ones -/
structure Only (S : Nat → Prop) (w w' : World) : Prop where
  os : w'.os = w.os
  tape : w'.tape = w.tape
  output : w'.output = w.output
  size : w.heap.size ≤ w'.heap.size
  block : ∀ k, k < w.heap.size → ¬ S k → w'.heap[k]? = w.heap[k]?

section
variable {S S1 T : Nat → Prop} {w w1 w2 w' : World} {B : Nat}
theorem Only.refl (S : Nat → Prop) (w : World) : Only S w w := ⟨rfl, rfl, rfl, Nat.le_refl _, fun _ _ _ => rfl⟩
/-- a second step, that turns blocks of the same set, or such as were new -/
theorem Only.step (h : Only S w w1) (k : Only S1 w1 w2) (hs : ∀ i, i < w.heap.size → S1 i → S i) : Only S w w2 :=
  ⟨k.os.trans h.os, k.tape.trans h.tape, k.output.trans h.output, Nat.le_trans h.size k.size,
    fun i hi hn => (k.block i (Nat.lt_of_lt_of_le hi h.size) (fun x => hn (hs i hi x))).trans (h.block i hi hn)⟩
theorem Only.trans (h : Only S w w1) (k : Only S w1 w2) : Only S w w2 := h.step k fun _ _ x => x
theorem Only.mono (h : Only S w w') (hs : ∀ i, S i → T i) : Only T w w' := ⟨h.os, h.tape, h.output, h.size, fun k hk hn => h.block k hk fun x => hn (hs k x)⟩
theorem Only.of_below (S : Nat → Prop) (h : Below w.heap.size w w') : Only S w w' := ⟨h.os, h.tape, h.output, h.size, fun k hk _ => h.block k hk⟩
theorem Only.below (h : Only S w w') (hs : ∀ i, S i → B ≤ i) (hB : B ≤ w.heap.size) : Below B w w' :=
  ⟨h.os, h.tape, h.output, h.size, fun k hk => h.block k (by omega) fun x => by have := hs k x; omega⟩
theorem Only.of_grown {row : Option Nat} (h : w.grownBy w' row) (hr : ∀ k, row = some k → S k) : Only S w w' :=
  ⟨h.os, h.tape, h.output, h.size, fun k hk hn => h.block k hk fun e => hn (hr k e.symm)⟩
theorem Only.of_set (w : World) (p : Addr) (u : Value) (hp : S p.block) : Only S w (w.setCell p u) :=
  ⟨rfl, rfl, rfl, by simp [World.setCell], fun k _ hn => Below.heap_setCell _ _ _ _ fun e => hn (e ▸ hp)⟩
theorem Only.of_alloc (S : Nat → Prop) (w : World) (o : Obj) : Only S w (w.alloc o) := Only.of_below S ((Below.refl _ _).alloc (Nat.le_refl _) o)
theorem Only.of_drew (S : Nat → Prop) (w : World) : Only S w w.drew := Only.of_below S (Below.refl _ _).drew

/-- a row stays, whose block is not of the set -/
theorem own_only {e : TypeId} {b n : Nat} {v : Value} {xs : List Value} (h : w.ownsRow b e 1 v n xs) (ho : Only S w w') (hn : ∀ g, v.ownBlock = some g → ¬ S g) : w'.ownsRow b e 1 v n xs := by
  refine ⟨h.1, ?_⟩
  rcases h.2 with hz | ⟨g, cap, cur, rfl, hb, hgg, rest⟩
  · exact .inl hz
  · exact .inr ⟨g, cap, cur, rfl, hb, (ho.block g (Array.getElem?_eq_some_iff.1 hgg).1 (hn g rfl)).trans hgg, rest⟩
/-- the first ones of a row -/
theorem own_till {e : TypeId} {b n c : Nat} {ao : Option Addr} {xs : List Value} (h : w.ownsRow b e 1 (.slice ao n c) n xs) (k : Nat) (hk : k ≤ n) : w.ownsRow b e 1 (.slice ao k c) k (xs.take k) := by
  have h1 := h.1
  refine ⟨by simp; omega, ?_⟩
  rcases h.2 with ⟨e1, rfl⟩ | ⟨g, cap, cur, e1, hb, hgg, hn, hc, hs, ht⟩
  · cases e1
    obtain rfl : k = 0 := by omega
    exact .inl ⟨rfl, rfl⟩
  · cases e1
    refine .inr ⟨g, c, cur, rfl, hb, hgg, by omega, hc, hs, ?_⟩
    rw [← ht, List.take_take]
    congr 1
    omega
end

/-- In w the slice reads as the cells xs; they lie in a block of A. -/
def RdP (A : Nat → Prop) (w : World) (ao : Option Addr) (n cap : Nat) (xs : List Value) : Prop :=
  Rd w.heap.size w ao n cap xs ∧ ∀ a, ao = some a → xs ≠ [] → A a.block
section
variable {A A' S : Nat → Prop} {w w' : World} {ao : Option Addr} {n cap : Nat} {xs : List Value} {B : Nat}
theorem RdP.nil (A : Nat → Prop) (w : World) : RdP A w none 0 0 [] := ⟨Rd.nil _ _, fun _ h => by cases h⟩
theorem RdP.rd (h : RdP A w ao n cap xs) : Rd w.heap.size w ao n cap xs := h.1
theorem RdP.mono (h : RdP A w ao n cap xs) (ha : ∀ i, i < w.heap.size → A i → A' i) : RdP A' w ao n cap xs := by
  refine ⟨h.1, fun a e hx => ha _ ?_ (h.2 a e hx)⟩
  rcases h.1.2.2.2.2 with h0 | ⟨b, off, e1, e2, _⟩
  · exact absurd h0 hx
  · rw [e] at e1; cases e1; exact e2
theorem RdP.only (h : RdP A w ao n cap xs) (ho : Only S w w') (hd : ∀ i, A i → ¬ S i) : RdP A w' ao n cap xs := by
  obtain ⟨⟨h1, h2, h3, h4, h5⟩, ha⟩ := h
  refine ⟨⟨h1, h2, h3, h4, ?_⟩, ha⟩
  rcases h5 with h5 | ⟨b, off, e1, e2, e3⟩
  · exact .inl h5
  · by_cases hx : xs = []
    · exact .inl hx
    · refine .inr ⟨b, off, e1, Nat.lt_of_lt_of_le e2 ho.size, fun j u hj => ?_⟩
      rw [World.cell?_of_block (w := w) (a := ⟨b, off + j, none⟩) (ho.block b e2 (hd _ (ha _ e1 hx)))]
      exact e3 j u hj
theorem RdP.below (h : RdP A w ao n cap xs) (hb : Below w.heap.size w w') : RdP A w' ao n cap xs := h.only (S := fun _ => False) (Only.of_below _ hb) fun _ _ => id
theorem Rd.inP (h : Rd B w ao n cap xs) (ha : ∀ i, i < B → A i) : RdP A w ao n cap xs := by
  refine ⟨h.here, fun a e hx => ?_⟩
  rcases h.2.2.2.2 with h0 | ⟨b, off, e1, e2, _⟩
  · exact absurd h0 hx
  · rw [e] at e1; cases e1; exact ha _ e2
theorem ownsRow.rdP {e : TypeId} (h : w.ownsRow B e 1 (.slice ao n cap) n xs) (ha : ∀ i, B ≤ i → i < w.heap.size → A i) : RdP A w ao n cap xs := by
  refine ⟨ownsRow.rd h, fun a e hx => ?_⟩
  subst e
  exact ha _ (h.lt a.block rfl).1 (h.lt a.block rfl).2
theorem RdP.atSome (h : RdP A w ao n cap xs) (hn : 0 < n) : ∃ b off, ao = some ⟨b, off, none⟩ ∧ b < w.heap.size ∧ A b ∧ ∀ j u, xs[j]? = some u → w.cell? ⟨b, off + j, none⟩ = some u := by
  obtain ⟨b, off, e, hb, hc⟩ := h.1.atSome hn
  refine ⟨b, off, e, hb, h.2 _ e ?_, hc⟩
  intro hx
  have := h.1.1
  rw [hx] at this
  simp at this
  omega
theorem RdP.till (h : RdP A w ao n cap xs) (k : Nat) (hk : k ≤ n) : RdP A w ao k cap (xs.take k) :=
  ⟨h.1.till k hk, fun a e hx => h.2 a e (by rintro rfl; simp at hx)⟩
end

/-- each of the values is a slice of bytes that reads as its list, in A -/
def RdLP (A : Nat → Prop) (w : World) (vs : List Value) (ls : List (List UInt8)) : Prop :=
  vs.length = ls.length ∧ ∀ (k : Nat) (v : Value) (l : List UInt8), vs[k]? = some v → ls[k]? = some l → ∃ (ao : Option Addr) (cap : Nat), v = Value.slice ao l.length cap ∧ RdP A w ao l.length cap (Bs l)
/-- the slice reads as a list of slices of bytes, all in A -/
def RdLLP (A : Nat → Prop) (w : World) (ao : Option Addr) (n cap : Nat) (ls : List (List UInt8)) : Prop := ∃ vs, RdP A w ao n cap vs ∧ RdLP A w vs ls
section
variable {A A' S : Nat → Prop} {w w' : World} {vs : List Value} {ls : List (List UInt8)} {ao : Option Addr} {n cap B : Nat} {v : Value}
theorem RdLP.nil (A : Nat → Prop) (w : World) : RdLP A w [] [] := ⟨rfl, by simp⟩
theorem RdLP.only (h : RdLP A w vs ls) (ho : Only S w w') (hd : ∀ i, A i → ¬ S i) : RdLP A w' vs ls :=
  ⟨h.1, fun k v l h1 h2 => by obtain ⟨ao, cap, e, r⟩ := h.2 k v l h1 h2; exact ⟨ao, cap, e, r.only ho hd⟩⟩
theorem RdLP.mono (h : RdLP A w vs ls) (ha : ∀ i, i < w.heap.size → A i → A' i) : RdLP A' w vs ls :=
  ⟨h.1, fun k v l h1 h2 => by obtain ⟨ao, cap, e, r⟩ := h.2 k v l h1 h2; exact ⟨ao, cap, e, r.mono ha⟩⟩
theorem RdLP.cons {l : List UInt8} {c : Nat} (hr : RdP A w ao l.length c (Bs l)) (h : RdLP A w vs ls) : RdLP A w (.slice ao l.length c :: vs) (l :: ls) := by
  refine ⟨by simp [h.1], ?_⟩
  intro k v l' h1 h2
  cases k with
  | zero => simp at h1 h2; subst h1; subst h2; exact ⟨ao, c, rfl, hr⟩
  | succ k => exact h.2 k v l' (by simpa using h1) (by simpa using h2)
theorem RdLLP.nil (A : Nat → Prop) (w : World) : RdLLP A w none 0 0 [] := ⟨[], RdP.nil _ _, RdLP.nil _ _⟩
theorem RdLLP.only (h : RdLLP A w ao n cap ls) (ho : Only S w w') (hd : ∀ i, A i → ¬ S i) : RdLLP A w' ao n cap ls := by
  obtain ⟨vs, h1, h2⟩ := h; exact ⟨vs, h1.only ho hd, h2.only ho hd⟩
theorem RdLLP.below (h : RdLLP A w ao n cap ls) (hb : Below w.heap.size w w') : RdLLP A w' ao n cap ls := h.only (S := fun _ => False) (Only.of_below _ hb) fun _ _ => id
theorem RdLLP.mono (h : RdLLP A w ao n cap ls) (ha : ∀ i, i < w.heap.size → A i → A' i) : RdLLP A' w ao n cap ls := by
  obtain ⟨vs, h1, h2⟩ := h; exact ⟨vs, h1.mono ha, h2.mono ha⟩
theorem RdLLP.len (h : RdLLP A w ao n cap ls) : ls.length = n := by
  obtain ⟨vs, h1, h2⟩ := h; rw [← h2.1]; exact h1.1.1
theorem RdLLP.caps (h : RdLLP A w ao n cap ls) : n ≤ cap ∧ cap ≤ maxLen := by
  obtain ⟨vs, h1, h2⟩ := h; exact ⟨h1.1.2.1, h1.1.2.2.1⟩
/-- the k-th of them -/
theorem RdLLP.at (h : RdLLP A w ao n cap ls) (hn : 0 < n) : ∃ b off, ao = some ⟨b, off, none⟩ ∧ b < w.heap.size ∧ A b ∧ ∀ (k : Nat) (l : List UInt8), ls[k]? = some l → ∃ (ao' : Option Addr) (cap' : Nat), w.cell? ⟨b, off + k, none⟩ = some (.slice ao' l.length cap') ∧ RdP A w ao' l.length cap' (Bs l) := by
  obtain ⟨vs, h1, h2⟩ := h
  obtain ⟨b, off, e, hb, hA, hc⟩ := h1.atSome hn
  refine ⟨b, off, e, hb, hA, ?_⟩
  intro k l hl
  have hk : k < vs.length := by rw [h2.1]; exact (List.getElem?_eq_some_iff.1 hl).1
  obtain ⟨ao', cap', e', r⟩ := h2.2 k _ l (List.getElem?_eq_getElem hk) hl
  refine ⟨ao', cap', ?_, r⟩
  rw [← e']
  exact hc k _ (List.getElem?_eq_getElem hk)
theorem RdLL.inP (h : RdLL B w ao n cap ls) (ha : ∀ i, i < B → A i) : RdLLP A w ao n cap ls := by
  obtain ⟨vs, h1, h2⟩ := h
  refine ⟨vs, h1.inP ha, h2.1, fun k v l h3 h4 => ?_⟩
  obtain ⟨ao, cap, e, r⟩ := h2.2 k v l h3 h4
  exact ⟨ao, cap, e, r.inP ha⟩
theorem OwnLL.rdP (h : OwnLL B w (.slice ao n cap) n ls) (ha : ∀ i, B ≤ i → i < w.heap.size → A i) : RdLLP A w ao n cap ls := by
  obtain ⟨vs, h1, h2⟩ := h
  refine ⟨vs, ownsRow.rdP h1 ha, h2.1, fun k v l h3 h4 => ?_⟩
  obtain ⟨ao, cap, e, r⟩ := h2.2 k v l h3 h4
  exact ⟨ao, cap, e, ownsRow.rdP r ha⟩
/-- slices that were just laid as a list -/
theorem RdLLP.of (A : Nat → Prop) (W : World) (vs : List Value) (ls : List (List UInt8)) (B : Nat) (hB : W.heap.size = B) (h : RdLP A W vs ls) (hm : vs.length ≤ 1000) (hA : A B) :
    RdLLP A (W.alloc (.cells vs.toArray 23)) (some ⟨B, 0, none⟩) vs.length vs.length ls := by
  subst hB
  exact ⟨vs, ⟨Rd.built W vs 23 (by unfold maxLen; omega), fun a e _ => by cases e; exact hA⟩, h.only (S := fun _ => False) (Only.of_alloc _ _ _) fun _ _ => id⟩
end
end Go.Proofs.Ytjhcldccogpoaaa
