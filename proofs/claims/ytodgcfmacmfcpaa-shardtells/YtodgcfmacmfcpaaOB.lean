/- Objects and what they own: worlds that differ in a set of blocks alone ('Only'), slices that read as lists and lie in a set of blocks ('RdP', 'RdLP', 'RdLLP'). -/
import Derived.Test.YtodgcfmacmfcpaaGA
namespace Go.Proofs.Ytodgcfmacmfcpaa
open Go.RowKit

theorem below_undrew {B : Nat} {w w' : World} (h : Below B w.drew w') : Below B w w' := ⟨h.os, h.tape, h.output, h.size, h.block⟩
/-- w' is as w was, but for blocks of S, and new ones -/
structure Only (S : Nat → Prop) (w w' : World) : Prop where
  os : w'.os = w.os
  tape : w'.tape = w.tape
  output : w'.output = w.output
  size : w.heap.size ≤ w'.heap.size
  block : ∀ k, k < w.heap.size → ¬ S k → w'.heap[k]? = w.heap[k]?

section
variable {S S1 T : Nat → Prop} {w w1 w2 w' : World} {B : Nat}
theorem Only.refl (S : Nat → Prop) (w : World) : Only S w w := ⟨rfl, rfl, rfl, Nat.le_refl _, fun _ _ _ => rfl⟩
/-- a second step, that turns blocks of the same set, or such as were new -/
theorem Only.step (h : Only S w w1) (k : Only S1 w1 w2) (hs : ∀ i, i < w.heap.size → S1 i → S i) : Only S w w2 :=
  ⟨k.os.trans h.os, k.tape.trans h.tape, k.output.trans h.output, Nat.le_trans h.size k.size,
    fun i hi hn => (k.block i (Nat.lt_of_lt_of_le hi h.size) (fun x => hn (hs i hi x))).trans (h.block i hi hn)⟩
theorem Only.trans (h : Only S w w1) (k : Only S w1 w2) : Only S w w2 := h.step k fun _ _ x => x
theorem Only.mono (h : Only S w w') (hs : ∀ i, S i → T i) : Only T w w' := ⟨h.os, h.tape, h.output, h.size, fun k hk hn => h.block k hk fun x => hn (hs k x)⟩
theorem Only.of_below (S : Nat → Prop) (h : Below w.heap.size w w') : Only S w w' := ⟨h.os, h.tape, h.output, h.size, fun k hk _ => h.block k hk⟩
theorem Only.below (h : Only S w w') (hs : ∀ i, S i → B ≤ i) (hB : B ≤ w.heap.size) : Below B w w' :=
  ⟨h.os, h.tape, h.output, h.size, fun k hk => h.block k (by omega) fun x => by have := hs k x; omega⟩
theorem Only.of_grown {row : Option Nat} (h : w.grownBy w' row) (hr : ∀ k, row = some k → S k) : Only S w w' :=
  ⟨h.os, h.tape, h.output, h.size, fun k hk hn => h.block k hk fun e => hn (hr k e.symm)⟩
theorem Only.of_set (w : World) (p : Addr) (u : Value) (hp : S p.block) : Only S w (w.setCell p u) :=
  ⟨rfl, rfl, rfl, by simp [World.setCell], fun k _ hn => Below.heap_setCell _ _ _ _ fun e => hn (e ▸ hp)⟩
theorem Only.of_alloc (S : Nat → Prop) (w : World) (o : Obj) : Only S w (w.alloc o) := Only.of_below S ((Below.refl _ _).alloc (Nat.le_refl _) o)
theorem Only.of_drew (S : Nat → Prop) (w : World) : Only S w w.drew := Only.of_below S (Below.refl _ _).drew

/-- a row stays, whose block is not of the set -/
theorem own_only {e : TypeId} {b n : Nat} {v : Value} {xs : List Value} (h : w.ownsRow b e 1 v n xs) (ho : Only S w w') (hn : ∀ g, v.ownBlock = some g → ¬ S g) : w'.ownsRow b e 1 v n xs := by
  refine ⟨h.1, ?_⟩
  rcases h.2 with hz | ⟨g, cap, cur, rfl, hb, hgg, rest⟩
  · exact .inl hz
  · exact .inr ⟨g, cap, cur, rfl, hb, (ho.block g (Array.getElem?_eq_some_iff.1 hgg).1 (hn g rfl)).trans hgg, rest⟩
/-- the first ones of a row -/
theorem own_till {e : TypeId} {b n c : Nat} {ao : Option Addr} {xs : List Value} (h : w.ownsRow b e 1 (.slice ao n c) n xs) (k : Nat) (hk : k ≤ n) : w.ownsRow b e 1 (.slice ao k c) k (xs.take k) := by
  have h1 := h.1
  refine ⟨by simp; omega, ?_⟩
  rcases h.2 with ⟨e1, rfl⟩ | ⟨g, cap, cur, e1, hb, hgg, hn, hc, hs, ht⟩
  · cases e1
    obtain rfl : k = 0 := by omega
    exact .inl ⟨rfl, rfl⟩
  · cases e1
    refine .inr ⟨g, c, cur, rfl, hb, hgg, by omega, hc, hs, ?_⟩
    rw [← ht, List.take_take]
    congr 1
    omega
end

/-- In w the slice reads as the cells xs; they lie in a block of A. -/
def RdP (A : Nat → Prop) (w : World) (ao : Option Addr) (n cap : Nat) (xs : List Value) : Prop :=
  Rd w.heap.size w ao n cap xs ∧ ∀ a, ao = some a → xs ≠ [] → A a.block
section
variable {A A' S : Nat → Prop} {w w' : World} {ao : Option Addr} {n cap : Nat} {xs : List Value} {B : Nat}
theorem RdP.nil (A : Nat → Prop) (w : World) : RdP A w none 0 0 [] := ⟨Rd.nil _ _, fun _ h => by cases h⟩
theorem RdP.rd (h : RdP A w ao n cap xs) : Rd w.heap.size w ao n cap xs := h.1
theorem RdP.mono (h : RdP A w ao n cap xs) (ha : ∀ i, i < w.heap.size → A i → A' i) : RdP A' w ao n cap xs := by
  refine ⟨h.1, fun a e hx => ha _ ?_ (h.2 a e hx)⟩
  rcases h.1.2.2.2.2 with h0 | ⟨b, off, e1, e2, _⟩
  · exact absurd h0 hx
  · rw [e] at e1; cases e1; exact e2
theorem RdP.only (h : RdP A w ao n cap xs) (ho : Only S w w') (hd : ∀ i, A i → ¬ S i) : RdP A w' ao n cap xs := by
  obtain ⟨⟨h1, h2, h3, h4, h5⟩, ha⟩ := h
  refine ⟨⟨h1, h2, h3, h4, ?_⟩, ha⟩
  rcases h5 with h5 | ⟨b, off, e1, e2, e3⟩
  · exact .inl h5
  · by_cases hx : xs = []
    · exact .inl hx
    · refine .inr ⟨b, off, e1, Nat.lt_of_lt_of_le e2 ho.size, fun j u hj => ?_⟩
      rw [World.cell?_of_block (w := w) (a := ⟨b, off + j, none⟩) (ho.block b e2 (hd _ (ha _ e1 hx)))]
      exact e3 j u hj
theorem RdP.below (h : RdP A w ao n cap xs) (hb : Below w.heap.size w w') : RdP A w' ao n cap xs := h.only (S := fun _ => False) (Only.of_below _ hb) fun _ _ => id
theorem Rd.inP (h : Rd B w ao n cap xs) (ha : ∀ i, i < B → A i) : RdP A w ao n cap xs := by
  refine ⟨h.here, fun a e hx => ?_⟩
  rcases h.2.2.2.2 with h0 | ⟨b, off, e1, e2, _⟩
  · exact absurd h0 hx
  · rw [e] at e1; cases e1; exact ha _ e2
theorem ownsRow.rdP {e : TypeId} (h : w.ownsRow B e 1 (.slice ao n cap) n xs) (ha : ∀ i, B ≤ i → i < w.heap.size → A i) : RdP A w ao n cap xs := by
  refine ⟨ownsRow.rd h, fun a e hx => ?_⟩
  subst e
  exact ha _ (h.lt a.block rfl).1 (h.lt a.block rfl).2
theorem RdP.atSome (h : RdP A w ao n cap xs) (hn : 0 < n) : ∃ b off, ao = some ⟨b, off, none⟩ ∧ b < w.heap.size ∧ A b ∧ ∀ j u, xs[j]? = some u → w.cell? ⟨b, off + j, none⟩ = some u := by
  obtain ⟨b, off, e, hb, hc⟩ := h.1.atSome hn
  refine ⟨b, off, e, hb, h.2 _ e ?_, hc⟩
  intro hx
  have := h.1.1
  rw [hx] at this
  simp at this
  omega
theorem RdP.till (h : RdP A w ao n cap xs) (k : Nat) (hk : k ≤ n) : RdP A w ao k cap (xs.take k) :=
  ⟨h.1.till k hk, fun a e hx => h.2 a e (by rintro rfl; simp at hx)⟩
end

end Go.Proofs.Ytodgcfmacmfcpaa
