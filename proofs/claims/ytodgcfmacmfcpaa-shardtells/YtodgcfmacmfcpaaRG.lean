/- Slices whose elements are c cells each. -/
import Derived.Test.YtodgcfmacmfcpaaGA
namespace Go.Proofs.Ytodgcfmacmfcpaa
open Go.RowKit

/-- the slice reads as a list, each element being c cells that Q says of -/
def RdG {α : Type} (c : Nat) (Q : Nat → World → List Value → α → Prop) (B : Nat) (w : World) (ao : Option Addr) (n cap : Nat) (xs : List α) : Prop :=
  xs.length = n ∧ n ≤ cap ∧ cap ≤ maxLen ∧ (ao = none → cap = 0) ∧
  (xs = [] ∨ ∃ b off, ao = some ⟨b, off, none⟩ ∧ b < B ∧ ∀ k x, xs[k]? = some x → ∃ cs : List Value, cs.length = c ∧ Q B w cs x ∧ ∀ j u, cs[j]? = some u → w.cell? ⟨b, off + k * c + j, none⟩ = some u)
theorem RdG.later {α : Type} {c : Nat} {Q : Nat → World → List Value → α → Prop} {B : Nat} {w w' : World} {ao : Option Addr} {n cap : Nat} {xs : List α} (h : RdG c Q B w ao n cap xs) (hb : Below B w w') (hQ : ∀ cs x, Q B w cs x → Q B w' cs x) : RdG c Q B w' ao n cap xs := by
  obtain ⟨h1, h2, h3, h4, h5⟩ := h
  refine ⟨h1, h2, h3, h4, ?_⟩
  rcases h5 with h5 | ⟨b, off, e1, e2, e3⟩
  · exact .inl h5
  · refine .inr ⟨b, off, e1, e2, fun k x hk => ?_⟩
    obtain ⟨cs, g1, g2, g3⟩ := e3 k x hk
    exact ⟨cs, g1, hQ cs x g2, fun j u hj => (hb.cell (p := ⟨b, off + k * c + j, none⟩) e2).trans (g3 j u hj)⟩
theorem RdG.atSome {α : Type} {c : Nat} {Q : Nat → World → List Value → α → Prop} {B : Nat} {w : World} {ao : Option Addr} {n cap : Nat} {xs : List α} (h : RdG c Q B w ao n cap xs) (hn : 0 < n) :
    ∃ b off, ao = some ⟨b, off, none⟩ ∧ b < B ∧ ∀ k x, xs[k]? = some x → ∃ cs : List Value, cs.length = c ∧ Q B w cs x ∧ ∀ j u, cs[j]? = some u → w.cell? ⟨b, off + k * c + j, none⟩ = some u := by
  obtain ⟨g1, g2, g3, g4, g5⟩ := h
  rcases g5 with rfl | h5
  · simp at g1; omega
  · exact h5
/-- a raw operation -/
structure RawO where
  kind : Int
  key : Int
  value : Int
  old : Int
  client : Int
  seq : Int
  bend : Int
  text : ByteArray
def RawO.Q (_ : Nat) (_ : World) (cs : List Value) (x : RawO) : Prop :=
  cs = [.int .i64 x.kind, .int .i64 x.key, .int .i64 x.value, .int .i64 x.old, .int .i64 x.client, .int .i64 x.seq, .int .i64 x.bend, .string x.text] ∧ (Lit.int .i64 x.kind).wf = true ∧ (Lit.int .i64 x.key).wf = true ∧ (Lit.int .i64 x.value).wf = true ∧ (Lit.int .i64 x.old).wf = true ∧ (Lit.int .i64 x.client).wf = true ∧ (Lit.int .i64 x.seq).wf = true ∧ (Lit.int .i64 x.bend).wf = true ∧ x.text.size ≤ maxLen
end Go.Proofs.Ytodgcfmacmfcpaa
