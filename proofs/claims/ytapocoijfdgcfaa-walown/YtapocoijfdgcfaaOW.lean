/- Rows of bytes of one's own that are written. -/
import Derived.Test.YtapocoijfdgcfaaOB
namespace Go.Proofs.Ytapocoijfdgcfaa
open Go.RowKit

/-- rows of bytes of one's own, whatever bytes: their lengths, and that their blocks lie below T -/
def OwnN (base T : Nat) (w : World) (vs : List Value) (ls : List (List UInt8)) : Prop :=
  ∀ (i : Nat) (v : Value) (l : List UInt8), vs[i]? = some v → ls[i]? = some l → ∃ (ao : Option Addr) (cap : Nat) (l' : List UInt8), v = Value.slice ao l.length cap ∧ l'.length = l.length ∧ w.ownsRow base 5 1 v l.length (Bs l') ∧ ∀ g, v.ownBlock = some g → g < T
theorem OwnL.ownN {base : Nat} {w : World} {vs : List Value} {ls : List (List UInt8)} (h : OwnL base w vs ls) : OwnN base w.heap.size w vs ls := by
  intro i v l h1 h2
  obtain ⟨ao, cap, rfl, r⟩ := h.2 i v l h1 h2
  exact ⟨ao, cap, l, rfl, rfl, r, fun g hg => (r.lt g hg).2⟩
theorem OwnN.only {base T : Nat} {S : Nat → Prop} {w w' : World} {vs : List Value} {ls : List (List UInt8)} (h : OwnN base T w vs ls) (ho : Only S w w') (hd : ∀ i, base ≤ i → i < T → ¬ S i) : OwnN base T w' vs ls := by
  intro i v l h1 h2
  obtain ⟨ao, cap, l', rfl, e, r, hg⟩ := h i v l h1 h2
  exact ⟨ao, cap, l', rfl, e, own_only r ho fun g hv => hd g (r.lt g hv).1 (hg g hv), hg⟩
/-- one byte of one of them is written -/
theorem OwnN.store {base T : Nat} {w : World} {vs : List Value} {ls : List (List UInt8)} (h : OwnN base T w vs ls) (g k : Nat) (x : UInt8) : OwnN base T (w.setCell ⟨g, k, none⟩ (.int .u8 (x.toNat : Int))) vs ls := by
  intro i v l h1 h2
  obtain ⟨ao, cap, l', rfl, e, r, hg⟩ := h i v l h1 h2
  by_cases hv : Value.ownBlock (.slice ao l.length cap) = some g
  · rcases r.2 with ⟨e1, _⟩ | ⟨g', cap', cur, e1, _⟩
    · rw [e1] at hv; simp [Value.ownBlock] at hv
    · cases e1
      simp [Value.ownBlock] at hv
      subst hv
      have hst := (r.stored k (.int .u8 (x.toNat : Int))).1
      rw [Bs_set] at hst
      exact ⟨_, _, _, rfl, by simp [e], hst, hg⟩
  · refine ⟨ao, cap, l', rfl, e, r.kept (row := some g) (grown_set w g k _) (.inr hv), hg⟩
/-- a list of rows of one's own in [B, T), into which bytes are written, from w6 on -/
def InvW (B T : Nat) (w6 : World) (m : Value) (n : Nat) (vs : List Value) (R : List (List UInt8)) (wr : World) : Prop :=
  OwnN B T wr vs R ∧ wr.ownsRow B 28 1 m n vs ∧ Only (fun i => B ≤ i ∧ i < T) w6 wr
theorem InvW.store {B T n : Nat} {w6 wr : World} {m : Value} {vs : List Value} {R : List (List UInt8)} (h : InvW B T w6 m n vs R wr) (g t : Nat) (x : UInt8) (hg1 : B ≤ g) (hg2 : g < T) (hblk : ∃ cur fr, wr.heap[g]? = some (.cells cur 5 fr)) :
    InvW B T w6 m n vs R (wr.setCell ⟨g, t, none⟩ (.int .u8 (x.toNat : Int))) := by
  obtain ⟨cur, fr, hc⟩ := hblk
  have hg := grown_set wr g t (.int .u8 (x.toNat : Int))
  refine ⟨h.1.store g t x, h.2.1.kept hg (.inr ?_), h.2.2.trans (Only.of_set _ _ _ ⟨hg1, hg2⟩)⟩
  intro e
  exact ownsRow.apart h.2.1 (.inr ⟨hc, by decide⟩) e.symm
end Go.Proofs.Ytapocoijfdgcfaa
