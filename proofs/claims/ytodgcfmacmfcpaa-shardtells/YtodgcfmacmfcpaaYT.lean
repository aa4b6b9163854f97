/- ShardImage: what stands in memory. -/
import Derived.Test.YtodgcfmacmfcpaaYS
import Derived.Test.YtodgcfmacmfcpaaYG
import Derived.Test.YtodgcfmacmfcpaaRH
namespace Go.Proofs.Ytodgcfmacmfcpaa
open Go.RowKit

theorem PrA.wide {A A' : Nat → Prop} {w : World} {ao : Option Addr} {cap : Nat} {l : List Pr} (h : PrA A w ao cap l) (ha : ∀ i, i < w.heap.size → A i → A' i) : PrA A' w ao cap l :=
  ⟨h.1, h.2.1, fun hl => by obtain ⟨g, off, a, b, c, d⟩ := h.2.2 hl; exact ⟨g, off, a, b, ha g b c, d⟩⟩
/-- an image in block b, whose lists lie below block q -/
structure Xi (w : World) (b q : Nat) (id ep : Int) (ao : Option Addr) (cap : Nat) (T : List Pr) (bo : Option Addr) (cap2 : Nat) (S : List Se) (n m : Nat) : Prop where
  im : ImAt w b id ep (.slice ao n cap) (.slice bo m cap2)
  ps : PrA (fun i => i < q) w ao cap T
  xs : ArK seK (fun i => i < q) w bo cap2 S
  n : T.length = n
  m : S.length = m
  lt : b < q
section
variable {w w' : World} {b q : Nat} {id ep : Int} {ao bo : Option Addr} {cap cap2 n m : Nat} {T : List Pr} {S : List Se}
theorem Xi.below (h : Xi w b q id ep ao cap T bo cap2 S n m) (hb : Below w.heap.size w w') : Xi w' b q id ep ao cap T bo cap2 S n m := ⟨h.im.below hb, h.ps.below hb, h.xs.below hb, h.n, h.m, h.lt⟩
theorem Xi.only {R : Nat → Prop} (h : Xi w b q id ep ao cap T bo cap2 S n m) (o : Only R w w') (hd : ∀ i, R i → q ≤ i) : Xi w' b q id ep ao cap T bo cap2 S n m :=
  ⟨h.im.only o (fun e => by have := hd _ e; have := h.lt; omega), h.ps.only o (fun i h1 e => by have := hd _ e; omega), h.xs.only o (fun i h1 e => by have := hd _ e; omega), h.n, h.m, h.lt⟩
theorem Xi.rd (h : Xi w b q id ep ao cap T bo cap2 S n m) : RdI w ao cap T bo cap2 S := ⟨h.ps.rd, h.xs.mono fun _ _ _ => trivial⟩
theorem OwnI.xi {B : Nat} (h : OwnI B w ao cap T bo cap2 S) (hq : w.heap.size < q) (hn : T.length = n) (hm : S.length = m) : Xi (w.alloc (.cells #[.int .i64 id, .int .i64 ep, .slice ao n cap, .slice bo m cap2] 41)) w.heap.size q id ep ao cap T bo cap2 S n m :=
  ⟨alloc_new w _, (h.ps.prA.wide fun i h1 h2 => by omega).below (bel_al w _), (h.xs.arK.mono fun i h1 h2 => by omega).below (bel_al w _), hn, hm, hq⟩
end
/-- two shards alike, in blocks gs and gt -/
structure Dd (w0 w : World) (gs gt : Nat) (T : List Pr) (S : List Se) (id ep : Int) : Prop where
  s : ShO w gs 0 T S id ep
  t : ShO w gt 0 T S id ep
  bel : Below w0.heap.size w0 w
  b0 : w0.heap.size ≤ gs
  b1 : gs < gt
section
variable {w0 w w' : World} {gs gt : Nat} {T T' : List Pr} {S S' : List Se} {id ep : Int}
theorem Dd.below (h : Dd w0 w gs gt T S id ep) (hb : Below w.heap.size w w') : Dd w0 w' gs gt T S id ep := ⟨h.s.below hb, h.t.below hb, bel_call h.bel hb, h.b0, h.b1⟩
theorem Dd.wr {b : Nat} (h : Dd w0 w gs gt T S id ep) (o : Only (fun k => k = b) w w') (h1 : gs < b) (h2 : b ≠ gt) : Dd w0 w' gs gt T S id ep :=
  ⟨h.s.apart o (by omega), h.t.apart o (fun e => h2 e.symm), h.bel.trans (o.below (fun i e => by have := h.b0; omega) h.bel.size), h.b0, h.b1⟩
end
/-- a session's number is written, in a list of one's own -/
theorem OwnK.seqs {B : Nat} {w : World} {ao : Option Addr} {cap : Nat} {l : List Se} (h : OwnK seK B w ao cap l) {p : Nat} (hp : p < l.length) : ∃ b, ao = some ⟨b, 0, none⟩ ∧ B ≤ b ∧ b < w.heap.size ∧ (∃ u, w.cell? ⟨b, p * 4 + 1, none⟩ = some u) ∧ w.frozen? ⟨b, p * 4 + 1, none⟩ = false ∧
    ∀ v, OwnK seK B (w.setCell ⟨b, p * 4 + 1, none⟩ (.int .i64 v)) ao cap (l.set p ⟨l[p].cl, v, l[p].why, l[p].val⟩) := by
  obtain ⟨b, cur, rfl, h1, h2, h3, h4, h5⟩ := h.row (by omega)
  have h' : w.ownsRow B 31 4 (.slice (some ⟨b, 0, none⟩) l.length cap) l.length (flt seK l) := h
  have hlen : p * 4 + 1 < (flt seK l).length := by rw [flt_length]; show _ < _ * 4; omega
  have hg : (flt seK l)[p * 4 + 1]? = some (.int .i64 l[p].sq) := flt_get (K := seK) l p hp 1 (by decide)
  refine ⟨b, rfl, h1, h2, ⟨.int .i64 l[p].sq, ?_⟩, h'.frozenAt _, fun v => ?_⟩
  · have hc : p * 4 + 1 < l.length * 4 := by omega
    have := h'.cellAt (p * 4 + 1) hc
    rw [hg] at this
    exact this
  · have := (h'.stored (p * 4 + 1) (.int .i64 v)).1
    show World.ownsRow _ _ _ _ _ _ _
    rw [List.length_set]
    have e : (flt seK l).set (p * 4 + 1) (.int .i64 v) = flt seK (l.set p ⟨l[p].cl, v, l[p].why, l[p].val⟩) := by
      rw [flt_set l p hp]
      apply List.ext_getElem?
      intro i
      have hL : p * 4 + 4 ≤ (flt seK l).length := by rw [flt_length]; show _ ≤ _ * 4; omega
      by_cases e1 : i < p * 4
      · rw [List.getElem?_set_ne (by omega), List.append_assoc, List.getElem?_append_left (by rw [List.length_take]; show i < min (p * 4) _; omega), List.getElem?_take, if_pos (by show i < p * 4; exact e1)]
      · by_cases e2 : i < p * 4 + 4
        · have hq : ∀ j, j < 4 → (flt seK l)[p * 4 + j]? = (Se.cells l[p])[j]? := fun j hj => flt_get (K := seK) l p hp j hj
          rw [List.append_assoc, List.getElem?_append_right (by rw [List.length_take]; show min (p * 4) _ ≤ i; omega)]
          rw [show (List.take (p * seK.c) (flt seK l)).length = p * 4 from by rw [List.length_take]; show min (p * 4) _ = _; omega]
          rw [List.getElem?_append_left (by show i - p * 4 < 4; omega)]
          have h4 : i = p * 4 + 0 ∨ i = p * 4 + 1 ∨ i = p * 4 + 2 ∨ i = p * 4 + 3 := by omega
          rcases h4 with rfl | rfl | rfl | rfl
          · rw [List.getElem?_set_ne (by omega), hq 0 (by omega), Nat.add_sub_cancel_left]; rfl
          · rw [List.getElem?_set_self hlen, Nat.add_sub_cancel_left]; rfl
          · rw [List.getElem?_set_ne (by omega), hq 2 (by omega), Nat.add_sub_cancel_left]; rfl
          · rw [List.getElem?_set_ne (by omega), hq 3 (by omega), Nat.add_sub_cancel_left]; rfl
        · rw [List.getElem?_set_ne (by omega), List.getElem?_append_right (by rw [List.length_append, List.length_take]; show min (p * 4) _ + 4 ≤ i; omega)]
          rw [show (List.take (p * seK.c) (flt seK l) ++ seK.cells ⟨l[p].cl, v, l[p].why, l[p].val⟩).length = p * 4 + 4 from by rw [List.length_append, List.length_take]; show min (p * 4) _ + 4 = _; omega]
          rw [List.getElem?_drop]
          congr 1
          show i = p * 4 + 4 + (i - (p * 4 + 4))
          omega
    rw [e] at this
    exact this
end Go.Proofs.Ytodgcfmacmfcpaa
