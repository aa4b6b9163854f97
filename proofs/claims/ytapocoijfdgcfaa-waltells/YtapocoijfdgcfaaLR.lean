/- Slices of structs that came in. -/
import Derived.Test.YtapocoijfdgcfaaLL
import Derived.Test.YtapocoijfdgcfaaDU
import Derived.Deep.Strs
namespace Go.Proofs.Ytapocoijfdgcfaa
open Go.ChangeShapes Go.WideShapes Go.ChangeAt Go.RowKit

section
variable {H : Type} {enc : TypeId × Value → H} {W : World} {d : DataW H} {p : List MemPlace} {ao : Option Addr} {len cap : Nat}
/-- a slice that came in, whatever its elements -/
theorem open_gen {α : Type} {t e : TypeId} {c : Nat} (Q : Nat → World → List Value → α → Prop) (ht : Try.prog.underlying t = some (.slice e)) (hce : Try.prog.cellsOf e = c) (hc : 0 < c)
    (each : ∀ (n : Nat) (cs : List Value) (x : DataW H × List MemPlace), DataW.trod enc Try.prog W 0 (fun _ => true) true n e cs = some x → ∃ y : α, Q W.heap.size W cs y)
    (h : DataW.Trod enc Try.prog W 0 (fun _ => true) true t (.slice ao len cap) d p) : ∃ ys : List α, RdG c Q W.heap.size W ao len cap ys := by
  obtain ⟨fuel, hf⟩ := h
  rcases DataW.trod_slice ht hf with ⟨hcs, hx⟩ | ⟨a, len', cap', elems, rest, n, _, hcs, hx, hb, hl, hm, hlen, hel, hsp, hns⟩
  · simp [Value.cells] at hcs
    obtain ⟨rfl, rfl, rfl⟩ := hcs
    exact ⟨[], rfl, Nat.le_refl _, Nat.zero_le _, fun _ => rfl, .inl rfl⟩
  · simp [Value.cells] at hcs
    obtain ⟨rfl, rfl, rfl⟩ := hcs
    rw [hce] at hel
    have one : ∀ i, i < len → ∃ y : α, ∃ cs : List Value, cs.length = c ∧ Q W.heap.size W cs y ∧ ∀ j, j < c → W.cell? ((a.add (i * c)).add j) = cs[j]? := by
      intro i hi
      have hb' := hel i hi
      rw [List.getElem?_eq_getElem (by omega), Option.bind_eq_some_iff] at hb'
      obtain ⟨cs, hcs, hy⟩ := hb'
      obtain ⟨y, hq⟩ := each n cs _ hy
      have := World.cells?_some hcs
      exact ⟨y, cs, this.2.1, hq, this.2.2⟩
    obtain ⟨ys, hyl, hyp⟩ := list_of _ len one
    refine ⟨ys, hyl, hl, hm, by simp, ?_⟩
    cases ys with
    | nil => exact .inl rfl
    | cons y0 r =>
      right
      obtain ⟨cs0, hl0, _, hc0⟩ := hyp 0 y0 rfl
      have h00 := hc0 0 hc
      rw [List.getElem?_eq_getElem (by omega), Nat.zero_mul] at h00
      have e0 : (a.add 0).add 0 = a.add 0 := by cases a with | mk b o s => cases s <;> simp [Addr.add]
      rw [e0] at h00
      obtain ⟨b, off, rfl⟩ := spot_none h00
      have e : ∀ j, (⟨b, off, none⟩ : Addr).add j = ⟨b, off + j, none⟩ := fun j => by unfold Addr.add; split <;> simp_all
      have e2 : ∀ i j, ((⟨b, off, none⟩ : Addr).add i).add j = ⟨b, off + i + j, none⟩ := fun i j => by rw [e]; unfold Addr.add; split <;> simp_all
      refine ⟨b, off, rfl, ?_, ?_⟩
      · rw [e] at h00
        exact World.block_lt_of_cell? W _ h00
      · intro k x hk
        obtain ⟨cs, g1, g2, g3⟩ := hyp k x hk
        refine ⟨cs, g1, g2, fun j u hj => ?_⟩
        have hjc : j < c := by rw [← g1]; exact (List.getElem?_eq_some_iff.1 hj).1
        have := g3 j hjc
        rw [e2, hj] at this
        exact this
theorem open_raw5 (n : Nat) (cs : List Value) (x : DataW H × List MemPlace) (h : DataW.trod enc Try.prog W 0 (fun _ => true) true n 39 cs = some x) : ∃ y : Raw4, Raw4.Q W.heap.size W cs y := by
  obtain ⟨y0, y1, y2, m, _, hl, h0, h1, h2⟩ := Go.Deep.trod_struct3 Try.underlying39 h
  have hl3 : cs.length = 3 := hl.trans (by kernel_rfl)
  match cs, hl3 with
  | [a, b, c], _ =>
    have k1 : Try.prog.cellsOf 3 = 1 := by kernel_rfl
    have k2 : Try.prog.cellsOf 32 = 1 := by kernel_rfl
    simp only [k1, k2, List.drop_zero, List.drop_succ_cons, List.take_succ_cons, List.take_zero] at h0 h1 h2
    obtain ⟨i0, e0, _, _⟩ := DataW.trod_int Try.underlying3 h0
    obtain ⟨i1, e1, _, _⟩ := DataW.trod_int Try.underlying3 h1
    have hform : ∃ (ao' : Option Addr) (l' c' : Nat), [c] = [Value.slice ao' l' c'] := by
      rcases DataW.trod_slice Try.underlying32 h2 with ⟨h1, _⟩ | ⟨a1, l1, c1, _, _, _, _, h1, _⟩
      · exact ⟨_, _, _, h1⟩
      · exact ⟨_, _, _, h1⟩
    obtain ⟨ao', l', c', e2⟩ := hform
    cases e0; cases e1; cases e2
    obtain ⟨ls, hR, _⟩ := open_lists (d := y2.1) (p := y2.2) Try.underlying32 Try.underlying28 Try.underlying5 (by kernel_rfl) (by kernel_rfl) ⟨m, by rw [show (Value.slice ao' l' c').cells.toList = [Value.slice ao' l' c'] from rfl]; exact h2⟩
    exact ⟨⟨i0, i1, ls⟩, ao', l', c', rfl, hR⟩
end
end Go.Proofs.Ytapocoijfdgcfaa
