/- Slices of structs that came in, whatever their elements; raw operations. -/
import Derived.Test.YtodgcfmacmfcpaaL
import Derived.Test.YtodgcfmacmfcpaaRG
import Derived.Deep.Strs
namespace Go.Proofs.Ytodgcfmacmfcpaa
open Go.ChangeShapes Go.WideShapes Go.ChangeAt Go.RowKit

theorem list_of {α : Type} (P : Nat → α → Prop) (n : Nat) (h : ∀ i, i < n → ∃ x, P i x) : ∃ l : List α, l.length = n ∧ ∀ i x, l[i]? = some x → P i x := by
  induction n with
  | zero => exact ⟨[], rfl, by simp⟩
  | succ n ih =>
    obtain ⟨l, hl, hp⟩ := ih fun i hi => h i (by omega)
    obtain ⟨x, hx⟩ := h n (by omega)
    refine ⟨l ++ [x], by simp [hl], ?_⟩
    intro i y hy
    by_cases hi : i < l.length
    · rw [List.getElem?_append_left hi] at hy
      exact hp i y hy
    · rw [List.getElem?_append_right (by omega)] at hy
      cases hj : i - l.length with
      | zero =>
        rw [hj] at hy
        simp at hy
        subst hy
        rw [show i = n by omega]
        exact hx
      | succ j => rw [hj] at hy; simp at hy

section
variable {H : Type} {enc : TypeId × Value → H} {W : World} {d : DataW H} {p : List MemPlace} {ao : Option Addr} {len cap : Nat}
/-- a slice that came in, whatever its elements -/
theorem open_gen {α : Type} {t e : TypeId} {c : Nat} (Q : Nat → World → List Value → α → Prop) (ht : Try.prog.underlying t = some (.slice e)) (hce : Try.prog.cellsOf e = c) (hc : 0 < c)
    (each : ∀ (n : Nat) (cs : List Value) (x : DataW H × List MemPlace), DataW.trod enc Try.prog W 0 (fun _ => true) true n e cs = some x → ∃ y : α, Q W.heap.size W cs y)
    (h : DataW.Trod enc Try.prog W 0 (fun _ => true) true t (.slice ao len cap) d p) : ∃ ys : List α, RdG c Q W.heap.size W ao len cap ys := by
  obtain ⟨fuel, hf⟩ := h
  rcases DataW.trod_slice ht hf with ⟨hcs, hx⟩ | ⟨a, len', cap', elems, rest, n, _, hcs, hx, hb, hl, hm, hlen, hel, hsp, hns⟩
  · simp [Value.cells] at hcs
    obtain ⟨rfl, rfl, rfl⟩ := hcs
    exact ⟨[], rfl, Nat.le_refl _, Nat.zero_le _, fun _ => rfl, .inl rfl⟩
  · simp [Value.cells] at hcs
    obtain ⟨rfl, rfl, rfl⟩ := hcs
    rw [hce] at hel
    have one : ∀ i, i < len → ∃ y : α, ∃ cs : List Value, cs.length = c ∧ Q W.heap.size W cs y ∧ ∀ j, j < c → W.cell? ((a.add (i * c)).add j) = cs[j]? := by
      intro i hi
      have hb' := hel i hi
      rw [List.getElem?_eq_getElem (by omega), Option.bind_eq_some_iff] at hb'
      obtain ⟨cs, hcs, hy⟩ := hb'
      obtain ⟨y, hq⟩ := each n cs _ hy
      have := World.cells?_some hcs
      exact ⟨y, cs, this.2.1, hq, this.2.2⟩
    obtain ⟨ys, hyl, hyp⟩ := list_of _ len one
    refine ⟨ys, hyl, hl, hm, by simp, ?_⟩
    cases ys with
    | nil => exact .inl rfl
    | cons y0 r =>
      right
      obtain ⟨cs0, hl0, _, hc0⟩ := hyp 0 y0 rfl
      have h00 := hc0 0 hc
      rw [List.getElem?_eq_getElem (by omega), Nat.zero_mul] at h00
      have e0 : (a.add 0).add 0 = a.add 0 := by cases a with | mk b o s => cases s <;> simp [Addr.add]
      rw [e0] at h00
      obtain ⟨b, off, rfl⟩ := spot_none h00
      have e : ∀ j, (⟨b, off, none⟩ : Addr).add j = ⟨b, off + j, none⟩ := fun j => by unfold Addr.add; split <;> simp_all
      have e2 : ∀ i j, ((⟨b, off, none⟩ : Addr).add i).add j = ⟨b, off + i + j, none⟩ := fun i j => by rw [e]; unfold Addr.add; split <;> simp_all
      refine ⟨b, off, rfl, ?_, ?_⟩
      · rw [e] at h00
        exact World.block_lt_of_cell? W _ h00
      · intro k x hk
        obtain ⟨cs, g1, g2, g3⟩ := hyp k x hk
        refine ⟨cs, g1, g2, fun j u hj => ?_⟩
        have hjc : j < c := by rw [← g1]; exact (List.getElem?_eq_some_iff.1 hj).1
        have := g3 j hjc
        rw [e2, hj] at this
        exact this
/-- how long bytes that came in may be -/
theorem bytes_form {t e : TypeId} (ht : Try.prog.underlying t = some (.slice e)) (h : DataW.Trod enc Try.prog W 0 (fun _ => true) true t (.slice ao len cap) d p) :
    len = 0 ∨ ∃ elems spare, d = .slice elems spare ∧ elems.length = len := by
  obtain ⟨fuel, hf⟩ := h
  rcases DataW.trod_slice ht hf with ⟨hcs, hx⟩ | ⟨a, len', cap', elems, rest, n, _, hcs, hx, hb, hl, hm, hlen, hel, hsp, hns⟩
  · simp [Value.cells] at hcs
    exact .inl hcs.2.1
  · simp [Value.cells] at hcs
    obtain ⟨rfl, rfl, rfl⟩ := hcs
    simp only [Prod.mk.injEq] at hx
    exact .inr ⟨_, _, hx.1, by simp [hlen]⟩
theorem gen_sized {ts : List TypeId} {ds : List (DataW H)} (hsz : (DataW.weightsEach Try.prog ts ds).all (· ≤ reachBytes) = true) {j : Nat} {t e : TypeId} (ht : ts[j]? = some t) (hd : ds[j]? = some d) (hu : Try.prog.underlying t = some (.slice e)) {b : Nat} (hby : Try.prog.bytesOf e = b)
    (h : DataW.Trod enc Try.prog W 0 (fun _ => true) true t (.slice ao len cap) d p) : len * b ≤ 140737488351232 := by
  rcases bytes_form hu h with rfl | ⟨elems, spare, rfl, hl⟩
  · omega
  · have := sized_slice hsz ht hd hu
    rw [hby] at this
    subst hl
    have h2 : elems.length * b ≤ (elems.length + spare.length) * b := Nat.mul_le_mul_right _ (Nat.le_add_right _ _)
    simp only [reachBytes] at this
    omega
set_option maxRecDepth 20000 in
theorem open_rawop (n : Nat) (cs : List Value) (x : DataW H × List MemPlace) (h : DataW.trod enc Try.prog W 0 (fun _ => true) true n 59 cs = some x) : ∃ y : RawO, RawO.Q W.heap.size W cs y := by
  obtain ⟨xs, m, _, rfl, hl, hlen, hf⟩ := DataW.trod_struct Try.underlying59 h
  have hl8 : cs.length = 8 := hl.trans (by kernel_rfl)
  match cs, hl8, xs, hlen with
  | [a, b, c, d, e, f, g, s], _, [y0, y1, y2, y3, y4, y5, y6, y7], _ =>
    have k1 : Try.prog.cellsOf 3 = 1 := by kernel_rfl
    have k2 : Try.prog.cellsOf 9 = 1 := by kernel_rfl
    have h0 : DataW.trod enc Try.prog W 0 (fun _ => true) true m 3 (([a, b, c, d, e, f, g, s].drop 0).take (Try.prog.cellsOf 3)) = some y0 := hf 0 _ rfl
    have h1 : DataW.trod enc Try.prog W 0 (fun _ => true) true m 3 (([a, b, c, d, e, f, g, s].drop 1).take (Try.prog.cellsOf 3)) = some y1 := hf 1 _ rfl
    have h2 : DataW.trod enc Try.prog W 0 (fun _ => true) true m 3 (([a, b, c, d, e, f, g, s].drop 2).take (Try.prog.cellsOf 3)) = some y2 := hf 2 _ rfl
    have h3 : DataW.trod enc Try.prog W 0 (fun _ => true) true m 3 (([a, b, c, d, e, f, g, s].drop 3).take (Try.prog.cellsOf 3)) = some y3 := hf 3 _ rfl
    have h4 : DataW.trod enc Try.prog W 0 (fun _ => true) true m 3 (([a, b, c, d, e, f, g, s].drop 4).take (Try.prog.cellsOf 3)) = some y4 := hf 4 _ rfl
    have h5 : DataW.trod enc Try.prog W 0 (fun _ => true) true m 3 (([a, b, c, d, e, f, g, s].drop 5).take (Try.prog.cellsOf 3)) = some y5 := hf 5 _ rfl
    have h6 : DataW.trod enc Try.prog W 0 (fun _ => true) true m 3 (([a, b, c, d, e, f, g, s].drop 6).take (Try.prog.cellsOf 3)) = some y6 := hf 6 _ rfl
    have h7 : DataW.trod enc Try.prog W 0 (fun _ => true) true m 9 (([a, b, c, d, e, f, g, s].drop 7).take (Try.prog.cellsOf 9)) = some y7 := hf 7 _ rfl
    simp only [k1, k2, List.drop_zero, List.drop_succ_cons, List.take_succ_cons, List.take_zero] at h0 h1 h2 h3 h4 h5 h6 h7
    obtain ⟨i0, e0, _, w0⟩ := DataW.trod_int Try.underlying3 h0
    obtain ⟨i1, e1, _, w1⟩ := DataW.trod_int Try.underlying3 h1
    obtain ⟨i2, e2, _, w2⟩ := DataW.trod_int Try.underlying3 h2
    obtain ⟨i3, e3, _, w3⟩ := DataW.trod_int Try.underlying3 h3
    obtain ⟨i4, e4, _, w4⟩ := DataW.trod_int Try.underlying3 h4
    obtain ⟨i5, e5, _, w5⟩ := DataW.trod_int Try.underlying3 h5
    obtain ⟨i6, e6, _, w6⟩ := DataW.trod_int Try.underlying3 h6
    obtain ⟨t, e7, _, w7⟩ := DataW.trod_string Try.underlying9 h7
    cases e0; cases e1; cases e2; cases e3; cases e4; cases e5; cases e6; cases e7
    exact ⟨⟨i0, i1, i2, i3, i4, i5, i6, t⟩, rfl, w0, w1, w2, w3, w4, w5, w6, w7⟩
end
end Go.Proofs.Ytodgcfmacmfcpaa
