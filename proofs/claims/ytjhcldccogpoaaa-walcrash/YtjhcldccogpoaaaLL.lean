/- Lists of slices of bytes that came in. -/
import Derived.Test.YtjhcldccogpoaaaL
import Derived.Test.YtjhcldccogpoaaaLG
namespace Go.Proofs.Ytjhcldccogpoaaa
open Go.ChangeShapes Go.WideShapes Go.ChangeAt Go.RowKit

section
variable {H : Type} {enc : TypeId × Value → H} {W : World} {d : DataW H} {p : List MemPlace} {ao : Option Addr} {len cap : Nat}
/-- lists of bytes that came in -/
theorem open_lists {t e u : TypeId} (ht : Try.prog.underlying t = some (.slice e)) (he : Try.prog.underlying e = some (.slice u)) (hu : Try.prog.underlying u = some (.int .u8)) (hce : Try.prog.cellsOf e = 1) (hcu : Try.prog.cellsOf u = 1) (h : DataW.Trod enc Try.prog W 0 (fun _ => true) true t (.slice ao len cap) d p) :
    ∃ ls : List (List UInt8), RdLL W.heap.size W ao len cap ls ∧ ls.length = len := by
  obtain ⟨fuel, hf⟩ := h
  rcases DataW.trod_slice ht hf with ⟨hcs, hx⟩ | ⟨a, len', cap', elems, rest, n, _, hcs, hx, hb, hl, hm, hlen, hel, hsp, hns⟩
  · simp [Value.cells] at hcs
    obtain ⟨rfl, rfl, rfl⟩ := hcs
    exact ⟨[], RdLL.nil _ _, rfl⟩
  · simp [Value.cells] at hcs
    obtain ⟨rfl, rfl, rfl⟩ := hcs
    have each : ∀ i, i < len → ∃ x : Value × List UInt8, W.cell? (a.add i) = some x.1 ∧ ∃ (ao' : Option Addr) (cap' : Nat), x.1 = Value.slice ao' x.2.length cap' ∧ Rd W.heap.size W ao' x.2.length cap' (Bs x.2) := by
      intro i hi
      have hb' := hel i hi
      rw [List.getElem?_eq_getElem (by omega), hce, Nat.mul_one, Option.bind_eq_some_iff] at hb'
      obtain ⟨cs', hcs, hy'⟩ := hb'
      have hform : ∃ (ao' : Option Addr) (l' c' : Nat), cs' = [Value.slice ao' l' c'] := by
        rcases DataW.trod_slice he hy' with ⟨h1, _⟩ | ⟨a1, l1, c1, _, _, _, _, h1, _⟩
        · exact ⟨_, _, _, h1⟩
        · exact ⟨_, _, _, h1⟩
      obtain ⟨ao', l', c', rfl⟩ := hform
      obtain ⟨l, hR, hl2, _⟩ := open_bytes (d := (elems[i]'(by omega)).1) (p := (elems[i]'(by omega)).2) he hu hcu ⟨n, by rw [show (Value.slice ao' l' c').cells.toList = [Value.slice ao' l' c'] from rfl]; exact hy'⟩
      subst hl2
      exact ⟨(.slice ao' l.length c', l), cell_of_cells?_one hcs, ao', c', rfl, hR⟩
    obtain ⟨xs, hxl, hxp⟩ := list_of _ len each
    refine ⟨xs.map (·.2), ⟨xs.map (·.1), rd_of_row hl hm (by simp [hxl]) ?_, by simp, ?_⟩, by simp [hxl]⟩
    · intro j v hj
      rw [List.getElem?_map] at hj
      cases hx : xs[j]? with
      | none => rw [hx] at hj; simp at hj
      | some x => rw [hx] at hj; simp at hj; rw [← hj]; exact (hxp j x hx).1
    · intro k v l h1 h2
      rw [List.getElem?_map] at h1 h2
      cases hx : xs[k]? with
      | none => rw [hx] at h1; simp at h1
      | some x =>
        rw [hx] at h1 h2
        simp at h1 h2
        subst h1; subst h2
        exact (hxp k x hx).2
/-- how long bytes that came in may be -/
theorem bytes_form {t e : TypeId} (ht : Try.prog.underlying t = some (.slice e)) (h : DataW.Trod enc Try.prog W 0 (fun _ => true) true t (.slice ao len cap) d p) :
    len = 0 ∨ ∃ elems spare, d = .slice elems spare ∧ elems.length = len := by
  obtain ⟨fuel, hf⟩ := h
  rcases DataW.trod_slice ht hf with ⟨hcs, hx⟩ | ⟨a, len', cap', elems, rest, n, _, hcs, hx, hb, hl, hm, hlen, hel, hsp, hns⟩
  · simp [Value.cells] at hcs
    exact .inl hcs.2.1
  · simp [Value.cells] at hcs
    obtain ⟨rfl, rfl, rfl⟩ := hcs
    simp only [Prod.mk.injEq] at hx
    exact .inr ⟨_, _, hx.1, by simp [hlen]⟩
theorem bytes_sized {ts : List TypeId} {ds : List (DataW H)} (hsz : (DataW.weightsEach Try.prog ts ds).all (· ≤ reachBytes) = true) {j : Nat} {t e : TypeId} (ht : ts[j]? = some t) (hd : ds[j]? = some d) (hu : Try.prog.underlying t = some (.slice e)) (hby : Try.prog.bytesOf e = 1)
    (h : DataW.Trod enc Try.prog W 0 (fun _ => true) true t (.slice ao len cap) d p) : len ≤ 140737488351232 := by
  rcases bytes_form hu h with rfl | ⟨elems, spare, rfl, hl⟩
  · omega
  · have := sized_slice hsz ht hd hu
    rw [hby] at this
    simp [reachBytes] at this
    omega
end
end Go.Proofs.Ytjhcldccogpoaaa
