/- From what the rows say of the arguments to what my walks ask: bytes, numbers and strings that came in. -/
import Derived.Test.YtodgcfmacmfcpaaRows
import Derived.Test.YtodgcfmacmfcpaaM
import Derived.ProofKit
import Derived.OpenShut
import Derived.JoinedCond
import Derived.SliceStrings
import Derived.Carry
import Derived.SizedLaws
namespace Go.Proofs.Ytodgcfmacmfcpaa
open Go.ChangeShapes Go.WideShapes Go.ChangeAt Go.RowKit

theorem Try.own : ownKnob Try.prog.godebug = none := by kernel_rfl
theorem Try.laidOut : laidOutB Try.prog = true := by kernel_rfl

theorem bulk_lits {H : Type} (k : IntKind) (l : List Int) : Rows.uptoBulkAll (lits (H := H) k l) = l.length := by
  induction l with
  | nil => rfl
  | cons x r ih => simp only [lits, List.map_cons, Rows.uptoBulkAll, Rows.uptoBulk, List.length_cons] at ih ⊢; omega

theorem bulk_strs {H : Type} (l : List ByteArray) : Rows.uptoBulkAll (strs (H := H) l) = l.length + bytesIn l := by
  induction l with
  | nil => rfl
  | cons x r ih =>
    simp only [strs, List.map_cons, Rows.uptoBulkAll, Rows.uptoBulk, List.length_cons, bytesIn, List.sum_cons] at ih ⊢
    have : x.data.toList.length = x.size := by rw [Array.length_toList]; rfl
    omega

section
variable {H : Type} {enc : TypeId × Value → H} {W : World} {d : DataW H} {p : List MemPlace} {ao : Option Addr} {len cap : Nat}

theorem spot_none {w : World} {a : Addr} {v : Value} (h : w.cell? (a.add 0) = some v) : ∃ b off, a = ⟨b, off, none⟩ := by
  obtain ⟨b, off, spot⟩ := a
  have := World.cell?_spot h
  refine ⟨b, off, ?_⟩
  cases spot with
  | none => rfl
  | some s => simp [Addr.add] at this

theorem rd_of_row {a : Addr} {w : World} {xs : List Value} (hl : len ≤ cap) (hm : cap ≤ maxLen) (hlen : xs.length = len) (hc : ∀ j u, xs[j]? = some u → w.cell? (a.add j) = some u) : Rd w.heap.size w (some a) len cap xs := by
  refine ⟨hlen, hl, hm, by simp, ?_⟩
  cases xs with
  | nil => exact .inl rfl
  | cons x r =>
    right
    obtain ⟨b, off, rfl⟩ := spot_none (hc 0 x rfl)
    have e : ∀ j, (⟨b, off, none⟩ : Addr).add j = ⟨b, off + j, none⟩ := fun j => by unfold Addr.add; split <;> simp_all
    refine ⟨b, off, rfl, ?_, ?_⟩
    · have := hc 0 x rfl
      rw [e] at this
      exact World.block_lt_of_cell? w _ this
    · intro j u hj
      have := hc j u hj
      rwa [e] at this

/-- bytes that came in -/
theorem open_bytes {t e : TypeId} (ht : Try.prog.underlying t = some (.slice e)) (he : Try.prog.underlying e = some (.int .u8)) (hce : Try.prog.cellsOf e = 1) (h : DataW.Trod enc Try.prog W 0 (fun _ => true) true t (.slice ao len cap) d p) :
    ∃ l : List UInt8, Rd W.heap.size W ao len cap (Bs l) ∧ l.length = len ∧ len + 1 ≤ Rows.uptoBulk d := by
  obtain ⟨fuel, hf⟩ := h
  rcases open_ints ht he hce hf with ⟨hcs, hx⟩ | ⟨a, l, c, zs, hcs, _, hl, hm, hz, hx, hcell, hwz⟩
  · simp [Value.cells] at hcs
    obtain ⟨rfl, rfl, rfl⟩ := hcs
    simp only [Prod.mk.injEq] at hx
    obtain ⟨rfl, _⟩ := hx
    exact ⟨[], Rd.nil _ _, rfl, by simp [Rows.uptoBulk]⟩
  · simp [Value.cells] at hcs
    obtain ⟨rfl, rfl, rfl⟩ := hcs
    simp only [Prod.mk.injEq] at hx
    obtain ⟨rfl, _⟩ := hx
    simp at hz
    have hb : ∀ x ∈ zs.take len, ((UInt8.ofNat x.toNat).toNat : Int) = x := by
      intro x hx
      have := hwz x (List.mem_of_mem_take hx)
      have := bounds_u8 this
      simp
      omega
    have hB : Bs ((zs.take len).map fun x => UInt8.ofNat x.toNat) = (zs.take len).map (Value.int .u8) := by
      rw [Bs, List.map_map]
      apply List.map_congr_left
      intro x hx
      simp only [Function.comp]
      rw [hb x hx]
    refine ⟨(zs.take len).map fun x => UInt8.ofNat x.toNat, ?_, by simp; omega, ?_⟩
    · rw [hB]
      refine rd_of_row hl hm (by simp; omega) ?_
      intro j u hj
      rw [List.getElem?_map] at hj
      have hjl : j < len := by
        rcases Nat.lt_or_ge j len with h | h
        · exact h
        · rw [List.getElem?_eq_none (by simp; omega)] at hj; simp at hj
      rw [List.getElem?_take, if_pos hjl] at hj
      have := hcell j (by omega)
      rw [List.getD_eq_getElem?_getD] at this
      cases hzz : zs[j]? with
      | none => rw [hzz] at hj; simp at hj
      | some z => rw [hzz] at hj this; simp at hj this; rw [← hj]; exact this
    · simp only [Rows.uptoBulk, bulk_lits, List.length_take, List.length_drop]; omega

/-- numbers that came in -/
theorem open_nums {t e : TypeId} (ht : Try.prog.underlying t = some (.slice e)) (he : Try.prog.underlying e = some (.int .i64)) (hce : Try.prog.cellsOf e = 1) (h : DataW.Trod enc Try.prog W 0 (fun _ => true) true t (.slice ao len cap) d p) :
    ∃ l : List Int, Rd W.heap.size W ao len cap (Is l) ∧ l.length = len ∧ len + 1 ≤ Rows.uptoBulk d ∧ ∀ x ∈ l, (Lit.int .i64 x).wf = true := by
  obtain ⟨fuel, hf⟩ := h
  rcases open_ints ht he hce hf with ⟨hcs, hx⟩ | ⟨a, l, c, zs, hcs, _, hl, hm, hz, hx, hcell, hwz⟩
  · simp [Value.cells] at hcs
    obtain ⟨rfl, rfl, rfl⟩ := hcs
    simp only [Prod.mk.injEq] at hx
    obtain ⟨rfl, _⟩ := hx
    exact ⟨[], Rd.nil _ _, rfl, by simp [Rows.uptoBulk], by simp⟩
  · simp [Value.cells] at hcs
    obtain ⟨rfl, rfl, rfl⟩ := hcs
    simp only [Prod.mk.injEq] at hx
    obtain ⟨rfl, _⟩ := hx
    simp at hz
    refine ⟨zs.take len, ?_, by simp; omega, ?_, fun x hx => hwz x (List.mem_of_mem_take hx)⟩
    · refine rd_of_row hl hm (by simp [Is]; omega) ?_
      intro j u hj
      rw [Is, List.getElem?_map] at hj
      have hjl : j < len := by
        rcases Nat.lt_or_ge j len with h | h
        · exact h
        · rw [List.getElem?_eq_none (by simp; omega)] at hj; simp at hj
      rw [List.getElem?_take, if_pos hjl] at hj
      have := hcell j (by omega)
      rw [List.getD_eq_getElem?_getD] at this
      cases hzz : zs[j]? with
      | none => rw [hzz] at hj; simp at hj
      | some z => rw [hzz] at hj this; simp at hj this; rw [← hj]; exact this
    · simp only [Rows.uptoBulk, bulk_lits, List.length_take, List.length_drop]; omega

/-- texts that came in -/
theorem open_texts {t e : TypeId} (ht : Try.prog.underlying t = some (.slice e)) (he : Try.prog.underlying e = some .string) (hce : Try.prog.cellsOf e = 1) (h : DataW.Trod enc Try.prog W 0 (fun _ => true) true t (.slice ao len cap) d p) :
    ∃ l : List ByteArray, Rd W.heap.size W ao len cap (Ss l) ∧ l.length = len ∧ len + bytesIn l + 1 ≤ Rows.uptoBulk d := by
  obtain ⟨fuel, hf⟩ := h
  rcases open_strings ht he hce hf with ⟨hcs, hx⟩ | ⟨a, l, c, zs, hcs, _, hl, hm, hz, hx, hcell, hwz⟩
  · simp [Value.cells] at hcs
    obtain ⟨rfl, rfl, rfl⟩ := hcs
    simp only [Prod.mk.injEq] at hx
    obtain ⟨rfl, _⟩ := hx
    exact ⟨[], Rd.nil _ _, rfl, by simp [Rows.uptoBulk, bytesIn]⟩
  · simp [Value.cells] at hcs
    obtain ⟨rfl, rfl, rfl⟩ := hcs
    simp only [Prod.mk.injEq] at hx
    obtain ⟨rfl, _⟩ := hx
    simp at hz
    refine ⟨zs.take len, ?_, by simp; omega, ?_⟩
    · refine rd_of_row hl hm (by simp [Ss]; omega) ?_
      intro j u hj
      rw [Ss, List.getElem?_map] at hj
      have hjl : j < len := by
        rcases Nat.lt_or_ge j len with h | h
        · exact h
        · rw [List.getElem?_eq_none (by simp; omega)] at hj; simp at hj
      rw [List.getElem?_take, if_pos hjl] at hj
      have := hcell j (by omega)
      rw [List.getD_eq_getElem?_getD] at this
      cases hzz : zs[j]? with
      | none => rw [hzz] at hj; simp at hj
      | some z => rw [hzz] at hj this; simp at hj this; rw [← hj]; exact this
    · simp only [Rows.uptoBulk, bulk_strs, List.length_take]; omega
/-- texts that came in, with their sizes -/
theorem open_textsz {t e : TypeId} (ht : Try.prog.underlying t = some (.slice e)) (he : Try.prog.underlying e = some .string) (hce : Try.prog.cellsOf e = 1) (h : DataW.Trod enc Try.prog W 0 (fun _ => true) true t (.slice ao len cap) d p) :
    ∃ l : List ByteArray, Rd W.heap.size W ao len cap (Ss l) ∧ l.length = len ∧ len + bytesIn l + 1 ≤ Rows.uptoBulk d ∧ ∀ s ∈ l, s.size ≤ maxLen := by
  obtain ⟨fuel, hf⟩ := h
  rcases open_strings ht he hce hf with ⟨hcs, hx⟩ | ⟨a, l, c, zs, hcs, _, hl, hm, hz, hx, hcell, hwz⟩
  · simp [Value.cells] at hcs
    obtain ⟨rfl, rfl, rfl⟩ := hcs
    simp only [Prod.mk.injEq] at hx
    obtain ⟨rfl, _⟩ := hx
    exact ⟨[], Rd.nil _ _, rfl, by simp [Rows.uptoBulk, bytesIn], by simp⟩
  · simp [Value.cells] at hcs
    obtain ⟨rfl, rfl, rfl⟩ := hcs
    simp only [Prod.mk.injEq] at hx
    obtain ⟨rfl, _⟩ := hx
    simp at hz
    refine ⟨zs.take len, ?_, by simp; omega, ?_, fun s hs => hwz s (List.mem_of_mem_take hs)⟩
    · refine rd_of_row hl hm (by simp [Ss]; omega) ?_
      intro j u hj
      rw [Ss, List.getElem?_map] at hj
      have hjl : j < len := by
        rcases Nat.lt_or_ge j len with h | h
        · exact h
        · rw [List.getElem?_eq_none (by simp; omega)] at hj; simp at hj
      rw [List.getElem?_take, if_pos hjl] at hj
      have := hcell j (by omega)
      rw [List.getD_eq_getElem?_getD] at this
      cases hzz : zs[j]? with
      | none => rw [hzz] at hj; simp at hj
      | some z => rw [hzz] at hj this; simp at hj this; rw [← hj]; exact this
    · simp only [Rows.uptoBulk, bulk_strs, List.length_take]; omega
end

theorem int_hi {n : Int} (h : (Lit.int .i64 n).wf = true) : n ≤ 9223372036854775807 := by
  simp [Lit.wf, IntKind.min, IntKind.max, IntKind.signed, IntKind.bits] at h
  exact h.2

/-- a byte that came in -/
theorem byte_of {n : Int} (h : (Lit.int .u8 n).wf = true) : ∃ x : UInt8, n = (x.toNat : Int) := by
  simp [Lit.wf, IntKind.min, IntKind.max, IntKind.signed, IntKind.bits] at h
  exact ⟨UInt8.ofNat n.toNat, by simp; omega⟩

/-- THE BOUND, as the builder hands it over -/
theorem bound {H : Type} {l : List (DataW H)} (hk : Rows.uptoSmall H l = true) : Rows.uptoBulkAll l ≤ 1048576 := of_decide_eq_true hk
end Go.Proofs.Ytodgcfmacmfcpaa
