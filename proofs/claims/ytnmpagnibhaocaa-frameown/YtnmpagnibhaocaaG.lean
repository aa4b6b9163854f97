/- a string of bytes; known -/
import Derived.Test.YtnmpagnibhaocaaF
namespace Go.Proofs.Ytnmpagnibhaocaa
open Go.RowKit

def str (l : List UInt8) : ByteArray := ⟨l.toArray⟩
theorem str_inj {a b : List UInt8} (h : str a = str b) : a = b := by
  have := congrArg (fun s : ByteArray => s.data.toList) h
  simpa [str] using this

theorem str_toList (l : List UInt8) : (str l).toList = l := by rw [ByteArray.toList_eq]; simp [str]

/-- string(b) -/
theorem run_str {B : Nat} (w : World) (ao : Option Addr) (n cap : Nat) (l : List UInt8) (h : Rd B w ao n cap (Bs l)) :
    (convert 22 9 (.slice ao n cap)).run Try.prog w = .ok (.string (str l)) w := by
  obtain ⟨h1, h2, h3, h4, h5⟩ := h
  rw [Bs_length] at h1
  subst h1
  cases ao with
  | none =>
    have : l = [] := List.eq_nil_of_length_eq_zero (by have := h4 rfl; omega)
    subst this
    exact run_convert_bytes_nil w 22 5 Try.underlying22 Try.underlying5 _ _ 9 Try.underlying9
  | some a =>
    have hl : (loadCells a l.length).run Try.prog w = .ok ((l.map fun c => (c.toNat : Int)).map (Value.int .u8)).toArray w := by
      have := run_loadCells_list (P := Try.prog) w a ((l.map fun c => (c.toNat : Int)).map (Value.int .u8)) (fun j v hj => by
        rcases h5 with h5 | ⟨b, off, e1, e2, e3⟩
        · have : l = [] := by simpa [Bs] using h5
          subst this
          simp at hj
        · cases e1
          rw [show (⟨b, off, none⟩ : Addr).add j = ⟨b, off + j, none⟩ from by unfold Addr.add; split <;> simp_all]
          refine e3 j v ?_
          rw [← hj, List.map_map]
          rfl)
      simpa using this
    rw [run_convert_bytes_string w 22 9 5 _ l.length cap Try.underlying22 Try.underlying5 Try.underlying9, run_bytesToString w _ l.length cap _ hl, foldl_push_bytes]
    have hm : (l.map fun c => (c.toNat : Int)).map (fun n : Int => UInt8.ofNat n.toNat) = l := by
      rw [List.map_map]
      conv => rhs; rw [← List.map_id l]
      apply List.map_congr_left
      intro c _
      simp
    rw [hm]
    simp [str, ByteArray.empty, ByteArray.emptyWithCapacity]
    rfl

/-- a row that was just built reads as its cells -/
theorem Rd.built (w : World) (cs : List Value) (e : TypeId) (hm : cs.length ≤ maxLen) : Rd (w.alloc (.cells cs.toArray e)).heap.size (w.alloc (.cells cs.toArray e)) (some ⟨w.heap.size, 0, none⟩) cs.length cs.length cs := by
  refine ⟨rfl, Nat.le_refl _, hm, by simp, .inr ⟨w.heap.size, 0, rfl, by simp, ?_⟩⟩
  intro j u hj
  rw [cell_of_row (w.alloc (.cells cs.toArray e)) w.heap.size (0 + j) cs.toArray e (0, 0) (heap_alloc_new w _)]
  simpa using hj

end Go.Proofs.Ytnmpagnibhaocaa
