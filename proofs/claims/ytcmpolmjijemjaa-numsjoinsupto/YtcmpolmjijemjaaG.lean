/- a string of bytes; known -/
import Derived.Test.YtcmpolmjijemjaaF
namespace Go.Proofs.Ytcmpolmjijemjaa
open Go.RowKit

def str (l : List UInt8) : ByteArray := ⟨l.toArray⟩
theorem str_inj {a b : List UInt8} (h : str a = str b) : a = b := by
  have := congrArg (fun s : ByteArray => s.data.toList) h
  simpa [str] using this

theorem str_toList (l : List UInt8) : (str l).toList = l := by rw [ByteArray.toList_eq]; simp [str]

/-- string(b) -/
theorem run_str {B : Nat} (w : World) (ao : Option Addr) (n cap : Nat) (l : List UInt8) (h : Rd B w ao n cap (Bs l)) :
    (convert 22 9 (.slice ao n cap)).run Try.prog w = .ok (.string (str l)) w := by
  obtain ⟨h1, h2, h3, h4, h5⟩ := h
  rw [Bs_length] at h1
  subst h1
  cases ao with
  | none =>
    have : l = [] := List.eq_nil_of_length_eq_zero (by have := h4 rfl; omega)
    subst this
    exact run_convert_bytes_nil w 22 5 Try.underlying22 Try.underlying5 _ _ 9 Try.underlying9
  | some a =>
    have hl : (loadCells a l.length).run Try.prog w = .ok ((l.map fun c => (c.toNat : Int)).map (Value.int .u8)).toArray w := by
      have := run_loadCells_list (P := Try.prog) w a ((l.map fun c => (c.toNat : Int)).map (Value.int .u8)) (fun j v hj => by
        rcases h5 with h5 | ⟨b, off, e1, e2, e3⟩
        · have : l = [] := by simpa [Bs] using h5
          subst this
          simp at hj
        · cases e1
          rw [show (⟨b, off, none⟩ : Addr).add j = ⟨b, off + j, none⟩ from by unfold Addr.add; split <;> simp_all]
          refine e3 j v ?_
          rw [← hj, List.map_map]
          rfl)
      simpa using this
    rw [run_convert_bytes_string w 22 9 5 _ l.length cap Try.underlying22 Try.underlying5 Try.underlying9, run_bytesToString w _ l.length cap _ hl, foldl_push_bytes]
    have hm : (l.map fun c => (c.toNat : Int)).map (fun n : Int => UInt8.ofNat n.toNat) = l := by
      rw [List.map_map]
      conv => rhs; rw [← List.map_id l]
      apply List.map_congr_left
      intro c _
      simp
    rw [hm]
    simp [str, ByteArray.empty, ByteArray.emptyWithCapacity]
    rfl

/-- a row that was just built reads as its cells -/
theorem Rd.built (w : World) (cs : List Value) (e : TypeId) (hm : cs.length ≤ maxLen) : Rd (w.alloc (.cells cs.toArray e)).heap.size (w.alloc (.cells cs.toArray e)) (some ⟨w.heap.size, 0, none⟩) cs.length cs.length cs := by
  refine ⟨rfl, Nat.le_refl _, hm, by simp, .inr ⟨w.heap.size, 0, rfl, by simp, ?_⟩⟩
  intro j u hj
  rw [cell_of_row (w.alloc (.cells cs.toArray e)) w.heap.size (0 + j) cs.toArray e (0, 0) (heap_alloc_new w _)]
  simpa using hj

theorem known_put : putS [] [5, 300] = [5, 172, 2] := by
  have h1 : enc 5 = [5] := enc_small (by omega)
  have h2 : enc 300 = [172, 2] := by rw [enc_large (by omega)]; rw [show 300 / 128 = 2 from rfl, enc_small (by omega)]; rfl
  rw [putS_ok (by decide)]
  simp [encs, h1, h2]
theorem known_take : takeS [5, 172, 2] = (5, [172, 2], 0) := by decide

set_option maxHeartbeats 400000 in
theorem known_any (w : World) : Calls Try.prog 13 #[] w fun e w' => e = .returned (.bool true) ∧ Below w.heap.size w w' := by
  go_enter Try.func13, Try.ntmps13
  go_wp2_with fail
  refine (Put_any none 0 0 [] _ _ _ [5, 300] _ (Rd.nil _ _) (by exact Rd.built w (Is [5, 300]) 3 (by unfold maxLen; simp [Is])) (by omega)).mono ?_
  rw [known_put]
  rintro e w1 ⟨ao1, cp1, rfl, hown, hbel⟩
  have hR1 := ownsRow.rd hown
  clear hown
  have hb1 := (((Below.refl w.heap.size w).alloc (Nat.le_refl _) _).trans (hbel.mono (by simp)))
  have hs1 := run_str _ _ _ _ _ hR1
  have hlen : ([5, 172, 2] : List UInt8).length = 3 := rfl
  go_wp2_with fail
  refine (Take_any _ _ _ [5, 172, 2] _ hR1 (by rw [hlen]; omega)).mono ?_
  rw [known_take]
  rintro e w2 ⟨ao2, cp2, rfl, hR2, hbel2⟩
  have hs2 := run_str _ _ _ _ _ (hR1.later hbel2)
  rw [hlen] at hs2
  clear hR1 hlen
  have hb2 := hb1.trans (hbel2.mono hb1.size)
  have hst := str_toList [5, 172, 2]
  go_wp2
  go_ret
  exact ⟨rfl, hb2⟩
end Go.Proofs.Ytcmpolmjijemjaa
