/- ShardFull: what is asked, as mathematics; one shard, beside blocks of which it is known what they hold. -/
import Derived.Test.YtodgcfmacmfcpaaYF
namespace Go.Proofs.Ytodgcfmacmfcpaa
open Go.RowKit

structure Sw (w0 w : World) (g : Nat) (T : List Pr) (S : List Se) (id ep : Int) (L : List (Nat × Obj)) : Prop where
  sh : ShO w g 0 T S id ep
  ls : ∀ p ∈ L, w.heap[p.1]? = some p.2 ∧ p.1 ≠ g
  bel : Below w0.heap.size w0 w
  b1 : w0.heap.size ≤ g
section
variable {w0 w w' : World} {g : Nat} {T T' : List Pr} {S S' : List Se} {id ep : Int} {L : List (Nat × Obj)}
theorem obj_lt {w : World} {g : Nat} {o : Obj} (h : w.heap[g]? = some o) : g < w.heap.size := (Array.getElem?_eq_some_iff.1 h).1
theorem Sw.below (h : Sw w0 w g T S id ep L) (hb : Below w.heap.size w w') : Sw w0 w' g T S id ep L :=
  ⟨h.sh.below hb, fun p hp => ⟨(hb.block p.1 (obj_lt (h.ls p hp).1)).trans (h.ls p hp).1, (h.ls p hp).2⟩, bel_call h.bel hb, h.b1⟩
theorem Sw.turn (h : Sw w0 w g T S id ep L) (hS : ShO w' g 0 T' S' id ep) (hP : Part g 0 35 w w') : Sw w0 w' g T' S' id ep L :=
  ⟨hS, fun p hp => ⟨(hP.only.block p.1 (obj_lt (h.ls p hp).1) (h.ls p hp).2).trans (h.ls p hp).1, (h.ls p hp).2⟩, h.bel.trans (hP.only.below (fun i e => by have := h.b1; omega) h.bel.size), h.b1⟩
theorem Sw.al (h : Sw w0 w g T S id ep L) {b : Nat} (o : Obj) (hb : w.heap.size = b) : Sw w0 (w.alloc o) g T S id ep ((b, o) :: L) := by
  subst hb
  have h1 := h.below (bel_al w o)
  refine ⟨h1.sh, fun p hp => ?_, h1.bel, h1.b1⟩
  rcases List.mem_cons.1 hp with rfl | hp
  · exact ⟨alloc_new w o, by have := h.sh.lt; simp only; omega⟩
  · exact h1.ls p hp
/-- another block is written -/
theorem Sw.wr {b : Nat} (h : Sw w0 w g T S id ep L) (o : Only (fun k => k = b) w w') (hb : b ≠ g) (hB : w0.heap.size ≤ b) (hL : ∀ p ∈ L, p.1 ≠ b) : Sw w0 w' g T S id ep L :=
  ⟨h.sh.apart o (fun e => hb e.symm), fun p hp => ⟨(o.block p.1 (obj_lt (h.ls p hp).1) (hL p hp)).trans (h.ls p hp).1, (h.ls p hp).2⟩, h.bel.trans (o.below (fun i e => by omega) h.bel.size), h.b1⟩
theorem Sw.im (h : Sw w0 w g T S id ep L) {b : Nat} {i e : Int} {ps xs : Value} (hm : (b, .cells #[.int .i64 i, .int .i64 e, ps, xs] 41) ∈ L) : ImAt w b i e ps xs := (h.ls _ hm).1
theorem Sw.an (h : Sw w0 w g T S id ep L) {b : Nat} {a : Int} {y : ByteArray} (hm : (b, .cells #[.int .i64 a, .string y] 29) ∈ L) : AnsAt w b a y := (h.ls _ hm).1
end
/-- 'full0', 'full1', .. -/
def fK (i : Nat) : ByteArray := ⟨#[102, 117, 108, 108, (48 + i).toUInt8]⟩
def fT (i : Nat) : List Pr := (List.range i).map fun j => (fK j, ⟨#[118]⟩)
def fS (c : Nat) (i a : Int) : List Se := if i = 0 then zeroS else zeroS.set c ⟨c, i, a, ⟨#[]⟩⟩
theorem c4 {c : Nat} (h : c < 4) : c = 0 ∨ c = 1 ∨ c = 2 ∨ c = 3 := by omega
theorem full_step (c i : Nat) (hc : c < 4) (hi : i < 8) : askS (fT i) (fS c i 0) c ((i : Int) + 1) 2 (fK i) ⟨#[118]⟩ ⟨#[]⟩ = (fT (i + 1), fS c ((i : Int) + 1) 0, 0, ⟨#[]⟩, true) := by
  have h8 : i = 0 ∨ i = 1 ∨ i = 2 ∨ i = 3 ∨ i = 4 ∨ i = 5 ∨ i = 6 ∨ i = 7 := by omega
  rcases c4 hc with rfl | rfl | rfl | rfl <;> rcases h8 with rfl | rfl | rfl | rfl | rfl | rfl | rfl | rfl <;> (show _ = _; kernel_rfl)
theorem full_no (n : Int) : has (keyS n) (fT 8) = false := by
  have := keyS_mem n
  generalize keyS n = k at *
  simp only [keyL, List.mem_cons, List.not_mem_nil, or_false] at this
  rcases this with rfl | rfl | rfl | rfl | rfl | rfl | rfl | rfl | rfl | rfl | rfl | rfl | rfl | rfl | rfl | rfl <;> (show _ = _; kernel_rfl)
theorem put_right (n m : Int) : rightS 2 (keyS n) (valS m) ⟨#[]⟩ = true := by
  have := right_op 1 n m 0
  exact this
theorem full_ask (c : Nat) (n m : Int) (hc : c < 4) : askS (fT 8) (fS c 8 0) c 50 2 (keyS n) (valS m) ⟨#[]⟩ = (fT 8, fS c 50 5, 5, ⟨#[]⟩, true) := by
  have hd : doS (fT 8) 2 (keyS n) (valS m) ⟨#[]⟩ = (fT 8, 5, ⟨#[]⟩) := by
    have h8 : (fT 8).length = 8 := by kernel_rfl
    simp [doS, put_right, full_no, h8]
  have ha : askableS c 50 2 (keyS n) (valS m) ⟨#[]⟩ = true := by
    unfold askableS
    rw [put_right]
    rcases c4 hc with rfl | rfl | rfl | rfl <;> (show _ = _; kernel_rfl)
  unfold askS
  rw [ha, hd]
  rcases c4 hc with rfl | rfl | rfl | rfl <;> (show _ = _; kernel_rfl)
theorem full_more (c : Nat) (hc : c < 4) : ∃ T, T.length = 8 ∧ askS (fT 8) (fS c 50 5) c 51 2 ⟨#[102, 117, 108, 108, 51]⟩ ⟨#[119]⟩ ⟨#[]⟩ = (T, fS c 51 0, 0, ⟨#[]⟩, true) := by
  refine ⟨(doS (fT 8) 2 ⟨#[102, 117, 108, 108, 51]⟩ ⟨#[119]⟩ ⟨#[]⟩).1, by kernel_rfl, ?_⟩
  rcases c4 hc with rfl | rfl | rfl | rfl <;> (show _ = _; kernel_rfl)
theorem full_all (c : Nat) (i a : Int) (hc : c < 4) (hi : 0 < i) : allS (fS c i a) = [⟨c, i, a, ⟨#[]⟩⟩] := by
  have h0 : ¬ i = 0 := by omega
  rcases c4 hc with rfl | rfl | rfl | rfl <;> simp [fS, h0, allS, zeroS, hasS, Se.z, hi]
end Go.Proofs.Ytodgcfmacmfcpaa
