/- Shards: the object from a cell of its block on; within, askable. -/
import Derived.Test.YtodgcfmacmfcpaaSC
import Derived.Test.YtodgcfmacmfcpaaTM
import Derived.Test.YtodgcfmacmfcpaaRQ
namespace Go.Proofs.Ytodgcfmacmfcpaa
open Go.RowKit

/-- a shard that lies from cell fo of block g on: its table's pairs, its sessions, its number, its epoch -/
def ShO (w : World) (g fo : Nat) (T : List Pr) (S : List Se) (id ep : Int) : Prop := TabO w g fo T ∧ SesO w g (fo + 17) S ∧ Ob w g (fo + 33) [.int .i64 id, .int .i64 ep]
section
variable {w w' : World} {g fo p n : Nat} {T : List Pr} {S : List Se} {id ep : Int}
theorem ShO.lt (h : ShO w g fo T S id ep) : g < w.heap.size := h.1.lt
theorem ShO.below (h : ShO w g fo T S id ep) (e : Below w.heap.size w w') : ShO w' g fo T S id ep := ⟨h.1.below e, h.2.1.below e, h.2.2.below e⟩
theorem ShO.apart {R : Nat → Prop} (h : ShO w g fo T S id ep) (e : Only R w w') (hn : ¬ R g) : ShO w' g fo T S id ep := ⟨h.1.apart e hn, h.2.1.apart e hn, h.2.2.apart e hn⟩
theorem ShO.part (h : ShO w g fo T S id ep) (k : Part g p n w w') (hd : fo + 35 ≤ p ∨ p + n ≤ fo) : ShO w' g fo T S id ep :=
  ⟨h.1.part k (by omega), h.2.1.part k (by omega), h.2.2.part k (by simp only [List.length_cons, List.length_nil]; omega)⟩
/-- the table alone was turned -/
theorem ShO.tab {T' : List Pr} (h : ShO w g fo T S id ep) (hT : TabO w' g fo T') (k : Part g fo 17 w w') : ShO w' g fo T' S id ep :=
  ⟨hT, h.2.1.part k (by omega), h.2.2.part k (by omega)⟩
/-- the sessions alone were turned -/
theorem ShO.ses {S' : List Se} (h : ShO w g fo T S id ep) (hS : SesO w' g (fo + 17) S') (k : Part g (fo + 17) 16 w w') : ShO w' g fo T S' id ep :=
  ⟨h.1.part k (by omega), hS, h.2.2.part k (by omega)⟩
theorem ShO.nums (h : ShO w g fo T S id ep) : w.cell? ⟨g, fo + 33, none⟩ = some (.int .i64 id) ∧ w.cell? ⟨g, fo + 34, none⟩ = some (.int .i64 ep) := ⟨h.2.2.at 0 _ rfl, h.2.2.at 1 _ rfl⟩
end
def inS (n lo hi : Int) : Bool := decide (lo ≤ n) && decide (n ≤ hi)
theorem within_any (n lo hi : Int) (w : World) : Calls Try.prog 36 #[.int .i64 n, .int .i64 lo, .int .i64 hi] w fun e w' => e = .returned (.bool (inS n lo hi)) ∧ w' = w := by
  by_cases h1 : lo ≤ n
  · by_cases h2 : n ≤ hi
    · have hm : inS n lo hi = true := by unfold inS; rw [decide_eq_true h1, decide_eq_true h2]; rfl
      rw [hm]
      go_enter Try.func36, Try.ntmps36
      go_wp2
      go_ret
      exact ⟨rfl, rfl⟩
    · have hm : inS n lo hi = false := by unfold inS; rw [decide_eq_false h2, Bool.and_false]
      rw [hm]
      go_enter Try.func36, Try.ntmps36
      go_wp2
      go_ret
      exact ⟨rfl, rfl⟩
  · have hm : inS n lo hi = false := by unfold inS; rw [decide_eq_false h1, Bool.false_and]
    rw [hm]
    go_enter Try.func36, Try.ntmps36
    go_wp2
    go_ret
    exact ⟨rfl, rfl⟩
theorem within_eq (n lo hi : Int) (b : Bool) (hb : inS n lo hi = b) (w : World) : Calls Try.prog 36 #[.int .i64 n, .int .i64 lo, .int .i64 hi] w fun e w' => e = .returned (.bool b) ∧ w' = w := by subst hb; exact within_any n lo hi w
/-- what may be asked -/
def askableS (c s k : Int) (key v old : ByteArray) : Bool := inS c 0 3 && (inS s 1 4611686018427387903 && rightS k key v old)
set_option maxHeartbeats 2000000 in
theorem askable_any (c s k : Int) (key v old : ByteArray) (w : World) : Calls Try.prog 29 #[.agg #[.int .i64 c, .int .i64 s, .int .i64 k, .string key, .string v, .string old]] w fun e w' => e = .returned (.bool (askableS c s k key v old)) ∧ Below w.heap.size w w' := by
  have HB : Hid (Below w.heap.size w (w.alloc (reqO c s k key v old))) := bel_al w _
  unfold reqO at HB
  cases h1 : inS c 0 3 with
  | false =>
    have hm : askableS c s k key v old = false := by unfold askableS; rw [h1, Bool.false_and]
    rw [hm]
    go_enter Try.func29, Try.ntmps29
    go_wp2_with (go_at_call 36; refine (within_eq _ _ _ false h1 _).mono ?_; rintro e w' ⟨rfl, rfl⟩)
    go_ret
    exact ⟨rfl, HB.out⟩
  | true =>
    cases h2 : inS s 1 4611686018427387903 with
    | false =>
      have hm : askableS c s k key v old = false := by unfold askableS; rw [h2, Bool.false_and, Bool.and_false]
      rw [hm]
      go_enter Try.func29, Try.ntmps29
      have A1 := within_eq c 0 3 true h1
      have A2 := within_eq s 1 4611686018427387903 false h2
      go_wp2_with (go_at_call 36; first | (have _t := A1; refine (A1 _).mono ?_; rintro e w' ⟨rfl, rfl⟩; clear A1 _t) | (refine (A2 _).mono ?_; rintro e w' ⟨rfl, rfl⟩))
      go_ret
      exact ⟨rfl, HB.out⟩
    | true =>
      have hm : askableS c s k key v old = rightS k key v old := by unfold askableS; rw [h1, h2, Bool.true_and, Bool.true_and]
      rw [hm]
      go_enter Try.func29, Try.ntmps29
      have A1 := within_eq c 0 3 true h1
      have A2 := within_eq s 1 4611686018427387903 true h2
      go_wp2_with (first | (go_at_call 36; first | (have _t := A1; refine (A1 _).mono ?_; rintro e w' ⟨rfl, rfl⟩; clear A1 _t) | (refine (A2 _).mono ?_; rintro e w' ⟨rfl, rfl⟩)) | (go_at_call 49; refine (Right_any k key v old _).mono ?_; rintro e w2 ⟨rfl, hb⟩))
      go_ret
      exact ⟨rfl, bel_call HB.out hb⟩
theorem askable_eq (c s k : Int) (key v old : ByteArray) (b : Bool) (hb : askableS c s k key v old = b) (w : World) : Calls Try.prog 29 #[.agg #[.int .i64 c, .int .i64 s, .int .i64 k, .string key, .string v, .string old]] w fun e w' => e = .returned (.bool b) ∧ Below w.heap.size w w' := by subst hb; exact askable_any c s k key v old w
end Go.Proofs.Ytodgcfmacmfcpaa
