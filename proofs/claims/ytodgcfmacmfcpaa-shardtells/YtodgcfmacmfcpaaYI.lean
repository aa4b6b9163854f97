/- ShardOnce: what was asked, and what it was told, as mathematics. -/
import Derived.Test.YtodgcfmacmfcpaaYG
import Derived.Test.YtodgcfmacmfcpaaRK
namespace Go.Proofs.Ytodgcfmacmfcpaa
open Go.RowKit

/-- a request -/
structure Rq where
  c : Int
  s : Int
  k : Int
  key : ByteArray
  v : ByteArray
  old : ByteArray
def Rq.cells (x : Rq) : List Value := [.int .i64 x.c, .int .i64 x.s, .int .i64 x.k, .string x.key, .string x.v, .string x.old]
def Rq.z : Rq := ⟨0, 0, 0, ⟨#[]⟩, ⟨#[]⟩, ⟨#[]⟩⟩
theorem rq_info : (Try.prog.info? 47).map (fun i => (i.zero, i.size, i.bytes)) = some (some (.agg (Rq.cells Rq.z).toArray), 6, 72) := by kernel_rfl
def rqK : Knd Rq where
  e := 47
  t := 65
  c := 6
  by_ := 72
  z := .agg (Rq.cells Rq.z).toArray
  cells := Rq.cells
  len := fun _ => rfl
  one := fun a u hu => by simp [Rq.cells] at hu; rcases hu with rfl | rfl | rfl | rfl | rfl | rfl <;> rfl
  ht := Try.underlying65
  hi := rq_info
  hz := rfl
  hc := by decide
/-- an answer -/
structure An where
  why : Int
  val : ByteArray
def An.cells (x : An) : List Value := [.int .i64 x.why, .string x.val]
def An.z : An := ⟨0, ⟨#[]⟩⟩
theorem an_info : (Try.prog.info? 29).map (fun i => (i.zero, i.size, i.bytes)) = some (some (.agg (An.cells An.z).toArray), 2, 24) := by kernel_rfl
def anK : Knd An where
  e := 29
  t := 66
  c := 2
  by_ := 24
  z := .agg (An.cells An.z).toArray
  cells := An.cells
  len := fun _ => rfl
  one := fun a u hu => by simp [An.cells] at hu; rcases hu with rfl | rfl <;> rfl
  ht := Try.underlying66
  hi := an_info
  hz := rfl
  hc := by decide
theorem mayC_in {c : Int} : mayC c = inS c 0 3 := by
  unfold mayC inS
  rw [show decide (c < 4) = decide (c ≤ 3) from by rw [decide_eq_decide]; omega]
theorem ask_may {c s k : Int} {key v old : ByteArray} (h : askableS c s k key v old = true) : mayC c = true ∧ 1 ≤ s := by
  unfold askableS at h
  simp only [Bool.and_eq_true] at h
  refine ⟨by rw [mayC_in]; exact h.1, ?_⟩
  have := h.2.1
  simp only [inS, Bool.and_eq_true, decide_eq_true_eq] at this
  exact this.1
theorem last_note {S : List Se} (hI : SInv S) {x : Se} (hm : mayC x.cl = true) (hlt : (lastS S x.cl).sq < x.sq) {c : Int} (hc : mayC c = true) : lastS (noteS S x) c = if c = x.cl then x else lastS S c := by
  obtain ⟨k, hk, hx⟩ := may_nat hm
  obtain ⟨j, hj, rfl⟩ := may_nat hc
  have hs : mayS S x = true := by unfold mayS; rw [hm, decide_eq_true hlt]; rfl
  have hn : noteS S x = S.set k x := by unfold noteS; rw [hs, if_pos rfl, hx]; rfl
  have h4 : (noteS S x).length = 4 := (hI.note x).1
  have e1 := last_at h4 hj
  rw [hn, List.getElem?_set] at e1
  rw [hn]
  by_cases e : k = j
  · subst e
    rw [if_pos rfl, if_pos (by rw [hI.1]; exact hk)] at e1
    rw [if_pos hx.symm]
    exact (Option.some.inj e1).symm
  · rw [if_neg e, last_at hI.1 hj] at e1
    rw [if_neg (by omega)]
    exact (Option.some.inj e1).symm
theorem ask_fresh (T : List Pr) (S : List Se) {c s k : Int} {key v old : ByteArray} (h : askableS c s k key v old = true) (hlt : (lastS S c).sq < s) {T' : List Pr} {a : Int} {y : ByteArray} (hd : doS T k key v old = (T', a, y)) :
    askS T S c s k key v old = (T', noteS S ⟨c, s, a, y⟩, a, y, true) := by
  unfold askS
  rw [if_pos h, if_neg (by omega), if_neg (by omega), hd]
/-- r was asked, and told a -/
def Was (S : List Se) (r : Rq) (a : An) : Prop :=
  askableS r.c r.s r.k r.key r.v r.old = true ∧ r.s ≤ (lastS S r.c).sq ∧ (r.s = (lastS S r.c).sq → (lastS S r.c).why = a.why ∧ (lastS S r.c).val = a.val)
theorem ask_again (T : List Pr) (S : List Se) {r : Rq} {a : An} (h : Was S r a) :
    askS T S r.c r.s r.k r.key r.v r.old = (T, S, (if r.s = (lastS S r.c).sq then a else ⟨9, ⟨#[]⟩⟩).why, (if r.s = (lastS S r.c).sq then a else ⟨9, ⟨#[]⟩⟩).val, false) := by
  obtain ⟨h1, h2, h3⟩ := h
  unfold askS
  rw [if_pos h1]
  by_cases e : r.s = (lastS S r.c).sq
  · rw [if_pos e, if_pos e, (h3 e).1, (h3 e).2]
  · rw [if_neg e, if_neg e, if_pos (by omega)]
/-- what was had, and what it was told -/
def Hads (S : List Se) (had : List Rq) (told : List An) : Prop := had.length = told.length ∧ ∀ (k : Nat) (r : Rq) (a : An), had[k]? = some r → told[k]? = some a → Was S r a
theorem Hads.nil (S : List Se) : Hads S [] [] := ⟨rfl, fun k r a h => by simp at h⟩
theorem Hads.add {S : List Se} {had : List Rq} {told : List An} (h : Hads S had told) (hI : SInv S) {r : Rq} (hA : askableS r.c r.s r.k r.key r.v r.old = true) (hlt : (lastS S r.c).sq < r.s) (a : An) :
    Hads (noteS S ⟨r.c, r.s, a.why, a.val⟩) (had ++ [r]) (told ++ [a]) := by
  obtain ⟨h1, h2⟩ := h
  obtain ⟨hm, _⟩ := ask_may hA
  refine ⟨by simp [h1], fun k q b hq hb => ?_⟩
  by_cases hk : k < had.length
  · rw [List.getElem?_append_left hk] at hq
    rw [List.getElem?_append_left (by omega)] at hb
    obtain ⟨w1, w2, w3⟩ := h2 k q b hq hb
    have hl := last_note hI (x := ⟨r.c, r.s, a.why, a.val⟩) hm hlt (ask_may w1).1
    refine ⟨w1, ?_, ?_⟩
    · rw [hl]
      by_cases e : q.c = r.c
      · rw [if_pos e]; rw [e] at w2; simp only; omega
      · rw [if_neg e]; exact w2
    · rw [hl]
      by_cases e : q.c = r.c
      · rw [if_pos e]; rw [e] at w2; simp only; intro h; omega
      · rw [if_neg e]; exact w3
  · have hlen : k = had.length := by
      have := (List.getElem?_eq_some_iff.1 hq).1
      simp only [List.length_append, List.length_singleton] at this
      omega
    subst hlen
    rw [List.getElem?_append_right (Nat.le_refl _)] at hq
    rw [List.getElem?_append_right (by omega)] at hb
    simp only [Nat.sub_self, h1, List.getElem?_cons_zero, Option.some.injEq] at hq hb
    subst hq hb
    have hl := last_note hI (x := ⟨r.c, r.s, a.why, a.val⟩) hm hlt hm
    rw [if_pos rfl] at hl
    refine ⟨hA, ?_, ?_⟩
    · rw [hl]; exact Int.le_refl _
    · rw [hl]; intro _; exact ⟨rfl, rfl⟩
/-- each client's last number, in a block of its own -/
def LastA (w : World) (g : Nat) (S : List Se) : Prop := w.heap[g]? = some (.cells #[.int .i64 (lastS S 0).sq, .int .i64 (lastS S 1).sq, .int .i64 (lastS S 2).sq, .int .i64 (lastS S 3).sq] 67 (0, 0))
section
variable {w w' : World} {g : Nat} {S : List Se}
theorem LastA.lt (h : LastA w g S) : g < w.heap.size := (Array.getElem?_eq_some_iff.1 h).1
theorem LastA.below (h : LastA w g S) (hb : Below w.heap.size w w') : LastA w' g S := (hb.block g h.lt).trans h
theorem LastA.only {R : Nat → Prop} (h : LastA w g S) (o : Only R w w') (hn : ¬ R g) : LastA w' g S := (o.block g h.lt hn).trans h
theorem LastA.at (h : LastA w g S) {k : Nat} (hk : k < 4) : w.cell? ⟨g, k, none⟩ = some (.int .i64 (lastS S (k : Int)).sq) := by
  rw [cell_of_row w _ _ _ _ (0, 0) h]
  have : k = 0 ∨ k = 1 ∨ k = 2 ∨ k = 3 := by omega
  rcases this with rfl | rfl | rfl | rfl <;> rfl
theorem LastA.free (h : LastA w g S) (o : Nat) : w.frozen? ⟨g, o, none⟩ = false := by unfold LastA at h; simp [World.frozen?, h]
theorem LastA.set (h : LastA w g S) (hI : SInv S) {x : Se} {k : Nat} (hk : k < 4) (hx : x.cl = (k : Int)) (hlt : (lastS S (k : Int)).sq < x.sq) : LastA (w.setCell ⟨g, k, none⟩ (.int .i64 x.sq)) g (noteS S x) := by
  have hm : mayC x.cl = true := by rw [hx, mayC_in]; unfold inS; rw [decide_eq_true (by omega), decide_eq_true (by omega)]; rfl
  have e : ∀ c : Int, mayC c = true → lastS (noteS S x) c = if c = x.cl then x else lastS S c := fun c hc => last_note hI hm (by rw [hx]; exact hlt) hc
  unfold LastA
  rw [set_row1 h, e 0 rfl, e 1 rfl, e 2 rfl, e 3 rfl, hx]
  have : k = 0 ∨ k = 1 ∨ k = 2 ∨ k = 3 := by omega
  rcases this with rfl | rfl | rfl | rfl <;> rfl
end
end Go.Proofs.Ytodgcfmacmfcpaa
