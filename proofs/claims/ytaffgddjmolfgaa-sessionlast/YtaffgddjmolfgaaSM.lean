/- A map of clients to elements that a law makes for itself. -/
import Derived.Test.YtaffgddjmolfgaaSK
import Derived.Maps.OwnSet
import Derived.Maps.OwnOps
namespace Go.Proofs.Ytaffgddjmolfgaa
open Go.RowKit Go.Maps

def seD (x : Se) : DataW Unit := .agg [.lit (.int .i64 x.cl), .lit (.int .i64 x.sq), .lit (.int .i64 x.why), .lit (.string x.val.data.toList)]
theorem seD_inj {x y : Se} (h : seD x = seD y) : x = y := by
  obtain ⟨a, b, c, d⟩ := x
  obtain ⟨a', b', c', d'⟩ := y
  simp only [seD, DataW.agg.injEq, List.cons.injEq, DataW.lit.injEq, Lit.int.injEq, Lit.string.injEq, true_and, and_true] at h
  obtain ⟨h1, h2, h3, h4⟩ := h
  subst h1 h2 h3
  rw [data_inj h4]
def seR : Value → Option (DataW Unit × List MemPlace)
  | .agg cs => match cs.toList with
    | [.int .i64 a, .int .i64 b, .int .i64 c, .string v] => some (seD ⟨a, b, c, v⟩, [])
    | _ => none
  | _ => none
theorem seR_mk (x : Se) : seR (seV x) = some (seD x, []) := rfl
theorem seR_inv {v : Value} {z : DataW Unit × List MemPlace} (h : seR v = some z) : ∃ x, v = seV x ∧ z = (seD x, []) := by
  unfold seR at h
  split at h
  · rename_i cs
    split at h
    · rename_i a b c t hcs
      refine ⟨⟨a, b, c, t⟩, ?_, (Option.some.inj h).symm⟩
      unfold seV
      rw [← hcs]
    · cases h
  · cases h
theorem zeroSe (w : World) : (zeroValue 26).run Try.prog w = .ok (seV Se.z) w := by kernel_rfl
theorem intLaw : Keyed Try.prog 3 := int_keyed Try.underlying3
def cK (k : Nat) : Lit := .int .i64 (k : Int)
theorem key_c {k : Nat} (hk : k < 4) : keyOf Try.prog 3 (.int .i64 (k : Int)) = some (cK k) := keyOf_int_mk Try.underlying3 (by simp [Lit.wf, IntKind.min, IntKind.max, IntKind.signed, IntKind.bits]; omega)
/-- block b is a map of clients with just what the places hold -/
def MapM (w : World) (b : Nat) (M : List Se) : Prop := ∃ D, w.ownsMap Try.prog 3 seR b (Maps.size D) D ∧ (∀ k : Nat, k < 4 → D.atKey (cK k) (seD Se.z) = seD (lastS M (k : Int)) ∧ Maps.has D (cK k) = hasS (lastS M (k : Int))) ∧ Maps.size D = (allS M).length
section
variable {w w' : World} {b : Nat} {M : List Se}
theorem MapM.lt (h : MapM w b M) : b < w.heap.size := by obtain ⟨D, h, _⟩ := h; exact h.lt
theorem MapM.heap (h : MapM w b M) (e : w'.heap[b]? = w.heap[b]?) : MapM w' b M := by
  obtain ⟨D, ⟨es, c, h1, h2⟩, h⟩ := h
  exact ⟨D, ⟨es, c, e.trans h1, h2⟩, h⟩
theorem MapM.below (h : MapM w b M) (hb : Below w.heap.size w w') : MapM w' b M := h.heap (hb.block b h.lt)
theorem MapM.made (w : World) : MapM (w.alloc (.map #[] 0)) w.heap.size zeroS :=
  ⟨.map [], World.ownsMap_made w _ _ _, fun k hk => by rw [lastS_zero k hk]; exact ⟨rfl, rfl⟩, rfl⟩
theorem own_sizeR {n : Nat} {D : DataW Unit} (h : w.ownsMap Try.prog 3 seR b n D) : w.ownsMap Try.prog 3 seR b (Maps.size D) D := by
  obtain ⟨es, c, h1, h2, h3, rfl⟩ := h
  exact ⟨es, c, h1, h2, by simp [Maps.size, length_sorted], rfl⟩
theorem MapM.look (h : MapM w b M) {k : Nat} (hk : k < 4) {y : Se} (hy : lastS M (k : Int) = y) : (Instr.lookup 46 (.map (some b)) (.int .i64 (k : Int)) false).run Try.prog w = .ok (seV y) w := by
  obtain ⟨D, hown, hA, _⟩ := h
  obtain ⟨v, ps, hrun, hv⟩ := hown.lookup intLaw Try.underlying46 (zeroSe w) (seR_mk Se.z) (key_c hk)
  obtain ⟨x, rfl, hz⟩ := seR_inv hv
  have e := congrArg Prod.fst hz
  simp only at e
  rw [(hA k hk).1, hy] at e
  rw [hrun, seD_inj e]
theorem MapM.len (h : MapM w b M) (ty : TypeId) : (Builtin.len_ #[46] ty #[.map (some b)]).run Try.prog w = .ok (.int .i64 (allS M).length) w := by
  obtain ⟨D, hown, _, hs⟩ := h
  rw [hown.len Try.underlying46 ty, hs]
theorem all_set (hI : SInv M) (k : Nat) (hk : k < 4) (x : Se) (hx : hasS x = true) : (allS (M.set k x)).length = if hasS (lastS M (k : Int)) = true then (allS M).length else (allS M).length + 1 := by
  have hl := last_at hI.1 hk
  obtain ⟨x0, x1, x2, x3, rfl⟩ := four' hI.1
  have hc : k = 0 ∨ k = 1 ∨ k = 2 ∨ k = 3 := by omega
  cases h0 : hasS x0 <;> cases h1 : hasS x1 <;> cases h2 : hasS x2 <;> cases h3 : hasS x3
  all_goals
    rcases hc with rfl | rfl | rfl | rfl
  all_goals
    simp only [List.getElem?_cons_zero, List.getElem?_cons_succ, Option.some.injEq] at hl
    rw [← hl]
    simp [allS, h0, h1, h2, h3, hx]
/-- m[k] = x -/
theorem put_mapM {ops : Array Oper} {rest : List Oper} {o : Oper} {a : Act} {Q : Exit → Act → World → Prop} (hg : o.guard = none) (m x v : Operand) (hop : o.op = Op.mapUpdate 46 m x v) (hm : a.eval m = .map (some b)) (h : MapM w b M) (hI : SInv M) {k : Nat} (hk : k < 4) (y : Se) (hyp : hasS y = true) (hx : a.eval x = .int .i64 (k : Int)) (hv : a.eval v = seV y)
    (hK : ∀ w', MapM w' b (M.set k y) → Only (fun i => i = b) w w' → wpList Try.prog ops Q rest (a.put o.dst undef) w') : wpList Try.prog ops Q (o :: rest) a w := by
  obtain ⟨D, hown, hA, hs⟩ := h
  have hfew : (allS M).length ≤ 4 := by have := List.length_filter_le hasS M; rw [hI.1] at this; exact this
  refine wpList_mapUpdate_own w hg m x v _ hop 3 26 intLaw Try.underlying46 _ b (Maps.size D) D hm hown (by rw [hs]; unfold maxLen; omega) _ _ _ hx hv (key_c hk) _ [] (seR_mk y) ?_
  intro w' hown' hgr
  have hT := hown.tidy intLaw
  have kl : WideAt.IsKeyLit (cK k) := by unfold cK; constructor
  refine hK w' ⟨_, own_sizeR hown', fun j hj => ?_, ?_⟩ (Only.of_grown hgr fun k e => by cases e; rfl)
  · rw [lastS_set hI.1 y k j hk hj]
    by_cases e : k = j
    · subst e
      rw [if_pos rfl]
      exact ⟨atKey_put_same hT.isMap kl _ _, by rw [has_put_same hT.isMap kl, hyp]⟩
    · rw [if_neg e]
      have hne : cK j ≠ cK k := by unfold cK; intro x; simp at x; omega
      exact ⟨by rw [atKey_put_other hne]; exact (hA j hj).1, by rw [has_put_other hne]; exact (hA j hj).2⟩
  · rw [size_put hT, (hA k hk).2, all_set hI k hk y hyp, hs]
end
/-- what is told rises -/
theorem all_rise {M : List Se} (hI : SInv M) : (allS M).Pairwise fun x y => x.cl < y.cl := by
  have h := hI.2
  obtain ⟨x0, x1, x2, x3, rfl⟩ := four' hI.1
  have on : ∀ (k : Nat) (x : Se), [x0, x1, x2, x3][k]? = some x → hasS x = true → x.cl = (k : Int) := fun k x hx hs => by
    rcases h k x hx with e | e
    · rw [e] at hs; simp [hasS, Se.z] at hs
    · exact e.1
  have e0 := on 0 x0 rfl
  have e1 := on 1 x1 rfl
  have e2 := on 2 x2 rfl
  have e3 := on 3 x3 rfl
  cases h0 : hasS x0 <;> cases h1 : hasS x1 <;> cases h2 : hasS x2 <;> cases h3 : hasS x3
  all_goals
    simp only [h0, h1, h2, h3, Bool.false_eq_true, false_imp_iff, true_imp_iff] at e0 e1 e2 e3
    simp [allS, h0, h1, h2, h3]
  all_goals (try omega)
end Go.Proofs.Ytaffgddjmolfgaa
