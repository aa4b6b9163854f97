/- copy of pairs; insert, remove, change. -/
import Derived.Test.YtinobhaemmddjaaTB
import Derived.Laws.CopyOwn
import Derived.Deep.RegionLaw
namespace Go.Proofs.Ytinobhaemmddjaa
open Go.RowKit

theorem run_copy2 {P : Program} (w : World) (dT sT ty elem : TypeId) (g o dLen dCap : Nat) (a : Addr) (sLen sCap : Nat) (cur : Array Value) (t : TypeId) (cs : List Value)
    (hu : P.underlying dT = some (.slice elem)) (hs : (P.info? elem).map (·.size) = some 2)
    (hg : w.heap[g]? = some (.cells cur t (0, 0))) (hn : cs.length = Nat.min sLen dLen * 2)
    (hsrc : ∀ j v, cs[j]? = some v → w.cell? (a.add j) = some v) (hfit : o + cs.length ≤ cur.size) (h1 : ∀ v ∈ cs, v.oneCell' = true) :
    (Builtin.copy_ #[dT, sT] ty #[.slice (some ⟨g, o, none⟩) dLen dCap, .slice (some a) sLen sCap]).run P w =
      .ok (goInt (Nat.min sLen dLen)) (w.setRow g (cur.toList.take o ++ cs ++ cur.toList.drop (o + cs.length)).toArray) := by
  have hl := run_loadCells_list (P := P) w a cs hsrc
  have hst := run_storeCells_at P g o t cs 0 cur w hg (by simpa using hfit) h1
  cases hq : P.info? elem with
  | none => simp [hq] at hs
  | some i =>
    have hi : i.size = 2 := by simpa [hq] using hs
    simp [Builtin.copy_, run_underlying hu, Builtin.lenOf, Builtin.firstCells, sizeOf, typeInfo, hq, hi, ← hn, hl, hst]
theorem run_copy2_none {P : Program} (w : World) (dT sT ty elem : TypeId) (d a : Option Addr) (dLen dCap sLen sCap : Nat) (hu : P.underlying dT = some (.slice elem)) (hs : (P.info? elem).map (·.size) = some 2) (hn : Nat.min sLen dLen = 0) :
    (Builtin.copy_ #[dT, sT] ty #[.slice d dLen dCap, .slice a sLen sCap]).run P w = .ok (goInt 0) w := by
  cases hq : P.info? elem with
  | none => simp [hq] at hs
  | some i =>
    have hl : ∀ (x : Addr), (loadCells x 0).run P w = .ok #[] w := fun x => by simpa using run_loadCells_list (P := P) w x [] (by simp)
    cases d <;> cases a <;> simp [Builtin.copy_, run_underlying hu, Builtin.lenOf, Builtin.firstCells, sizeOf, typeInfo, hq, hn, storeCells, hl]
theorem only_setRow (w : World) (g : Nat) (cs : Array Value) : Only (fun k => k = g) w (w.setRow g cs) :=
  ⟨rfl, rfl, rfl, by simp [World.setRow], fun k _ hk => setRow_other w g k cs hk⟩
theorem flat_splice (F C : List Pr) (p : Nat) (u : Value) (h : p + C.length ≤ F.length) : splice (flat F ++ [u]) (2 * p) (flat C) = flat (splice F p C) ++ [u] := by
  have hf := flat_length F
  have hc := flat_length C
  simp only [splice]
  rw [List.take_append_of_le_length (by omega), List.drop_append_of_le_length (by omega), hc, show 2 * p + 2 * C.length = 2 * (p + C.length) by omega, ← flat_take, ← flat_drop, flat_append, flat_append]
  simp [List.append_assoc]
/-- copy within a table, as a step of a region that draws: C are the pairs that go over, to place p -/
theorem step_copyT {w : World} {ops : Array Oper} {o : Oper} {a : Act} {K : Act → World → Prop} {Q : Exit → Act → World → Prop} {E : Prop} (hgd : o.guard = none) (d s : Operand)
    (ho : o.op = .call { callee := .builtin .copy, args := #[d, s], argTypes := #[34, 34] })
    (dp sp : Option Addr) (dLen dCap sLen sCap : Nat) (hd : a.eval d = .slice dp dLen dCap) (hs : a.eval s = .slice sp sLen sCap)
    (g p q : Nat) (F C : List Pr) (u : Value) (hg : w.heap[g]? = some (.cells (flat F ++ [u]).toArray 26 (0, 0))) (hC : C = (F.drop q).take C.length) (hn : C.length = Nat.min sLen dLen)
    (hpos : 0 < C.length → dp = some ⟨g, 2 * p, none⟩ ∧ sp = some ⟨g, 2 * q, none⟩) (hfit : p + C.length ≤ F.length)
    (h : ∀ w', Hid (w'.heap[g]? = some (.cells (flat (splice F p C) ++ [u]).toArray 26 (0, 0))) → Hid (Only (fun k => k = g) w w') → K (a.put o.dst (goInt C.length)) w') :
    if Region.wanted o (yielded ops a.tmps) = true then Oper.wp Try.prog o a w K Q else E := by
  have hw : Region.wanted o (yielded ops a.tmps) = true := by simp [Region.wanted, hgd]
  have hsz : (Try.prog.info? 23).map (·.size) = some 2 := by kernel_rfl
  rw [if_pos hw]
  by_cases h0 : C.length = 0
  · obtain rfl : C = [] := List.eq_nil_of_length_eq_zero h0
    have hrun := run_copy2_none (P := Try.prog) w 34 34 o.type 23 dp sp dLen dCap sLen sCap Try.underlying34 hsz (by simpa using hn.symm)
    unfold Oper.wp
    simp [execOp, ho, resolve, invoke, builtin, hd, hs, hrun, Result.andThen]
    exact h w (show _ = _ by simpa [splice] using hg) (Only.refl _ _)
  · obtain ⟨rfl, rfl⟩ := hpos (by omega)
    have hf := flat_length F
    have hc := flat_length C
    have hsrc : ∀ j v, (flat C)[j]? = some v → w.cell? ((⟨g, 2 * q, none⟩ : Addr).add j) = some v := by
      intro j v hv
      have hj : j < (flat C).length := by
        rcases Nat.lt_or_ge j (flat C).length with h | h
        · exact h
        · rw [List.getElem?_eq_none h] at hv; cases hv
      have e1 : (flat C)[j]? = ((flat F).drop (2 * q))[j]? := by
        rw [hC, flat_take, flat_drop, List.getElem?_take, if_pos (by omega)]
      rw [e1, List.getElem?_drop] at hv
      have hlt : 2 * q + j < (flat F).length := by
        rcases Nat.lt_or_ge (2 * q + j) (flat F).length with h | h
        · exact h
        · rw [List.getElem?_eq_none h] at hv; cases hv
      have e2 : (⟨g, 2 * q, none⟩ : Addr).add j = ⟨g, 2 * q + j, none⟩ := by unfold Addr.add; split <;> simp_all
      rw [e2, cell_of_row w g _ _ _ (0, 0) hg, List.getElem?_toArray, List.getElem?_append_left hlt]
      exact hv
    have hrun := run_copy2 (P := Try.prog) w 34 34 o.type 23 g (2 * p) dLen dCap ⟨g, 2 * q, none⟩ sLen sCap (flat F ++ [u]).toArray 26 (flat C) Try.underlying34 hsz hg (by rw [hc, hn]; omega) hsrc (by simp; omega) (flat_one C)
    have hsp := flat_splice F C p u hfit
    unfold Oper.wp
    simp only [execOp, ho, resolve, invoke, builtin, Sem.run_bind, Sem.run_pure, Result.andThen_ok, List.map_toArray, List.map_cons, List.map_nil, hd, hs, hrun]
    rw [hn] at h
    refine h _ (show _ = _ from ?_) (only_setRow _ _ _)
    rw [← hsp, setRow_heap w g _ _ _ _ hg]
    simp [splice]
end Go.Proofs.Ytinobhaemmddjaa
