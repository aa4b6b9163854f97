/- copy of pairs; insert, remove, change. -/
import Derived.Test.YtodgcfmacmfcpaaTB
import Derived.Laws.CopyOwn
import Derived.Deep.RegionLaw
namespace Go.Proofs.Ytodgcfmacmfcpaa
open Go.RowKit

theorem run_copy2 {P : Program} (w : World) (dT sT ty elem : TypeId) (g o dLen dCap : Nat) (a : Addr) (sLen sCap : Nat) (cur : Array Value) (t : TypeId) (cs : List Value)
    (hu : P.underlying dT = some (.slice elem)) (hs : (P.info? elem).map (·.size) = some 2)
    (hg : w.heap[g]? = some (.cells cur t (0, 0))) (hn : cs.length = Nat.min sLen dLen * 2)
    (hsrc : ∀ j v, cs[j]? = some v → w.cell? (a.add j) = some v) (hfit : o + cs.length ≤ cur.size) (h1 : ∀ v ∈ cs, v.oneCell' = true) :
    (Builtin.copy_ #[dT, sT] ty #[.slice (some ⟨g, o, none⟩) dLen dCap, .slice (some a) sLen sCap]).run P w =
      .ok (goInt (Nat.min sLen dLen)) (w.setRow g (cur.toList.take o ++ cs ++ cur.toList.drop (o + cs.length)).toArray) := by
  have hl := run_loadCells_list (P := P) w a cs hsrc
  have hst := run_storeCells_at P g o t cs 0 cur w hg (by simpa using hfit) h1
  cases hq : P.info? elem with
  | none => simp [hq] at hs
  | some i =>
    have hi : i.size = 2 := by simpa [hq] using hs
    simp [Builtin.copy_, run_underlying hu, Builtin.lenOf, Builtin.firstCells, sizeOf, typeInfo, hq, hi, ← hn, hl, hst]
theorem run_copy2_none {P : Program} (w : World) (dT sT ty elem : TypeId) (d a : Option Addr) (dLen dCap sLen sCap : Nat) (hu : P.underlying dT = some (.slice elem)) (hs : (P.info? elem).map (·.size) = some 2) (hn : Nat.min sLen dLen = 0) :
    (Builtin.copy_ #[dT, sT] ty #[.slice d dLen dCap, .slice a sLen sCap]).run P w = .ok (goInt 0) w := by
  cases hq : P.info? elem with
  | none => simp [hq] at hs
  | some i =>
    have hl : ∀ (x : Addr), (loadCells x 0).run P w = .ok #[] w := fun x => by simpa using run_loadCells_list (P := P) w x [] (by simp)
    cases d <;> cases a <;> simp [Builtin.copy_, run_underlying hu, Builtin.lenOf, Builtin.firstCells, sizeOf, typeInfo, hq, hn, storeCells, hl]
theorem flat_splice (F C : List Pr) (p : Nat) (u : Value) (h : p + C.length ≤ F.length) : splice (flat F ++ [u]) (2 * p) (flat C) = flat (splice F p C) ++ [u] := by
  have hf := flat_length F
  have hc := flat_length C
  simp only [splice]
  rw [List.take_append_of_le_length (by omega), List.drop_append_of_le_length (by omega), hc, show 2 * p + 2 * C.length = 2 * (p + C.length) by omega, ← flat_take, ← flat_drop, flat_append, flat_append]
  simp [List.append_assoc]
/-- copy within a table, as a step of a region that draws: C are the pairs that go over, to place p -/
theorem step_copyT {w : World} {ops : Array Oper} {o : Oper} {a : Act} {K : Act → World → Prop} {Q : Exit → Act → World → Prop} {E : Prop} (hgd : o.guard = none) (d s : Operand)
    (ho : o.op = .call { callee := .builtin .copy, args := #[d, s], argTypes := #[38, 38] })
    (dp sp : Option Addr) (dLen dCap sLen sCap : Nat) (hd : a.eval d = .slice dp dLen dCap) (hs : a.eval s = .slice sp sLen sCap)
    (g fo p q : Nat) (F C : List Pr) (u : Value) (hg : Ob w g fo (flat F ++ [u])) (hC : C = (F.drop q).take C.length) (hn : C.length = Nat.min sLen dLen)
    (hpos : 0 < C.length → dp = some ⟨g, fo + 2 * p, none⟩ ∧ sp = some ⟨g, fo + 2 * q, none⟩) (hfit : p + C.length ≤ F.length)
    (h : ∀ w', Hid (Ob w' g fo (flat (splice F p C) ++ [u])) → Hid (Part g fo (2 * F.length + 1) w w') → K (a.put o.dst (goInt C.length)) w') :
    if Region.wanted o (yielded ops a.tmps) = true then Oper.wp Try.prog o a w K Q else E := by
  have hw : Region.wanted o (yielded ops a.tmps) = true := by simp [Region.wanted, hgd]
  have hsz : (Try.prog.info? 23).map (·.size) = some 2 := by kernel_rfl
  rw [if_pos hw]
  by_cases h0 : C.length = 0
  · obtain rfl : C = [] := List.eq_nil_of_length_eq_zero h0
    have hrun := run_copy2_none (P := Try.prog) w 38 38 o.type 23 dp sp dLen dCap sLen sCap Try.underlying38 hsz (by simpa using hn.symm)
    unfold Oper.wp
    simp [execOp, ho, resolve, invoke, builtin, hd, hs, hrun, Result.andThen]
    exact h w (show Ob _ _ _ _ by simpa [splice] using hg) (Part.refl _ _ _ _)
  · obtain ⟨rfl, rfl⟩ := hpos (by omega)
    have hf := flat_length F
    have hc := flat_length C
    obtain ⟨G, tG, hG, hlen, hat⟩ := hg
    have hlen2 : fo + (2 * F.length + 1) ≤ G.size := by simpa [hf] using hlen
    have hsrc : ∀ j v, (flat C)[j]? = some v → w.cell? ((⟨g, fo + 2 * q, none⟩ : Addr).add j) = some v := by
      intro j v hv
      have hj : j < (flat C).length := (List.getElem?_eq_some_iff.1 hv).1
      have e1 : (flat C)[j]? = ((flat F).drop (2 * q))[j]? := by
        rw [hC, flat_take, flat_drop, List.getElem?_take, if_pos (by omega)]
      rw [e1, List.getElem?_drop] at hv
      have hlt : 2 * q + j < (flat F).length := (List.getElem?_eq_some_iff.1 hv).1
      rw [add_at, cell_of_row w g _ _ _ (0, 0) hG, Nat.add_assoc]
      exact hat _ v (by rw [List.getElem?_append_left hlt]; exact hv)
    have hrun := run_copy2 (P := Try.prog) w 38 38 o.type 23 g (fo + 2 * p) dLen dCap ⟨g, fo + 2 * q, none⟩ sLen sCap G tG (flat C) Try.underlying38 hsz hG (by rw [hc, hn]; omega) hsrc (by omega) (flat_one C)
    have hsp := flat_splice F C p u hfit
    unfold Oper.wp
    simp only [execOp, ho, resolve, invoke, builtin, Sem.run_bind, Sem.run_pure, Result.andThen_ok, List.map_toArray, List.map_cons, List.map_nil, hd, hs, hrun]
    rw [hn] at h
    have hGl : G.toList.length = G.size := Array.length_toList ..
    have hnew : ∀ i, (G.toList.take (fo + 2 * p) ++ flat C ++ G.toList.drop (fo + 2 * p + (flat C).length))[i]? = if i < fo + 2 * p then G[i]? else if i < fo + 2 * p + (flat C).length then (flat C)[i - (fo + 2 * p)]? else G[i]? := by
      intro i
      have ht : (G.toList.take (fo + 2 * p)).length = fo + 2 * p := by rw [List.length_take]; omega
      by_cases h1 : i < fo + 2 * p
      · rw [if_pos h1, List.append_assoc, List.getElem?_append_left (by omega), List.getElem?_take, if_pos h1]; simp
      · rw [if_neg h1]
        by_cases h2 : i < fo + 2 * p + (flat C).length
        · rw [if_pos h2, List.append_assoc, List.getElem?_append_right (by omega), ht, List.getElem?_append_left (by omega)]
        · rw [if_neg h2, List.getElem?_append_right (by rw [List.length_append]; omega), List.length_append, ht, List.getElem?_drop]
          rw [show fo + 2 * p + (flat C).length + (i - (fo + 2 * p + (flat C).length)) = i by omega]
          simp
    have hnl : (G.toList.take (fo + 2 * p) ++ flat C ++ G.toList.drop (fo + 2 * p + (flat C).length)).length = G.size := by
      simp only [List.length_append, List.length_take, List.length_drop]; omega
    refine h _ ⟨_, tG, setRow_heap w g _ _ _ _ hG, ?_, fun j v hj => ?_⟩ (Part.setRow hG (by simpa using hnl) fun i hi => ?_)
    · rw [List.size_toArray, hnl, List.length_append, flat_length, length_splice _ _ _ hfit]
      simpa using hlen2
    · rw [← hsp] at hj
      rw [List.getElem?_toArray, hnew]
      simp only [splice] at hj
      have hFl : (flat F ++ [u]).length = 2 * F.length + 1 := by simp [hf]
      by_cases h1 : j < 2 * p
      · rw [if_pos (by omega)]
        rw [List.getElem?_append_left (by rw [List.length_take]; omega), List.getElem?_take, if_pos h1] at hj
        exact hat j v hj
      · rw [if_neg (by omega)]
        have ht : ((flat F ++ [u]).take (2 * p)).length = 2 * p := by rw [List.length_take]; omega
        by_cases h2 : j < 2 * p + (flat C).length
        · rw [if_pos (by omega), show fo + j - (fo + 2 * p) = j - 2 * p by omega]
          rw [List.getElem?_append_right (by omega), ht, List.getElem?_append_left (by omega)] at hj
          exact hj
        · rw [if_neg (by omega)]
          rw [List.getElem?_append_right (by omega), ht, List.getElem?_append_right (by omega), List.getElem?_drop, show 2 * p + (flat C).length + (j - 2 * p - (flat C).length) = j by omega] at hj
          exact hat j v hj
    · rw [List.getElem?_toArray, hnew]
      by_cases h1 : i < fo + 2 * p
      · rw [if_pos h1]
      · rw [if_neg h1, if_neg (by omega)]
end Go.Proofs.Ytodgcfmacmfcpaa
