/- TableOrder: a set of texts, and what is put in any order. -/
import Derived.Test.YtinobhaemmddjaaTM
namespace Go.Proofs.Ytinobhaemmddjaa
open Go.RowKit Go.Maps

theorem plainElem_bool_inv {H : Type} {P : Program} {e : TypeId} (he : P.underlying e = some .bool) {v : Value} {z : DataW H × List MemPlace} (h : plainElem P e v = some z) : ∃ x : Bool, v = .bool x ∧ z = (.lit (.bool x), []) := by
  unfold plainElem at h
  rw [he] at h
  cases v <;> simp at h
  exact ⟨_, rfl, h.symm⟩
theorem zeroBool (w : World) : (zeroValue 4).run Try.prog w = .ok (.bool false) w := by kernel_rfl
theorem strLaw2 : Keyed Try.prog 9 := string_keyed Try.underlying9
/-- the text is on the list -/
def hasK (k : ByteArray) (H : List ByteArray) : Bool := H.any fun x => decide (x = k)
theorem hasK_mem {k : ByteArray} {H : List ByteArray} : hasK k H = true ↔ k ∈ H := by simp [hasK]
/-- block b is a map[string]bool, of at most n entries, that says true of just these texts -/
def MapB (w : World) (b n : Nat) (H : List ByteArray) : Prop := ∃ D, w.ownsMap Try.prog 9 (plainElem (H := Unit) Try.prog 4) b n D ∧ ∀ k, D.atKey (klit k) (.lit (.bool false)) = .lit (.bool (hasK k H))
section
variable {w w' : World} {b n : Nat} {H : List ByteArray} {ops : Array Oper} {rest : List Oper} {o : Oper} {a : Act} {Q : Exit → Act → World → Prop}
theorem MapB.lt (h : MapB w b n H) : b < w.heap.size := by obtain ⟨D, h, _⟩ := h; exact h.lt
theorem MapB.made (w : World) : MapB (w.alloc (.map #[] 0)) w.heap.size 0 [] := ⟨.map [], World.ownsMap_made w _ _ _, fun k => by simp [DataW.atKey, hasK]⟩
theorem MapB.heap (h : MapB w b n H) (e : w'.heap[b]? = w.heap[b]?) : MapB w' b n H := by
  obtain ⟨D, ⟨es, c, h1, h2⟩, h⟩ := h
  exact ⟨D, ⟨es, c, e.trans h1, h2⟩, h⟩
/-- m[k] -/
theorem look_set (hg : o.guard = none) (m x : Operand) (hop : o.op = Op.lookup 59 m x false) (hm : a.eval m = .map (some b)) (h : MapB w b n H) (k : ByteArray) (hx : a.eval x = .string k) (hk : k.size ≤ maxLen) (r : Bool) (hr : hasK k H = r)
    (hK : wpList Try.prog ops Q rest (a.put o.dst (.bool r)) w) : wpList Try.prog ops Q (o :: rest) a w := by
  obtain ⟨D, hown, hA⟩ := h
  refine wpList_plain hg fun K' hK' => ?_
  obtain ⟨v, ps, hrun, hv⟩ := hown.lookup strLaw2 Try.underlying59 (zeroBool w) (zd := .lit (.bool false)) (zp := []) (plainElem_bool Try.underlying4 false) (key := .string k) (kl := klit k) (WideMaps.keyOf_string_mk Try.underlying9 hk)
  obtain ⟨y, rfl, hz⟩ := plainElem_bool_inv Try.underlying4 hv
  have hy : y = r := by
    have := congrArg Prod.fst hz
    rw [hA k, hr] at this
    simpa using this.symm
  subst hy
  unfold Oper.wp
  simp [execOp, hop, hm, hx, hrun, Result.andThen]
  exact hK' _ _ hK
/-- m[k] = true -/
theorem put_set (hg : o.guard = none) (m x v : Operand) (hop : o.op = Op.mapUpdate 59 m x v) (hm : a.eval m = .map (some b)) (h : MapB w b n H) (hl : n < maxLen) (k : ByteArray) (hx : a.eval x = .string k) (hv : a.eval v = .bool true) (hk : k.size ≤ maxLen)
    (hK : ∀ w', Hid (MapB w' b (n + 1) (k :: H)) → Hid (Only (fun i => i = b) w w') → wpList Try.prog ops Q rest (a.put o.dst undef) w') : wpList Try.prog ops Q (o :: rest) a w := by
  obtain ⟨D, hown, hA⟩ := h
  refine wpList_mapUpdate_own w hg m x v _ hop 9 4 strLaw2 Try.underlying59 _ b n D hm hown hl _ _ _ hx hv (WideMaps.keyOf_string_mk Try.underlying9 hk) _ [] (plainElem_bool Try.underlying4 true) ?_
  intro w' hown' hgr
  refine hK w' ⟨_, hown', fun k' => ?_⟩ (Only.of_grown hgr fun k e => by cases e; rfl)
  by_cases e : k' = k
  · subst e
    rw [show (Lit.string k'.data.toList) = klit k' from rfl, atKey_put_same hown.isMap (klit_key _)]
    simp [hasK]
  · rw [show (Lit.string k.data.toList) = klit k from rfl, atKey_put_other (klit_ne e), hA k']
    have e2 : ¬ k = k' := fun x => e x.symm
    simp [hasK, e2]
end
/-- what is put under unlike keys -/
theorem puts_perm (P : List Pr) : ∀ (l : List Pr), Rise l → (∀ q ∈ P, rightS 2 q.1 q.2 ⟨#[]⟩ = true) → ((l ++ P).map (·.1)).Nodup → (l ++ P).length ≤ 8 → Rise (putsS l P) ∧ (putsS l P).Perm (l ++ P) := by
  induction P with
  | nil => intro l hr _ _ _; simpa [putsS] using hr
  | cons p r ih =>
    intro l hr hR hN hL
    have hn : has p.1 l = false := by
      cases hh : has p.1 l with
      | false => rfl
      | true =>
        obtain ⟨q, hq, e⟩ := List.any_eq_true.1 hh
        rw [List.map_append, List.nodup_append] at hN
        have e2 : q.1 = p.1 := of_decide_eq_true e
        exact absurd e2 (hN.2.2 q.1 (List.mem_map_of_mem hq) p.1 (by simp))
    have hd := doS_not (l := l) (k := p.1) (v := p.2) (old := ⟨#[]⟩) (kind := 2) (hR p (by simp)) hn
    have hlen : ¬ l.length = 8 := by simp at hL; omega
    rw [if_neg (by simp), if_neg hlen] at hd
    have e1 : putsS l (p :: r) = putsS (l.take (lb p.1 l) ++ (p.1, p.2) :: l.drop (lb p.1 l)) r := by
      unfold putsS
      rw [List.foldl_cons, hd]
    have hp : (l.take (lb p.1 l) ++ (p.1, p.2) :: l.drop (lb p.1 l) ++ r).Perm (l ++ p :: r) := by
      have h1 : (l.take (lb p.1 l) ++ (p.1, p.2) :: l.drop (lb p.1 l)).Perm ((p.1, p.2) :: l) := by
        have := List.perm_middle (a := (p.1, p.2)) (l₁ := l.take (lb p.1 l)) (l₂ := l.drop (lb p.1 l))
        rwa [List.take_append_drop] at this
      exact (h1.append_right r).trans List.perm_middle.symm
    rw [e1]
    obtain ⟨g1, g2⟩ := ih _ (rise_ins hr p.1 p.2 hn) (fun q hq => hR q (by simp [hq])) ((hp.map _).nodup_iff.2 hN) (by rw [hp.length_eq]; exact hL)
    exact ⟨g1, g2.trans hp⟩
theorem rise_perm {a b : List Pr} (ha : Rise a) (hb : Rise b) (h : a.Perm b) : a = b :=
  h.eq_of_pairwise (fun x y _ _ h1 h2 => by have := lt_trans h1 h2; rw [lt_irrefl] at this; cases this) ha hb
theorem puts_turn {P : List Pr} (n : Nat) (hR : ∀ q ∈ P, rightS 2 q.1 q.2 ⟨#[]⟩ = true) (hN : (P.map (·.1)).Nodup) (hL : P.length ≤ 8) : putsS [] (P.drop n ++ P.take n) = putsS [] P ∧ (putsS [] P).length = P.length := by
  have hp : (P.drop n ++ P.take n).Perm P := by
    have := List.perm_append_comm (l₁ := P.drop n) (l₂ := P.take n)
    rwa [List.take_append_drop] at this
  obtain ⟨g1, g2⟩ := puts_perm P [] List.Pairwise.nil hR (by simpa using hN) (by simpa using hL)
  obtain ⟨g3, g4⟩ := puts_perm (P.drop n ++ P.take n) [] List.Pairwise.nil (fun q hq => hR q (hp.mem_iff.1 hq)) ((hp.map _).nodup_iff.2 (by simpa using hN)) (by rw [List.nil_append, hp.length_eq]; exact hL)
  exact ⟨rise_perm g3 g1 ((g4.trans (by simpa using hp)).trans (by simpa using g2.symm)), by rw [g2.length_eq]; simp⟩
/-- an operation that is refused, or that only asks, changes nothing -/
theorem doS_still (l : List Pr) (kind : Int) (key v old : ByteArray) (h : kind = 1 ∨ (doS l kind key v old).2.1 ≠ 0) : (doS l kind key v old).1 = l := by
  rcases h with rfl | h
  · unfold doS changeS
    split
    · rfl
    split
    · rfl
    · simp
  · revert h
    unfold doS changeS
    repeat' split
    all_goals simp
theorem tcells_explicit {l z : List Pr} (hz : l.length + z.length = 8) : ∃ a0 b0 a1 b1 a2 b2 a3 b3 a4 b4 a5 b5 a6 b6 a7 b7 : ByteArray, (tcells l z).toArray = #[.string a0, .string b0, .string a1, .string b1, .string a2, .string b2, .string a3, .string b3, .string a4, .string b4, .string a5, .string b5, .string a6, .string b6, .string a7, .string b7, .int .i64 l.length] := by
  unfold tcells
  obtain ⟨F, hF⟩ : ∃ F, l ++ z = F := ⟨_, rfl⟩
  have h8 : F.length = 8 := by rw [← hF]; simp [hz]
  rw [hF]
  match F, h8 with
  | [p0, p1, p2, p3, p4, p5, p6, p7], _ => exact ⟨p0.1, p0.2, p1.1, p1.2, p2.1, p2.2, p3.1, p3.2, p4.1, p4.2, p5.1, p5.2, p6.1, p6.2, p7.1, p7.2, rfl⟩
end Go.Proofs.Ytinobhaemmddjaa
