/- Do, Len. -/
import Derived.Test.YtodgcfmacmfcpaaTE
namespace Go.Proofs.Ytodgcfmacmfcpaa
open Go.RowKit

/-- what an operation makes of the pairs, and tells -/
def doS (l : List Pr) (kind : Int) (key v old : ByteArray) : List Pr × Int × ByteArray :=
  if rightS kind key v old = false then (l, 1, ⟨#[]⟩)
  else if has key l = true then changeS l (lb key l) kind v old ((l[lb key l]?.map (·.2)).getD ⟨#[]⟩)
  else if ¬ kind = 2 then (l, 4, ⟨#[]⟩) else if l.length = 8 then (l, 5, ⟨#[]⟩)
  else (l.take (lb key l) ++ (key, v) :: l.drop (lb key l), 0, ⟨#[]⟩)

theorem rise_map (l : List Pr) : Rise l ↔ (l.map (·.1)).Pairwise fun a b => lt a b = true := by unfold Rise; rw [List.pairwise_map]
theorem rise_del {l : List Pr} (h : Rise l) (p : Nat) : Rise (l.take p ++ l.drop (p + 1)) := by
  refine List.Pairwise.sublist ?_ h
  conv => rhs; rw [← List.take_append_drop p l]
  refine (List.Sublist.refl _).append ?_
  rw [← List.drop_drop]
  exact List.drop_sublist 1 _
theorem map_mod (l : List Pr) (p : Nat) (v : ByteArray) : (l.modify p fun q => (q.1, v)).map (·.1) = l.map (·.1) := by
  apply List.ext_getElem?
  intro i
  simp only [List.getElem?_map, List.getElem?_modify]
  by_cases h : p = i
  · subst h; cases l[p]? <;> simp
  · simp [h]
theorem rise_mod {l : List Pr} (h : Rise l) (p : Nat) (v : ByteArray) : Rise (l.modify p fun q => (q.1, v)) := by
  rw [rise_map, map_mod, ← rise_map]; exact h
theorem rise_ins {l : List Pr} (h : Rise l) (key v : ByteArray) (hn : has key l = false) : Rise (l.take (lb key l) ++ (key, v) :: l.drop (lb key l)) := by
  have hle := lb_le key l
  unfold Rise
  rw [List.pairwise_append, List.pairwise_cons]
  have hd : ∀ q ∈ l.drop (lb key l), lt key q.1 = true := by
    intro q hq
    obtain ⟨i, hi, e⟩ := List.getElem_of_mem hq
    have hi2 : lb key l + i < l.length := by simp at hi; omega
    have e2 : l[lb key l + i] = q := by rw [← e]; simp
    have h1 : ¬ lt l[lb key l + i].1 key = true := fun hc => by have := (lb_lt_iff h key hi2).2 hc; omega
    cases h2 : lt key q.1 with
    | true => rfl
    | false =>
      have : q.1 = key := lt_tri _ _ (by rw [← e2]; simpa using h1) h2
      exfalso
      have hm : q ∈ l := List.mem_of_mem_drop hq
      have : has key l = true := by unfold has; exact List.any_eq_true.2 ⟨q, hm, by simp [this]⟩
      simp [this] at hn
  have ht : ∀ q ∈ l.take (lb key l), lt q.1 key = true := by
    intro q hq
    obtain ⟨i, hi, e⟩ := List.getElem_of_mem hq
    have hi2 : i < lb key l := by simp at hi; omega
    have e2 : l[i]'(by omega) = q := by rw [← e]; simp
    rw [← e2]
    exact (lb_lt_iff h key (by omega)).1 hi2
  refine ⟨h.sublist (List.take_sublist _ _), ⟨hd, h.sublist (List.drop_sublist _ _)⟩, ?_⟩
  intro a ha b hb
  rcases List.mem_cons.1 hb with rfl | hb
  · exact ht a ha
  · exact lt_trans (ht a ha) (hd b hb)
theorem changeS_rise {l : List Pr} (h : Rise l) (p : Nat) (kind : Int) (v old x : ByteArray) : Rise (changeS l p kind v old x).1 := by
  unfold changeS
  split
  · exact h
  split
  · exact rise_del h p
  split
  · split
    · exact rise_mod h p v
    · exact h
  split
  · exact rise_mod h p v
  · exact h
theorem doS_rise {l : List Pr} (h : Rise l) (kind : Int) (key v old : ByteArray) : Rise (doS l kind key v old).1 := by
  unfold doS
  split
  · exact h
  split
  · exact changeS_rise h _ _ _ _ _
  split
  · exact h
  split
  · exact h
  · rename_i _ hh _ _
    exact rise_ins h key v (by simpa using hh)

theorem Right_eq (kind : Int) (key v old : ByteArray) (b : Bool) (hb : rightS kind key v old = b) (w : World) :
    Calls Try.prog 49 #[opV kind key v old] w fun e w' => e = .returned (.bool b) ∧ Below w.heap.size w w' := by subst hb; exact Right_any kind key v old w
theorem find_eqo (g fo : Nat) (l : List Pr) (key : ByteArray) (p : Nat) (b : Bool) (hp : lb key l = p) (hb : has key l = b) (w : World) (h : TabO w g fo l) :
    Calls Try.prog 50 #[.pointer (some ⟨g, fo, none⟩), .string key] w fun e w' => e = .returned (.tuple #[.int .i64 p, .bool b]) ∧ Below w.heap.size w w' := by subst hp hb; exact find_o g fo l key w h

theorem change_eqo (g fo : Nat) (l : List Pr) (p : Nat) (kind : Int) (key v old x : ByteArray) (w : World) (h : TabRawO w g fo l) (hp : p < l.length) (hx : l[p].2 = x) (l' : List Pr) (a : Int) (y : ByteArray) (hC : changeS l p kind v old x = (l', a, y)) :
    Calls Try.prog 51 #[.pointer (some ⟨g, fo, none⟩), .int .i64 p, opV kind key v old] w fun e w' =>
      e = .returned (.agg #[.int .i64 a, .string y]) ∧ TabRawO w' g fo l' ∧ Part g fo 17 w w' := by
  have := change_o g fo l p kind key v old x w h hp hx
  rw [hC] at this
  exact this
/-- an operation, and room for an answer, in the blocks s and s + 1 -/
def Box (w : World) (s : Nat) (kind : Int) (key v old : ByteArray) : Prop :=
  w.heap[s]? = some (.cells #[.int .i64 kind, .string key, .string v, .string old] 45 (0, 0)) ∧ w.heap[s + 1]? = some (.cells #[.int .i64 0, .string ⟨#[]⟩] 29 (0, 0))
theorem Box.new (w : World) (kind : Int) (key v old : ByteArray) : Box ((w.alloc (.cells #[.int .i64 kind, .string key, .string v, .string old] 45)).alloc (.cells #[.int .i64 0, .string ⟨#[]⟩] 29)) w.heap.size kind key v old := by
  constructor
  · show ((w.heap.push _).push _)[w.heap.size]? = _
    simp [Array.getElem?_push]
  · have := alloc_new (w.alloc (.cells #[.int .i64 kind, .string key, .string v, .string old] 45)) (.cells #[.int .i64 0, .string ⟨#[]⟩] 29)
    have hs : (w.alloc (.cells #[.int .i64 kind, .string key, .string v, .string old] 45)).heap.size = w.heap.size + 1 := by show (w.heap.push _).size = _; simp
    rw [hs] at this
    exact this
section
variable {w w' : World} {s g : Nat} {kind : Int} {key v old : ByteArray}
theorem Box.lt (h : Box w s kind key v old) : s + 1 < w.heap.size := (Array.getElem?_eq_some_iff.1 h.2).1
theorem Box.only (h : Box w s kind key v old) (o : Only (fun k => k = g) w w') (hg : g < s) : Box w' s kind key v old :=
  ⟨(o.block s (by have := h.lt; omega) (by omega)).trans h.1, (o.block (s + 1) h.lt (by omega)).trans h.2⟩
theorem Box.below (h : Box w s kind key v old) (o : Below w.heap.size w w') : Box w' s kind key v old :=
  ⟨(o.block s (by have := h.lt; omega)).trans h.1, (o.block (s + 1) h.lt).trans h.2⟩
theorem Box.op (h : Box w s kind key v old) : w.cell? ⟨s, 0, none⟩ = some (.int .i64 kind) ∧ w.cell? ⟨s, 1, none⟩ = some (.string key) ∧ w.cell? ⟨s, 2, none⟩ = some (.string v) ∧ w.cell? ⟨s, 3, none⟩ = some (.string old) := by
  rw [cell_of_row w _ 0 _ _ (0, 0) h.1, cell_of_row w _ 1 _ _ (0, 0) h.1, cell_of_row w _ 2 _ _ (0, 0) h.1, cell_of_row w _ 3 _ _ (0, 0) h.1]
  exact ⟨rfl, rfl, rfl, rfl⟩
theorem Box.ans (h : Box w s kind key v old) : w.cell? ⟨s + 1, 0, none⟩ = some (.int .i64 0) ∧ w.cell? ⟨s + 1, 1, none⟩ = some (.string ⟨#[]⟩) ∧ w.frozen? ⟨s + 1, 0, none⟩ = false ∧ w.frozen? ⟨s + 1, 1, none⟩ = false := by
  rw [cell_of_row w _ 0 _ _ (0, 0) h.2, cell_of_row w _ 1 _ _ (0, 0) h.2]
  exact ⟨rfl, rfl, by simp [World.frozen?, h.2], by simp [World.frozen?, h.2]⟩
theorem Box.set (h : Box w s kind key v old) (u u2 : Value) : (w.setCell ⟨s + 1, 0, none⟩ u).cell? ⟨s + 1, 0, none⟩ = some u ∧ ((w.setCell ⟨s + 1, 0, none⟩ u).setCell ⟨s + 1, 1, none⟩ u2).cell? ⟨s + 1, 1, none⟩ = some u2 := by
  obtain ⟨c0, c1, _, _⟩ := h.ans
  refine ⟨World.cell?_setCell_same' _ _ _ (by rw [c0]; rfl), World.cell?_setCell_same' _ _ _ ?_⟩
  have e2 : (w.setCell ⟨s + 1, 0, none⟩ u).cell? ⟨s + 1, 1, none⟩ = some (.string ⟨#[]⟩) := (World.cell?_setCell_other _ _ _ _ (by simp)).trans c1
  rw [e2]; rfl
end

set_option maxHeartbeats 2000000 in
theorem Do_o (g fo : Nat) (l : List Pr) (kind : Int) (key v old : ByteArray) (w : World) (h : TabO w g fo l) :
    Calls Try.prog 30 #[.pointer (some ⟨g, fo, none⟩), opV kind key v old] w fun e w' =>
      e = .returned (ansV (doS l kind key v old).2.1 (doS l kind key v old).2.2) ∧ TabO w' g fo (doS l kind key v old).1 ∧ Part g fo 17 w w' := by
  suffices hs : Calls Try.prog 30 #[.pointer (some ⟨g, fo, none⟩), opV kind key v old] w fun e w' =>
      e = .returned (ansV (doS l kind key v old).2.1 (doS l kind key v old).2.2) ∧ TabRawO w' g fo (doS l kind key v old).1 ∧ Part g fo 17 w w' from
    hs.mono fun e w' ⟨h1, h2, h3⟩ => ⟨h1, h2.at (doS_rise h.rise _ _ _ _), h3⟩
  have hlt := h.lt
  have H : Hid (TabO w g fo l) := h
  have HB : Hid (Box ((w.alloc (.cells #[.int .i64 kind, .string key, .string v, .string old] 45)).alloc (.cells #[.int .i64 0, .string ⟨#[]⟩] 29)) w.heap.size kind key v old) := Box.new w kind key v old
  clear h
  cases hr : rightS kind key v old with
  | false =>
    have HS : Hid (doS l kind key v old = (l, 1, ⟨#[]⟩)) := by show _ = _; simp [doS, hr]
    rw [HS.out]
    unfold opV
    go_enter Try.func30, Try.ntmps30
    go_wp2_with (go_at_call 49; refine (Right_eq kind key v old false hr _).mono ?_; rintro e w2 ⟨rfl, hb⟩; have B2 : Hid (Box w2 _ _ _ _ _) := HB.out.below hb; obtain ⟨c1, c2, c3, c4⟩ := B2.out.ans; have HO : Hid (Below _ _ w2) := hb; clear hb)
    obtain ⟨r1, r2⟩ := B2.out.set (.int .i64 1) (.string ⟨#[]⟩)
    refine bodyPost_ret (by simp [results, Try.results30, go_sem, r1, r2]; try rfl) rfl ?_
    have T := tail2 hlt ((part_al2 hlt _ _).trans (Part.of_below fo 17 (Nat.lt_of_lt_of_le hlt (part_al2 (fo := fo) hlt _ _).only.size) HO.out)) ((((H.out.below (bel_al w _)).below (bel_al _ _)).below HO.out).raw) 0 1 (.int .i64 1) (.string ⟨#[]⟩)
    exact ⟨rfl, T.1, T.2⟩
  | true =>
    obtain ⟨p, hp⟩ : ∃ p, lb key l = p := ⟨_, rfl⟩
    cases hh : has key l with
    | true =>
      obtain ⟨hpl, hk⟩ := (has_iff H.out.rise key).1 hh
      rw [hp] at hpl
      clear hk
      obtain ⟨⟨l', a, y⟩, hC0⟩ : ∃ C, changeS l p kind v old l[p].2 = C := ⟨_, rfl⟩
      have hC : Hid (changeS l p kind v old l[p].2 = (l', a, y)) := hC0
      clear hC0
      have HS : Hid (doS l kind key v old = (l', a, y)) := by
        show _ = _
        rw [← hC.out]
        simp [doS, hr, hh, hp, hpl]
      rw [HS.out]
      unfold opV
      go_enter Try.func30, Try.ntmps30
      go_wp2_with first | (go_at_call 49; refine (Right_eq kind key v old true hr _).mono ?_; rintro e w2 ⟨rfl, hb⟩; have B2 : Hid (Box w2 _ _ _ _ _) := HB.out.below hb; obtain ⟨q1, q2, q3, q4⟩ := B2.out.op; have T2 : Hid (TabO w2 g fo l) := ((H.out.below (bel_al w _)).below (bel_al _ _)).below hb; have O2 : Hid (Part g fo 17 w w2) := (part_al2 hlt _ _).trans (Part.of_below fo 17 (Nat.lt_of_lt_of_le hlt (part_al2 (fo := fo) hlt _ _).only.size) hb); clear hb) | (go_at_call 50; refine (find_eqo g fo l key p true hp hh w2 T2.out).mono ?_; rintro e w3 ⟨rfl, hb⟩; clear q1 q2 q3 q4; have B3 : Hid (Box w3 _ _ _ _ _) := B2.out.below hb; obtain ⟨q1, q2, q3, q4⟩ := B3.out.op; obtain ⟨c1, c2, c3, c4⟩ := B3.out.ans; have T3 : Hid (TabO w3 g fo l) := T2.out.below hb; have hu := T3.out.used; have O3 : Hid (Part g fo 17 w w3) := O2.out.trans (Part.of_below fo 17 T2.out.lt hb); clear hb) | (go_at_call 51; refine (change_eqo g fo l p kind key v old _ w3 T3.out.raw hpl rfl l' a y hC.out).mono ?_; rintro e w4 ⟨rfl, hT, hO⟩; clear q1 q2 q3 q4 c1 c2 c3 c4 hu; have B4 : Hid (Box w4 _ _ _ _ _) := B3.out.only hO.only hlt; obtain ⟨c1, c2, c3, c4⟩ := B4.out.ans; have T4 : Hid (TabRawO w4 g fo l') := hT; have O4 : Hid (Part g fo 17 w w4) := O3.out.trans hO; clear hT hO)
      obtain ⟨r1, r2⟩ := B4.out.set (.int .i64 a) (.string y)
      refine bodyPost_ret (by simp [results, Try.results30, go_sem, r1, r2]; try rfl) rfl ?_
      have T := tail2 hlt (O4.out) (T4.out) 0 1 (.int .i64 a) (.string y)
      exact ⟨rfl, T.1, T.2⟩
    | false =>
      by_cases k2 : kind = 2
      · subst k2
        by_cases h8 : l.length = 8
        · have HS : Hid (doS l 2 key v old = (l, 5, ⟨#[]⟩)) := by show _ = _; simp [doS, hr, hh, h8]
          rw [HS.out]
          unfold opV
          go_enter Try.func30, Try.ntmps30
          go_wp2_with first | (go_at_call 49; refine (Right_eq 2 key v old true hr _).mono ?_; rintro e w2 ⟨rfl, hb⟩; have B2 : Hid (Box w2 _ _ _ _ _) := HB.out.below hb; obtain ⟨q1, q2, q3, q4⟩ := B2.out.op; have T2 : Hid (TabO w2 g fo l) := ((H.out.below (bel_al w _)).below (bel_al _ _)).below hb; have O2 : Hid (Part g fo 17 w w2) := (part_al2 hlt _ _).trans (Part.of_below fo 17 (Nat.lt_of_lt_of_le hlt (part_al2 (fo := fo) hlt _ _).only.size) hb); clear hb) | (go_at_call 50; refine (find_eqo g fo l key p false hp hh w2 T2.out).mono ?_; rintro e w3 ⟨rfl, hb⟩; clear q1 q2 q3 q4; have B3 : Hid (Box w3 _ _ _ _ _) := B2.out.below hb; obtain ⟨q1, q2, q3, q4⟩ := B3.out.op; obtain ⟨c1, c2, c3, c4⟩ := B3.out.ans; have T3 : Hid (TabO w3 g fo l) := T2.out.below hb; have hu := T3.out.used; rw [h8] at hu; have O3 : Hid (Part g fo 17 w w3) := O2.out.trans (Part.of_below fo 17 T2.out.lt hb); clear hb)
          obtain ⟨r1, r2⟩ := B3.out.set (.int .i64 5) (.string ⟨#[]⟩)
          refine bodyPost_ret (by simp [results, Try.results30, go_sem, r1, r2]; try rfl) rfl ?_
          have T := tail2 hlt (O3.out) (T3.out.raw) 0 1 (.int .i64 5) (.string ⟨#[]⟩)
          exact ⟨rfl, T.1, T.2⟩
        · have HS : Hid (doS l 2 key v old = (l.take p ++ (key, v) :: l.drop p, 0, ⟨#[]⟩)) := by show _ = _; simp [doS, hr, hh, hp, h8]
          rw [HS.out]
          have hple : Hid (p ≤ l.length) := by show _ ≤ _; rw [← hp]; exact lb_le key l
          have h8i : ¬ (l.length : Int) = 8 := by omega
          unfold opV
          go_enter Try.func30, Try.ntmps30
          go_wp2_with first | (go_at_call 49; refine (Right_eq 2 key v old true hr _).mono ?_; rintro e w2 ⟨rfl, hb⟩; have B2 : Hid (Box w2 _ _ _ _ _) := HB.out.below hb; obtain ⟨q1, q2, q3, q4⟩ := B2.out.op; have T2 : Hid (TabO w2 g fo l) := ((H.out.below (bel_al w _)).below (bel_al _ _)).below hb; have O2 : Hid (Part g fo 17 w w2) := (part_al2 hlt _ _).trans (Part.of_below fo 17 (Nat.lt_of_lt_of_le hlt (part_al2 (fo := fo) hlt _ _).only.size) hb); clear hb) | (go_at_call 50; refine (find_eqo g fo l key p false hp hh w2 T2.out).mono ?_; rintro e w3 ⟨rfl, hb⟩; clear q1 q2 q3 q4; have B3 : Hid (Box w3 _ _ _ _ _) := B2.out.below hb; obtain ⟨q1, q2, q3, q4⟩ := B3.out.op; obtain ⟨c1, c2, c3, c4⟩ := B3.out.ans; have T3 : Hid (TabO w3 g fo l) := T2.out.below hb; have hu := T3.out.used; have O3 : Hid (Part g fo 17 w w3) := O2.out.trans (Part.of_below fo 17 T2.out.lt hb); clear hb) | (go_at_call 52; refine (insert_o g fo l p key v w3 T3.out.raw (by have := T3.out.few; omega) hple.out).mono ?_; rintro e w4 ⟨rfl, hT, hO⟩; clear q1 q2 q3 q4 c1 c2 c3 c4 hu; have B4 : Hid (Box w4 _ _ _ _ _) := B3.out.only hO.only hlt; obtain ⟨c1, c2, c3, c4⟩ := B4.out.ans; have T4 : Hid (TabRawO w4 g fo _) := hT; have O4 : Hid (Part g fo 17 w w4) := O3.out.trans hO; clear hT hO)
          obtain ⟨r1, r2⟩ := B4.out.set (.int .i64 0) (.string ⟨#[]⟩)
          refine bodyPost_ret (by simp [results, Try.results30, go_sem, r1, r2]; try rfl) rfl ?_
          have T := tail2 hlt (O4.out) (T4.out) 0 1 (.int .i64 0) (.string ⟨#[]⟩)
          exact ⟨rfl, T.1, T.2⟩
      · have HS : Hid (doS l kind key v old = (l, 4, ⟨#[]⟩)) := by show _ = _; simp [doS, hr, hh, k2]
        rw [HS.out]
        unfold opV
        go_enter Try.func30, Try.ntmps30
        go_wp2_with first | (go_at_call 49; refine (Right_eq kind key v old true hr _).mono ?_; rintro e w2 ⟨rfl, hb⟩; have B2 : Hid (Box w2 _ _ _ _ _) := HB.out.below hb; obtain ⟨q1, q2, q3, q4⟩ := B2.out.op; have T2 : Hid (TabO w2 g fo l) := ((H.out.below (bel_al w _)).below (bel_al _ _)).below hb; have O2 : Hid (Part g fo 17 w w2) := (part_al2 hlt _ _).trans (Part.of_below fo 17 (Nat.lt_of_lt_of_le hlt (part_al2 (fo := fo) hlt _ _).only.size) hb); clear hb) | (go_at_call 50; refine (find_eqo g fo l key p false hp hh w2 T2.out).mono ?_; rintro e w3 ⟨rfl, hb⟩; clear q1 q2 q3 q4; have B3 : Hid (Box w3 _ _ _ _ _) := B2.out.below hb; obtain ⟨q1, q2, q3, q4⟩ := B3.out.op; obtain ⟨c1, c2, c3, c4⟩ := B3.out.ans; have T3 : Hid (TabO w3 g fo l) := T2.out.below hb; have hu := T3.out.used; have O3 : Hid (Part g fo 17 w w3) := O2.out.trans (Part.of_below fo 17 T2.out.lt hb); clear hb)
        obtain ⟨r1, r2⟩ := B3.out.set (.int .i64 4) (.string ⟨#[]⟩)
        refine bodyPost_ret (by simp [results, Try.results30, go_sem, r1, r2]; try rfl) rfl ?_
        have T := tail2 hlt (O3.out) (T3.out.raw) 0 1 (.int .i64 4) (.string ⟨#[]⟩)
        exact ⟨rfl, T.1, T.2⟩
theorem Do_any (g : Nat) (l : List Pr) (kind : Int) (key v old : ByteArray) (w : World) (h : TabAt w g l) :
    Calls Try.prog 30 #[.pointer (some ⟨g, 0, none⟩), opV kind key v old] w fun e w' =>
      e = .returned (ansV (doS l kind key v old).2.1 (doS l kind key v old).2.2) ∧ TabAt w' g (doS l kind key v old).1 ∧ Only (fun k => k = g) w w' :=
  (Do_o g 0 l kind key v old w h.o).mono fun _ _ ⟨h1, h2, h3⟩ => ⟨h1, TabO.alone h h2 h3, h3.only⟩
theorem Len_o (g fo : Nat) (l : List Pr) (w : World) (h : TabO w g fo l) :
    Calls Try.prog 34 #[.pointer (some ⟨g, fo, none⟩)] w fun e w' => e = .returned (.int .i64 l.length) ∧ w' = w := by
  have hu := h.used
  go_enter Try.func34, Try.ntmps34
  go_wp2
  go_ret
  exact ⟨rfl, rfl⟩
theorem Len_any (g : Nat) (l : List Pr) (w : World) (h : TabAt w g l) :
    Calls Try.prog 34 #[.pointer (some ⟨g, 0, none⟩)] w fun e w' => e = .returned (.int .i64 l.length) ∧ w' = w := Len_o g 0 l w h.o
end Go.Proofs.Ytodgcfmacmfcpaa
