/- TableOrder: the walk. -/
import Derived.Test.YtinobhaemmddjaaTO
import Derived.Test.YtinobhaemmddjaaTK
import Derived.Maps.RangeWalk
namespace Go.Proofs.Ytinobhaemmddjaa
open Go.RowKit Go.Maps

theorem OwnPr.only {S : Nat → Prop} {B : Nat} {w w' : World} {ao : Option Addr} {cap : Nat} {l : List Pr} (h : OwnPr B w ao cap l) (ho : Only S w w') (hn : ∀ g, B ≤ g → ¬ S g) : OwnPr B w' ao cap l := by
  refine ⟨h.1, ?_⟩
  rcases h.2 with hz | ⟨g, cap, cur, e, hb, hgg, rest⟩
  · exact .inl hz
  · exact .inr ⟨g, cap, cur, e, hb, (ho.block g (Array.getElem?_eq_some_iff.1 hgg).1 (hn g hb)).trans hgg, rest⟩
theorem OwnPr.mono {B B' : Nat} {w : World} {ao : Option Addr} {cap : Nat} {l : List Pr} (h : OwnPr B' w ao cap l) (hB : B ≤ B') : OwnPr B w ao cap l := by
  refine ⟨h.1, ?_⟩
  rcases h.2 with hz | ⟨g, cap, cur, e, hb, rest⟩
  · exact .inl hz
  · exact .inr ⟨g, cap, cur, e, by omega, rest⟩
theorem OwnPr.blk {B : Nat} {w : World} {ao : Option Addr} {cap n : Nat} {l : List Pr} (h : OwnPr B w ao cap l) (k : Nat) (hk : (Value.slice ao n cap).ownBlock = some k) : B ≤ k := by
  rcases h.2 with ⟨e, _⟩ | ⟨g, cp, cur, e, hb, _⟩
  · simp only [Value.slice.injEq] at e
    rw [e.1] at hk
    simp [Value.ownBlock] at hk
  · simp only [Value.slice.injEq] at e
    rw [e.1] at hk
    simp [Value.ownBlock] at hk
    omega
theorem own_built2 (w : World) : OwnPr w.heap.size (w.alloc (.cells #[] 23)) (some ⟨w.heap.size, 0, none⟩) 0 [] :=
  World.ownsRow_made w #[] 0 (Nat.le_refl _) (Nat.zero_le _) rfl
theorem src_drop {w : World} {g n : Nat} {P : List Pr} (h : RdPr w g 0 P) (j : Nat) (u : Value) (hj : (flat (P.drop n))[j]? = some u) : w.cell? ((⟨g, n * 2, none⟩ : Addr).add j) = some u := by
  refine flat_add (l := P.drop n) (rd_flat fun j u hj => ?_) j u hj
  rw [flat_drop, List.getElem?_drop] at hj
  have := flat_at h _ _ hj
  rw [← this]
  congr 2
  omega
theorem src_take {w : World} {g n : Nat} {P : List Pr} (h : RdPr w g 0 P) (j : Nat) (u : Value) (hj : (flat (P.take n))[j]? = some u) : w.cell? ((⟨g, 0, none⟩ : Addr).add j) = some u := by
  refine flat_add (l := P.take n) (rd_flat fun j u hj => ?_) j u hj
  rw [flat_take] at hj
  rw [List.getElem?_take] at hj
  split at hj
  · exact flat_at h _ _ hj
  · cases hj
theorem step_call1 {P : Program} {w : World} {ops : Array Oper} {o : Oper} {a : Act} {K : Act → World → Prop} {Q : Exit → Act → World → Prop} {E : Prop} (hgd : o.guard = none) (f : FuncId) (x : Operand) (ats : Array TypeId)
    (ho : o.op = .call { callee := .value (.func f), args := #[x], argTypes := ats }) (hcf : ∀ args w, (callFunc f args).run P w = .ok (.enter f args) w)
    (vx : Value) (hx : a.eval x = vx) (R : Value → World → Prop)
    (hc : Calls P f #[vx] w fun e w' => ∃ v, e = .returned v ∧ R v w') (h : ∀ v w', R v w' → K (a.put o.dst v) w') :
    if Region.wanted o (yielded ops a.tmps) = true then Oper.wp P o a w K Q else E :=
  step_call hgd f _ ats ho hcf _ (by simp [hx]) R hc h
/-- Of, its table's cells as a letter -/
def OfR (B : World) (l : List Pr) (v : Value) (w' : World) : Prop := ∃ C : Array Value, v = .agg C ∧ (Try.prog.info? 26).map (·.size) = some C.size ∧ Hid (17 = C.size) ∧ C.all (·.oneCell') = true ∧ (∀ (w : World) (g : Nat), w.heap[g]? = some (.cells C 26 (0, 0)) → TabAt w g l) ∧ Below B.heap.size B w'
theorem Of_ex (ao : Option Addr) (n cap : Nat) (ps : List Pr) (w : World) (hn : ps.length = n) (hR : PrR w ao cap ps) (l : List Pr) (hl : putsS [] ps = l) :
    Calls Try.prog 8 #[.slice ao n cap] w fun e w' => ∃ v, e = .returned v ∧ OfR w l v w' := by
  refine (Of_any ao n cap ps w hn hR).mono ?_
  rintro e w' ⟨z, rfl, hz, hr, hb⟩
  rw [hl] at hz hr ⊢
  obtain ⟨C, hC, hi, h17, h1, HT⟩ := rows_of hz hr
  exact ⟨_, rfl, C, by rw [hC], hi, h17, h1, HT, hb⟩
/-- a table may be stored there -/
def StOk (w : World) (g : Nat) (C : Array Value) : Prop := (w.heap[g]? = some zeroT) ∧ (Try.prog.info? 26).map (·.size) = some C.size ∧ 17 = C.size ∧ C.all (·.oneCell') = true
theorem st_tab (w : World) (g : Nat) (C : Array Value) (h : StOk w g C) : (storeCells ⟨g, 0, none⟩ C.toList).run Try.prog w = .ok () (w.setRow g C) := by
  obtain ⟨h1, h2, h3, h4⟩ := h
  have := run_storeCells_from (P := Try.prog) g 26 C.toList 0 _ w h1 (by simp; omega) (fun v hv => (Array.all_eq_true_iff_forall_mem.1 h4) v (by simpa using hv))
  have e : (⟨g, 0, none⟩ : Addr).add 0 = ⟨g, 0, none⟩ := rfl
  simpa using this
theorem fin_tab {w3 W : World} {b : Nat} {C : Array Value} {L : List Pr} (hS : StOk W b C) (HTB : ∀ (w : World) (g : Nat), w.heap[g]? = some (.cells C 26 (0, 0)) → TabAt w g L) (hB : Below w3.heap.size w3 W) (hb : w3.heap.size ≤ b) :
    ∃ g, Value.pointer (some ⟨b, 0, none⟩) = .pointer (some ⟨g, 0, none⟩) ∧ TabAt (W.setRow b C) g L ∧ w3.heap.size ≤ g ∧ Below w3.heap.size w3 (W.setRow b C) :=
  ⟨b, rfl, HTB _ _ (setRow_heap W b _ C _ _ hS.1), hb, below_setRow hB hb C⟩
/-- append of a nil slice, as a step of a region that draws -/
theorem step_none {w : World} {ops : Array Oper} {o : Oper} {a : Act} {K : Act → World → Prop} {Q : Exit → Act → World → Prop} {E : Prop} (hgd : o.guard = none) (s x : Operand)
    (ho : o.op = .call { callee := .builtin .append, args := #[s, x], argTypes := #[34, 34] })
    (B : Nat) (ao : Option Addr) (cap n : Nat) (l : List Pr) (hs : a.eval s = .slice ao n cap) (hn : l.length = n) (hown : OwnPr B w ao cap l) (hx : a.eval x = .slice none 0 0) (_hB : B ≤ w.heap.size)
    (h : ∀ ao' cap' w', OwnPr B w' ao' cap' l → w.grownBy w' (Value.slice ao n cap).ownBlock → Below B w w' → K (a.put o.dst (.slice ao' n cap')) w') : if Region.wanted o (yielded ops a.tmps) = true then Oper.wp Try.prog o a w K Q else E := by
  have hw : Region.wanted o (yielded ops a.tmps) = true := by simp [Region.wanted, hgd]
  rw [if_pos hw]
  subst hn
  obtain ⟨i0, hi, hz0, hz1, hz2⟩ := info_parts pair_info
  have hr := run_append_owned_none (P := Try.prog) (w := w) B 34 o.type 23 i0 2 Try.underlying34 hi _ _ _ hown
  unfold Oper.wp execOp
  simp only [ho, resolve, invoke, builtin, Sem.run_bind, Sem.run_pure, Result.andThen_ok, List.map_toArray, List.map_cons, List.map_nil, hs, hx, hr]
  exact h ao cap w hown ⟨rfl, rfl, rfl, Nat.le_refl _, fun _ _ _ => rfl⟩ (Below.refl _ _)
theorem zb_app {w w' : World} {ao : Option Addr} {n cap B zb : Nat} {l : List Pr} (hown : OwnPr B w ao cap l) (hz : w.heap[zb]? = some zeroT) (hg : w.grownBy w' (Value.slice ao n cap).ownBlock) : w'.heap[zb]? = some zeroT := by
  refine (hg.block zb (Array.getElem?_eq_some_iff.1 hz).1 ?_).trans hz
  intro e
  rcases hown.2 with ⟨e1, _⟩ | ⟨g, cp, cur, e1, _, hgg, _⟩
  · simp only [Value.slice.injEq] at e1
    rw [e1.1] at e
    simp [Value.ownBlock] at e
  · simp only [Value.slice.injEq] at e1
    rw [e1.1] at e
    simp [Value.ownBlock] at e
    subst e
    rw [hz] at hgg
    simp [zeroT] at hgg
/-- the pairs collected so far, and the set of keys met -/
structure To (w0 w : World) (j : Nat) (ao : Option Addr) (cap : Nat) (P : List Pr) (H : List ByteArray) : Prop where
  own : OwnPr (w0.heap.size + 1) w ao cap P
  set : MapB w w0.heap.size j H
  sub : ∀ q ∈ P, q.1 ∈ H
  nod : (P.map (·.1)).Nodup
  few : P.length ≤ 8
  rgt : ∀ q ∈ P, rightS 2 q.1 q.2 ⟨#[]⟩ = true
  bel : Below w0.heap.size w0 w
  siz : w0.heap.size + 1 ≤ w.heap.size
theorem right_put (x y : Int) : rightS 2 (keyS x) (valS y) ⟨#[]⟩ = true := by
  obtain ⟨h3, h4⟩ := keys_fit x
  have h5 := vals_fit y
  have e : (⟨#[]⟩ : ByteArray).toList = [] := by kernel_rfl
  have e0 : ((⟨#[]⟩ : ByteArray).size : Int) ≤ 16 := by decide
  unfold rightS nameB
  simp [h3, h4, h5, e, e0]
section
variable {w0 w w' : World} {j : Nat} {ao ao' : Option Addr} {cap cap' : Nat} {P : List Pr} {H : List ByteArray} {k v : ByteArray}
theorem To.put (h : To w0 w j ao cap P H) (hM : MapB w' w0.heap.size (j + 1) (k :: H)) (hO : Only (fun i => i = w0.heap.size) w w') : To w0 w' (j + 1) ao cap P (k :: H) :=
  ⟨h.own.only hO (fun g h1 h2 => by omega), hM, fun q hq => List.mem_cons_of_mem _ (h.sub q hq), h.nod, h.few, h.rgt, h.bel.trans (hO.below (fun i e => by omega) h.bel.size), Nat.le_trans h.siz hO.size⟩
theorem To.kept (h : To w0 w j ao cap P H) {o : Obj} (hg : (w.alloc o).grownBy w' (Value.slice ao P.length cap).ownBlock) : MapB w' w0.heap.size j H := by
  refine h.set.heap ((hg.block _ ?_ ?_).trans (Below.heap_alloc w o _ h.set.lt))
  · show _ < (w.heap.push _).size
    have := h.set.lt
    simp; omega
  · intro e
    have := h.own.blk (n := P.length) _ e.symm
    omega
theorem To.app {w4 : World} (h : To w0 w j ao cap P H) (hk : hasK k H = false) (hl : P.length < 8) (hr : rightS 2 k v ⟨#[]⟩ = true) (hown : OwnPr (w0.heap.size + 1) w' ao' cap' (P ++ [(k, v)])) (hb : Below (w0.heap.size + 1) w w') (hM : MapB w4 w0.heap.size (j + 1) (k :: H)) (hO : Only (fun i => i = w0.heap.size) w' w4) : To w0 w4 (j + 1) ao' cap' (P ++ [(k, v)]) (k :: H) := by
  have hkn : k ∉ H := fun hm => by rw [hasK_mem.2 hm] at hk; cases hk
  have hb2 : Below w0.heap.size w0 w' := h.bel.trans (hb.mono (by omega))
  refine ⟨hown.only hO (fun g h1 h2 => by omega), hM, ?_, ?_, by simp; omega, ?_, hb2.trans (hO.below (fun i e => by omega) hb2.size), Nat.le_trans h.siz (Nat.le_trans hb.size hO.size)⟩
  · intro q hq
    rcases List.mem_append.1 hq with x | x
    · exact List.mem_cons_of_mem _ (h.sub q x)
    · simp at x; subst x; simp
  · rw [List.map_append, List.nodup_append]
    refine ⟨h.nod, by simp, ?_⟩
    intro a ha b hb2 e
    simp at hb2
    obtain ⟨q, hq, rfl⟩ := List.mem_map.1 ha
    exact hkn (by rw [← hb2, ← e]; exact h.sub q hq)
  · intro q hq
    rcases List.mem_append.1 hq with x | x
    · exact h.rgt q x
    · simp at x; subst x; exact hr
end
attribute [local go_sem] st_tab
set_option maxRecDepth 20000 in
set_option maxHeartbeats 4000000 in
theorem TableOrder_any (ao0 : Option Addr) (n0 c0 : Nat) (l0 : List Int) (turn : Int) (ao2 : Option Addr) (n2 c2 : Nat) (l2 : List RawO) (w : World)
    (h0 : Rd w.heap.size w ao0 n0 c0 (Is l0)) (h2 : RdG 8 RawO.Q w.heap.size w ao2 n2 c2 l2) :
    Calls Try.prog 7 #[.slice ao0 n0 c0, .int .i64 turn, .slice ao2 n2 c2] w fun e w' => e = .returned (.bool true) ∧ Below w.heap.size w w' := by
  have hl0 : l0.length = n0 := by have := h0.1; simpa [Is] using this
  subst hl0
  have hm0 : l0.length ≤ maxLen := Nat.le_trans h0.2.1 h0.2.2.1
  have H0 : Hid (Rd w.heap.size w ao0 l0.length c0 (Is l0)) := h0
  have H2 : Hid (RdG 8 RawO.Q w.heap.size w ao2 n2 c2 l2) := h2
  have hmm := @run_makeMap Try.prog
  have HS : Hid (To w (w.alloc (.map #[] 0)) 0 none 0 [] []) := ⟨OwnPr.nil _ _, MapB.made w, by simp, by simp, by simp, by simp, bel_al w _, by show _ ≤ (w.heap.push _).size; simp⟩
  have hm0 : l0.length ≤ 9223372036854775807 := hm0
  clear h0 h2
  go_enter Try.func7, Try.ntmps7
  go_wp2_with fail
  go_loopw [7, 23] (fun v i wr => ∃ (j : Nat) (ao : Option Addr) (cap : Nat) (P : List Pr) (H : List ByteArray), j ≤ l0.length ∧ i = .int .i64 j ∧ v = .slice ao P.length cap ∧ To w wr j ao cap P H) (fun _ i _ => l0.length - (intOf i).toNat)
  case atStart => exact ⟨0, none, 0, [], [], Nat.zero_le _, rfl, rfl, HS.out⟩
  case round =>
    obtain ⟨j, ao, cap, P, H, hj, rfl, rfl, hT⟩ := hrel
    have HT : Hid (To w wr j ao cap P H) := hT
    clear HS hmm
    by_cases hlt : j < l0.length
    · obtain ⟨b, off, rfl, hb, hc⟩ := H0.out.atSome (by omega)
      have hx : (Is l0)[j]? = some (.int .i64 l0[j]) := by simp [Is, hlt]
      have hc0 : wr.cell? ⟨b, off + j, none⟩ = some (.int .i64 l0[j]) := (hT.bel.cell (p := ⟨b, off + j, none⟩) hb).trans (hc j _ hx)
      obtain ⟨x, hxj⟩ : ∃ x, l0[j] = x := ⟨_, rfl⟩
      rw [hxj] at hc0
      have hm1 : (j : Int) < (l0.length : Int) := by omega
      have hkf := keys_fit x
      have hks : Hid ((keyS x).size ≤ maxLen) := by show _ ≤ _; unfold maxLen; omega
      have hjm : Hid (j < maxLen) := by show _ < _; unfold maxLen; omega
      have hfew := hT.few
      clear hc hx hT hkf
      cases hh : hasK (keyS x) H with
      | true =>
        go_wp2_with first | (go_at_call 14; refine (Key_any _ _).mono ?_; rintro e w' ⟨rfl, rfl⟩) | (at_lookup; refine look_set rfl _ _ rfl rfl HT.out.set _ rfl hks.out true hh ?_) | (at_mapUpdate; refine put_set rfl _ _ _ rfl rfl HT.out.set hjm.out _ rfl rfl hks.out ?_; intro w4 HM HO)
        exact ⟨⟨j + 1, ao, cap, P, _, hlt, by go_num, rfl, HT.out.put HM.out HO.out⟩, by simp [intOf]; omega⟩
      | false =>
        by_cases h8 : P.length < 8
        · have h8i : (P.length : Int) < 8 := by omega
          go_wp2_with first | (go_at_call 14; refine (Key_any _ _).mono ?_; rintro e w' ⟨rfl, rfl⟩) | (go_at_call 15; refine (Value_any _ _).mono ?_; rintro e w' ⟨rfl, rfl⟩) | (at_lookup; refine look_set rfl _ _ rfl rfl HT.out.set _ rfl hks.out false hh ?_) | (at_builtin; refine appP1 rfl _ _ rfl (w.heap.size + 1) ao cap P.length _ rfl rfl HT.out.own _ _ rfl (by omega) HT.out.siz ?_; intro ao' cap' w1 hown1 hg1 hb1; have hset1 := HT.out.kept hg1; have HOW : Hid (OwnPr _ w1 ao' cap' _) := hown1; have HB1 : Hid (Below _ _ w1) := hb1; clear hown1 hg1 hb1) | (at_mapUpdate; refine put_set rfl _ _ _ rfl rfl hset1 hjm.out _ rfl rfl hks.out ?_; intro w4 HM HO)
          exact ⟨⟨j + 1, ao', cap', _, _, hlt, by go_num, by simp, HT.out.app hh h8 (right_put _ _) HOW.out HB1.out HM.out HO.out⟩, by simp [intOf]; omega⟩
        · have h8i : ¬ (P.length : Int) < 8 := by omega
          go_wp2_with first | (go_at_call 14; refine (Key_any _ _).mono ?_; rintro e w' ⟨rfl, rfl⟩) | (at_lookup; refine look_set rfl _ _ rfl rfl HT.out.set _ rfl hks.out false hh ?_) | (at_mapUpdate; refine put_set rfl _ _ _ rfl rfl HT.out.set hjm.out _ rfl rfl hks.out ?_; intro w4 HM HO)
          exact ⟨⟨j + 1, ao, cap, P, _, hlt, by go_num, rfl, HT.out.put HM.out HO.out⟩, by simp [intOf]; omega⟩
    · have hfew := hT.few
      have hd : 0 < (P.length : Int) + 1 := by omega
      have l1 := pick_lo turn ((P.length : Int) + 1) (by omega)
      have l2 := pick_hi turn ((P.length : Int) + 1) (by omega)
      obtain ⟨n, hn⟩ : ∃ n : Nat, pick turn ((P.length : Int) + 1) = n := ⟨(pick turn ((P.length : Int) + 1)).toNat, by omega⟩
      have HN : Hid (pick turn ((P.length : Int) + 1) = n) := hn
      have hnP : n ≤ P.length := by omega
      obtain ⟨hturn, hplen⟩ := puts_turn n hT.rgt hT.nod hT.few
      have HTN : Hid (putsS [] (P.drop n ++ P.take n) = putsS [] P ∧ (putsS [] P).length = P.length) := ⟨hturn, hplen⟩
      have HOW : Hid (OwnPr (w.heap.size + 1) wr ao cap P) := hT.own
      have HB0 : Hid (Below w.heap.size w wr) := hT.bel
      have hcaps := hT.own.caps
      obtain ⟨w1, hw1⟩ : ∃ w1 : World, w1 = wr := ⟨_, rfl⟩
      rw [← hw1] at HOW HB0 ⊢
      clear hT HT hn l1 l2 hturn hplen hw1 H0 hj
      go_wp2_with (go_at_call 16; refine (Pick_eq _ _ _ (by omega) (by omega) HN.out).mono ?_; rintro e wq ⟨rfl, hwq⟩; subst wq)
      obtain ⟨L, hL⟩ : ∃ L, putsS [] P = L := ⟨_, rfl⟩
      rw [hL] at HTN
      refine (Of_any _ _ _ _ _ rfl HOW.out.rd).mono ?_
      rintro e w2 ⟨z, rfl, hz, hr, hb⟩
      rw [hL] at hz hr ⊢
      obtain ⟨C, hC, hi, h17, h1, HTB⟩ := rows_of hz hr
      rw [hC]
      have HB2 : Hid (Below w.heap.size w w2) := bel_call HB0.out hb
      have HOW2 : Hid (OwnPr (w.heap.size + 1) w2 ao cap P) := HOW.out.only (S := fun _ => False) (Only.of_below _ hb) (fun _ _ => id)
      have hn2 := new_zero w2
      unfold zeroT at hn2
      clear hC hz hr hb HB0 HOW
      go_wp2_with (refine wpList_store_row rfl 26 _ _ rfl w2.heap.size C rfl rfl 26 _ hn2 hi h17.out h1 ?_; obtain ⟨w3, hw3⟩ : ∃ w3, w3 = (w2.alloc zeroT).setRow w2.heap.size C := ⟨_, rfl⟩; obtain ⟨hc3, hb3, hs3⟩ := store_new hw3; unfold zeroT at hw3; rw [← hw3]; clear hw3 hn2)
      have HT3 : Hid (TabAt w3 w2.heap.size L) := HTB _ _ hc3
      have HB3 : Hid (Below w.heap.size w w3) := bel_call HB2.out hb3
      have HOW3 : Hid (OwnPr (w.heap.size + 1) w3 ao cap P) := HOW2.out.only (S := fun _ => False) (Only.of_below _ hb3) (fun _ _ => id)
      have hg2 : Hid (w.heap.size ≤ w2.heap.size) := HB2.out.size
      obtain ⟨gt, hgt⟩ : ∃ gt, w2.heap.size = gt := ⟨_, rfl⟩
      rw [hgt] at HT3 hs3 hg2 ⊢
      clear hc3 hb3 HB2 HOW2 hgt hi h17 h1 HTB
      go_frame
      go_cut [14] (fun v wx => ∃ g, v = .pointer (some ⟨g, 0, none⟩) ∧ TabAt wx g L ∧ w3.heap.size ≤ g ∧ Below w3.heap.size w3 wx)
      case first =>
        rcases HOW3.out.2 with ⟨e, e0⟩ | ⟨g, cp, cur, e, hgB, hgg, hcp, hcm, hcs, htk⟩
        · simp only [Value.slice.injEq] at e
          obtain ⟨rfl, hP0, rfl⟩ := e
          obtain rfl : P = [] := List.eq_nil_of_length_eq_zero hP0
          obtain rfl : n = 0 := by simpa using hnP
          have cfOf := run_callFunc (P := Try.prog) (f := 8) Try.func8 (by kernel_rfl) (by kernel_rfl)
          have hLt : Hid (putsS [] [] = L) := HTN.out.1
          have OWNC : Hid (OwnPr w3.heap.size ((w3.drew.alloc zeroT).alloc (.cells #[] 23)) (some ⟨w3.heap.size + 1, 0, none⟩) 0 []) := by
            have h := own_built2 (w3.drew.alloc zeroT)
            have e : (w3.drew.alloc zeroT).heap.size = w3.heap.size + 1 := by show (w3.heap.push _).size = _; simp
            rw [e] at h
            exact h.mono (by omega)
          unfold zeroT at OWNC
          simp only [List.length_nil]
          have tokA : True := trivial
          first
          | go_region_law (first
            | (have _t := tokA; refine step_none rfl _ _ rfl w3.heap.size (some ⟨w3.heap.size, 0, none⟩) 0 0 [] rfl rfl (own_built2 w3.drew) rfl (by show _ ≤ (w3.heap.push _).size; simp) ?_; intro ao1 cap1 x1 hown1 hg1 hb1; have HW1 : Hid (OwnPr w3.heap.size x1 ao1 cap1 []) := hown1; have hB1 : Below w3.heap.size w3 x1 := (below_undrew (bel_al w3.drew _)).trans hb1; have tokB0 : True := trivial; clear hown1 hg1 hb1 tokA)
            | (have _t := tokA; refine step_none rfl _ _ rfl w3.heap.size (some ⟨w3.heap.size, 0, none⟩) 0 0 [] rfl rfl ((own_built2 w3.drew).al _) rfl (by show _ ≤ ((w3.heap.push _).push _).size; simp; omega) ?_; intro ao1 cap1 x1 hown1 hg1 hb1; have HW1 : Hid (OwnPr w3.heap.size x1 ao1 cap1 []) := hown1; have hB1 : Below w3.heap.size w3 x1 := (below_undrew ((bel_al w3.drew _).alloc (by show _ ≤ (w3.heap.push _).size; simp) _)).trans hb1; have hz1 : Hid (x1.heap[w3.heap.size + 1]? = some zeroT) := zb_app ((own_built2 w3.drew).al _) (al2_snd w3.drew _ zeroT) hg1; have tokB1 : True := trivial; clear hown1 hg1 hb1 tokA)
            | (have _t := tokA; refine step_none rfl _ _ rfl w3.heap.size (some ⟨w3.heap.size + 1, 0, none⟩) 0 0 [] rfl rfl OWNC.out rfl (by show _ ≤ ((w3.heap.push _).push _).size; simp; omega) ?_; intro ao1 cap1 x1 hown1 hg1 hb1; have HW1 : Hid (OwnPr w3.heap.size x1 ao1 cap1 []) := hown1; have hB1 : Below w3.heap.size w3 x1 := (below_undrew ((bel_al w3.drew _).alloc (by show _ ≤ (w3.heap.push _).size; simp) _)).trans hb1; have hz1 : Hid (x1.heap[w3.heap.size]? = some zeroT) := zb_app OWNC.out (al2_fst w3.drew zeroT _) hg1; have tokB1 : True := trivial; clear hown1 hg1 hb1 tokA)
            | (have _t := tokB0; refine step_none rfl _ _ rfl w3.heap.size ao1 cap1 0 [] rfl rfl HW1.out rfl hB1.size ?_; intro ao2' cap2' x2 hown2 hg2' hb2; have hB2 : Below w3.heap.size w3 x2 := hB1.trans hb2; have HOF2 := Of_ex ao2' 0 cap2' _ x2 rfl hown2.rd L hLt.out; have HOFz := Of_ex ao2' 0 cap2' _ (x2.alloc zeroT) rfl (hown2.al _).rd L hLt.out; have tokC0 : True := trivial; clear tokB0; clear hown2 hg2' hb2)
            | (have _t := tokB1; refine step_none rfl _ _ rfl w3.heap.size ao1 cap1 0 [] rfl rfl HW1.out rfl hB1.size ?_; intro ao2' cap2' x2 hown2 hg2' hb2; have hB2 : Below w3.heap.size w3 x2 := hB1.trans hb2; have HOF2 := Of_ex ao2' 0 cap2' _ x2 rfl hown2.rd L hLt.out; have HOFz := Of_ex ao2' 0 cap2' _ (x2.alloc zeroT) rfl (hown2.al _).rd L hLt.out; have hz2 : Hid (x2.heap[_]? = some zeroT) := zb_app HW1.out hz1.out hg2'; have tokC1 : True := trivial; clear tokB1; clear hown2 hg2' hb2)
            | (have _t := tokB0; refine step_none rfl _ _ rfl w3.heap.size ao1 cap1 0 [] rfl rfl (HW1.out.al _) rfl (hB1.alloc hB1.size _).size ?_; intro ao2' cap2' x2 hown2 hg2' hb2; have hB2 : Below w3.heap.size w3 x2 := (hB1.alloc hB1.size _).trans hb2; have HOF2 := Of_ex ao2' 0 cap2' _ x2 rfl hown2.rd L hLt.out; have HOFz := Of_ex ao2' 0 cap2' _ (x2.alloc zeroT) rfl (hown2.al _).rd L hLt.out; have hz2 : Hid (x2.heap[x1.heap.size]? = some zeroT) := zb_app (HW1.out.al _) (alloc_new x1 zeroT) hg2'; have tokC1 : True := trivial; clear tokB0; clear hown2 hg2' hb2)
            | (have _t := tokC0; refine step_call1 rfl 8 _ _ rfl cfOf (.slice ao2' 0 cap2') rfl (OfR x2 L) HOF2 ?_; rintro v x3 ⟨C, rfl, hi, h17, h1, HTB, hb3⟩; have hB3 : Below w3.heap.size w3 x3 := hB2.trans (hb3.mono hB2.size); have hC17 : C.size = 17 := h17.out.symm; have hS : StOk (x3.alloc zeroT) x3.heap.size C := ⟨alloc_new x3 zeroT, hi, h17.out, h1⟩; unfold zeroT at hS; have tokD : True := trivial; clear tokC0 HOF2 HOFz hb3)
            | (have _t := tokC1; refine step_call1 rfl 8 _ _ rfl cfOf (.slice ao2' 0 cap2') rfl (OfR x2 L) HOF2 ?_; rintro v x3 ⟨C, rfl, hi, h17, h1, HTB, hb3⟩; have hB3 : Below w3.heap.size w3 x3 := hB2.trans (hb3.mono hB2.size); have hz3 : Hid (x3.heap[_]? = some zeroT) := (hb3.block _ (Array.getElem?_eq_some_iff.1 hz2.out).1).trans hz2.out; have hC17 : C.size = 17 := h17.out.symm; have hS : StOk x3 _ C := ⟨hz3.out, hi, h17.out, h1⟩; clear tokC1 HOF2 HOFz hb3)
            | (have _t := tokC0; refine step_call1 rfl 8 _ _ rfl cfOf (.slice ao2' 0 cap2') rfl (OfR (x2.alloc zeroT) L) HOFz ?_; rintro v x3 ⟨C, rfl, hi, h17, h1, HTB, hb3⟩; have hB3 : Below w3.heap.size w3 x3 := (hB2.alloc hB2.size zeroT).trans (hb3.mono (Nat.le_trans hB2.size (bel_al x2 zeroT).size)); have hz3 : Hid (x3.heap[x2.heap.size]? = some zeroT) := (hb3.block _ (by show _ < (x2.heap.push _).size; simp)).trans (alloc_new x2 zeroT); have hC17 : C.size = 17 := h17.out.symm; have hS : StOk x3 x2.heap.size C := ⟨hz3.out, hi, h17.out, h1⟩; clear tokC0 HOF2 HOFz hb3))
          | fail
          all_goals
            go_wp2
            go_meet
            case rel =>
              first
              | exact fin_tab hS HTB hB3 (by have := hB1.size; have := hB2.size; omega)
              | exact fin_tab hS HTB (hB3.alloc hB3.size _) hB3.size
        · simp only [Value.slice.injEq, true_and] at e
          obtain ⟨rfl, rfl⟩ := e
          have hrd : RdPr w3 g 0 P := by
            intro k hk
            obtain ⟨g', e', _, _, h3⟩ := HOW3.out.at (by omega)
            cases e'
            exact h3 k hk
          have hg3 : g < w3.heap.size := (Array.getElem?_eq_some_iff.1 hgg).1
          have cfOf := run_callFunc (P := Try.prog) (f := 8) Try.func8 (by kernel_rfl) (by kernel_rfl)
          have HRD : Hid (RdPr w3 g 0 P) := hrd
          have hni : (n : Int) ≤ (P.length : Int) := by omega
          have hnc : (n : Int) ≤ (cap : Int) := by omega
          have hlc : (P.length : Int) ≤ (cap : Int) := by omega
          have hLt : Hid (putsS [] (P.drop n ++ P.take n) = L) := HTN.out.1
          clear hrd hgg htk
          by_cases hcn : cap = n
          · obtain rfl : n = cap := hcn.symm
            have hPc : P.length = n := by omega
            subst hPc
            have hLt2 : Hid (putsS [] ([] ++ P) = L) := by have := hLt.out; show _ = _; simpa using this
            have tokA : True := trivial
            have OWNC : Hid (OwnPr w3.heap.size ((w3.drew.alloc zeroT).alloc (.cells #[] 23)) (some ⟨w3.heap.size + 1, 0, none⟩) 0 []) := by
              have h := own_built2 (w3.drew.alloc zeroT)
              have e : (w3.drew.alloc zeroT).heap.size = w3.heap.size + 1 := by show (w3.heap.push _).size = _; simp
              rw [e] at h
              exact h.mono (by omega)
            unfold zeroT at OWNC
            first
            | go_region_law (first
              | (have _t := tokA; refine step_appP rfl _ _ rfl w3.heap.size (some ⟨w3.heap.size, 0, none⟩) 0 0 [] rfl rfl (own_built2 w3.drew) ⟨g, 0, none⟩ 0 0 [] rfl (by simp) (fun j u hj => by simp [flat] at hj) (by first | (simp; done) | (simp; omega)) (by show _ ≤ (w3.heap.push _).size; simp) ?_; intro ao1 cap1 x1 hown1 hg1 hb1; have HW1 : Hid (OwnPr w3.heap.size x1 ao1 cap1 []) := hown1; have HX1 : Hid (RdPr x1 g 0 P) := (HRD.out.below (below_undrew (bel_al w3.drew _)) hg3).below hb1 hg3; have hB1 : Below w3.heap.size w3 x1 := (below_undrew (bel_al w3.drew _)).trans hb1; have tokB0 : True := trivial; clear hown1 hg1 hb1 tokA)
              | (have _t := tokA; refine step_appP rfl _ _ rfl w3.heap.size (some ⟨w3.heap.size, 0, none⟩) 0 0 [] rfl rfl ((own_built2 w3.drew).al _) ⟨g, 0, none⟩ 0 0 [] rfl (by simp) (fun j u hj => by simp [flat] at hj) (by first | (simp; done) | (simp; omega)) (by show _ ≤ ((w3.heap.push _).push _).size; simp; omega) ?_; intro ao1 cap1 x1 hown1 hg1 hb1; have HW1 : Hid (OwnPr w3.heap.size x1 ao1 cap1 []) := hown1; have HX1 : Hid (RdPr x1 g 0 P) := (HRD.out.below (below_undrew ((bel_al w3.drew _).alloc (by show _ ≤ (w3.heap.push _).size; simp) _)) hg3).below hb1 hg3; have hB1 : Below w3.heap.size w3 x1 := (below_undrew ((bel_al w3.drew _).alloc (by show _ ≤ (w3.heap.push _).size; simp) _)).trans hb1; have hz1 : Hid (x1.heap[w3.heap.size + 1]? = some zeroT) := zb_app ((own_built2 w3.drew).al _) (al2_snd w3.drew _ zeroT) hg1; have tokB1 : True := trivial; clear hown1 hg1 hb1 tokA)
              | (have _t := tokA; refine step_appP rfl _ _ rfl w3.heap.size (some ⟨w3.heap.size + 1, 0, none⟩) 0 0 [] rfl rfl OWNC.out ⟨g, 0, none⟩ 0 0 [] rfl (by simp) (fun j u hj => by simp [flat] at hj) (by first | (simp; done) | (simp; omega)) (by show _ ≤ ((w3.heap.push _).push _).size; simp; omega) ?_; intro ao1 cap1 x1 hown1 hg1 hb1; have HW1 : Hid (OwnPr w3.heap.size x1 ao1 cap1 []) := hown1; have HX1 : Hid (RdPr x1 g 0 P) := (HRD.out.below (below_undrew ((bel_al w3.drew _).alloc (by show _ ≤ (w3.heap.push _).size; simp) _)) hg3).below hb1 hg3; have hB1 : Below w3.heap.size w3 x1 := (below_undrew ((bel_al w3.drew _).alloc (by show _ ≤ (w3.heap.push _).size; simp) _)).trans hb1; have hz1 : Hid (x1.heap[w3.heap.size]? = some zeroT) := zb_app OWNC.out (al2_fst w3.drew zeroT _) hg1; have tokB1 : True := trivial; clear hown1 hg1 hb1 tokA)
              | (have _t := tokB0; refine step_appP rfl _ _ rfl w3.heap.size ao1 cap1 0 [] rfl (by simp) HW1.out ⟨g, 0, none⟩ P.length P.length P rfl (by first | (simp; done) | (simp; omega)) (flat_add HX1.out) (by first | (simp; done) | (simp; omega)) hB1.size ?_; intro ao2' cap2' x2 hown2 hg2' hb2; have hB2 : Below w3.heap.size w3 x2 := hB1.trans hb2; have HOF2 := Of_ex ao2' P.length cap2' _ x2 (by first | (simp; done) | (simp; omega)) hown2.rd L hLt2.out; have HOFz := Of_ex ao2' P.length cap2' _ (x2.alloc zeroT) (by first | (simp; done) | (simp; omega)) (hown2.al _).rd L hLt2.out; have tokC0 : True := trivial; clear tokB0; clear hown2 hg2' hb2)
              | (have _t := tokB1; refine step_appP rfl _ _ rfl w3.heap.size ao1 cap1 0 [] rfl (by simp) HW1.out ⟨g, 0, none⟩ P.length P.length P rfl (by first | (simp; done) | (simp; omega)) (flat_add HX1.out) (by first | (simp; done) | (simp; omega)) hB1.size ?_; intro ao2' cap2' x2 hown2 hg2' hb2; have hB2 : Below w3.heap.size w3 x2 := hB1.trans hb2; have HOF2 := Of_ex ao2' P.length cap2' _ x2 (by first | (simp; done) | (simp; omega)) hown2.rd L hLt2.out; have HOFz := Of_ex ao2' P.length cap2' _ (x2.alloc zeroT) (by first | (simp; done) | (simp; omega)) (hown2.al _).rd L hLt2.out; have hz2 : Hid (x2.heap[_]? = some zeroT) := zb_app HW1.out hz1.out hg2'; have tokC1 : True := trivial; clear tokB1; clear hown2 hg2' hb2)
              | (have _t := tokB0; refine step_appP rfl _ _ rfl w3.heap.size ao1 cap1 0 [] rfl (by simp) (HW1.out.al _) ⟨g, 0, none⟩ P.length P.length P rfl (by first | (simp; done) | (simp; omega)) (flat_add (HX1.out.below (bel_al x1 _) (Nat.lt_of_lt_of_le hg3 hB1.size))) (by first | (simp; done) | (simp; omega)) (hB1.alloc hB1.size _).size ?_; intro ao2' cap2' x2 hown2 hg2' hb2; have hB2 : Below w3.heap.size w3 x2 := (hB1.alloc hB1.size _).trans hb2; have HOF2 := Of_ex ao2' P.length cap2' _ x2 (by first | (simp; done) | (simp; omega)) hown2.rd L hLt2.out; have HOFz := Of_ex ao2' P.length cap2' _ (x2.alloc zeroT) (by first | (simp; done) | (simp; omega)) (hown2.al _).rd L hLt2.out; have hz2 : Hid (x2.heap[x1.heap.size]? = some zeroT) := zb_app (HW1.out.al _) (alloc_new x1 zeroT) hg2'; have tokC1 : True := trivial; clear tokB0; clear hown2 hg2' hb2)
              | (have _t := tokC0; refine step_call1 rfl 8 _ _ rfl cfOf (.slice ao2' P.length cap2') rfl (OfR x2 L) HOF2 ?_; rintro v x3 ⟨C, rfl, hi, h17, h1, HTB, hb3⟩; have hB3 : Below w3.heap.size w3 x3 := hB2.trans (hb3.mono hB2.size); have hC17 : C.size = 17 := h17.out.symm; have hS : StOk (x3.alloc zeroT) x3.heap.size C := ⟨alloc_new x3 zeroT, hi, h17.out, h1⟩; unfold zeroT at hS; have tokD : True := trivial; clear tokC0 HOF2 HOFz hb3)
              | (have _t := tokC1; refine step_call1 rfl 8 _ _ rfl cfOf (.slice ao2' P.length cap2') rfl (OfR x2 L) HOF2 ?_; rintro v x3 ⟨C, rfl, hi, h17, h1, HTB, hb3⟩; have hB3 : Below w3.heap.size w3 x3 := hB2.trans (hb3.mono hB2.size); have hz3 : Hid (x3.heap[_]? = some zeroT) := (hb3.block _ (Array.getElem?_eq_some_iff.1 hz2.out).1).trans hz2.out; have hC17 : C.size = 17 := h17.out.symm; have hS : StOk x3 _ C := ⟨hz3.out, hi, h17.out, h1⟩; clear tokC1 HOF2 HOFz hb3)
              | (have _t := tokC0; refine step_call1 rfl 8 _ _ rfl cfOf (.slice ao2' P.length cap2') rfl (OfR (x2.alloc zeroT) L) HOFz ?_; rintro v x3 ⟨C, rfl, hi, h17, h1, HTB, hb3⟩; have hB3 : Below w3.heap.size w3 x3 := (hB2.alloc hB2.size zeroT).trans (hb3.mono (Nat.le_trans hB2.size (bel_al x2 zeroT).size)); have hz3 : Hid (x3.heap[x2.heap.size]? = some zeroT) := (hb3.block _ (by show _ < (x2.heap.push _).size; simp)).trans (alloc_new x2 zeroT); have hC17 : C.size = 17 := h17.out.symm; have hS : StOk x3 x2.heap.size C := ⟨hz3.out, hi, h17.out, h1⟩; clear tokC0 HOF2 HOFz hb3))
            | fail
            all_goals
              go_wp2
              go_meet
              case rel =>
                first
                | exact fin_tab hS HTB hB3 (by have := hB1.size; have := hB2.size; omega)
                | exact fin_tab hS HTB (hB3.alloc hB3.size _) hB3.size
          · have tokA : True := trivial
            have OWNC : Hid (OwnPr w3.heap.size ((w3.drew.alloc zeroT).alloc (.cells #[] 23)) (some ⟨w3.heap.size + 1, 0, none⟩) 0 []) := by
              have h := own_built2 (w3.drew.alloc zeroT)
              have e : (w3.drew.alloc zeroT).heap.size = w3.heap.size + 1 := by show (w3.heap.push _).size = _; simp
              rw [e] at h
              exact h.mono (by omega)
            unfold zeroT at OWNC
            first
            | go_region_law (first
              | (have _t := tokA; refine step_appP rfl _ _ rfl w3.heap.size (some ⟨w3.heap.size, 0, none⟩) 0 0 [] rfl rfl (own_built2 w3.drew) ⟨g, n * 2, none⟩ (P.length - n) (cap - n) (P.drop n) rfl (by simp) (fun j u hj => src_drop (HRD.out.below (below_undrew (bel_al w3.drew _)) hg3) j u hj) (by simp; omega) (by show _ ≤ (w3.heap.push _).size; simp) ?_; intro ao1 cap1 x1 hown1 hg1 hb1; have HW1 : Hid (OwnPr w3.heap.size x1 ao1 cap1 (P.drop n)) := (by simpa using hown1 : OwnPr w3.heap.size x1 ao1 cap1 (P.drop n)); have HX1 : Hid (RdPr x1 g 0 P) := (HRD.out.below (below_undrew (bel_al w3.drew _)) hg3).below hb1 hg3; have hB1 : Below w3.heap.size w3 x1 := (below_undrew (bel_al w3.drew _)).trans hb1; have tokB0 : True := trivial; clear hown1 hg1 hb1 tokA)
              | (have _t := tokA; refine step_appP rfl _ _ rfl w3.heap.size (some ⟨w3.heap.size, 0, none⟩) 0 0 [] rfl rfl ((own_built2 w3.drew).al _) ⟨g, n * 2, none⟩ (P.length - n) (cap - n) (P.drop n) rfl (by simp) (fun j u hj => src_drop (HRD.out.below (below_undrew ((bel_al w3.drew _).alloc (by show _ ≤ (w3.heap.push _).size; simp) _)) hg3) j u hj) (by simp; omega) (by show _ ≤ ((w3.heap.push _).push _).size; simp; omega) ?_; intro ao1 cap1 x1 hown1 hg1 hb1; have HW1 : Hid (OwnPr w3.heap.size x1 ao1 cap1 (P.drop n)) := (by simpa using hown1 : OwnPr w3.heap.size x1 ao1 cap1 (P.drop n)); have HX1 : Hid (RdPr x1 g 0 P) := (HRD.out.below (below_undrew ((bel_al w3.drew _).alloc (by show _ ≤ (w3.heap.push _).size; simp) _)) hg3).below hb1 hg3; have hB1 : Below w3.heap.size w3 x1 := (below_undrew ((bel_al w3.drew _).alloc (by show _ ≤ (w3.heap.push _).size; simp) _)).trans hb1; have hz1 : Hid (x1.heap[w3.heap.size + 1]? = some zeroT) := zb_app ((own_built2 w3.drew).al _) (al2_snd w3.drew _ zeroT) hg1; have tokB1 : True := trivial; clear hown1 hg1 hb1 tokA)
              | (have _t := tokA; refine step_appP rfl _ _ rfl w3.heap.size (some ⟨w3.heap.size + 1, 0, none⟩) 0 0 [] rfl rfl OWNC.out ⟨g, n * 2, none⟩ (P.length - n) (cap - n) (P.drop n) rfl (by simp) (fun j u hj => src_drop (HRD.out.below (below_undrew ((bel_al w3.drew _).alloc (by show _ ≤ (w3.heap.push _).size; simp) _)) hg3) j u hj) (by simp; omega) (by show _ ≤ ((w3.heap.push _).push _).size; simp; omega) ?_; intro ao1 cap1 x1 hown1 hg1 hb1; have HW1 : Hid (OwnPr w3.heap.size x1 ao1 cap1 (P.drop n)) := (by simpa using hown1 : OwnPr w3.heap.size x1 ao1 cap1 (P.drop n)); have HX1 : Hid (RdPr x1 g 0 P) := (HRD.out.below (below_undrew ((bel_al w3.drew _).alloc (by show _ ≤ (w3.heap.push _).size; simp) _)) hg3).below hb1 hg3; have hB1 : Below w3.heap.size w3 x1 := (below_undrew ((bel_al w3.drew _).alloc (by show _ ≤ (w3.heap.push _).size; simp) _)).trans hb1; have hz1 : Hid (x1.heap[w3.heap.size]? = some zeroT) := zb_app OWNC.out (al2_fst w3.drew zeroT _) hg1; have tokB1 : True := trivial; clear hown1 hg1 hb1 tokA)
              | (have _t := tokB0; refine step_appP rfl _ _ rfl w3.heap.size ao1 cap1 (P.length - n) (P.drop n) rfl (by simp) HW1.out ⟨g, 0, none⟩ n cap (P.take n) rfl (by simp; omega) (src_take HX1.out) (by simp; omega) hB1.size ?_; intro ao2' cap2' x2 hown2 hg2' hb2; have hB2 : Below w3.heap.size w3 x2 := hB1.trans hb2; have HOF2 := Of_ex ao2' P.length cap2' _ x2 (by simp; omega) hown2.rd L hLt.out; have HOFz := Of_ex ao2' P.length cap2' _ (x2.alloc zeroT) (by simp; omega) (hown2.al _).rd L hLt.out; have tokC0 : True := trivial; clear tokB0; clear hown2 hg2' hb2)
              | (have _t := tokB1; refine step_appP rfl _ _ rfl w3.heap.size ao1 cap1 (P.length - n) (P.drop n) rfl (by simp) HW1.out ⟨g, 0, none⟩ n cap (P.take n) rfl (by simp; omega) (src_take HX1.out) (by simp; omega) hB1.size ?_; intro ao2' cap2' x2 hown2 hg2' hb2; have hB2 : Below w3.heap.size w3 x2 := hB1.trans hb2; have HOF2 := Of_ex ao2' P.length cap2' _ x2 (by simp; omega) hown2.rd L hLt.out; have HOFz := Of_ex ao2' P.length cap2' _ (x2.alloc zeroT) (by simp; omega) (hown2.al _).rd L hLt.out; have hz2 : Hid (x2.heap[_]? = some zeroT) := zb_app HW1.out hz1.out hg2'; have tokC1 : True := trivial; clear tokB1; clear hown2 hg2' hb2)
              | (have _t := tokB0; refine step_appP rfl _ _ rfl w3.heap.size ao1 cap1 (P.length - n) (P.drop n) rfl (by simp) (HW1.out.al _) ⟨g, 0, none⟩ n cap (P.take n) rfl (by simp; omega) (src_take (HX1.out.below (bel_al x1 _) (Nat.lt_of_lt_of_le hg3 hB1.size))) (by simp; omega) (hB1.alloc hB1.size _).size ?_; intro ao2' cap2' x2 hown2 hg2' hb2; have hB2 : Below w3.heap.size w3 x2 := (hB1.alloc hB1.size _).trans hb2; have HOF2 := Of_ex ao2' P.length cap2' _ x2 (by simp; omega) hown2.rd L hLt.out; have HOFz := Of_ex ao2' P.length cap2' _ (x2.alloc zeroT) (by simp; omega) (hown2.al _).rd L hLt.out; have hz2 : Hid (x2.heap[x1.heap.size]? = some zeroT) := zb_app (HW1.out.al _) (alloc_new x1 zeroT) hg2'; have tokC1 : True := trivial; clear tokB0; clear hown2 hg2' hb2)
              | (have _t := tokC0; refine step_call1 rfl 8 _ _ rfl cfOf (.slice ao2' P.length cap2') rfl (OfR x2 L) HOF2 ?_; rintro v x3 ⟨C, rfl, hi, h17, h1, HTB, hb3⟩; have hB3 : Below w3.heap.size w3 x3 := hB2.trans (hb3.mono hB2.size); have hC17 : C.size = 17 := h17.out.symm; have hS : StOk (x3.alloc zeroT) x3.heap.size C := ⟨alloc_new x3 zeroT, hi, h17.out, h1⟩; unfold zeroT at hS; have tokD : True := trivial; clear tokC0 HOF2 HOFz hb3)
              | (have _t := tokC1; refine step_call1 rfl 8 _ _ rfl cfOf (.slice ao2' P.length cap2') rfl (OfR x2 L) HOF2 ?_; rintro v x3 ⟨C, rfl, hi, h17, h1, HTB, hb3⟩; have hB3 : Below w3.heap.size w3 x3 := hB2.trans (hb3.mono hB2.size); have hz3 : Hid (x3.heap[_]? = some zeroT) := (hb3.block _ (Array.getElem?_eq_some_iff.1 hz2.out).1).trans hz2.out; have hC17 : C.size = 17 := h17.out.symm; have hS : StOk x3 _ C := ⟨hz3.out, hi, h17.out, h1⟩; clear tokC1 HOF2 HOFz hb3)
              | (have _t := tokC0; refine step_call1 rfl 8 _ _ rfl cfOf (.slice ao2' P.length cap2') rfl (OfR (x2.alloc zeroT) L) HOFz ?_; rintro v x3 ⟨C, rfl, hi, h17, h1, HTB, hb3⟩; have hB3 : Below w3.heap.size w3 x3 := (hB2.alloc hB2.size zeroT).trans (hb3.mono (Nat.le_trans hB2.size (bel_al x2 zeroT).size)); have hz3 : Hid (x3.heap[x2.heap.size]? = some zeroT) := (hb3.block _ (by show _ < (x2.heap.push _).size; simp)).trans (alloc_new x2 zeroT); have hC17 : C.size = 17 := h17.out.symm; have hS : StOk x3 x2.heap.size C := ⟨hz3.out, hi, h17.out, h1⟩; clear tokC0 HOF2 HOFz hb3))
            | fail
            all_goals
              go_wp2
              go_meet
              case rel =>
                first
                | exact fin_tab hS HTB hB3 (by have := hB1.size; have := hB2.size; omega)
                | exact fin_tab hS HTB (hB3.alloc hB3.size _) hB3.size
      case rest =>
        obtain ⟨gu, rfl, hTu, hgu, hb4⟩ := hcut
        obtain ⟨w4, rfl⟩ : ∃ w4 : World, w4 = wc := ⟨_, rfl⟩
        have HT4 : Hid (TabAt w4 gt L) := HT3.out.heap (hb4.block gt hs3)
        have HU4 : Hid (TabAt w4 gu L) := hTu
        have HB4 : Hid (Below w.heap.size w w4) := bel_call HB3.out hb4
        have hLP : Hid ((L.length : Int) = P.length) := by show _ = _; rw [HTN.out.2]
        clear hTu hb4 HT3 HB3 HOW3 HTN hgu hs3 hcaps
        go_wp2_with fail
        refine (known_any _).mono ?_
        rintro e x1 ⟨rfl, hb⟩
        have HT5 : Hid (TabAt x1 gt L) := HT4.out.below hb
        have HU5 : Hid (TabAt x1 gu L) := HU4.out.below hb
        have HB5 : Hid (Below w.heap.size w x1) := bel_call HB4.out hb
        clear HT4 HU4 HB4 hb
        go_wp2_with fail
        refine (Pairs_any gt L x1 HT5.out).mono ?_
        rintro e x2 ⟨ap, cp, rfl, hown, hb⟩
        have hRp := hown.rd
        have HT6 : Hid (TabAt x2 gt L) := HT5.out.below hb
        have HU6 : Hid (TabAt x2 gu L) := HU5.out.below hb
        have HB6 : Hid (Below w.heap.size w x2) := bel_call HB5.out hb
        clear HT5 HU5 HB5 hb hown
        go_wp2_with fail
        refine (Pairs_any gu L x2 HU6.out).mono ?_
        rintro e x3 ⟨aq, cq, rfl, hown, hb⟩
        have hRq := hown.rd
        have hRp2 := hRp.below hb
        have HT7 : Hid (TabAt x3 gt L) := HT6.out.below hb
        have HB7 : Hid (Below w.heap.size w x3) := bel_call HB6.out hb
        clear HT6 HU6 HB6 hb hown hRp
        go_wp2_with fail
        refine (same_any _ _ _ _ _ _ L L x3 rfl rfl hRp2 hRq rfl).mono ?_
        rintro e x4 ⟨rfl, hb⟩
        have HT8 : Hid (TabAt x4 gt L) := HT7.out.below hb
        have HB8 : Hid (Below w.heap.size w x4) := bel_call HB7.out hb
        clear HT7 HB7 hb hRp2 hRq
        have HLEN := Len_any gt L x4 HT8.out
        rw [hLP.out] at HLEN
        obtain ⟨hl2, hm2⟩ := H2.out.len
        subst hl2
        go_wp2_with (go_at_call 13; refine HLEN.mono ?_; rintro e wq ⟨rfl, hwq⟩; subst wq)
        clear HLEN
        go_loopw [82] (fun i wr => ∃ (j : Nat) (l : List Pr), j ≤ l2.length ∧ i = .int .i64 j ∧ TabAt wr gt l ∧ Below w.heap.size w wr) (fun i _ => l2.length - (intOf i).toNat)
        case atStart => exact ⟨0, L, Nat.zero_le _, rfl, HT8.out, HB8.out⟩
        case round =>
          obtain ⟨j, l, hj, rfl, hT, hBr⟩ := hrel
          by_cases hlt2 : j < l2.length
          · obtain ⟨b, off, rfl, hb, hc⟩ := raw_cells H2.out (by omega)
            obtain ⟨x, hx⟩ : ∃ x, l2[j] = x := ⟨_, rfl⟩
            obtain ⟨q0, q1, q2, q3, q4, q5, q6, q7⟩ := hc wr hBr j x (by rw [← hx]; exact List.getElem?_eq_getElem hlt2)
            have hm3 : (j : Int) < (l2.length : Int) := by omega
            have HTr : Hid (TabAt wr gt l) := hT
            have HBR : Hid (Below w.heap.size w wr) := hBr
            have hgr : gt < wr.heap.size := hT.lt
            clear hc hT hx hBr HT8 HB8
            go_wp2_with fail
            refine (Pairs_any gt l _ (HTr.out.below (bel_al wr _))).mono ?_
            rintro e y1 ⟨aow, capw, rfl, hown, hb1⟩
            have hX1 := (hb1.block wr.heap.size (by show _ < (wr.heap.push _).size; simp)).trans (alloc_new wr _)
            have k0 := cell_of_row y1 _ 0 _ _ (0, 0) hX1
            have k1 := cell_of_row y1 _ 1 _ _ (0, 0) hX1
            have k2 := cell_of_row y1 _ 2 _ _ (0, 0) hX1
            have k3 := cell_of_row y1 _ 3 _ _ (0, 0) hX1
            simp only [List.getElem?_toArray, List.getElem?_cons_zero, List.getElem?_cons_succ] at k0 k1 k2 k3
            have HT1 : Hid (TabAt y1 gt l) := (HTr.out.below (bel_al wr _)).below hb1
            have HB1 : Hid (Below w.heap.size w y1) := bel_call (bel_call HBR.out (bel_al wr _)) hb1
            have HW1 : Hid (PrA (fun i => i ≠ gt) y1 aow capw l) := by
              have := hown.prA
              refine ⟨this.1, this.2.1, fun hl => ?_⟩
              obtain ⟨g, off, a, b, c, d⟩ := this.2.2 hl
              have hsz := (bel_al wr (.cells #[.int .i64 x.kind, .int .i64 x.key, .int .i64 x.value, .int .i64 x.old, .int .i64 x.client, .int .i64 x.seq, .int .i64 x.bend, .string x.text] 48)).size
              exact ⟨g, off, a, b, by have := c.1; omega, d⟩
            clear hown hb1 hX1 HTr HBR q0 q1 q2 q3 q4 q5 q6 q7
            go_wp2_with fail
            refine (Op_any _ _ _ _ _).mono ?_
            rintro e y2 ⟨rfl, hb2⟩
            obtain ⟨K, hK⟩ : ∃ K, oKind x.kind = K := ⟨_, rfl⟩
            obtain ⟨key, hkey⟩ : ∃ key, keyS x.key = key := ⟨_, rfl⟩
            obtain ⟨v, hv⟩ : ∃ v, oVal x.kind x.value = v := ⟨_, rfl⟩
            obtain ⟨old, hold⟩ : ∃ old, oOld x.kind x.old = old := ⟨_, rfl⟩
            rw [hK, hkey, hv, hold]
            have HT2 : Hid (TabAt y2 gt l) := HT1.out.below hb2
            have HB2 : Hid (Below w.heap.size w y2) := bel_call HB1.out hb2
            have HW2 : Hid (PrA (fun i => i ≠ gt) y2 aow capw l) := HW1.out.below hb2
            have hg2' : gt < y2.heap.size := HT2.out.lt
            clear hK hkey hv hold HT1 HB1 HW1 hb2 k0 k1 k2 k3
            go_wp2_with fail
            obtain ⟨⟨l', ec, y⟩, hd⟩ : ∃ R, doS l K key v old = R := ⟨_, rfl⟩
            refine (Do_eq gt l K key v old _ (HT2.out.below (bel_al y2 _)) l' ec y hd).mono ?_
            rintro e y3 ⟨rfl, hT3, hO3⟩
            obtain ⟨hs3, ho3⟩ := did_op hO3 hg2'
            obtain ⟨c0, c1, c2, c3⟩ := op_cells ho3
            have HT3' : Hid (TabAt (y3.alloc (ansO ec y)) gt l') := hT3.below (bel_al y3 _)
            have hOw := (Only.of_alloc (fun k => k = gt) y2 (opO K key v old)).trans hO3
            have HB3' : Hid (Below w.heap.size w (y3.alloc (ansO ec y))) := bel_call (HB2.out.trans (hOw.below (fun i e => by have := hg2.out; omega) HB2.out.size)) (bel_al y3 _)
            have HW3 : Hid (PrA (fun i => i ≠ gt) (y3.alloc (ansO ec y)) aow capw l) := (HW2.out.only hOw (fun i h e => h e)).below (bel_al y3 _)
            have HST : Hid ((K = 1 ∨ ec ≠ 0) → l' = l) := fun h => by have := doS_still l K key v old (by rw [hd]; exact h); rw [hd] at this; exact this
            unfold ansO at HT3' HB3' HW3
            clear hd hT3 hO3 hOw ho3 HT2 HB2 HW2
            by_cases hc : K = 1 ∨ ec ≠ 0
            · obtain rfl := HST.out hc
              by_cases hK1 : K = 1
              · subst hK1
                go_wp2_with fail
                refine (Pairs_any gt l' _ HT3'.out).mono ?_
                rintro e y4 ⟨ax, cx, rfl, hown, hb⟩
                have hRx := hown.rd
                have hRw := (HW3.out.below hb).rd
                have HT4' : Hid (TabAt y4 gt l') := HT3'.out.below hb
                have HB4' : Hid (Below w.heap.size w y4) := bel_call HB3'.out hb
                clear hown hb HT3' HB3' HW3
                go_wp2_with fail
                refine (same_any _ _ _ _ _ _ l' l' y4 rfl rfl hRx hRw rfl).mono ?_
                rintro e y5 ⟨rfl, hb⟩
                have HT5' : Hid (TabAt y5 gt l') := HT4'.out.below hb
                have HB5' : Hid (Below w.heap.size w y5) := bel_call HB4'.out hb
                clear hRx hRw hb HT4' HB4'
                go_wp2_with fail
                exact ⟨⟨j + 1, l', hlt2, by go_num, HT5'.out, HB5'.out⟩, by simp [intOf]; omega⟩
              · have hec : ¬ ec = 0 := by rcases hc with h | h; exact absurd h hK1; exact h
                go_wp2_with fail
                refine (Pairs_any gt l' _ HT3'.out).mono ?_
                rintro e y4 ⟨ax, cx, rfl, hown, hb⟩
                have hRx := hown.rd
                have hRw := (HW3.out.below hb).rd
                have HT4' : Hid (TabAt y4 gt l') := HT3'.out.below hb
                have HB4' : Hid (Below w.heap.size w y4) := bel_call HB3'.out hb
                clear hown hb HT3' HB3' HW3
                go_wp2_with fail
                refine (same_any _ _ _ _ _ _ l' l' y4 rfl rfl hRx hRw rfl).mono ?_
                rintro e y5 ⟨rfl, hb⟩
                have HT5' : Hid (TabAt y5 gt l') := HT4'.out.below hb
                have HB5' : Hid (Below w.heap.size w y5) := bel_call HB4'.out hb
                clear hRx hRw hb HT4' HB4'
                go_wp2_with fail
                exact ⟨⟨j + 1, l', hlt2, by go_num, HT5'.out, HB5'.out⟩, by simp [intOf]; omega⟩
            · have hK1 : ¬ K = 1 := fun h => hc (.inl h)
              have hec : ec = 0 := by
                by_cases h : ec = 0
                · exact h
                · exact absurd (.inr h) hc
              subst hec
              go_wp2_with fail
              exact ⟨⟨j + 1, l', hlt2, by go_num, HT3'.out, HB3'.out⟩, by simp [intOf]; omega⟩
          · go_wp2
            go_ret
            exact ⟨rfl, hBr⟩
end Go.Proofs.Ytinobhaemmddjaa
