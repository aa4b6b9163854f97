/- TableMap: the walk. -/
import Derived.Test.YtinobhaemmddjaaTM
namespace Go.Proofs.Ytinobhaemmddjaa
open Go.RowKit Go.Maps

/-- a table, and a map, with these pairs -/
structure Tm (w0 w : World) (g b : Nat) (l m : List Pr) : Prop where
  t : TabAt w g l
  m : MapS w b m
  ne : g ≠ b
  bel : Below w0.heap.size w0 w
  hg : w0.heap.size ≤ g
  hb : w0.heap.size ≤ b
section
variable {w0 w w' : World} {g b : Nat} {l l' m m' : List Pr} {k : Int} {key v old : ByteArray}
theorem Tm.below (h : Tm w0 w g b l m) (hb : Below w.heap.size w w') : Tm w0 w' g b l m :=
  ⟨h.t.below hb, h.m.heap (hb.block b h.m.lt), h.ne, bel_call h.bel hb, h.hg, h.hb⟩
theorem Tm.al (h : Tm w0 w g b l m) (o : Obj) : Tm w0 (w.alloc o) g b l m := h.below (bel_al w o)
theorem Tm.did (h : Tm w0 w g b l m) (hT : TabAt w' g l') (hO : Only (fun i => i = g) w w') : Tm w0 w' g b l' m :=
  ⟨hT, h.m.heap (hO.block b h.m.lt fun e => h.ne e.symm), h.ne, h.bel.trans (hO.below (fun i e => by have := h.hg; omega) h.bel.size), h.hg, h.hb⟩
theorem Tm.put (h : Tm w0 w g b l m) (hM : MapS w' b m') (hO : Only (fun i => i = b) w w') : Tm w0 w' g b l m' :=
  ⟨h.t.heap (hO.block g h.t.lt h.ne), hM, h.ne, h.bel.trans (hO.below (fun i e => by have := h.hb; omega) h.bel.size), h.hg, h.hb⟩
/-- two answers behind one another, and what becomes of them where block b is written -/
theorem two_ans {w3 w4 : World} {a1 a2 : Int} {y1 y2 : ByteArray} (hO : Only (fun i => i = b) ((w3.alloc (ansO a1 y1)).alloc (ansO a2 y2)) w4) (hb : b < w3.heap.size) : AnsAt w4 w3.heap.size a1 y1 ∧ AnsAt w4 (w3.heap.size + 1) a2 y2 ∧ w3.heap.size + 1 < w4.heap.size := by
  have e : ((w3.alloc (ansO a1 y1)).alloc (ansO a2 y2)).heap.size = w3.heap.size + 2 := by show ((w3.heap.push _).push _).size = _; simp
  have := hO.size
  exact ⟨(hO.block _ (by omega) (by omega)).trans (al2_fst w3 _ _), (hO.block _ (by omega) (by omega)).trans (al2_snd w3 _ _), by omega⟩
end
set_option maxRecDepth 20000 in
set_option maxHeartbeats 4000000 in
theorem TableMap_any (ao : Option Addr) (n c : Nat) (os : List RawO) (w : World) (h : RdG 8 RawO.Q w.heap.size w ao n c os) :
    Calls Try.prog 5 #[.slice ao n c] w fun e w' => e = .returned (.bool true) ∧ Below w.heap.size w w' := by
  obtain ⟨hl1, hm1⟩ := h.len
  subst hl1
  have H : Hid (RdG 8 RawO.Q w.heap.size w ao os.length c os) := h
  have hmm := @run_makeMap Try.prog
  have HS : Hid (Tm w ((w.alloc zeroT).alloc (.map #[] 0)) w.heap.size (w.heap.size + 1) [] []) := by
    refine ⟨TabAt.zero (al2_fst w _ _), ?_, by omega, (bel_al w _).trans ((Below.refl _ _).alloc (by show _ ≤ (w.heap.push _).size; simp) _), Nat.le_refl _, by omega⟩
    have := MapS.made (w.alloc zeroT)
    have e : (w.alloc zeroT).heap.size = w.heap.size + 1 := by show (w.heap.push _).size = _; simp
    rw [e] at this
    exact this
  unfold zeroT at HS
  clear h
  go_enter Try.func5, Try.ntmps5
  go_wp2_with fail
  go_loopw [21] (fun i wr => ∃ (j : Nat) (l : List Pr), j ≤ os.length ∧ i = .int .i64 j ∧ Tm w wr w.heap.size (w.heap.size + 1) l l ∧ ∀ q ∈ l, q.1.size ≤ 8) (fun i _ => os.length - (intOf i).toNat)
  case atStart => exact ⟨0, [], Nat.zero_le _, rfl, HS.out, by simp⟩
  case round =>
    obtain ⟨j, l, hj, rfl, hT, hfit⟩ := hrel
    have HF : Hid (∀ q ∈ l, q.1.size ≤ 8) := hfit
    clear hfit
    have HT : Hid (Tm w wr w.heap.size (w.heap.size + 1) l l) := hT
    clear HS hmm
    by_cases hlt : j < os.length
    · obtain ⟨b, off, rfl, hb, hc⟩ := raw_cells H.out (by omega)
      obtain ⟨x, hx⟩ : ∃ x, os[j] = x := ⟨_, rfl⟩
      obtain ⟨q0, q1, q2, q3, q4, q5, q6, q7⟩ := hc wr hT.bel j x (by rw [← hx]; exact List.getElem?_eq_getElem hlt)
      have hm2 : (j : Int) < (os.length : Int) := by omega
      have hRt : Hid (rightS (oKind x.kind) (keyS x.key) (oVal x.kind x.value) (oOld x.kind x.old) = true) := right_op _ _ _ _
      have hkf := keys_fit x.key
      have hks : Hid ((keyS x.key).size ≤ maxLen) := by show _ ≤ _; unfold maxLen; omega
      have hkd := kind_fit x.kind
      have hvs : Hid ((oVal x.kind x.value).size ≤ maxLen) := by
        have := vals_fit x.value
        show _ ≤ _
        unfold oVal
        split
        · unfold maxLen; omega
        · decide
      clear hc hT hx hkf
      go_wp2_with fail
      refine (Op_any _ _ _ _ _).mono ?_
      rintro e w2 ⟨rfl, hb2⟩
      obtain ⟨K, hK⟩ : ∃ K, oKind x.kind = K := ⟨_, rfl⟩
      obtain ⟨key, hkey⟩ : ∃ key, keyS x.key = key := ⟨_, rfl⟩
      obtain ⟨v, hv⟩ : ∃ v, oVal x.kind x.value = v := ⟨_, rfl⟩
      obtain ⟨old, hold⟩ : ∃ old, oOld x.kind x.old = old := ⟨_, rfl⟩
      rw [hK, hkey, hv, hold] at hRt ⊢
      rw [hK] at hkd
      rw [hkey] at hks
      rw [hv] at hvs
      have HT2 : Hid (Tm w w2 w.heap.size (w.heap.size + 1) l l) := (HT.out.al _).below hb2
      clear hK hkey hv hold HT hb2 q0 q1 q2 q3 q4 q5 q6 q7
      cases hh : has key l with
      | true =>
        obtain ⟨A, y, C, hl, hp, hA, hC, hy⟩ := split_has HT2.out.t.rise hh
        have hmem : (key, y) ∈ l := by rw [hl]; simp
        have huniq : ∀ y', (key, y') ∈ l → y' = y := by
          intro y' hy'
          rw [hl] at hy'
          rcases List.mem_append.1 hy' with q | q
          · exact absurd rfl (hA _ q)
          · rcases List.mem_cons.1 q with q | q
            · exact (Prod.mk.injEq _ _ _ _ ▸ q).2
            · exact absurd rfl (hC _ q)
        have HD : Hid (doS l K key v old = _) := doS_there hRt.out hl hp hy
        have HSP : Hid (l = A ++ (key, y) :: C ∧ (∀ q ∈ A, q.1 ≠ key) ∧ (∀ q ∈ C, q.1 ≠ key)) := ⟨hl, hA, hC⟩
        clear hl hp hA hC hy hh
        go_wp2_with (at_lookup; go_loud (refine look_there rfl _ _ rfl rfl (HT2.out.al _).m key rfl hks.out y hmem huniq ?_))
        have hgt : Hid (w.heap.size < w2.heap.size) := HT2.out.t.lt
        have hgm : Hid (w.heap.size + 1 < w2.heap.size) := HT2.out.m.lt
        have h8 : Hid (l.length ≤ 8) := HT2.out.t.few
        have hc : K = 1 ∨ K = 2 ∨ K = 3 ∨ K = 4 := by omega
        clear hkd hRt
        rcases hc with rfl | rfl | rfl | rfl
        · skip
          have hd : doS l 1 key v old = (l, 0, y) := by rw [HD.out]; simp
          refine (Do_eq w.heap.size l 1 key v old _ (HT2.out.al _).t _ _ _ hd).mono ?_
          rintro e w3 ⟨rfl, hT3, hO3⟩
          have HT3 : Hid (Tm w w3 w.heap.size (w.heap.size + 1) (l) l) := (HT2.out.al _).did hT3 hO3
          obtain ⟨hs3, ho3⟩ := did_op hO3 hgt.out
          obtain ⟨c0, c1, c2, c3⟩ := op_cells ho3
          have hgm3 : Hid (w.heap.size + 1 < w3.heap.size) := HT3.out.m.lt
          have HF3 : Hid (∀ q ∈ l, q.1.size ≤ 8) := by have := doS_keys HF.out (1) key v old; rw [hd] at this; exact this
          have hlen := fun o1 o2 => ((HT3.out.al o1).al o2).m.len 3
          clear hd hT3 hO3 HT2 ho3
          have HE : Hid (∀ o1 o2, Tm w ((w3.alloc o1).alloc o2) w.heap.size (w.heap.size + 1) (l) l) := fun _ _ => (HT3.out.al _).al _
          go_wp2_with first | (go_at_call 13; refine (Len_any w.heap.size _ _ (HE.out _ _).t).mono ?_; rintro e wq ⟨rfl, rfl⟩)
          refine ⟨⟨j + 1, _, hlt, by go_num, HE.out _ _, HF3.out⟩, by simp [intOf]; omega⟩
        · skip
          have hd : doS l 2 key v old = (A ++ (key, v) :: C, 0, ⟨#[]⟩) := by rw [HD.out]; simp
          refine (Do_eq w.heap.size l 2 key v old _ (HT2.out.al _).t _ _ _ hd).mono ?_
          rintro e w3 ⟨rfl, hT3, hO3⟩
          have HT3 : Hid (Tm w w3 w.heap.size (w.heap.size + 1) (A ++ (key, v) :: C) l) := (HT2.out.al _).did hT3 hO3
          obtain ⟨hs3, ho3⟩ := did_op hO3 hgt.out
          obtain ⟨c0, c1, c2, c3⟩ := op_cells ho3
          have hgm3 : Hid (w.heap.size + 1 < w3.heap.size) := HT3.out.m.lt
          have HF3 : Hid (∀ q ∈ A ++ (key, v) :: C, q.1.size ≤ 8) := by have := doS_keys HF.out (2) key v old; rw [hd] at this; exact this
          have hlen := fun o1 o2 => ((HT3.out.al o1).al o2).m.len 3
          clear hd hT3 hO3 HT2 ho3
          go_wp2_with first | (at_mapUpdate; refine put_map rfl _ _ _ rfl rfl ((HT3.out.al _).al _).m (by have := h8.out; omega) key v rfl rfl hks.out hvs.out (A ++ (key, v) :: C) (fun D hT hA => by rw [HSP.out.1] at hA; exact hA.mod hT HSP.out.2.1 HSP.out.2.2) ?_; intro w4 HM HO; obtain ⟨a1, a2, hs4⟩ := two_ans HO.out hgm3.out; obtain ⟨e1, e2⟩ := a1.cells; obtain ⟨e3, e4⟩ := a2.cells; have HE : Hid (Tm w w4 w.heap.size (w.heap.size + 1) (A ++ (key, v) :: C) (A ++ (key, v) :: C)) := ((HT3.out.al _).al _).put HM.out HO.out; have hlen4 := HE.out.m.len 3; clear a1 a2 HM HO hlen) | (go_at_call 13; refine (Len_any w.heap.size _ _ HE.out.t).mono ?_; rintro e wq ⟨rfl, rfl⟩)
          refine ⟨⟨j + 1, _, hlt, by go_num, HE.out, HF3.out⟩, by simp [intOf]; omega⟩
        · skip
          have hd : doS l 3 key v old = (A ++ C, 0, ⟨#[]⟩) := by rw [HD.out]; simp
          refine (Do_eq w.heap.size l 3 key v old _ (HT2.out.al _).t _ _ _ hd).mono ?_
          rintro e w3 ⟨rfl, hT3, hO3⟩
          have HT3 : Hid (Tm w w3 w.heap.size (w.heap.size + 1) (A ++ C) l) := (HT2.out.al _).did hT3 hO3
          obtain ⟨hs3, ho3⟩ := did_op hO3 hgt.out
          obtain ⟨c0, c1, c2, c3⟩ := op_cells ho3
          have hgm3 : Hid (w.heap.size + 1 < w3.heap.size) := HT3.out.m.lt
          have HF3 : Hid (∀ q ∈ A ++ C, q.1.size ≤ 8) := by have := doS_keys HF.out (3) key v old; rw [hd] at this; exact this
          have hlen := fun o1 o2 => ((HT3.out.al o1).al o2).m.len 3
          clear hd hT3 hO3 HT2 ho3
          go_wp2_with first | (at_delete; refine del_map rfl _ _ rfl rfl ((HT3.out.al _).al _).m key rfl hks.out (A ++ C) (fun D hT hA => by rw [HSP.out.1] at hA; exact hA.del hT HSP.out.2.1 HSP.out.2.2) ?_; intro w4 HM HO; obtain ⟨a1, a2, hs4⟩ := two_ans HO.out hgm3.out; obtain ⟨e1, e2⟩ := a1.cells; obtain ⟨e3, e4⟩ := a2.cells; have HE : Hid (Tm w w4 w.heap.size (w.heap.size + 1) (A ++ C) (A ++ C)) := ((HT3.out.al _).al _).put HM.out HO.out; have hlen4 := HE.out.m.len 3; clear a1 a2 HM HO hlen) | (go_at_call 13; refine (Len_any w.heap.size _ _ HE.out.t).mono ?_; rintro e wq ⟨rfl, rfl⟩)
          refine ⟨⟨j + 1, _, hlt, by go_num, HE.out, HF3.out⟩, by simp [intOf]; omega⟩
        · by_cases hyo : y = old
          · subst hyo
            have hd : doS l 4 key v y = (A ++ (key, v) :: C, 0, ⟨#[]⟩) := by rw [HD.out]; simp
            refine (Do_eq w.heap.size l 4 key v y _ (HT2.out.al _).t _ _ _ hd).mono ?_
            rintro e w3 ⟨rfl, hT3, hO3⟩
            have HT3 : Hid (Tm w w3 w.heap.size (w.heap.size + 1) (A ++ (key, v) :: C) l) := (HT2.out.al _).did hT3 hO3
            obtain ⟨hs3, ho3⟩ := did_op hO3 hgt.out
            obtain ⟨c0, c1, c2, c3⟩ := op_cells ho3
            have hgm3 : Hid (w.heap.size + 1 < w3.heap.size) := HT3.out.m.lt
            have HF3 : Hid (∀ q ∈ A ++ (key, v) :: C, q.1.size ≤ 8) := by have := doS_keys HF.out (4) key v y; rw [hd] at this; exact this
            have hlen := fun o1 o2 => ((HT3.out.al o1).al o2).m.len 3
            clear hd hT3 hO3 HT2 ho3
            go_wp2_with first | (at_mapUpdate; refine put_map rfl _ _ _ rfl rfl ((HT3.out.al _).al _).m (by have := h8.out; omega) key v rfl rfl hks.out hvs.out (A ++ (key, v) :: C) (fun D hT hA => by rw [HSP.out.1] at hA; exact hA.mod hT HSP.out.2.1 HSP.out.2.2) ?_; intro w4 HM HO; obtain ⟨a1, a2, hs4⟩ := two_ans HO.out hgm3.out; obtain ⟨e1, e2⟩ := a1.cells; obtain ⟨e3, e4⟩ := a2.cells; have HE : Hid (Tm w w4 w.heap.size (w.heap.size + 1) (A ++ (key, v) :: C) (A ++ (key, v) :: C)) := ((HT3.out.al _).al _).put HM.out HO.out; have hlen4 := HE.out.m.len 3; clear a1 a2 HM HO hlen) | (go_at_call 13; refine (Len_any w.heap.size _ _ HE.out.t).mono ?_; rintro e wq ⟨rfl, rfl⟩)
            refine ⟨⟨j + 1, _, hlt, by go_num, HE.out, HF3.out⟩, by simp [intOf]; omega⟩
          · have hne := toList_ne hyo
            have hd : doS l 4 key v old = (l, 6, y) := by rw [HD.out]; simp [hyo]
            refine (Do_eq w.heap.size l 4 key v old _ (HT2.out.al _).t _ _ _ hd).mono ?_
            rintro e w3 ⟨rfl, hT3, hO3⟩
            have HT3 : Hid (Tm w w3 w.heap.size (w.heap.size + 1) (l) l) := (HT2.out.al _).did hT3 hO3
            obtain ⟨hs3, ho3⟩ := did_op hO3 hgt.out
            obtain ⟨c0, c1, c2, c3⟩ := op_cells ho3
            have hgm3 : Hid (w.heap.size + 1 < w3.heap.size) := HT3.out.m.lt
            have HF3 : Hid (∀ q ∈ l, q.1.size ≤ 8) := by have := doS_keys HF.out (4) key v old; rw [hd] at this; exact this
            have hlen := fun o1 o2 => ((HT3.out.al o1).al o2).m.len 3
            clear hd hT3 hO3 HT2 ho3
            have HE : Hid (∀ o1 o2, Tm w ((w3.alloc o1).alloc o2) w.heap.size (w.heap.size + 1) (l) l) := fun _ _ => (HT3.out.al _).al _
            go_wp2_with first | (go_at_call 13; refine (Len_any w.heap.size _ _ (HE.out _ _).t).mono ?_; rintro e wq ⟨rfl, rfl⟩)
            refine ⟨⟨j + 1, _, hlt, by go_num, HE.out _ _, HF3.out⟩, by simp [intOf]; omega⟩
      | false =>
        have hmem : ∀ y, (key, y) ∉ l := fun y hy => split_not hh _ hy rfl
        have HSN : Hid (∀ q ∈ l, q.1 ≠ key) := split_not hh
        have HD : Hid (doS l K key v old = _) := doS_not hRt.out hh
        clear hh
        go_wp2_with (at_lookup; refine look_none rfl _ _ rfl rfl (HT2.out.al _).m key rfl hks.out hmem ?_)
        have hgt : Hid (w.heap.size < w2.heap.size) := HT2.out.t.lt
        have hgm : Hid (w.heap.size + 1 < w2.heap.size) := HT2.out.m.lt
        have h8 : Hid (l.length ≤ 8) := HT2.out.t.few
        clear hRt
        by_cases hK2 : K = 2
        · subst hK2
          by_cases hfull : l.length = 8
          · skip
            have hd : doS l 2 key v old = (l, 5, ⟨#[]⟩) := by rw [HD.out]; simp [hfull]
            refine (Do_eq w.heap.size l 2 key v old _ (HT2.out.al _).t _ _ _ hd).mono ?_
            rintro e w3 ⟨rfl, hT3, hO3⟩
            have HT3 : Hid (Tm w w3 w.heap.size (w.heap.size + 1) (l) l) := (HT2.out.al _).did hT3 hO3
            obtain ⟨hs3, ho3⟩ := did_op hO3 hgt.out
            obtain ⟨c0, c1, c2, c3⟩ := op_cells ho3
            have hgm3 : Hid (w.heap.size + 1 < w3.heap.size) := HT3.out.m.lt
            have HF3 : Hid (∀ q ∈ l, q.1.size ≤ 8) := by have := doS_keys HF.out (2) key v old; rw [hd] at this; exact this
            have hlen := fun o1 o2 => ((HT3.out.al o1).al o2).m.len 3
            clear hd hT3 hO3 HT2 ho3
            have HE : Hid (∀ o1 o2, Tm w ((w3.alloc o1).alloc o2) w.heap.size (w.heap.size + 1) (l) l) := fun _ _ => (HT3.out.al _).al _
            go_wp2_with first | (go_at_call 13; refine (Len_any w.heap.size _ _ (HE.out _ _).t).mono ?_; rintro e wq ⟨rfl, rfl⟩)
            refine ⟨⟨j + 1, _, hlt, by go_num, HE.out _ _, HF3.out⟩, by simp [intOf]; omega⟩
          · have hfl : ¬ (l.length : Int) = 8 := by omega
            have hd : doS l 2 key v old = (l.take (lb key l) ++ (key, v) :: l.drop (lb key l), 0, ⟨#[]⟩) := by rw [HD.out]; simp [hfull]
            refine (Do_eq w.heap.size l 2 key v old _ (HT2.out.al _).t _ _ _ hd).mono ?_
            rintro e w3 ⟨rfl, hT3, hO3⟩
            have HT3 : Hid (Tm w w3 w.heap.size (w.heap.size + 1) (l.take (lb key l) ++ (key, v) :: l.drop (lb key l)) l) := (HT2.out.al _).did hT3 hO3
            obtain ⟨hs3, ho3⟩ := did_op hO3 hgt.out
            obtain ⟨c0, c1, c2, c3⟩ := op_cells ho3
            have hgm3 : Hid (w.heap.size + 1 < w3.heap.size) := HT3.out.m.lt
            have HF3 : Hid (∀ q ∈ l.take (lb key l) ++ (key, v) :: l.drop (lb key l), q.1.size ≤ 8) := by have := doS_keys HF.out (2) key v old; rw [hd] at this; exact this
            have hlen := fun o1 o2 => ((HT3.out.al o1).al o2).m.len 3
            clear hd hT3 hO3 HT2 ho3
            go_wp2_with first | (at_mapUpdate; refine put_map rfl _ _ _ rfl rfl ((HT3.out.al _).al _).m (by have := h8.out; omega) key v rfl rfl hks.out hvs.out (l.take (lb key l) ++ (key, v) :: l.drop (lb key l)) (fun D hT hA => by rw [← List.take_append_drop (lb key l) l] at hA; exact hA.ins hT (fun q hq => HSN.out q (List.mem_of_mem_take hq)) (fun q hq => HSN.out q (List.mem_of_mem_drop hq))) ?_; intro w4 HM HO; obtain ⟨a1, a2, hs4⟩ := two_ans HO.out hgm3.out; obtain ⟨e1, e2⟩ := a1.cells; obtain ⟨e3, e4⟩ := a2.cells; have HE : Hid (Tm w w4 w.heap.size (w.heap.size + 1) (l.take (lb key l) ++ (key, v) :: l.drop (lb key l)) (l.take (lb key l) ++ (key, v) :: l.drop (lb key l))) := ((HT3.out.al _).al _).put HM.out HO.out; have hlen4 := HE.out.m.len 3; clear a1 a2 HM HO hlen) | (go_at_call 13; refine (Len_any w.heap.size _ _ HE.out.t).mono ?_; rintro e wq ⟨rfl, rfl⟩)
            refine ⟨⟨j + 1, _, hlt, by go_num, HE.out, HF3.out⟩, by simp [intOf]; omega⟩
        · skip
          have hd : doS l K key v old = (l, 4, ⟨#[]⟩) := by rw [HD.out]; simp [hK2]
          refine (Do_eq w.heap.size l K key v old _ (HT2.out.al _).t _ _ _ hd).mono ?_
          rintro e w3 ⟨rfl, hT3, hO3⟩
          have HT3 : Hid (Tm w w3 w.heap.size (w.heap.size + 1) (l) l) := (HT2.out.al _).did hT3 hO3
          obtain ⟨hs3, ho3⟩ := did_op hO3 hgt.out
          obtain ⟨c0, c1, c2, c3⟩ := op_cells ho3
          have hgm3 : Hid (w.heap.size + 1 < w3.heap.size) := HT3.out.m.lt
          have HF3 : Hid (∀ q ∈ l, q.1.size ≤ 8) := by have := doS_keys HF.out (K) key v old; rw [hd] at this; exact this
          have hlen := fun o1 o2 => ((HT3.out.al o1).al o2).m.len 3
          clear hd hT3 hO3 HT2 ho3
          have HE : Hid (∀ o1 o2, Tm w ((w3.alloc o1).alloc o2) w.heap.size (w.heap.size + 1) (l) l) := fun _ _ => (HT3.out.al _).al _
          go_wp2_with first | (go_at_call 13; refine (Len_any w.heap.size _ _ (HE.out _ _).t).mono ?_; rintro e wq ⟨rfl, rfl⟩)
          refine ⟨⟨j + 1, _, hlt, by go_num, HE.out _ _, HF3.out⟩, by simp [intOf]; omega⟩
    · clear hj
      obtain ⟨w1, hw1⟩ : ∃ w1 : World, w1 = wr := ⟨_, rfl⟩
      rw [← hw1] at HT ⊢
      clear hw1 hT
      go_wp2_with fail
      refine (Pairs_any w.heap.size l w1 HT.out.t).mono ?_
      rintro e w2 ⟨aop, capp, rfl, hown, hb⟩
      have HT2 : Hid (Tm w w2 w.heap.size (w.heap.size + 1) l l) := HT.out.below hb
      have HR : Hid (PrR w2 aop capp l) := hown.rd
      have h8 : l.length ≤ 8 := HT.out.t.few
      have HRise : Hid (Rise l) := HT.out.t.rise
      have hfits := HF
      clear HT hb hown H
      go_wp2_with fail
      go_loopw [109] (fun i wr => ∃ (k : Nat), k ≤ l.length ∧ i = .int .i64 k ∧ Below w2.heap.size w2 wr) (fun i _ => l.length - (intOf i).toNat)
      case atStart => exact ⟨0, Nat.zero_le _, rfl, Below.refl _ _⟩
      case round =>
        obtain ⟨k, hk, rfl, hbel⟩ := hrel
        have HTr : Hid (Tm w wr w.heap.size (w.heap.size + 1) l l) := HT2.out.below hbel
        by_cases hlt : k < l.length
        · obtain ⟨g, off, rfl, hg, hrd⟩ := (HR.out.below hbel).2.2 (by omega)
          obtain ⟨p1, p2⟩ := hrd k hlt
          obtain ⟨key, hkey⟩ : ∃ key, l[k].1 = key := ⟨_, rfl⟩
          obtain ⟨v, hv⟩ : ∃ v, l[k].2 = v := ⟨_, rfl⟩
          have hmem : (key, v) ∈ l := by rw [← hkey, ← hv]; exact List.getElem_mem hlt
          have huniq : ∀ y', (key, y') ∈ l → y' = v := fun y' hy' => uniq_of_rise HRise.out hy' hmem
          rw [hkey] at p1
          rw [hv] at p2
          have hm3 : (k : Int) < (l.length : Int) := by omega
          have hks : Hid (key.size ≤ maxLen) := by
            have := hfits.out _ hmem
            show _ ≤ _; unfold maxLen; simp only at this; omega
          by_cases hk0 : k = 0
          · subst hk0
            simp only [Nat.zero_mul, Nat.add_zero] at p1 p2
            go_wp2_with (at_lookup; refine look_there rfl _ _ rfl rfl (HTr.out.al _).m key rfl hks.out v hmem huniq ?_)
            have hbel2 : Hid (Below w2.heap.size w2 (wr.alloc (.cells #[.string key, .string v] 23))) := hbel.alloc hbel.size _
            clear hrd
            go_region
            all_goals
              go_wp2
              go_roundw
              case rel => exact ⟨1, by omega, by go_num, hbel2.out.drew⟩
              case measure => simp [intOf]; omega
          · obtain ⟨k', rfl⟩ : ∃ k', k = k' + 1 := ⟨k - 1, by omega⟩
            obtain ⟨r1, r2⟩ := hrd k' (by omega)
            obtain ⟨key', hkey'⟩ : ∃ key', l[k'].1 = key' := ⟨_, rfl⟩
            have hcmp : Op.bytesLess key'.toList key.toList = true := by rw [← hkey, ← hkey']; exact less_of (rise_lt HRise.out (by omega) hlt)
            rw [hkey'] at r1
            go_wp2_with (at_lookup; refine look_there rfl _ _ rfl rfl (HTr.out.al _).m key rfl hks.out v hmem huniq ?_)
            have hbel2 : Hid (Below w2.heap.size w2 (wr.alloc (.cells #[.string key, .string v] 23))) := hbel.alloc hbel.size _
            clear hrd
            go_region
            all_goals
              go_wp2
              go_roundw
              case rel => exact ⟨k' + 1 + 1, by omega, by go_num, hbel2.out.drew⟩
              case measure => simp [intOf]; omega
        · have HKN := known_any wr
          have hlen := fun (w' : World) (hb : Below wr.heap.size wr w') => (HTr.out.below hb).m.len 3
          have HB0 : Hid (Below w.heap.size w wr) := HTr.out.bel
          go_wp2_with (go_at_call 11; refine HKN.mono ?_; rintro e w5 ⟨rfl, hb5⟩; have hl5 := hlen w5 hb5; have HB5 : Hid (Below w.heap.size w w5) := bel_call HB0.out hb5; clear hlen hb5)
          go_ret
          exact ⟨by simp, HB5.out⟩
end Go.Proofs.Ytinobhaemmddjaa
