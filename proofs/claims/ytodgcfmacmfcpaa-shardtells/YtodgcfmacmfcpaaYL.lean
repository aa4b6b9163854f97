/- Shards: Right. -/
import Derived.Test.YtodgcfmacmfcpaaYK
import Derived.Test.YtodgcfmacmfcpaaYF
namespace Go.Proofs.Ytodgcfmacmfcpaa
open Go.RowKit

def notedB (a : Int) : Bool := decide (a = 0 ∨ a = 4 ∨ a = 5 ∨ a = 6)
def wrongB (x : Se) : Bool := decide (4611686018427387903 < x.sq) || (!notedB x.why || decide (16 < (x.val.size : Int)))
theorem isNoted_any (a : Int) (w : World) : Calls Try.prog 56 #[.int .i64 a] w fun e w' => e = .returned (.bool (notedB a)) ∧ w' = w := by
  obtain ⟨r, hr⟩ : ∃ r, notedB a = r := ⟨_, rfl⟩
  have HR : Hid (notedB a = r) := hr
  rw [hr]
  clear hr
  by_cases h0 : a = 0
  · have HV : Hid (r = true) := by show _ = _; rw [← HR.out]; simp [notedB, h0]
    go_enter Try.func56, Try.ntmps56
    go_wp2
    go_ret
    exact ⟨by rw [HV.out]; rfl, rfl⟩
  by_cases h4 : a = 4
  · have HV : Hid (r = true) := by show _ = _; rw [← HR.out]; simp [notedB, h4]
    clear h0
    subst h4
    go_enter Try.func56, Try.ntmps56
    go_wp2
    go_ret
    exact ⟨by rw [HV.out]; rfl, rfl⟩
  by_cases h5 : a = 5
  · have HV : Hid (r = true) := by show _ = _; rw [← HR.out]; simp [notedB, h5]
    clear h0 h4
    subst h5
    go_enter Try.func56, Try.ntmps56
    go_wp2
    go_ret
    exact ⟨by rw [HV.out]; rfl, rfl⟩
  by_cases h6 : a = 6
  · have HV : Hid (r = true) := by show _ = _; rw [← HR.out]; simp [notedB, h6]
    clear h0 h4 h5
    subst h6
    go_enter Try.func56, Try.ntmps56
    go_wp2
    go_ret
    exact ⟨by rw [HV.out]; rfl, rfl⟩
  have HV : Hid (r = false) := by show _ = _; rw [← HR.out]; simp [notedB, h0, h4, h5, h6]
  go_enter Try.func56, Try.ntmps56
  go_wp2
  go_ret
  exact ⟨by rw [HV.out]; rfl, rfl⟩
theorem isNoted_eq (a : Int) (b : Bool) (hb : notedB a = b) (w : World) : Calls Try.prog 56 #[.int .i64 a] w fun e w' => e = .returned (.bool b) ∧ w' = w := by subst hb; exact isNoted_any a w
set_option maxHeartbeats 2000000 in
theorem isWrong_any (a b c : Int) (v : ByteArray) (w : World) : Calls Try.prog 39 #[.agg #[.int .i64 a, .int .i64 b, .int .i64 c, .string v]] w fun e w' => e = .returned (.bool (wrongB ⟨a, b, c, v⟩)) ∧ Below w.heap.size w w' := by
  obtain ⟨r, hr⟩ : ∃ r, wrongB ⟨a, b, c, v⟩ = r := ⟨_, rfl⟩
  have HR : Hid (wrongB ⟨a, b, c, v⟩ = r) := hr
  rw [hr]
  have HB : Hid (Below w.heap.size w (w.alloc (.cells #[.int .i64 a, .int .i64 b, .int .i64 c, .string v] 31))) := bel_al w _
  clear hr
  by_cases h1 : 4611686018427387903 < b
  · have HV : Hid (r = true) := by show _ = _; rw [← HR.out]; simp [wrongB, h1]
    go_enter Try.func39, Try.ntmps39
    go_wp2
    go_ret
    exact ⟨by rw [HV.out]; rfl, HB.out⟩
  · cases h2 : notedB c with
    | false =>
      have HV : Hid (r = true) := by show _ = _; rw [← HR.out]; simp [wrongB, h2]
      go_enter Try.func39, Try.ntmps39
      go_wp2_with (go_at_call 56; refine (isNoted_eq _ _ h2 _).mono ?_; rintro e w' ⟨rfl, rfl⟩)
      go_ret
      exact ⟨by rw [HV.out]; rfl, HB.out⟩
    | true =>
      by_cases h3 : (16 : Int) < (v.size : Int)
      · have HV : Hid (r = true) := by show _ = _; rw [← HR.out]; simp only [wrongB]; rw [decide_eq_true h3]; simp
        go_enter Try.func39, Try.ntmps39
        go_wp2_with (go_at_call 56; refine (isNoted_eq _ _ h2 _).mono ?_; rintro e w' ⟨rfl, rfl⟩)
        go_ret
        exact ⟨by rw [HV.out]; rfl, HB.out⟩
      · have HV : Hid (r = false) := by show _ = _; rw [← HR.out]; simp only [wrongB]; rw [decide_eq_false h1, decide_eq_false h3, h2]; rfl
        have H3 : Hid (decide ((16 : Int) < (v.size : Int)) = false) := decide_eq_false h3
        go_enter Try.func39, Try.ntmps39
        go_wp2_with (go_at_call 56; refine (isNoted_eq _ _ h2 _).mono ?_; rintro e w' ⟨rfl, rfl⟩)
        go_ret
        exact ⟨by rw [HV.out, ← H3.out]; rfl, HB.out⟩
theorem isWrong_eq (a b c : Int) (v : ByteArray) (w : World) (r : Bool) (hr : wrongB ⟨a, b, c, v⟩ = r) : Calls Try.prog 39 #[.agg #[.int .i64 a, .int .i64 b, .int .i64 c, .string v]] w fun e w' => e = .returned (.bool r) ∧ Below w.heap.size w w' := by subst hr; exact isWrong_any a b c v w
set_option maxHeartbeats 2000000 in
theorem IndexW_any (ao : Option Addr) (cap : Nat) (S : List Se) (n : Nat) (w : World) (hn : S.length = n) (h : SeR w ao cap S) :
    Calls Try.prog 55 #[.slice ao n cap, .func (.func 39) #[] #[]] w fun e w' => (∃ i : Int, e = .returned (.int .i64 i) ∧ decide (0 ≤ i) = S.any wrongB) ∧ Below w.heap.size w w' := by
  have hn3 := h.len
  rw [hn] at hn3
  have HR : Hid (SeR w ao cap S ∧ S.length = n) := ⟨h, hn⟩
  clear h hn
  go_enter Try.func55, Try.ntmps55
  go_wp2_with fail
  go_loopw [8] (fun i wr => ∃ j : Nat, j ≤ n ∧ i = .int .i64 j ∧ Below w.heap.size w wr ∧ (S.take j).any wrongB = false) (fun i _ => n - (intOf i).toNat)
  case atStart => exact ⟨0, Nat.zero_le _, rfl, Below.refl _ _, rfl⟩
  case round =>
    obtain ⟨j, hj, rfl, hbel, htk⟩ := hrel
    have HB : Hid (Below w.heap.size w wr ∧ (S.take j).any wrongB = false) := ⟨hbel, htk⟩
    clear htk
    by_cases hlt : j < n
    · have hjl : j < S.length := by rw [HR.out.2]; exact hlt
      obtain ⟨x, hx⟩ : ∃ x, S[j]'hjl = x := ⟨_, rfl⟩
      obtain ⟨b, off, rfl, hb, hc⟩ := HR.out.1.at j hjl x hx
      obtain ⟨c0, c1, c2, c3⟩ := hc wr hbel
      have hji : (j : Int) < (n : Int) := by omega
      have HX : Hid (x ∈ S ∧ S.take (j + 1) = S.take j ++ [x]) := ⟨by rw [← hx]; exact List.getElem_mem hjl, by rw [List.take_succ_eq_append_getElem hjl, hx]⟩
      obtain ⟨x0, x1, x2, x3⟩ := x
      simp only at c0 c1 c2 c3
      clear hc hbel hx hjl
      cases hw : wrongB ⟨x0, x1, x2, x3⟩ with
      | true =>
        have HV : Hid (S.any wrongB = true) := List.any_eq_true.2 ⟨_, HX.out.1, hw⟩
        go_wp2_with (go_at_call 39; refine (isWrong_eq _ _ _ _ _ _ hw).mono ?_; rintro e w2 ⟨rfl, hb2⟩; have HB2 : Hid (Below w.heap.size w w2) := bel_call HB.out.1 hb2; clear hb2)
        go_ret
        exact ⟨⟨(j : Int), rfl, by rw [HV.out]; exact decide_eq_true (by omega)⟩, HB2.out⟩
      | false =>
        have HV : Hid ((S.take (j + 1)).any wrongB = false) := by show _ = _; rw [HX.out.2, List.any_append, HB.out.2]; simp [hw]
        go_wp2_with (go_at_call 39; refine (isWrong_eq _ _ _ _ _ _ hw).mono ?_; rintro e w2 ⟨rfl, hb2⟩; have HB2 : Hid (Below w.heap.size w w2) := bel_call HB.out.1 hb2; clear hb2)
        refine ⟨⟨j + 1, by omega, by go_num, HB2.out, HV.out⟩, by simp [intOf]; omega⟩
    · have HV : Hid (S.any wrongB = false) := by
        have h := HB.out.2
        rw [List.take_of_length_le (by rw [HR.out.2]; omega)] at h
        exact h
      go_wp2
      go_ret
      exact ⟨⟨-1, rfl, by rw [HV.out]; rfl⟩, HB.out.1⟩
theorem ContainsW_any (ao : Option Addr) (cap : Nat) (S : List Se) (n : Nat) (w : World) (hn : S.length = n) (h : SeR w ao cap S) (r : Bool) (hr : S.any wrongB = r) :
    Calls Try.prog 38 #[.slice ao n cap, .func (.func 39) #[] #[]] w fun e w' => e = .returned (.bool r) ∧ Below w.heap.size w w' := by
  subst hr
  have H : Hid (SeR w ao cap S ∧ S.length = n) := ⟨h, hn⟩
  clear h hn
  go_enter Try.func38, Try.ntmps38
  go_wp2_with (go_at_call 55; refine (IndexW_any _ _ S _ _ H.out.2 H.out.1).mono ?_; rintro e w2 ⟨⟨i, rfl, hi⟩, hb2⟩; have HI : Hid (decide (0 ≤ i) = S.any wrongB) := hi; have HB : Hid (Below w.heap.size w w2) := hb2; clear hi hb2)
  go_ret
  exact ⟨by rw [← HI.out]; rfl, HB.out⟩
theorem EqP_eq (ao : Option Addr) (cap : Nat) (T : List Pr) (ao' : Option Addr) (cap' : Nat) (T' : List Pr) (n n' : Nat) (w : World) (hn : T.length = n) (hn' : T'.length = n') (h : PrR w ao cap T) (h' : PrR w ao' cap' T') {r : Bool} (hr : decide (T = T') = r) :
    Calls Try.prog 53 #[.slice ao n cap, .slice ao' n' cap'] w fun e w' => e = .returned (.bool r) ∧ Below w.heap.size w w' := by subst hr; exact EqP_any ao cap T ao' cap' T' n n' w hn hn' h h'
theorem EqS_eq (ao : Option Addr) (cap : Nat) (T : List Se) (ao' : Option Addr) (cap' : Nat) (T' : List Se) (n n' : Nat) (w : World) (hn : T.length = n) (hn' : T'.length = n') (h : SeR w ao cap T) (h' : SeR w ao' cap' T') {r : Bool} (hr : decide (T = T') = r) :
    Calls Try.prog 54 #[.slice ao n cap, .slice ao' n' cap'] w fun e w' => e = .returned (.bool r) ∧ Below w.heap.size w w' := by subst hr; exact EqS_any ao cap T ao' cap' T' n n' w hn hn' h h'
/-- what an image must be to be right -/
def wholeB (T : List Pr) (S : List Se) : Bool := decide (putsS [] T = T) && decide (allS (notesS zeroS S) = S)
def rightI (id ep : Int) (T : List Pr) (S : List Se) : Bool := inS id 0 5 && (inS ep 1 1099511627776 && (wholeB T S && !(S.any wrongB)))
set_option maxRecDepth 20000 in
set_option maxHeartbeats 4000000 in
theorem isWhole_any (id ep : Int) (ao : Option Addr) (cap : Nat) (T : List Pr) (bo : Option Addr) (cap2 : Nat) (S : List Se) (n m : Nat) (w : World) (hn : T.length = n) (hm : S.length = m) (h : RdI w ao cap T bo cap2 S) :
    Calls Try.prog 37 #[.agg #[.int .i64 id, .int .i64 ep, .slice ao n cap, .slice bo m cap2]] w fun e w' => e = .returned (.bool (wholeB T S)) ∧ Below w.heap.size w w' := by
  obtain ⟨pb, hpb⟩ : ∃ b, decide (putsS [] T = T) = b := ⟨_, rfl⟩
  obtain ⟨sb, hsb⟩ : ∃ b, decide (allS (notesS zeroS S) = S) = b := ⟨_, rfl⟩
  have hw : wholeB T S = (pb && sb) := by unfold wholeB; rw [hpb, hsb]
  rw [hw]
  have HN : Hid (T.length = n ∧ S.length = m) := ⟨hn, hm⟩
  have HPB : Hid (decide (putsS [] T = T) = pb ∧ decide (allS (notesS zeroS S) = S) = sb) := ⟨hpb, hsb⟩
  have HI : Hid (∃ w1 : World, w.alloc (.cells #[.int .i64 id, .int .i64 ep, .slice ao n cap, .slice bo m cap2] 41) = w1 ∧ ImAt w1 w.heap.size id ep (.slice ao n cap) (.slice bo m cap2) ∧ Below w.heap.size w w1 ∧ RdI w1 ao cap T bo cap2 S) :=
    ⟨_, rfl, alloc_new w _, bel_al w _, h.below (bel_al w _)⟩
  clear h hn hm hpb hsb hw
  go_enter Try.func37, Try.ntmps37
  go_upto_region 1 with fail
  obtain ⟨w1, e1, I1, B1, R1⟩ := HI.out
  rw [e1]
  obtain ⟨q0, q1, q2, q3⟩ := I1.cells
  have HW : Hid (ImAt w1 w.heap.size id ep (.slice ao n cap) (.slice bo m cap2) ∧ Below w.heap.size w w1 ∧ RdI w1 ao cap T bo cap2 S) := ⟨I1, B1, R1⟩
  clear HI e1 I1 B1 R1
  go_wp2_with fail
  refine (ShOf_any ao n cap T bo m cap2 S id ep _ HN.out.1 HW.out.2.2.ps HN.out.2 HW.out.2.2.xs).mono ?_
  rintro e w2 ⟨C, rfl, hC, hb2⟩
  obtain ⟨hi, h35, h1⟩ := hC.rows
  have hn2 := alloc_new w2 zeroH
  unfold zeroH at hn2
  have HC : Hid (ShC C (putsS [] T) (notesS zeroS S) id ep ∧ Below w1.heap.size w1 w2) := ⟨hC, hb2⟩
  clear hC hb2 q0 q1 q2 q3
  have tokA : True := trivial
  go_wp2_with (have _t := tokA; refine wpList_store_row rfl 36 _ _ rfl w2.heap.size C rfl rfl 36 _ hn2 hi h35.out h1 ?_; obtain ⟨w3, hw3⟩ : ∃ w3, w3 = (w2.alloc zeroH).setRow w2.heap.size C := ⟨_, rfl⟩; have HN3 := store_newH HC.out.1 hw3; unfold zeroH at hw3; rw [← hw3]; clear hw3 hn2 tokA _t)
  have H3 : Hid (ShO w3 w2.heap.size 0 (putsS [] T) (notesS zeroS S) id ep ∧ Below w1.heap.size w1 w3) := ⟨HN3.1, bel_call HC.out.2 HN3.2.1⟩
  clear HN3 HC hi h35 h1
  obtain ⟨q0, q1, q2, q3⟩ := (HW.out.1.below H3.out.2).cells
  have hwlt : w.heap.size < w1.heap.size := HW.out.1.lt
  cases pb with
  | false =>
    have tokB : True := trivial
    first | (go_region_with (first
      | (have _t := tokB; go_at_call 32; refine (Pairs_w (w1 := w3) (by first | exact (Below.refl _ _).drew | assumption) H3.out.1.1).mono ?_; rintro e x2 ⟨pao, pcap, rfl, hO, hb, _⟩; obtain ⟨r0, r1, r2, r3⟩ := (HW.out.1.below (bel_call H3.out.2 hb)).cells; have HO : Hid (PrR x2 pao pcap (putsS [] T)) := hO.rd; have HB : Hid (Below w1.heap.size w1 x2) := bel_call H3.out.2 hb; clear tokB _t hO hb)
      | (go_at_call 53; refine (EqP_eq pao pcap (putsS [] T) ao cap T _ n _ rfl HN.out.1 HO.out (HW.out.2.2.ps.below HB.out) HPB.out.1).mono ?_; rintro e x3 ⟨rfl, hb3⟩; obtain ⟨s0, s1, s2, s3⟩ := (HW.out.1.below (bel_call HB.out hb3)).cells; have HB3 : Hid (Below w1.heap.size w1 x3) := bel_call HB.out hb3; clear hb3))) | fail
    all_goals
      go_wp2
      go_ret
      exact ⟨rfl, bel_call HW.out.2.1 HB3.out⟩
  | true =>
    have tokB : True := trivial
    have tokC : True := trivial
    first | (go_region_held3 (fun w' => w'.cell? ⟨w.heap.size, 2, none⟩ = some (.slice ao n cap) ∧ w'.cell? ⟨w.heap.size, 3, none⟩ = some (.slice bo m cap2)) (first | (refine ⟨?_, ?_⟩ <;> with_reducible assumption) | go_keep) (first
      | (have _t := tokB; go_at_call 32; refine (Pairs_w (w1 := w3) (by first | exact (Below.refl _ _).drew | assumption) H3.out.1.1).mono ?_; rintro e x2 ⟨pao, pcap, rfl, hO, hb, _⟩; obtain ⟨r0, r1, r2, r3⟩ := (HW.out.1.below (bel_call H3.out.2 hb)).cells; have HO : Hid (PrR x2 pao pcap (putsS [] T)) := hO.rd; have HB : Hid (Below w1.heap.size w1 x2) := bel_call H3.out.2 hb; have HBW : Hid (Below w3.heap.size w3 x2) := hb; clear tokB _t hO hb)
      | (go_at_call 53; refine (EqP_eq pao pcap (putsS [] T) ao cap T _ n _ rfl HN.out.1 HO.out (HW.out.2.2.ps.below HB.out) HPB.out.1).mono ?_; rintro e x3 ⟨rfl, hb3⟩; obtain ⟨s0, s1, s2, s3⟩ := (HW.out.1.below (bel_call HB.out hb3)).cells; have HB3 : Hid (Below w1.heap.size w1 x3) := bel_call HB.out hb3; have HB3' : Hid (Below w3.heap.size w3 x3) := bel_call HBW.out hb3; clear hb3)
      | (have _t := tokC; go_at_call 33; refine (All_w (w1 := w3) (by first | assumption | exact HB3'.out) H3.out.1.2.1).mono ?_; rintro e x4 ⟨sao, scap, rfl, hO, hb, _⟩; obtain ⟨u0, u1, u2, u3⟩ := (HW.out.1.below (bel_call H3.out.2 hb)).cells; have HSO : Hid (SeR x4 sao scap (allS (notesS zeroS S))) := hO.arK.mono fun _ _ _ => trivial; have HB4 : Hid (Below w1.heap.size w1 x4) := bel_call H3.out.2 hb; clear tokC _t hO hb)
      | (go_at_call 54; refine (EqS_eq sao scap (allS (notesS zeroS S)) bo cap2 S _ m _ rfl HN.out.2 HSO.out (HW.out.2.2.xs.below HB4.out) HPB.out.2).mono ?_; rintro e x5 ⟨rfl, hb5⟩; obtain ⟨v0, v1, v2, v3⟩ := (HW.out.1.below (bel_call HB4.out hb5)).cells; have HB5 : Hid (Below w1.heap.size w1 x5) := bel_call HB4.out hb5; clear hb5))) | fail
    all_goals
      go_wp2
      go_ret
      exact ⟨rfl, bel_call HW.out.2.1 HB5.out⟩
theorem isWhole_eq (id ep : Int) (ao : Option Addr) (cap : Nat) (T : List Pr) (bo : Option Addr) (cap2 : Nat) (S : List Se) (n m : Nat) (w : World) (hn : T.length = n) (hm : S.length = m) (h : RdI w ao cap T bo cap2 S) {r : Bool} (hr : wholeB T S = r) :
    Calls Try.prog 37 #[.agg #[.int .i64 id, .int .i64 ep, .slice ao n cap, .slice bo m cap2]] w fun e w' => e = .returned (.bool r) ∧ Below w.heap.size w w' := by subst hr; exact isWhole_any id ep ao cap T bo cap2 S n m w hn hm h
set_option maxRecDepth 20000 in
set_option maxHeartbeats 4000000 in
theorem Right8_any (id ep : Int) (ao : Option Addr) (cap : Nat) (T : List Pr) (bo : Option Addr) (cap2 : Nat) (S : List Se) (n m : Nat) (w : World) (hn : T.length = n) (hm : S.length = m) (h : RdI w ao cap T bo cap2 S) :
    Calls Try.prog 14 #[.agg #[.int .i64 id, .int .i64 ep, .slice ao n cap, .slice bo m cap2]] w fun e w' => e = .returned (.bool (rightI id ep T S)) ∧ Below w.heap.size w w' := by
  obtain ⟨r, hr⟩ : ∃ r, rightI id ep T S = r := ⟨_, rfl⟩
  have HR : Hid (rightI id ep T S = r) := hr
  rw [hr]
  have HN : Hid (T.length = n ∧ S.length = m) := ⟨hn, hm⟩
  have HI : Hid (∃ w1 : World, w.alloc (.cells #[.int .i64 id, .int .i64 ep, .slice ao n cap, .slice bo m cap2] 41) = w1 ∧ ImAt w1 w.heap.size id ep (.slice ao n cap) (.slice bo m cap2) ∧ Below w.heap.size w w1 ∧ RdI w1 ao cap T bo cap2 S) :=
    ⟨_, rfl, alloc_new w _, bel_al w _, h.below (bel_al w _)⟩
  clear h hn hm hr
  cases h1 : inS id 0 5 with
  | false =>
    have A1 := within_eq id 0 5 false h1
    have HV : Hid (r = false) := by show _ = _; rw [← HR.out]; unfold rightI; rw [h1]; rfl
    have HB : Hid (Below w.heap.size w (w.alloc (.cells #[.int .i64 id, .int .i64 ep, .slice ao n cap, .slice bo m cap2] 41))) := bel_al w _
    clear h1 HI
    go_enter Try.func14, Try.ntmps14
    go_wp2_with (go_at_call 36; refine (A1 _).mono ?_; rintro e w' ⟨rfl, rfl⟩)
    go_ret
    exact ⟨by rw [HV.out]; rfl, HB.out⟩
  | true =>
    have A1 := within_eq id 0 5 true h1
    cases h2 : inS ep 1 1099511627776 with
    | false =>
      have A2 := within_eq ep 1 1099511627776 false h2
      have HV : Hid (r = false) := by show _ = _; rw [← HR.out]; unfold rightI; rw [h1, h2]; rfl
      have HB : Hid (Below w.heap.size w (w.alloc (.cells #[.int .i64 id, .int .i64 ep, .slice ao n cap, .slice bo m cap2] 41))) := bel_al w _
      clear h1 h2 HI
      go_enter Try.func14, Try.ntmps14
      go_wp2_with (go_at_call 36; first | (have _t := A1; refine (A1 _).mono ?_; rintro e w' ⟨rfl, rfl⟩; clear A1 _t) | (refine (A2 _).mono ?_; rintro e w' ⟨rfl, rfl⟩))
      go_ret
      exact ⟨by rw [HV.out]; rfl, HB.out⟩
    | true =>
      have A2 := within_eq ep 1 1099511627776 true h2
      have hrr : rightI id ep T S = (wholeB T S && !(S.any wrongB)) := by unfold rightI; rw [h1, h2]; rfl
      have HRR : Hid (rightI id ep T S = (wholeB T S && !(S.any wrongB))) := hrr
      clear h1 h2 hrr
      cases h3 : wholeB T S with
      | false =>
        have HV : Hid (r = false) := by show _ = _; rw [← HR.out, HRR.out, h3]; rfl
        have H3 : Hid (wholeB T S = false) := h3
        clear h3
        go_enter Try.func14, Try.ntmps14
        go_upto_region 1 with fail
        obtain ⟨w1, e1, I1, B1, R1⟩ := HI.out
        rw [e1]
        obtain ⟨q0, q1, q2, q3⟩ := I1.cells
        have HW : Hid (ImAt w1 w.heap.size id ep (.slice ao n cap) (.slice bo m cap2) ∧ Below w.heap.size w w1 ∧ RdI w1 ao cap T bo cap2 S) := ⟨I1, B1, R1⟩
        clear HI e1 I1 B1 R1
        go_wp2_with (first | (go_at_call 36; first | (have _t := A1; refine (A1 _).mono ?_; rintro e w' ⟨rfl, rfl⟩; clear A1 _t) | (refine (A2 _).mono ?_; rintro e w' ⟨rfl, rfl⟩)) | (go_at_call 37; refine (isWhole_eq id ep ao cap T bo cap2 S n m _ HN.out.1 HN.out.2 HW.out.2.2 H3.out).mono ?_; rintro e w2 ⟨rfl, hb⟩; have HB : Hid (Below w.heap.size w w2) := bel_call HW.out.2.1 hb; clear hb))
        go_ret
        exact ⟨by rw [HV.out]; rfl, HB.out⟩
      | true =>
        have H3 : Hid (wholeB T S = true) := h3
        obtain ⟨an, han⟩ : ∃ an, S.any wrongB = an := ⟨_, rfl⟩
        have HV : Hid (r = !an) := by show _ = _; rw [← HR.out, HRR.out, h3, han]; rfl
        have HAN : Hid (S.any wrongB = an) := han
        clear h3 han
        go_enter Try.func14, Try.ntmps14
        go_upto_region 1 with fail
        obtain ⟨w1, e1, I1, B1, R1⟩ := HI.out
        rw [e1]
        obtain ⟨q0, q1, q2, q3⟩ := I1.cells
        have HW : Hid (ImAt w1 w.heap.size id ep (.slice ao n cap) (.slice bo m cap2) ∧ Below w.heap.size w w1 ∧ RdI w1 ao cap T bo cap2 S) := ⟨I1, B1, R1⟩
        clear HI e1 I1 B1 R1
        go_wp2_with (first | (go_at_call 36; first | (have _t := A1; refine (A1 _).mono ?_; rintro e w' ⟨rfl, rfl⟩; clear A1 _t) | (refine (A2 _).mono ?_; rintro e w' ⟨rfl, rfl⟩)) | (go_at_call 37; go_loud (refine (isWhole_eq id ep ao cap T bo cap2 S n m _ HN.out.1 HN.out.2 HW.out.2.2 H3.out).mono ?_; rintro e w2 ⟨rfl, hb⟩; have HB : Hid (Below _ _ w2) := hb; clear q0 q1 q2 q3; obtain ⟨q0, q1, q2, q3⟩ := (HW.out.1.below hb).cells; clear hb)) | (go_at_call 38; go_loud (refine (ContainsW_any bo cap2 S m _ HN.out.2 (HW.out.2.2.xs.below HB.out) an HAN.out).mono ?_; rintro e w3 ⟨rfl, hb⟩; have HB3 : Hid (Below w.heap.size w w3) := bel_call HW.out.2.1 (bel_call HB.out hb); clear hb)))
        go_ret
        exact ⟨by rw [HV.out]; rfl, HB3.out⟩
theorem Right8_eq (id ep : Int) (ao : Option Addr) (cap : Nat) (T : List Pr) (bo : Option Addr) (cap2 : Nat) (S : List Se) (n m : Nat) (w : World) (hn : T.length = n) (hm : S.length = m) (h : RdI w ao cap T bo cap2 S) {r : Bool} (hr : rightI id ep T S = r) :
    Calls Try.prog 14 #[.agg #[.int .i64 id, .int .i64 ep, .slice ao n cap, .slice bo m cap2]] w fun e w' => e = .returned (.bool r) ∧ Below w.heap.size w w' := by subst hr; exact Right8_any id ep ao cap T bo cap2 S n m w hn hm h
end Go.Proofs.Ytodgcfmacmfcpaa
