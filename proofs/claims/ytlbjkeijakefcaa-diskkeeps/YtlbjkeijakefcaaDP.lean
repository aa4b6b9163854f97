/- DiskKeeps: the walk -/
import Derived.Test.YtlbjkeijakefcaaDK
import Derived.Deep.DeepCutAuto
import Derived.Deep.CutBlock
namespace Go.Proofs.Ytlbjkeijakefcaa
open Go.RowKit

theorem str_append (a b : List UInt8) : str a ++ str b = str (a ++ b) := by
  apply ByteArray.ext
  simp [str]
theorem str_take (a : List UInt8) (k : Nat) : (str a).extract 0 k = str (a.take k) := by
  apply ByteArray.ext
  simp [str]
/-- one part that is told in a list of its own -/
theorem box_one (A : Nat → Prop) (W : World) (ao : Option Addr) (cap : Nat) (l : List UInt8) (h : RdP A W ao l.length cap (Bs l)) (hA : A W.heap.size) :
    RdLLP A (W.alloc (.cells #[.slice ao l.length cap] 26)) (some ⟨W.heap.size, 0, none⟩) 1 1 [l] :=
  RdLLP.of A W [.slice ao l.length cap] [l] _ rfl (RdLP.cons h (RdLP.nil _ _)) (by simp) hA
theorem someS_cat (ls : List (List UInt8)) : (cat (someS ls)).length ≤ 360 := by
  have key : ∀ (n : Nat) (rs : List (List UInt8)), rs.length ≤ n → (∀ r ∈ rs, r.length ≤ 60) → (cat rs).length ≤ 60 * n := by
    intro n
    induction n with
    | zero => intro rs h _; obtain rfl : rs = [] := List.eq_nil_of_length_eq_zero (by omega); simp [cat]
    | succ n ih =>
      intro rs h1 h2
      cases rs with
      | nil => simp [cat]
      | cons r rs =>
        have g1 := ih rs (by simpa using h1) fun x hx => h2 x (List.mem_cons_of_mem _ hx)
        have g2 := h2 r List.mem_cons_self
        simp only [cat, List.flatten_cons, List.length_append] at g1 ⊢
        omega
  exact key 6 _ (someS_len ls) (someS_le ls)
theorem someS_cat_take (ls : List (List UInt8)) (k : Nat) : (cat ((someS ls).take k)).length ≤ 360 := Nat.le_trans (cat_le _ k) (someS_cat ls)

set_option maxRecDepth 100000 in
set_option maxHeartbeats 4000000 in
theorem diskKeeps_walk (ao : Option Addr) (n cap : Nat) (l : List (List UInt8)) (ao2 : Option Addr) (n2 cap2 : Nat) (l2 : List (List UInt8)) (ao3 : Option Addr) (n3 cap3 : Nat) (ks : List Int) (w : World)
    (h : RdLL w.heap.size w ao n cap l) (h2 : RdLL w.heap.size w ao2 n2 cap2 l2) (h3 : Rd w.heap.size w ao3 n3 cap3 (Is ks)) :
    Calls Try.prog 5 #[.slice ao n cap, .slice ao2 n2 cap2, .slice ao3 n3 cap3] w fun e w' => e = .returned (.bool true) ∧ Below w.heap.size w w' := by
  have hn3 : ks.length = n3 := by rw [← Is_length]; exact h3.1
  subst hn3
  have hk63 : ks.length ≤ maxLen := Nat.le_trans h3.2.1 h3.2.2.1
  unfold maxLen at hk63
  obtain ⟨R, hR⟩ : ∃ R, someS l = R := ⟨_, rfl⟩
  have HS : Hid (someS l = R) := hR
  have hR6 : R.length ≤ 6 := by rw [← hR]; exact someS_len l
  have HRC : Hid (∀ k, (cat (R.take k)).length ≤ 360) := by intro k; rw [← hR]; exact someS_cat_take l k
  obtain ⟨T, hT⟩ : ∃ T, someS l2 = T := ⟨_, rfl⟩
  have HT : Hid (someS l2 = T) := hT
  have hT6 : T.length ≤ 6 := by rw [← hT]; exact someS_len l2
  have HTC : Hid (∀ k, (cat (T.take k)).length ≤ 360) := by intro k; rw [← hT]; exact someS_cat_take l2 k
  have HH : Hid (RdLL w.heap.size w ao n cap l) := h
  have HH2 : Hid (RdLL w.heap.size w ao2 n2 cap2 l2) := h2
  have HH3 : Hid (Rd w.heap.size w ao3 ks.length cap3 (Is ks)) := h3
  clear hR hT h h2 h3
  go_enter Try.func5, Try.ntmps5
  go_wp2_with fail
  refine (New_any w).mono ?_
  rintro e w1 ⟨rfl, hw1⟩
  have hD1 : DK (fun i => w.heap.size ≤ i) w1 w.heap.size [] 0 := by rw [hw1]; exact DK.made w
  have hB1 : Below w.heap.size w w1 := by rw [hw1]; exact (Below.refl _ _).alloc (Nat.le_refl _) _
  clear hw1
  go_wp2_with fail
  refine (known_any w1).mono ?_
  rintro e w2 ⟨rfl, hb2⟩
  have hD2 := hD1.below hb2
  have hB2 := bel_call hB1 hb2
  clear hD1 hB1 hb2
  go_wp2_with fail
  refine (some_any _ _ _ l w2 ((HH.out.later hB2).mono hB2.size) HS.out).mono ?_
  rintro e w3 ⟨ao4, cp4, rfl, hown3, hb3⟩
  have hD3 := hD2.shrink hb3
  have hB3 := bel_call hB2 hb3
  have hP3 : RdLLP (fun i => w2.heap.size ≤ i ∧ i < w3.heap.size) w3 ao4 R.length cp4 R := hown3.rdP fun i h1 h2 => ⟨h1, h2⟩
  have HP : Hid (RdLLP (fun i => w2.heap.size ≤ i ∧ i < w3.heap.size) w3 ao4 R.length cp4 R) := hP3
  have hB23 := hB2.size
  clear hown3 hD2 hB2 hb3 hP3
  go_wp2
  go_loopw [8, 27] (fun v i wr => ∃ k : Nat, k ≤ R.length ∧ i = .int .i64 k ∧ v = .string (str (cat (R.take k))) ∧ DK (fun i => w.heap.size ≤ i ∧ ¬ (w2.heap.size ≤ i ∧ i < w3.heap.size)) wr w.heap.size (cat (R.take k)) 0 ∧ Only (fun i => w.heap.size ≤ i ∧ ¬ (w2.heap.size ≤ i ∧ i < w3.heap.size)) w3 wr) (fun _ i _ => R.length - (intOf i).toNat)
  case atStart => exact ⟨0, Nat.zero_le _, rfl, rfl, hD3, Only.refl _ _⟩
  case round =>
    obtain ⟨k, hk, rfl, rfl, hD, hO⟩ := hrel
    have hl1 := HRC.out k
    by_cases hlt : k < R.length
    · have hP := HP.out.only hO (fun i hi hn => hn.2 hi)
      obtain ⟨b, off, rfl, hbB, hA, hcells⟩ := hP.at (by omega)
      obtain ⟨r, hr⟩ : ∃ r, R[k]? = some r := ⟨R[k], List.getElem?_eq_getElem _⟩
      obtain ⟨aor, cpr, hcr, hRr⟩ := hcells k r hr
      have HS2 : Hid (cat (R.take (k + 1)) = cat (R.take k) ++ r) := cat_step hr
      have hl2 := HRC.out (k + 1)
      rw [HS2.out, List.length_append] at hl2
      have HF : Hid (fitsB (cat (R.take k)) [r] = true) := decide_eq_true (by rw [cat_one]; omega)
      have HBX : Hid (RdLLP (fun i => wr.heap.size ≤ i ∨ ¬ (w.heap.size ≤ i ∧ ¬ (w2.heap.size ≤ i ∧ i < w3.heap.size))) (wr.alloc (.cells #[.slice aor r.length cpr] 26)) (some ⟨wr.heap.size, 0, none⟩) 1 1 [r]) :=
        box_one _ wr aor cpr r (hRr.mono fun i _ hi => .inr fun hn => hn.2 hi) (.inl (Nat.le_refl _))
      have HRr : Hid (RdP (fun i => w2.heap.size ≤ i ∧ i < w3.heap.size) wr aor r.length cpr (Bs r)) := hRr
      have HSA : Hid (str (cat (R.take k)) ++ str r = str (cat (R.take (k + 1)))) := by show _ = _; rw [str_append, HS2.out]
      have hsz1 : (str (cat (R.take k))).size ≤ 360 := by rw [rd_str]; exact hl1
      have hsz2 : (str r).size ≤ 360 := by rw [rd_str]; omega
      have HN : Hid ((if true = true then cat (R.take k) ++ cat [r] else cat (R.take k)) = cat (R.take (k + 1))) := by show _ = _; rw [if_pos rfl, cat_one, HS2.out]
      generalize hQ : str (cat (R.take k)) = Q at *
      generalize hU : cat (R.take k) = U at *
      clear hcells hr hRr hP hl1 hl2
      go_wp2_with fail
      refine (Append_dk hD ((Below.refl _ _).alloc (Nat.le_refl _) _) HBX.out HF.out HN.out).mono ?_
      rintro e w5 ⟨rfl, hD5, hO5⟩
      have hO5' := hO.trans hO5
      have hst := run_str _ _ _ _ _ (HRr.out.only hO5 (fun i hi hn => hn.2 hi)).1
      clear hO5 hD hcr
      go_wp2
      go_roundw
      case rel => exact ⟨k + 1, by omega, by go_num, by rw [HSA.out], hD5, hO5'⟩
      case measure => simp [intOf]; omega
    · have HTK : Hid (R.take k = R) := List.take_of_length_le (by omega)
      rw [HTK.out] at hD hl1 ⊢
      have hD4 := hD.mono (N' := fun i => w.heap.size ≤ i) fun i hi => hi.1
      have hB4 : Below w.heap.size w wr := hB3.trans (hO.below (fun i hi => hi.1) hB3.size)
      obtain ⟨w4, rfl⟩ : ∃ w4 : World, w4 = wr := ⟨_, rfl⟩
      obtain ⟨C0, hC0⟩ : ∃ C0, cat R = C0 := ⟨_, rfl⟩
      rw [hC0] at hD4 hl1 ⊢
      clear hD hO hD3 hB3 HP hC0 HTK
      go_wp2_with fail
      refine (Sync_dk hD4).mono ?_
      rintro e w5 ⟨rfl, hD5, hO5⟩
      have hB5 := hB4.trans (hO5.below (fun i hi => hi) hB4.size)
      clear hD4 hO5 hB4
      go_wp2
      go_loopw [8, 44] (fun v i wr => ∃ (k : Nat) (C : List UInt8), k ≤ ks.length ∧ i = .int .i64 k ∧ v = .string (str C) ∧ C.length ≤ 30000 ∧ DK (fun i => w.heap.size ≤ i) wr w.heap.size C C.length ∧ Below w.heap.size w wr) (fun _ i _ => ks.length - (intOf i).toNat)
      case atStart => exact ⟨0, C0, Nat.zero_le _, rfl, rfl, by omega, hD5, hB5⟩
      case round =>
        clear hD5 hB5 hl1
        obtain ⟨j, C, hj, rfl, rfl, hC, hD6, hB6⟩ := hrel
        by_cases hjl : j < ks.length
        · obtain ⟨b3, o3, rfl, hb3, hc3⟩ := HH3.out.atSome (by omega)
          obtain ⟨x, hx⟩ : ∃ x, ks[j]? = some x := ⟨ks[j], List.getElem?_eq_getElem _⟩
          have hcx : wr.cell? ⟨b3, o3 + j, none⟩ = some (.int .i64 x) := (hB6.cell (p := ⟨b3, o3 + j, none⟩) hb3).trans (hc3 j _ (by simp [Is, hx]))
          clear hc3 hx
          go_wp2_with fail
          refine (some_any _ _ _ l2 wr ((HH2.out.later hB6).mono hB6.size) HT.out).mono ?_
          rintro e w7 ⟨ao7, cp7, rfl, hown7, hb7⟩
          have hD7 := hD6.shrink hb7
          have hB7 := bel_call hB6 hb7
          have HP7 : Hid (RdLLP (fun i => wr.heap.size ≤ i ∧ i < w7.heap.size) w7 ao7 T.length cp7 T) := hown7.rdP fun i h1 h2 => ⟨h1, h2⟩
          obtain ⟨w6, rfl⟩ : ∃ w6 : World, w6 = wr := ⟨_, rfl⟩
          clear hown7 hD6 hb7 hcx
          have hsz6 := hB6.size
          clear hB6
          go_wp2
          go_loopw [13, 51] (fun v i wr => ∃ k : Nat, k ≤ T.length ∧ i = .int .i64 k ∧ v = .string (str (cat (T.take k))) ∧ DK (fun i => w.heap.size ≤ i ∧ ¬ (w6.heap.size ≤ i ∧ i < w7.heap.size)) wr w.heap.size (C ++ cat (T.take k)) C.length ∧ Only (fun i => w.heap.size ≤ i ∧ ¬ (w6.heap.size ≤ i ∧ i < w7.heap.size)) w7 wr) (fun _ i _ => T.length - (intOf i).toNat)
          case atStart => exact ⟨0, Nat.zero_le _, rfl, rfl, by rw [cat_zero, List.append_nil]; exact hD7, Only.refl _ _⟩
          case round =>
            clear hD7
            obtain ⟨k, hk, rfl, rfl, hD, hO⟩ := hrel
            have hl1 := HTC.out k
            by_cases hlt : k < T.length
            · have hP := HP7.out.only hO (fun i hi hn => hn.2 hi)
              obtain ⟨b, off, rfl, hbB, hA, hcells⟩ := hP.at (by omega)
              obtain ⟨r, hr⟩ : ∃ r, T[k]? = some r := ⟨T[k], List.getElem?_eq_getElem _⟩
              obtain ⟨aor, cpr, hcr, hRr⟩ := hcells k r hr
              have HS2 : Hid (cat (T.take (k + 1)) = cat (T.take k) ++ r) := cat_step hr
              have hl2 := HTC.out (k + 1)
              rw [HS2.out, List.length_append] at hl2
              have HF : Hid (fitsB (C ++ cat (T.take k)) [r] = true) := decide_eq_true (by rw [cat_one, List.length_append]; omega)
              have HBX : Hid (RdLLP (fun i => wr.heap.size ≤ i ∨ ¬ (w.heap.size ≤ i ∧ ¬ (w6.heap.size ≤ i ∧ i < w7.heap.size))) (wr.alloc (.cells #[.slice aor r.length cpr] 26)) (some ⟨wr.heap.size, 0, none⟩) 1 1 [r]) :=
                box_one _ wr aor cpr r (hRr.mono fun i _ hi => .inr fun hn => hn.2 hi) (.inl (Nat.le_refl _))
              have HRr : Hid (RdP (fun i => w6.heap.size ≤ i ∧ i < w7.heap.size) wr aor r.length cpr (Bs r)) := hRr
              have HSA : Hid (str (cat (T.take k)) ++ str r = str (cat (T.take (k + 1)))) := by show _ = _; rw [str_append, HS2.out]
              have hsz1 : (str (cat (T.take k))).size ≤ 360 := by rw [rd_str]; exact hl1
              have hsz2 : (str r).size ≤ 360 := by rw [rd_str]; omega
              have HN : Hid ((if true = true then C ++ cat (T.take k) ++ cat [r] else C ++ cat (T.take k)) = C ++ cat (T.take (k + 1))) := by show _ = _; rw [if_pos rfl, cat_one, HS2.out, List.append_assoc]
              generalize hQ : str (cat (T.take k)) = Q at *
              generalize hU : C ++ cat (T.take k) = U at *
              clear hcells hr hRr hP hl1 hl2
              go_wp2_with fail
              refine (Append_dk hD ((Below.refl _ _).alloc (Nat.le_refl _) _) HBX.out HF.out HN.out).mono ?_
              rintro e w8 ⟨rfl, hD8, hO8⟩
              have hO8' := hO.trans hO8
              have hst := run_str _ _ _ _ _ (HRr.out.only hO8 (fun i hi hn => hn.2 hi)).1
              clear hO8 hD hcr
              go_wp2
              go_roundw
              case rel => exact ⟨k + 1, by omega, by go_num, by rw [HSA.out], hD8, hO8'⟩
              case measure => simp [intOf]; omega
            · have HTK : Hid (T.take k = T) := List.take_of_length_le (by omega)
              rw [HTK.out] at hD hl1 ⊢
              have hD8 := hD.mono (N' := fun i => w.heap.size ≤ i) fun i hi => hi.1
              have hB8 : Below w.heap.size w wr := hB7.trans (hO.below (fun i hi => hi.1) hB7.size)
              obtain ⟨w8, rfl⟩ : ∃ w8 : World, w8 = wr := ⟨_, rfl⟩
              obtain ⟨E, hE⟩ : ∃ E, cat T = E := ⟨_, rfl⟩
              rw [hE] at hD8 hl1 ⊢
              have e1 : (str C).size = C.length := rd_str
              have e2 : (str E).size = E.length := rd_str
              have e3 : (C ++ E).length = C.length + E.length := List.length_append
              clear hD hO HP7 hE HTK hB7
              go_wp2_with fail
              refine (Size_dk hD8).mono ?_
              rintro e wq ⟨rfl, hwq⟩
              subst wq
              go_wp2_with fail
              refine (Synced_dk hD8).mono ?_
              rintro e wq ⟨rfl, hwq⟩
              subst wq
              obtain ⟨P, hP⟩ : ∃ P, pick x ((E.length : Int) + 9) = P := ⟨_, rfl⟩
              have p1 : 0 ≤ P := by rw [← hP]; exact pick_lo _ _ (by omega)
              have p2 : P < (E.length : Int) + 9 := by rw [← hP]; exact pick_hi _ _ (by omega)
              have HPK : Hid (pick x ((E.length : Int) + 9) = P) := hP
              obtain ⟨q, hq⟩ : ∃ q, kept (P - 3) E.length = q := ⟨_, rfl⟩
              have HQ : Hid (kept (P - 3) E.length = q) := hq
              have hqE : q ≤ E.length := by rw [← hq]; exact kept_le _ _
              clear hP hq
              go_upto_region 24 with fail
              go_cut [16] (fun v wx => v = .int .i64 (q : Int) ∧ wx = w8)
              case first =>
                go_wp2_with (go_at_call 16; refine (Pick_eq _ _ _ (by omega) (by omega) HPK.out).mono ?_; rintro e wq ⟨rfl, hwq⟩; subst wq)
                all_goals
                  go_meet
                  case rel => exact ⟨by rw [← HQ.out]; unfold kept; go_num, rfl⟩
              case rest =>
                obtain ⟨rfl, hwc⟩ := hcut
                subst wc
                have HQ2 : Hid (kept (P - 3) ((C ++ E).length - C.length) = q) := by show _ = _; rw [List.length_append, Nat.add_sub_cancel_left]; exact HQ.out
                have HL2 : Hid ((C ++ E).take (C.length + q) = C ++ E.take q) := by show _ = _; rw [List.take_append, List.take_of_length_le (by omega), Nat.add_sub_cancel_left]
                have HSX : Hid (str C ++ (str E).extract 0 q = str (C ++ E.take q)) := by show _ = _; rw [str_take, str_append]
                have hsx : ((str E).extract 0 q).size ≤ 360 := by rw [str_take, rd_str, List.length_take]; omega
                have HLN : Hid ((C ++ E.take q).length = C.length + q) := by show _ = _; rw [List.length_append, List.length_take]; omega
                clear HQ e3
                go_wp2_with (go_at_call 16; refine (Pick_eq _ _ _ (by omega) (by omega) HPK.out).mono ?_; rintro e wq ⟨rfl, hwq⟩; subst wq)
                refine (Crash_dk hD8 (P - 3) HQ2.out HL2.out HLN.out.symm).mono ?_
                rintro e w9 ⟨rfl, hD9, hO9⟩
                have hB9 := hB8.trans (hO9.below (fun i hi => hi) hB8.size)
                clear hD8 hB8 hO9
                go_wp2_with fail
                rw [HSX.out]
                refine (Bytes_dk hD9).mono ?_
                rintro e w10 ⟨ao10, cp10, rfl, hown10, hb10⟩
                have hD10 := hD9.below hb10
                have hB10 := bel_call hB9 hb10
                have hst := run_str _ _ _ _ _ (ownsRow.rd hown10)
                have hF1 : (str (C ++ E.take q)).size = (C ++ E.take q).length := rd_str
                have hF2 : (C ++ E.take q).length ≤ 30360 := by rw [HLN.out]; omega
                clear hD9 hB9 hb10 hown10
                generalize C ++ E.take q = F at *
                go_wp2_with fail
                refine (Synced_dk hD10).mono ?_
                rintro e wq ⟨rfl, hwq⟩
                subst wq
                go_wp2
                · go_ret
                  exact ⟨rfl, hB10⟩
                · go_roundw
                  case rel => exact ⟨j + 1, F, by omega, by go_num, rfl, by omega, hD10, hB10⟩
                  case measure => simp [intOf]; omega
        · go_wp2
          go_ret
          exact ⟨rfl, hB6⟩
end Go.Proofs.Ytlbjkeijakefcaa
