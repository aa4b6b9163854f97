/- TableTells: the walk. -/
import Derived.Test.YtinobhaemmddjaaRI
import Derived.Test.YtinobhaemmddjaaRH
import Derived.Test.YtinobhaemmddjaaTK
import Derived.Deep.RegionHeld3
namespace Go.Proofs.Ytinobhaemmddjaa
open Go.RowKit

theorem OwnPr.setK {B : Nat} {w : World} {ao : Option Addr} {cap : Nat} {l : List Pr} (h : OwnPr B w ao cap l) {p : Nat} (hp : p < l.length) : ∃ b, ao = some ⟨b, 0, none⟩ ∧ B ≤ b ∧ b < w.heap.size ∧ (∃ u, w.cell? ⟨b, p * 2, none⟩ = some u) ∧ w.frozen? ⟨b, p * 2, none⟩ = false ∧
    ∀ v, OwnPr B (w.setCell ⟨b, p * 2, none⟩ (.string v)) ao cap (l.modify p fun q => (v, q.2)) := by
  obtain ⟨b, cur, rfl, h1, h2, h3, h4⟩ := h.row (by omega)
  have h' : w.ownsRow B 23 2 (.slice (some ⟨b, 0, none⟩) l.length cap) l.length (flat l) := h
  refine ⟨b, rfl, h1, h2, ⟨.string l[p].1, ?_⟩, h'.frozenAt _, fun v => ?_⟩
  · rw [h'.cellAt _ (by omega), Nat.mul_comm, flat_key _ _ hp]
  · have := (h'.stored (p * 2) (.string v)).1
    rw [Nat.mul_comm p 2, flat_set_key] at this
    show World.ownsRow _ _ _ _ _ _ _
    rw [List.length_modify, Nat.mul_comm p 2]
    exact this
/-- the two tables and the operation, between two steps of the law -/
structure TellsI (w0 w : World) (gt gr ob : Nat) (M : List Pr) (k : Int) (key v old : ByteArray) : Prop where
  tab : TabAt w gt M
  ref : RefT gt w gr M
  op : w.heap[ob]? = some (opO k key v old)
  bel : Below w0.heap.size w0 w
  g1 : w0.heap.size ≤ gt
  g2 : gt < gr
  g3 : gr < ob
/-- the first one has done the operation, the second one not yet -/
structure TellsI2 (w0 w : World) (gt gr ob : Nat) (l' M : List Pr) (k : Int) (key v old : ByteArray) : Prop where
  tab : TabAt w gt l'
  ref : RefT gt w gr M
  op : w.heap[ob]? = some (opO k key v old)
  bel : Below w0.heap.size w0 w
  g1 : w0.heap.size ≤ gt
  g2 : gt < gr
  g3 : gr < ob
  lt : gt < w.heap.size
  rise : Rise M
  few : M.length ≤ 8
section
variable {w0 w w' : World} {gt gr ob : Nat} {M l' : List Pr} {k : Int} {key v old : ByteArray}
theorem TellsI.below (h : TellsI w0 w gt gr ob M k key v old) (hb : Below w.heap.size w w') : TellsI w0 w' gt gr ob M k key v old :=
  ⟨h.tab.below hb, h.ref.below hb, (hb.block ob (Array.getElem?_eq_some_iff.1 h.op).1).trans h.op, bel_call h.bel hb, h.g1, h.g2, h.g3⟩
theorem TellsI.drew (h : TellsI w0 w gt gr ob M k key v old) : TellsI w0 w.drew gt gr ob M k key v old := h.below (Below.refl _ _).drew
theorem TellsI.did (h : TellsI w0 w gt gr ob M k key v old) (hT : TabAt w' gt l') (hO : Only (fun i => i = gt) w w') : TellsI2 w0 w' gt gr ob l' M k key v old :=
  ⟨hT, h.ref.apart hO (by have := h.g2; omega), (hO.block ob (Array.getElem?_eq_some_iff.1 h.op).1 (by have := h.g2; have := h.g3; omega)).trans h.op, h.bel.trans (hO.below (fun i e => by have := h.g1; omega) h.bel.size), h.g1, h.g2, h.g3, hT.lt, h.tab.rise, h.tab.few⟩
theorem TellsI2.did (h : TellsI2 w0 w gt gr ob l' M k key v old) (hT : RefT gt w' gr l') (hO : Only (fun i => i = gr) w w') : TellsI w0 w' gt gr ob l' k key v old :=
  ⟨h.tab.heap (hO.block gt h.lt (by have := h.g2; omega)), hT, (hO.block ob (Array.getElem?_eq_some_iff.1 h.op).1 (by have := h.g3; omega)).trans h.op, h.bel.trans (hO.below (fun i e => by have := h.g1; have := h.g2; omega) h.bel.size), h.g1, h.g2, h.g3⟩
theorem RefC.rd {N g : Nat} {l : List Pr} {ao : Option Addr} {cap : Nat} (h : RefC N w g l ao cap) : PrR w ao cap l := h.2.2.rd
end
theorem run_opOf (c s k : Int) (key v old : ByteArray) (w : World) : (Instr.field 50 (.agg #[.int .i64 c, .int .i64 s, .int .i64 k, .string key, .string v, .string old]) 2).run Try.prog w = .ok (.agg #[.int .i64 k, .string key, .string v, .string old]) w := by kernel_rfl
set_option maxRecDepth 20000 in
set_option maxHeartbeats 40000000 in
theorem TableTells_any (ao0 : Option Addr) (n0 c0 : Nat) (l0 : List RawO) (ao1 : Option Addr) (n1 c1 : Nat) (l1 : List Int) (w : World)
    (h0 : RdG 8 RawO.Q w.heap.size w ao0 n0 c0 l0) (h1 : Rd w.heap.size w ao1 n1 c1 (Is l1)) (hn1 : n1 ≤ 1048576) :
    Calls Try.prog 4 #[.slice ao0 n0 c0, .slice ao1 n1 c1] w fun e w' => e = .returned (.bool true) ∧ Below w.heap.size w w' := by
  have hl1 : l1.length = n1 := by have := h1.1; simpa [Is] using this
  subst hl1
  have H0 : Hid (RdG 8 RawO.Q w.heap.size w ao0 n0 c0 l0) := h0
  have H1 : Hid (Rd w.heap.size w ao1 l1.length c1 (Is l1)) := h1
  clear h0 h1
  go_enter Try.func4, Try.ntmps4
  go_wp2_with fail
  go_loopw [5, 15] (fun v i wr => ∃ (j : Nat) (ao : Option Addr) (cap : Nat) (P : List Pr), j ≤ l1.length ∧ P.length = j ∧ i = .int .i64 j ∧ v = .slice ao j cap ∧ OwnPr w.heap.size wr ao cap P ∧ Below w.heap.size w wr) (fun _ i _ => l1.length - (intOf i).toNat)
  case atStart => exact ⟨0, none, 0, [], Nat.zero_le _, rfl, rfl, rfl, OwnPr.nil _ _, Below.refl _ _⟩
  case round =>
    obtain ⟨j, ao, cap, P, hj, hP, rfl, rfl, hown, hbel⟩ := hrel
    by_cases hlt : j < l1.length
    · obtain ⟨b, off, rfl, hb, hc⟩ := H1.out.atSome (by omega)
      have hx : (Is l1)[j]? = some (.int .i64 l1[j]) := by simp [Is, hlt]
      have hc0 : wr.cell? ⟨b, off + j, none⟩ = some (.int .i64 l1[j]) := (hbel.cell (p := ⟨b, off + j, none⟩) hb).trans (hc j _ hx)
      obtain ⟨x, hxj⟩ : ∃ x, l1[j] = x := ⟨_, rfl⟩
      rw [hxj] at hc0
      have hm1 : (j : Int) < (l1.length : Int) := by omega
      have HP : Hid (P.length = j) := hP
      have HBEL : Hid (Below w.heap.size w wr) := hbel
      clear hP hc
      by_cases h10 : pick x 11 = 10
      · have H10 : Hid (pick x 11 = 10) := h10
        clear h10
        go_wp2_with first | (go_at_call 16; refine (Pick_eq _ _ _ (by omega) (by omega) H10.out).mono ?_; rintro e w' ⟨rfl, rfl⟩) | (go_at_call 14; refine (Key_any _ _).mono ?_; rintro e w' ⟨rfl, rfl⟩) | (go_at_call 15; refine (Value_any _ _).mono ?_; rintro e w' ⟨rfl, rfl⟩) | (at_builtin; go_loud (refine appP1 rfl _ _ rfl w.heap.size ao cap j _ rfl HP.out hown _ _ rfl (by have := HP.out; omega) hbel.size ?_; intro ao' cap' w1 hown1 hg1 hb1; obtain ⟨d, rfl, d1, d2, ⟨u, d3⟩, d4, d5⟩ := OwnPr.setK (p := j) hown1 (by simp; have := HP.out; omega); have HD : Hid (w.heap.size ≤ d) := d1; have HB1 : Hid (Below w.heap.size w w1) := HBEL.out.trans hb1; have HS : Hid (∀ v, OwnPr w.heap.size (w1.setCell ⟨d, j * 2, none⟩ (.string v)) _ _ _) := d5; clear hown1 hg1 hb1 d1 d5))
        refine ⟨⟨j + 1, _, _, _, hlt, ?_, by go_num, rfl, HS.out _, HB1.out.trans ((only_set (Only.refl (fun k => k = d) _) _ _).below (fun i e => by have := HD.out; omega) HB1.out.size)⟩, by simp [intOf]; omega⟩
        simp
        exact HP.out
      · obtain ⟨m, hm⟩ : ∃ m, pick x 11 = m := ⟨_, rfl⟩
        have HM : Hid (pick x 11 = m) := hm
        rw [hm] at h10
        clear hm
        go_wp2_with first | (go_at_call 16; refine (Pick_eq _ _ _ (by omega) (by omega) HM.out).mono ?_; rintro e w' ⟨rfl, rfl⟩) | (go_at_call 14; refine (Key_any _ _).mono ?_; rintro e w' ⟨rfl, rfl⟩) | (go_at_call 15; refine (Value_any _ _).mono ?_; rintro e w' ⟨rfl, rfl⟩) | (at_builtin; go_loud (refine appP1 rfl _ _ rfl w.heap.size ao cap j _ rfl HP.out hown _ _ rfl (by have := HP.out; omega) hbel.size ?_; intro ao' cap' w1 hown1 hg1 hb1; have HB1 : Hid (Below w.heap.size w w1) := HBEL.out.trans hb1; have HS : Hid (OwnPr w.heap.size w1 ao' cap' _) := hown1; clear hown1 hg1 hb1))
        refine ⟨⟨j + 1, _, _, _, hlt, ?_, by go_num, rfl, HS.out, HB1.out⟩, by simp [intOf]; omega⟩
        simp
        exact HP.out
    · obtain rfl : j = l1.length := by omega
      have hR := hown.rd
      have HBel : Hid (Below w.heap.size w wr) := hbel
      clear hown hlt hj H1 hbel
      go_wp2_with fail
      obtain ⟨L, hL⟩ : ∃ L, putsS [] P = L := ⟨_, rfl⟩
      refine (Of_any _ _ _ _ _ hP hR).mono ?_
      rintro e w1 ⟨z, rfl, hz, hr, hb⟩
      rw [hL] at hz hr ⊢
      obtain ⟨C, hC, hi, h17, h1, HT⟩ := rows_of hz hr
      rw [hC]
      have hB1 := bel_call HBel.out hb
      have hR1 := hR.below hb
      have hn1 := new_zero w1
      unfold zeroT at hn1
      clear hC hz hr hR hb
      go_wp2_with first | (refine wpList_store_row rfl 26 _ _ rfl w1.heap.size C rfl rfl 26 _ hn1 hi h17.out h1 ?_; obtain ⟨w2, hw2⟩ : ∃ w2, w2 = (w1.alloc zeroT).setRow w1.heap.size C := ⟨_, rfl⟩; obtain ⟨hc2, hb2, hs2⟩ := store_new hw2; unfold zeroT at hw2; rw [← hw2]; clear hw2 hn1)
      have hT2 := HT _ _ hc2
      have hB2 := bel_call hB1 hb2
      obtain ⟨gt, hgt⟩ : ∃ gt, w1.heap.size = gt := ⟨_, rfl⟩
      have hg1 : w.heap.size ≤ gt := by have := hB1.size; omega
      have hR2 := hR1.below hb2
      rw [hgt] at hT2 hs2 ⊢
      clear hc2 hb2 hB1 hR1 HT hi h17 h1 hgt HBel
      refine (refOf_any _ _ _ _ _ hP hR2 hs2).mono ?_
      rintro e w3 ⟨aoR, capR, rfl, h0, hpA, hb3⟩
      rw [hL] at hpA ⊢
      have hT3 := hT2.below hb3
      have hB3 := bel_call hB2 hb3
      have hR3 : RefT gt (w3.alloc (.cells #[.slice aoR L.length capR] 45)) w3.heap.size L := by
        refine ⟨aoR, capR, alloc_new w3 _, h0, hpA.1, hpA.2.1, fun hl => ?_⟩
        obtain ⟨b, off, e, h1, h2, h3⟩ := hpA.2.2 hl
        exact ⟨b, off, e, Nat.lt_of_lt_of_le h1 (bel_al w3 _).size, ⟨Nat.ne_of_lt h1, h2⟩, h3.below (bel_al w3 _) h1⟩
      have hT4 := hT3.below (bel_al w3 (.cells #[.slice aoR L.length capR] 45))
      have hB4 := bel_call hB3 (bel_al w3 (.cells #[.slice aoR L.length capR] 45))
      obtain ⟨gr, hgr⟩ : ∃ gr, w3.heap.size = gr := ⟨_, rfl⟩
      have hg2 : gt < gr := by have := hT3.lt; omega
      rw [hgr] at hR3
      have HI : Hid (TabAt (w3.alloc (.cells #[.slice aoR L.length capR] 45)) gt L ∧ RefT gt (w3.alloc (.cells #[.slice aoR L.length capR] 45)) gr L ∧ Below w.heap.size w (w3.alloc (.cells #[.slice aoR L.length capR] 45))) := ⟨hT4, hR3, hB4⟩
      have HG : Hid (w.heap.size ≤ gt ∧ gt < gr) := ⟨hg1, hg2⟩
      clear hT2 hB2 hT3 hB3 hR3 hT4 hB4 hpA h0 hb3 hR2 hs2 hg1 hg2
      go_wp2_with fail
      clear hL hP hgr
      obtain ⟨w4, hw4⟩ : ∃ w4, w4 = w3.alloc (.cells #[.slice aoR L.length capR] 45) := ⟨_, rfl⟩
      rw [← hw4] at HI ⊢
      clear hw4
      obtain ⟨hl0, hm0⟩ := H0.out.len
      subst hl0
      go_loopw [44] (fun i wr => ∃ (j : Nat) (M : List Pr), j ≤ l0.length ∧ i = .int .i64 j ∧ TabAt wr gt M ∧ RefT gt wr gr M ∧ Below w.heap.size w wr) (fun i _ => l0.length - (intOf i).toNat)
      case atStart => exact ⟨0, L, Nat.zero_le _, rfl, HI.out.1, HI.out.2.1, HI.out.2.2⟩
      case round =>
        obtain ⟨j, M, hj, rfl, hT, hRf, hbel⟩ := hrel
        clear HI
        by_cases hlt : j < l0.length
        · obtain ⟨b, off, rfl, hb, hc⟩ := raw_cells H0.out (by omega)
          obtain ⟨x, hx⟩ : ∃ x, l0[j] = x := ⟨_, rfl⟩
          obtain ⟨q0, q1, q2, q3, q4, q5, q6, q7⟩ := hc wr hbel j x (by rw [← hx]; exact List.getElem?_eq_getElem hlt)
          have hm2 : (j : Int) < (l0.length : Int) := by omega
          have HTR : Hid (TabAt wr gt M ∧ RefT gt wr gr M ∧ Below w.heap.size w wr) := ⟨hT, hRf, hbel⟩
          clear hc hT hRf hbel hx
          go_wp2_with (go_at_call 18; go_loud (refine (Req_any x _).mono ?_; rintro e w5 ⟨⟨c, s, k, key, v, old, rfl⟩, hb5⟩; have HT5 : Hid (TabAt w5 gt M ∧ RefT gt w5 gr M ∧ Below w.heap.size w w5) := ⟨(HTR.out.1.below (bel_al wr _)).below hb5, (HTR.out.2.1.below (bel_al wr _)).below hb5, bel_call (bel_call HTR.out.2.2 (bel_al wr _)) hb5⟩; clear hb5; have hF := run_opOf c s k key v old))
          have H6 : Hid (∃ w6 ob, w6 = w5.alloc (.cells #[.int .i64 k, .string key, .string v, .string old] 33) ∧ w5.heap.size = ob ∧ TellsI w w6 gt gr ob M k key v old) := ⟨_, _, rfl, rfl, ⟨HT5.out.1.below (bel_al w5 _), HT5.out.2.1.below (bel_al w5 _), alloc_new w5 _, bel_call HT5.out.2.2 (bel_al w5 _), HG.out.1, HG.out.2, HT5.out.2.1.lt⟩⟩
          obtain ⟨w6, ob, e6, eb, I6⟩ := H6.out
          rw [← e6, eb]
          have HI6 : Hid (TellsI w w6 gt gr ob M k key v old) := I6
          obtain ⟨o0, o1, o2, o3⟩ := op_cells I6.op
          obtain ⟨l', a, y, hD⟩ : ∃ l' a y, doS M k key v old = (l', a, y) := ⟨_, _, _, rfl⟩
          have HD : Hid (doS M k key v old = (l', a, y)) := hD
          clear H6 e6 eb HT5 hF I6 hD HTR q0 q1 q2 q3 q4 q5 q6 q7
          go_cut [76] (fun u wx => u = .bool false ∧ ∃ M', TabAt wx gt M' ∧ RefT gt wx gr M' ∧ Below w.heap.size w wx)
          case first =>
            have tokA : True := trivial
            go_region_with (first
              | (have _t := tokA; go_at_call 9; refine (Do_eq gt M k key v old w6.drew HI6.out.drew.tab l' a y HD.out).mono ?_; rintro e w7 ⟨rfl, hT, hO⟩; have J7 : Hid (TellsI2 w w7 gt gr ob l' M k key v old) := HI6.out.drew.did hT hO; obtain ⟨o0, o1, o2, o3⟩ := op_cells J7.out.op; clear hT hO tokA; have tokB : True := trivial)
              | (have _t := tokB; go_at_call 19; refine (refDo_eq gr M k key v old w7 J7.out.ref J7.out.lt J7.out.rise J7.out.few l' a y HD.out).mono ?_; rintro e w8 ⟨rfl, hT, hO⟩; have I8 : Hid (TellsI w w8 gt gr ob l' k key v old) := J7.out.did hT hO; obtain ⟨o0, o1, o2, o3⟩ := op_cells I8.out.op; clear hT hO tokB; have tokC : True := trivial)
              | (have _t := tokC; go_at_call 12; refine (Right_any k key v old w8).mono ?_; rintro e w9 ⟨rfl, hb⟩; have I9 : Hid (TellsI w w9 gt gr ob l' k key v old) := I8.out.below hb; obtain ⟨o0, o1, o2, o3⟩ := op_cells I9.out.op; clear hb tokC; have tokD : True := trivial)
              | (have _t := tokD; go_at_call 20; refine (refRight_any k key v old w9).mono ?_; rintro e w10 ⟨rfl, hb⟩; have I10 : Hid (TellsI w w10 gt gr ob l' k key v old) := I9.out.below hb; obtain ⟨o0, o1, o2, o3⟩ := op_cells I10.out.op; obtain ⟨aoL, capL, hC⟩ := I10.out.ref.c; have c1 := hC.cell; have HC10 : Hid (RefC gt w10 gr l' aoL capL) := hC; clear hb tokD hC; have tokE : True := trivial)
              | (have _t := tokE; go_at_call 13; refine (Len_any gt l' w10 I10.out.tab).mono ?_; rintro e w' ⟨rfl, rfl⟩; clear tokE; have tokF : True := trivial)
              | (have _t := tokF; go_at_call 10; refine (Pairs_any gt l' _ (I10.out.tab)).mono ?_; rintro e w11 ⟨aoP, capP, rfl, hown, hb⟩; have I11 : Hid (TellsI w w11 gt gr ob l' k key v old) := I10.out.below hb; have HC11 : Hid (RefC gt w11 gr l' aoL capL) := HC10.out.below hb; have c2 := HC11.out.cell; obtain ⟨o0, o1, o2, o3⟩ := op_cells I11.out.op; have HRP : Hid (PrR w11 aoP capP l') := hown.rd; clear hb hown tokF; have tokG : True := trivial)
              | (have _t := tokG; go_at_call 21; refine (same_any _ _ _ _ _ _ l' l' w11 rfl rfl HRP.out HC11.out.rd rfl).mono ?_; rintro e w12 ⟨rfl, hb⟩; have I12 : Hid (TellsI w w12 gt gr ob l' k key v old) := I11.out.below hb; obtain ⟨o0, o1, o2, o3⟩ := op_cells I12.out.op; clear hb tokG))
            all_goals
              go_wp2
              go_meet
              case rel => exact ⟨by simp, l', I12.out.tab, I12.out.ref, I12.out.bel⟩
          case rest =>
          obtain ⟨rfl, M', hT, hRf, hB⟩ := hcut
          have HF : Hid (TabAt wc gt M' ∧ RefT gt wc gr M' ∧ Below w.heap.size w wc) := ⟨hT, hRf, hB⟩
          clear hT hRf hB o0 o1 o2 o3
          go_wp2
          exact ⟨⟨j + 1, M', hlt, by go_num, HF.out.1, HF.out.2.1, HF.out.2.2⟩, by simp [intOf]; omega⟩
        · obtain rfl : j = l0.length := by omega
          have HB : Hid (Below w.heap.size w wr) := hbel
          clear hT hRf hbel
          go_wp2_with (go_at_call 11; refine (known_any _).mono ?_; rintro e w5 ⟨rfl, hb⟩; have HB5 : Hid (Below w.heap.size w w5) := bel_call HB.out hb; clear hb)
          go_ret
          exact ⟨rfl, HB5.out⟩
end Go.Proofs.Ytinobhaemmddjaa
