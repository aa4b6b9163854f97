/- the law NumsJoins: its walk -/
import Derived.Test.YtcmpolmjijemjaaV
namespace Go.Proofs.Ytcmpolmjijemjaa
open Go.RowKit

theorem Try.info9 : (Try.prog.info? 9).map (fun i => (i.zero, i.size, i.bytes)) = some (some (.string ⟨#[]⟩), 1, 16) := by kernel_rfl
/-- append onto a []string of one's own -/
theorem appS {w : World} {ops : Array Oper} {rest : List Oper} {o : Oper} {a : Act} {Q : Exit → Act → World → Prop} (hgd : o.guard = none) (s x : Operand) (tx : TypeId)
    (ho : o.op = .call { callee := .builtin .append, args := #[s, x], argTypes := #[31, tx] })
    (base : Nat) (v : Value) (n : Nat) (xs : List Value) (hs : a.eval s = v) (hown : w.ownsRow base 9 1 v n xs)
    (xv : Value) (m : Nat) (news : List Value) (hx : a.eval x = xv) (hsrc : Src Try.prog 1 tx xv m news w)
    (hbytes : (n + m) * 16 ≤ 140737488355328) (hbase : base ≤ w.heap.size)
    (h : ∀ ao' cap' w', w'.ownsRow base 9 1 (.slice ao' (n + m) cap') (n + m) (xs ++ news) → w.grownBy w' v.ownBlock → Below base w w' →
      wpList Try.prog ops Q rest (a.put o.dst (.slice ao' (n + m) cap')) w') : wpList Try.prog ops Q (o :: rest) a w := by
  obtain ⟨i0, hi, hz0, hz1, hz2⟩ := info_parts Try.info9
  exact wpList_app hgd s x 31 tx ho base 9 i0 _ 16 Try.underlying31 hi hz0 hz1 hz2 (by omega) rfl v n xs hs hown xv m news hx hsrc hbytes hbase h
theorem Ss_append (a b : List ByteArray) : Ss (a ++ b) = Ss a ++ Ss b := by simp [Ss]
theorem bytesIn_append (a b : List ByteArray) : bytesIn (a ++ b) = bytesIn a + bytesIn b := by simp [bytesIn]
theorem own_mono {w : World} {b b' : Nat} {e : TypeId} {v : Value} {n : Nat} {xs : List Value} (h : w.ownsRow b e 1 v n xs) (hb : b' ≤ b) : w.ownsRow b' e 1 v n xs := by
  refine ⟨h.1, ?_⟩
  rcases h.2 with h2 | ⟨g, cap, cur, h1, h3, h4⟩
  · exact .inl h2
  · exact .inr ⟨g, cap, cur, h1, by omega, h4⟩
/-- a row of one cell that lies there, as the source of an append -/
theorem src_at {P : Program} {W wB : World} {g : Nat} {v : Value} {e tx e' : TypeId} {row : Option Nat} (hk : P.underlying tx = some (.slice e')) (hg : W.grownBy wB row) (hW : W.heap[g]? = some (.cells #[v] e (0, 0))) (hne : some g ≠ row) (h1 : v.oneCell' = true) :
    Src P 1 tx (.slice (some ⟨g, 0, none⟩) 1 1) 1 [v] wB := by
  have hlt : g < W.heap.size := (Array.getElem?_eq_some_iff.1 hW).1
  have hB : wB.heap[g]? = some (.cells #[v] e (0, 0)) := (hg.block g hlt hne).trans hW
  refine Src.ofSlice _ hk _ 1 1 [v] rfl ?_ (by intro x hx; simp at hx; subst hx; exact h1)
  intro j x hj
  match j, hj with
  | 0, hj =>
    simp at hj
    subst hj
    have := cell_of_row wB g 0 #[v] e (0, 0) hB
    simpa [Addr.add] using this
theorem le_alloc {B : Nat} {w : World} {o : Obj} (h : B ≤ w.heap.size) : B ≤ (w.alloc o).heap.size := by simp; omega
theorem heap_two (w : World) (a b : Obj) : ((w.alloc a).alloc b).drew.heap[w.heap.size + 1]? = some b := by
  have := heap_alloc_new (w.alloc a) b
  rw [show (w.alloc a).heap.size = w.heap.size + 1 from by simp] at this
  exact this
theorem heap_one (w : World) (a b : Obj) : ((w.alloc a).alloc b).drew.heap[w.heap.size]? = some a := by
  have h1 : ((w.alloc a).alloc b).heap[w.heap.size]? = (w.alloc a).heap[w.heap.size]? := Below.heap_alloc (w.alloc a) b w.heap.size (by simp)
  have h2 := heap_alloc_new w a
  exact h1.trans h2
theorem Pick_R (n m : Int) (w : World) (h0 : 0 < m) (h1 : m ≤ 9223372036854775807) : Calls Try.prog 17 #[.int .i64 n, .int .i64 m] w fun e w' => ∃ v, e = .returned v ∧ (v = .int .i64 (pick n m) ∧ w' = w) :=
  (Pick_any n m w h0 h1).mono fun _ _ h => ⟨_, h.1, rfl, h.2⟩
theorem mem_snoc {ms : List Int} {x : Int} (h : ∀ y ∈ ms, 0 ≤ y ∧ y ≤ 4611686018427387903) (h0 : 0 ≤ x) (h1 : x ≤ 4611686018427387903) : ∀ y ∈ ms ++ [x], 0 ≤ y ∧ y ≤ 4611686018427387903 := by
  intro y hy
  rcases List.mem_append.1 hy with hy | hy
  · exact h y hy
  · simp at hy; subst hy; exact ⟨h0, h1⟩

set_option maxRecDepth 100000 in
set_option maxHeartbeats 12000000 in
theorem joins_walk (ao0 : Option Addr) (n0 c0 : Nat) (l0 : List Int) (ao1 : Option Addr) (n1 c1 : Nat) (l1 : List Int) (ao2 : Option Addr) (n2 c2 : Nat) (ss : List ByteArray) (ao3 : Option Addr) (n3 c3 : Nat) (ts : List ByteArray) (bad at_ : Int) (w : World)
    (R0 : Rd w.heap.size w ao0 n0 c0 (Is l0)) (e0 : l0.length = n0) (R1 : Rd w.heap.size w ao1 n1 c1 (Is l1)) (e1 : l1.length = n1) (R2 : Rd w.heap.size w ao2 n2 c2 (Ss ss)) (e2 : ss.length = n2) (R3 : Rd w.heap.size w ao3 n3 c3 (Ss ts)) (e3 : ts.length = n3)
    (hb0 : n0 ≤ 1048576) (hb1 : n1 ≤ 1048576) (hb2 : n2 + bytesIn ss ≤ 1048576) (hb3 : n3 + bytesIn ts ≤ 1048576) :
    Calls Try.prog 7 #[.slice ao0 n0 c0, .slice ao1 n1 c1, .slice ao2 n2 c2, .slice ao3 n3 c3, .int .i64 bad, .int .i64 at_] w fun e w' => e = .returned (.bool true) ∧ Below w.heap.size w w' := by
  subst e0
  subst e1
  subst e2
  subst e3
  go_enter Try.func7, Try.ntmps7
  go_upto_block 0 with fail
  go_cut [13] (fun v wc => ∃ (ms : List Int) (ao' : Option Addr) (cp' : Nat), ms.length ≤ 8 ∧ Hid (∀ y ∈ ms, 0 ≤ y ∧ y ≤ 4611686018427387903) ∧ v = .slice ao' ms.length cp' ∧ wc.ownsRow w.heap.size 3 1 v ms.length (Is ms) ∧ Below w.heap.size w wc)
  case first =>
    go_wp2_with fail
    go_loopw [13, 15] (fun v i wr => ∃ (k : Nat) (ms : List Int) (ao' : Option Addr) (cp' : Nat), k ≤ l0.length ∧ k ≤ 8 ∧ i = .int .i64 k ∧ ms.length = k ∧ Hid (∀ y ∈ ms, 0 ≤ y ∧ y ≤ 4611686018427387903) ∧ v = .slice ao' ms.length cp' ∧
        wr.ownsRow w.heap.size 3 1 v ms.length (Is ms) ∧ Below w.heap.size w wr)
      (fun _ i _ => l0.length - (intOf i).toNat)
    case atStart => exact ⟨0, [], none, 0, Nat.zero_le _, Nat.zero_le _, rfl, rfl, (by intro y hy; simp at hy), rfl, World.ownsRow_nil _ _ _ _, Below.refl _ _⟩
    case round =>
      obtain ⟨k, ms, ao4, cp4, hk, hk12, rfl, hms, HM, rfl, hown, hbel⟩ := hrel
      have hsz := hbel.size
      by_cases hlt : k < l0.length ∧ k < 8
      · obtain ⟨hlt, hlt12⟩ := hlt
        obtain ⟨b, off, rfl, hbB, hcells⟩ := R0.atSome (by omega)
        obtain ⟨x, hx⟩ : ∃ x, l0[k]? = some x := ⟨l0[k], List.getElem?_eq_getElem _⟩
        have hc : wr.cell? ⟨b, off + k, none⟩ = some (.int .i64 x) := (hbel.cell (p := ⟨b, off + k, none⟩) hbB).trans (hcells k _ (by simp [Is, hx]))
        have HMS : Hid (ms.length = k) := hms
        have hmsb : ms.length ≤ 8 := by omega
        clear hcells hx hms
        go_wp2_with fail
        refine (May_any _ _).mono ?_
        rintro e wr ⟨y, rfl, hy0, hy1, rfl⟩
        go_wp2_with (at_builtin; refine appI rfl _ _ _ rfl _ _ _ _ rfl (hown.alloc _) _ 1 [_] rfl (src_one _ Try.underlying27 _ 3 rfl) (by omega) (by simp; omega) ?_)
        intro ao5 cp5 w5 hown5 _ hbel5
        have HF : Hid (w5.ownsRow w.heap.size 3 1 (.slice ao5 (ms.length + 1) cp5) (ms ++ [y]).length (Is (ms ++ [y]))) := by
          show World.ownsRow _ _ _ _ _ _ _
          rw [Is_append, List.length_append]
          exact hown5
        have hbel6 := (hbel.alloc (by omega) _).trans hbel5
        clear hown5 hbel5
        go_wp2
        go_roundw
        case rel => exact ⟨k + 1, ms ++ [y], ao5, cp5, by omega, by omega, by go_num, by simp [HMS.out], mem_snoc HM.out hy0 hy1, by simp, HF.out, hbel6⟩
        case measure => simp [intOf]; omega
      · have hNb : ms.length ≤ 8 := by omega
        clear hms
        have hx : (l0.length : Int) ≤ k ∨ ((k : Int) < l0.length ∧ (8 : Int) ≤ k) := by omega
        rcases hx with hx | ⟨hx, hx2⟩
        all_goals
          go_wp2
          go_meet
          case rel => exact ⟨ms, ao4, cp4, hNb, HM, rfl, hown, hbel⟩
  case rest =>
    obtain ⟨ms, ao4, cp4, hm8, HM, rfl, hownm, hbelm⟩ := hcut
    have Rm := ownsRow.rd hownm
    have R1' := rd_call R1 hbelm
    have R2' := rd_call R2 hbelm
    have R3' := rd_call R3 hbelm
    clear hownm R0 R1 R2 R3
    obtain ⟨wm, rfl⟩ : ∃ wm : World, wm = wc := ⟨_, rfl⟩
    go_upto_block 2 with fail
    go_cut [14] (fun v wc => ∃ (ms : List Int) (ao' : Option Addr) (cp' : Nat), ms.length ≤ 8 ∧ Hid (∀ y ∈ ms, 0 ≤ y ∧ y ≤ 4611686018427387903) ∧ v = .slice ao' ms.length cp' ∧ wc.ownsRow wm.heap.size 3 1 v ms.length (Is ms) ∧ Below wm.heap.size wm wc)
    case first =>
      go_wp2_with fail
      go_loopw [14, 16] (fun v i wr => ∃ (k : Nat) (ms : List Int) (ao' : Option Addr) (cp' : Nat), k ≤ l1.length ∧ k ≤ 8 ∧ i = .int .i64 k ∧ ms.length = k ∧ Hid (∀ y ∈ ms, 0 ≤ y ∧ y ≤ 4611686018427387903) ∧ v = .slice ao' ms.length cp' ∧
          wr.ownsRow wm.heap.size 3 1 v ms.length (Is ms) ∧ Below wm.heap.size wm wr)
        (fun _ i _ => l1.length - (intOf i).toNat)
      case atStart => exact ⟨0, [], none, 0, Nat.zero_le _, Nat.zero_le _, rfl, rfl, (by intro y hy; simp at hy), rfl, World.ownsRow_nil _ _ _ _, Below.refl _ _⟩
      case round =>
        obtain ⟨k, ns, ao5, cp5, hk, hk12, rfl, hms, HN, rfl, hown, hbel⟩ := hrel
        have hsz := hbel.size
        by_cases hlt : k < l1.length ∧ k < 8
        · obtain ⟨hlt, hlt12⟩ := hlt
          obtain ⟨b, off, rfl, hbB, hcells⟩ := R1'.atSome (by omega)
          obtain ⟨x, hx⟩ : ∃ x, l1[k]? = some x := ⟨l1[k], List.getElem?_eq_getElem _⟩
          have hc : wr.cell? ⟨b, off + k, none⟩ = some (.int .i64 x) := (hbel.cell (p := ⟨b, off + k, none⟩) hbB).trans (hcells k _ (by simp [Is, hx]))
          have HMS : Hid (ns.length = k) := hms
          have hmsb : ns.length ≤ 8 := by omega
          clear hcells hx hms
          go_wp2_with fail
          refine (May_any _ _).mono ?_
          rintro e wr ⟨y, rfl, hy0, hy1, rfl⟩
          go_wp2_with (at_builtin; refine appI rfl _ _ _ rfl _ _ _ _ rfl (hown.alloc _) _ 1 [_] rfl (src_one _ Try.underlying27 _ 3 rfl) (by omega) (by simp; omega) ?_)
          intro ao6 cp6 w6 hown6 _ hbel6
          have HF : Hid (w6.ownsRow wm.heap.size 3 1 (.slice ao6 (ns.length + 1) cp6) (ns ++ [y]).length (Is (ns ++ [y]))) := by
            show World.ownsRow _ _ _ _ _ _ _
            rw [Is_append, List.length_append]
            exact hown6
          have hbel7 := (hbel.alloc (by omega) _).trans hbel6
          clear hown6 hbel6
          go_wp2
          go_roundw
          case rel => exact ⟨k + 1, ns ++ [y], ao6, cp6, by omega, by omega, by go_num, by simp [HMS.out], mem_snoc HN.out hy0 hy1, by simp, HF.out, hbel7⟩
          case measure => simp [intOf]; omega
        · have hNb : ns.length ≤ 8 := by omega
          clear hms
          have hx : (l1.length : Int) ≤ k ∨ ((k : Int) < l1.length ∧ (8 : Int) ≤ k) := by omega
          rcases hx with hx | ⟨hx, hx2⟩
          all_goals
            go_wp2
            go_meet
            case rel => exact ⟨ns, ao5, cp5, hNb, HN, rfl, hown, hbel⟩
    case rest =>
      obtain ⟨ns, ao5, cp5, hn8, HN, rfl, hownn, hbeln⟩ := hcut
      have hb1' := bel_call hbelm hbeln
      have Rn := ownsRow.rd hownn
      have Rm1 := rd_call Rm hbeln
      have Rs1 := rd_call R2' hbeln
      have Rt1 := rd_call R3' hbeln
      clear hownn hbelm hbeln Rm R1' R2' R3'
      obtain ⟨w1, rfl⟩ : ∃ w1 : World, w1 = wc := ⟨_, rfl⟩
      go_wp2_with (at_builtin; refine appI rfl _ _ _ rfl _ _ _ _ rfl (own_built w1 _) _ ms.length (Is ms) rfl ((rd_alloc Rm1).src Try.underlying27 (Is_one _)) (by omega) (by simp) ?_)
      intro ao6 cp6 w2 hown2 _ hbel2
      have hb12 := ((Below.refl w1.heap.size w1).alloc (Nat.le_refl _) _).trans hbel2
      have Rn2 := rd_call Rn hb12
      have hsz2 := hb12.size
      go_wp2_with (at_builtin; refine appI rfl _ _ _ rfl _ _ _ _ rfl hown2 _ ns.length (Is ns) rfl (Rn2.src Try.underlying27 (Is_one _)) (by omega) hsz2 ?_)
      intro ao7 cp7 w3 hown3 _ hbel3
      have hb13 := hb12.trans hbel3
      have Rall3 : Rd w3.heap.size w3 ao7 (ms.length + ns.length) cp7 (Is (ms ++ ns)) := by
        rw [Is_append]
        exact ownsRow.rd hown3
      have hb3' := bel_call hb1' hb13
      have Rm3 := rd_call Rm1 hb13
      have Rn3 := rd_call Rn hb13
      have Rs3 := rd_call Rs1 hb13
      have Rt3 := rd_call Rt1 hb13
      clear hown2 hbel2 hown3 hbel3 hb12 hb13 hsz2 Rn2 hb1' Rm1 Rn Rs1 Rt1
      have hem := encs_le ms HM.out
      have hen := encs_le ns HN.out
      have HPM : Hid (putS [] ms = encs ms) := putS_ok (any_of_in HM.out)
      have HPN : Hid (putS (encs ms) ns = encs ms ++ encs ns) := putS_ok (any_of_in HN.out)
      go_wp2_with fail
      refine (Put_eq none 0 0 [] _ _ _ ms _ (Rd.nil _ _) Rm3 (by omega) HPM.out).mono ?_
      rintro e w4 ⟨ao8, cp8, rfl, Rp4, hbel⟩
      have hb4' := bel_call hb3' hbel
      have Rn4 := rd_call Rn3 hbel
      have Rs4 := rd_call Rs3 hbel
      have Rt4 := rd_call Rt3 hbel
      have Rall4 := rd_call Rall3 hbel
      clear hbel hb3' Rm3 Rn3 Rs3 Rt3 Rall3
      go_wp2_with fail
      refine (Put_eq _ _ _ (encs ms) _ _ _ ns _ Rp4 Rn4 (by omega) HPN.out).mono ?_
      rintro e w5 ⟨ao9, cp9, rfl, Rx5, hbel⟩
      have hb5' := bel_call hb4' hbel
      have Rs5 := rd_call Rs4 hbel
      have Rt5 := rd_call Rt4 hbel
      have Rall5 := rd_call Rall4 hbel
      clear hbel hb4' Rn4 Rs4 Rt4 Rall4 Rp4
      generalize hXX : encs ms ++ encs ns = XX at *
      go_wp2_with (at_builtin; refine appS rfl _ _ _ rfl _ _ _ _ rfl (own_built w5 _) _ ss.length (Ss ss) rfl ((rd_alloc Rs5).src Try.underlying31 (Ss_one _)) (by omega) (by simp) ?_)
      intro ao10 cp10 w6 hown6 _ hbel6
      have hb56 := ((Below.refl w5.heap.size w5).alloc (Nat.le_refl _) _).trans hbel6
      have Rt6 := rd_call Rt5 hb56
      have hsz6 := hb56.size
      go_wp2_with (at_builtin; refine appS rfl _ _ _ rfl _ _ _ _ rfl hown6 _ ts.length (Ss ts) rfl (Rt6.src Try.underlying31 (Ss_one _)) (by omega) hsz6 ?_)
      intro ao11 cp11 w7 hown7 _ hbel7
      have hb57 := hb56.trans hbel7
      have Rtx7 : Rd w7.heap.size w7 ao11 (ss.length + ts.length) cp11 (Ss (ss ++ ts)) := by
        rw [Ss_append]
        exact ownsRow.rd hown7
      have hb7' := bel_call hb5' hb57
      have Rs7 := rd_call Rs5 hb57
      have Rt7 := rd_call Rt5 hb57
      have Rall7 := rd_call Rall5 hb57
      have Rx7 := rd_call Rx5 hb57
      clear hown6 hbel6 hown7 hbel7 hb56 hb57 hsz6 Rt6 hb5' Rs5 Rt5 Rall5 Rx5
      have htl := textsOf_le ss (by omega)
      have htl2 := textsOf_le ts (by omega)
      go_wp2_with fail
      refine (Text_eq none 0 0 [] _ _ _ ss _ (Rd.nil _ _) Rs7 (by omega) (List.nil_append _)).mono ?_
      rintro e w8 ⟨ao12, cp12, rfl, Ry8, hbel⟩
      have hb8' := bel_call hb7' hbel
      have Rt8 := rd_call Rt7 hbel
      have Rall8 := rd_call Rall7 hbel
      have Rx8 := rd_call Rx7 hbel
      have Rtx8 := rd_call Rtx7 hbel
      clear hbel hb7' Rs7 Rt7 Rall7 Rx7 Rtx7
      go_wp2_with fail
      refine (Text_eq _ _ _ (textsOf ss) _ _ _ ts _ Ry8 Rt8 (by omega) rfl).mono ?_
      rintro e w9 ⟨ao13, cp13, rfl, Ry9, hbel⟩
      have hb9' := bel_call hb8' hbel
      have Rall9 := rd_call Rall8 hbel
      have Rx9 := rd_call Rx8 hbel
      have Rtx9 := rd_call Rtx8 hbel
      clear hbel hb8' Rt8 Rall8 Rx8 Rtx8 Ry8
      generalize hYY : textsOf ss ++ textsOf ts = YY at *
      have g1 := pick_lo at_ ((ms.length : Int) + (ns.length : Int) + 1) (by omega)
      have g2 := pick_hi at_ ((ms.length : Int) + (ns.length : Int) + 1) (by omega)
      go_wp2_with fail
      refine (Pick_any _ _ _ (by omega) (by omega)).mono ?_
      rintro e w9 ⟨rfl, rfl⟩
      obtain ⟨kk, hkk⟩ := Int.eq_ofNat_of_zero_le g1
      rw [hkk] at g2 ⊢
      clear hkk g1
      have HAL : Hid (ms.length + ns.length = (ms ++ ns).length) := by show _ = _; simp
      have HE : Hid (putS [] (ms ++ ns) = XX) := by
        show _ = _
        rw [putS_ok (by rw [List.any_append, any_of_in HM.out, any_of_in HN.out]; rfl), encs_append, List.nil_append]
        exact hXX
      have HTX : Hid ([] ++ textsOf (ss ++ ts) = YY) := by
        show _ = _
        rw [textsOf_append, List.nil_append]
        exact hYY
      have HBI : Hid (bytesIn (ss ++ ts) = bytesIn ss + bytesIn ts) := bytesIn_append ss ts
      have hN16 : ms.length + ns.length ≤ 16 := by omega
      generalize ms ++ ns = AL at *
      generalize hN : ms.length + ns.length = N at *
      have hkN : kk ≤ N := by omega
      have hcp7 := Rall9.2.1
      have RT := Rall9.till kk hkN
      have RF := Rall9.from kk hkN
      rw [← Is_take] at RT
      rw [← Is_drop] at RF
      have pb0 := pick_lo bad 1000 (by omega)
      have pb1 := pick_hi bad 1000 (by omega)
      have HPK : Hid (∀ w, Calls Try.prog 17 #[.int .i64 bad, .int .i64 1000] w fun e w' => ∃ v, e = .returned v ∧ (v = .int .i64 (pick bad 1000) ∧ w' = w)) := fun w => Pick_R bad 1000 w (by omega) (by omega)
      generalize pick bad 1000 = pb at *
      clear hXX hYY hN g2 hm8 hn8
      have hki0 : (0 : Int) ≤ (kk : Int) := by omega
      have hki1 : (kk : Int) ≤ (cp7 : Int) := by omega
      have hki2 : (kk : Int) ≤ (N : Int) := by omega
      go_upto_region 15 with fail
      go_cut [22] (fun v wc => ∃ (ao : Option Addr) (cp : Nat) (W : List Int), v = .slice ao W.length cp ∧ Rd wc.heap.size wc ao W.length cp (Is W) ∧ W.any outB = true ∧ W.length ≤ 32 ∧ Below w9.heap.size w9 wc)
      case first =>
        by_cases hcs : cp7 = kk
        · have hNk : N = kk := by omega
          rw [if_pos hcs] at RF
          subst hcs
          subst hNk
          rw [Nat.sub_self] at RF
          have HW : Hid ((AL.take N ++ [-1 - pb] ++ AL.drop N).length = N + 1 + 0) := by
            show _ = _
            have := HAL.out
            simp
            omega
          have tokB : True := trivial
          go_region_law (first
            | (have _t := tokB; refine stepI rfl (.tmp 82) (.tmp 85) _ rfl _ _ _ _ rfl (own_built w9 _).drew _ N (Is (AL.take N)) rfl ((rd_alloc RT).drew.src Try.underlying27 (Is_one _)) (by omega) (by simp) ?_; intro aoB cpB wB hownB0 hgB hbelB0; have hownB : wB.ownsRow w9.heap.size 3 1 (.slice aoB N cpB) N (Is (AL.take N)) := (by simpa using hownB0); have hbelB := (((Below.refl w9.heap.size w9).alloc (Nat.le_refl _) _).drew).trans hbelB0; have hszB := hbelB.size; clear tokB hownB0 hbelB0; have tokP : True := trivial)
            | (have _t := tokP; refine step_call2 rfl 17 _ _ _ rfl cfPick _ _ rfl rfl _ (HPK.out _) ?_; rintro v wB ⟨rfl, rfl⟩; clear tokP; have tokC : True := trivial)
            | (have _t := tokC; refine stepI rfl (.tmp 86) (.tmp 90) _ rfl _ _ _ _ rfl (hownB.alloc _) _ 1 [_] rfl (src_one _ Try.underlying27 _ 3 rfl) (by omega) (le_alloc hszB) ?_; intro aoC cpC wC hownC hgC hbelC; clear tokC; have tokD : True := trivial; have hbC := (hbelB.alloc hszB _).trans hbelC)
            | (have _t := tokD; refine stepI rfl (.tmp 91) (.tmp 94) _ rfl _ _ _ _ rfl hownC _ (0) (Is (AL.drop N)) rfl ((RF.later hbC).src Try.underlying27 (Is_one _)) (by omega) hbC.size ?_; intro aoD cpD wD hownD hgD hbelD; clear tokD))
          have hbD := hbC.trans hbelD
          have RD := ownsRow.rd hownD
          rw [show IntKind.i64.wrap (-1 - pb) = -1 - pb from by rw [IntKind.wrap_i64]; omega] at RD
          clear hownD hgD hbelD hownC hgC hbelC hgB hownB hbelB
          go_wp2
          go_meet
          case rel =>
            refine ⟨aoD, cpD, AL.take N ++ [-1 - pb] ++ AL.drop N, ?_, ?_, ?_, ?_, hbD⟩
            · rw [HW.out]
            · rw [HW.out, Is_append, Is_append]; exact RD
            · rw [List.any_append, List.any_append]; simp [outB]; omega
            · rw [HW.out]; omega
        · rw [if_neg hcs] at RF
          have HW : Hid ((AL.take kk ++ [-1 - pb] ++ AL.drop kk).length = kk + 1 + (N - kk)) := by
            show _ = _
            have := HAL.out
            simp
            omega
          have tokB : True := trivial
          go_region_law (first
            | (have _t := tokB; refine stepI rfl (.tmp 82) (.tmp 85) _ rfl _ _ _ _ rfl (own_built w9 _).drew _ kk (Is (AL.take kk)) rfl ((rd_alloc RT).drew.src Try.underlying27 (Is_one _)) (by omega) (by simp) ?_; intro aoB cpB wB hownB0 hgB hbelB0; have hownB : wB.ownsRow w9.heap.size 3 1 (.slice aoB kk cpB) kk (Is (AL.take kk)) := (by simpa using hownB0); have hbelB := (((Below.refl w9.heap.size w9).alloc (Nat.le_refl _) _).drew).trans hbelB0; have hszB := hbelB.size; clear tokB hownB0 hbelB0; have tokP : True := trivial)
            | (have _t := tokP; refine step_call2 rfl 17 _ _ _ rfl cfPick _ _ rfl rfl _ (HPK.out _) ?_; rintro v wB ⟨rfl, rfl⟩; clear tokP; have tokC : True := trivial)
            | (have _t := tokC; refine stepI rfl (.tmp 86) (.tmp 90) _ rfl _ _ _ _ rfl (hownB.alloc _) _ 1 [_] rfl (src_one _ Try.underlying27 _ 3 rfl) (by omega) (le_alloc hszB) ?_; intro aoC cpC wC hownC hgC hbelC; clear tokC; have tokD : True := trivial; have hbC := (hbelB.alloc hszB _).trans hbelC)
            | (have _t := tokD; refine stepI rfl (.tmp 91) (.tmp 94) _ rfl _ _ _ _ rfl hownC _ (N - kk) (Is (AL.drop kk)) rfl ((RF.later hbC).src Try.underlying27 (Is_one _)) (by omega) hbC.size ?_; intro aoD cpD wD hownD hgD hbelD; clear tokD))
          have hbD := hbC.trans hbelD
          have RD := ownsRow.rd hownD
          rw [show IntKind.i64.wrap (-1 - pb) = -1 - pb from by rw [IntKind.wrap_i64]; omega] at RD
          clear hownD hgD hbelD hownC hgC hbelC hgB hownB hbelB
          go_wp2
          go_meet
          case rel =>
            refine ⟨aoD, cpD, AL.take kk ++ [-1 - pb] ++ AL.drop kk, ?_, ?_, ?_, ?_, hbD⟩
            · rw [HW.out]
            · rw [HW.out, Is_append, Is_append]; exact RD
            · rw [List.any_append, List.any_append]; simp [outB]; omega
            · rw [HW.out]; omega
      case rest =>
        obtain ⟨ao14, cp14, WL, rfl, RW, hany, hW32, hbc⟩ := hcut
        have Rall := rd_call Rall9 hbc
        have Rx := rd_call Rx9 hbc
        have Ry := rd_call Ry9 hbc
        have Rtx := rd_call Rtx9 hbc
        have hb' := bel_call hb9' hbc
        have HPW : Hid (putS [1] WL = []) := putS_bad hany
        have hst := str_toList
        have hbi : (ss.length + ts.length) + bytesIn (ss ++ ts) ≤ 2097152 := by rw [HBI.out]; omega
        have HBI2 : Hid (bytesIn (ss ++ ts) ≤ 2097152) := by show _ ≤ _; omega
        clear Rall9 Rx9 Ry9 Rtx9 hb9' hbc hany RT RF hbi
        have tok1 : True := trivial
        go_wp2_with fail
        go_region_with (first
          | (go_at_call 13; have _t := tok1; refine (known_any _).mono ?_; rintro e wk ⟨rfl, hbk0⟩; have hbk := below_undrew hbk0; have Rall1 := rd_call Rall hbk; have Rtx1 := rd_call Rtx hbk; have RW1 := rd_call RW hbk; have Rx1 := rd_call Rx hbk; have Ry1 := rd_call Ry hbk; have hb1' := bel_call hb' hbk; have sx1 := run_str _ _ _ _ _ Rx1; have sy1 := run_str _ _ _ _ _ Ry1; clear tok1 hbk hbk0; have tok2 : True := trivial)
          | (go_at_call 8; have _t := tok2; refine (Put_eq none 0 0 [] _ _ _ AL _ (Rd.nil _ _) Rall1 (by omega) HE.out).mono ?_; rintro e wp ⟨aop, cpp, rfl, Rp, hbp⟩; have Rtx2 := rd_call Rtx1 hbp; have RW2 := rd_call RW1 hbp; have Rx2 := rd_call Rx1 hbp; have Ry2 := rd_call Ry1 hbp; have hb2' := bel_call hb1' hbp; have sx2 := run_str _ _ _ _ _ Rx2; have sy2 := run_str _ _ _ _ _ Ry2; have sp2 := run_str _ _ _ _ _ Rp; clear tok2 hbp; have tok3 : True := trivial)
          | (go_at_call 11; have _t := tok3; refine (Text_eq none 0 0 [] _ _ _ (ss ++ ts) _ (Rd.nil _ _) Rtx2 (by have := HBI2.out; omega) HTX.out).mono ?_; rintro e wt ⟨aot, cpt, rfl, Rt, hbt⟩; have RW3 := rd_call RW2 hbt; have Ry3 := rd_call Ry2 hbt; have hb3' := bel_call hb2' hbt; have sy3 := run_str _ _ _ _ _ Ry3; have st3 := run_str _ _ _ _ _ Rt; clear tok3 hbt; have tok4 : True := trivial)
          | (go_at_call 8; have _t := tok4; refine (Put_eq _ _ _ [1] _ _ _ WL _ (by exact Rd.built wt (Bs [1]) 5 (by unfold maxLen; simp [Bs])) (rd_alloc RW3) (by omega) HPW.out).mono ?_; rintro e wq ⟨aoq, cpq, rfl, Rq, hbq⟩; have hb4' := bel_new hb3' hbq; clear tok4 hbq))
        all_goals
          go_wp2
          go_ret
          exact ⟨rfl, hb4'⟩
end Go.Proofs.Ytcmpolmjijemjaa
