/- FrameOwn: rows that are written; the walk -/
import Derived.Test.YtnmpagnibhaocaaFI
import Derived.Deep.DeepCutAuto
import Derived.Deep.CutBlock
namespace Go.Proofs.Ytnmpagnibhaocaa
open Go.RowKit

theorem Try.info9 : (Try.prog.info? 9).map (fun i => (i.zero, i.size, i.bytes)) = some (some (.string .empty), 1, 16) := by kernel_rfl
/-- append onto a []string of one's own -/
theorem appS {w : World} {ops : Array Oper} {rest : List Oper} {o : Oper} {a : Act} {Q : Exit → Act → World → Prop} (hgd : o.guard = none) (s x : Operand) (tx : TypeId)
    (ho : o.op = .call { callee := .builtin .append, args := #[s, x], argTypes := #[35, tx] })
    (base : Nat) (v : Value) (n : Nat) (xs : List Value) (hs : a.eval s = v) (hown : w.ownsRow base 9 1 v n xs)
    (xv : Value) (m : Nat) (news : List Value) (hx : a.eval x = xv) (hsrc : Src Try.prog 1 tx xv m news w)
    (hbytes : (n + m) * 16 ≤ 140737488355328) (hbase : base ≤ w.heap.size)
    (h : ∀ ao' cap' w', w'.ownsRow base 9 1 (.slice ao' (n + m) cap') (n + m) (xs ++ news) → w.grownBy w' v.ownBlock → Below base w w' →
      wpList Try.prog ops Q rest (a.put o.dst (.slice ao' (n + m) cap')) w') : wpList Try.prog ops Q (o :: rest) a w := by
  obtain ⟨i0, hi, hz0, hz1, hz2⟩ := info_parts Try.info9
  exact wpList_app hgd s x 35 tx ho base 9 i0 _ 16 Try.underlying35 hi hz0 hz1 hz2 (by omega) rfl v n xs hs hown xv m news hx hsrc hbytes hbase h

/-- rows of bytes of one's own, whatever bytes: their lengths, and that their blocks lie below T -/
def OwnN (base T : Nat) (w : World) (vs : List Value) (ls : List (List UInt8)) : Prop :=
  ∀ (i : Nat) (v : Value) (l : List UInt8), vs[i]? = some v → ls[i]? = some l → ∃ (ao : Option Addr) (cap : Nat) (l' : List UInt8), v = Value.slice ao l.length cap ∧ l'.length = l.length ∧ w.ownsRow base 5 1 v l.length (Bs l') ∧ ∀ g, v.ownBlock = some g → g < T
theorem OwnL.ownN {base : Nat} {w : World} {vs : List Value} {ls : List (List UInt8)} (h : OwnL base w vs ls) : OwnN base w.heap.size w vs ls := by
  intro i v l h1 h2
  obtain ⟨ao, cap, rfl, r⟩ := h.2 i v l h1 h2
  exact ⟨ao, cap, l, rfl, rfl, r, fun g hg => (r.lt g hg).2⟩
theorem OwnN.below {base T : Nat} {w w' : World} {vs : List Value} {ls : List (List UInt8)} (h : OwnN base T w vs ls) (hb : Below w.heap.size w w') : OwnN base T w' vs ls := by
  intro i v l h1 h2
  obtain ⟨ao, cap, l', rfl, e, r, hg⟩ := h i v l h1 h2
  exact ⟨ao, cap, l', rfl, e, own_below r hb, hg⟩
theorem grown_set (w : World) (g k : Nat) (u : Value) : w.grownBy (w.setCell ⟨g, k, none⟩ u) (some g) :=
  ⟨rfl, rfl, rfl, by simp, fun j _ hj => heap_setCell_other w ⟨g, k, none⟩ j u (fun e => hj (by simp [e]))⟩
/-- one byte of one of them is written -/
theorem OwnN.store {base T : Nat} {w : World} {vs : List Value} {ls : List (List UInt8)} (h : OwnN base T w vs ls) (g k : Nat) (x : UInt8) : OwnN base T (w.setCell ⟨g, k, none⟩ (.int .u8 (x.toNat : Int))) vs ls := by
  intro i v l h1 h2
  obtain ⟨ao, cap, l', rfl, e, r, hg⟩ := h i v l h1 h2
  by_cases hv : Value.ownBlock (.slice ao l.length cap) = some g
  · rcases r.2 with ⟨e1, _⟩ | ⟨g', cap', cur, e1, _⟩
    · rw [e1] at hv; simp [Value.ownBlock] at hv
    · cases e1
      simp [Value.ownBlock] at hv
      subst hv
      have hst := (r.stored k (.int .u8 (x.toNat : Int))).1
      rw [Bs_set] at hst
      exact ⟨_, _, _, rfl, by simp [e], hst, hg⟩
  · refine ⟨ao, cap, l', rfl, e, r.kept (row := some g) (grown_set w g k _) (.inr hv), hg⟩
theorem u8_inc (x : UInt8) : ((x.toNat : Int) + 1) % 256 = ((x + 1).toNat : Int) := by
  rw [UInt8.toNat_add]; simp

/-- what is owned in a block below B stays, where nothing below B is written -/
theorem own_belowB {B b n : Nat} {w w' : World} {e : TypeId} {v : Value} {xs : List Value} (h : w.ownsRow b e 1 v n xs) (hB : ∀ g, v.ownBlock = some g → g < B) (hb : Below B w w') : w'.ownsRow b e 1 v n xs := by
  refine ⟨h.1, ?_⟩
  rcases h.2 with hn | ⟨g, cap, cur, rfl, hbg, hgg, rest⟩
  · exact .inl hn
  · exact .inr ⟨g, cap, cur, rfl, hbg, (hb.block g (hB g rfl)).trans hgg, rest⟩
/-- what FrameOwn keeps while it writes into what was read -/
def InvO (B T U : Nat) (w6 : World) (m d : Value) (n N : Nat) (vs : List Value) (R : List (List UInt8)) (C : List UInt8) (wr : World) : Prop :=
  OwnN B T wr vs R ∧ wr.ownsRow B 22 1 m n vs ∧ wr.ownsRow U 5 1 d N (Bs C) ∧ Below B w6 wr
section
variable {B T U n N : Nat} {w6 wr wq : World} {m d : Value} {vs : List Value} {R : List (List UInt8)} {C : List UInt8}
theorem InvO.below (h : InvO B T U w6 m d n N vs R C wr) (hB : B ≤ w6.heap.size) (hb : Below wr.heap.size wr wq) : InvO B T U w6 m d n N vs R C wq :=
  ⟨h.1.below hb, own_below h.2.1 hb, own_below h.2.2.1 hb, h.2.2.2.trans (hb.mono (Nat.le_trans hB h.2.2.2.size))⟩
theorem InvO.store (h : InvO B T U w6 m d n N vs R C wr) (hB : B ≤ w6.heap.size) (g t : Nat) (x : UInt8) (hg1 : B ≤ g) (hg2 : g < T) (hTU : T ≤ U) (hblk : ∃ cur fr, wr.heap[g]? = some (.cells cur 5 fr)) :
    InvO B T U w6 m d n N vs R C (wr.setCell ⟨g, t, none⟩ (.int .u8 (x.toNat : Int))) := by
  obtain ⟨cur, fr, hc⟩ := hblk
  have hg := grown_set wr g t (.int .u8 (x.toNat : Int))
  refine ⟨h.1.store g t x, h.2.1.kept hg (.inr ?_), h.2.2.1.kept hg (.inr ?_), h.2.2.2.grown hg (Nat.le_trans hB h.2.2.2.size) (fun k hk => by cases hk; exact hg1)⟩
  · intro e
    exact ownsRow.apart h.2.1 (.inr ⟨hc, by decide⟩) e.symm
  · intro e
    have := (h.2.2.1.lt g e).1
    omega
end
theorem own_block_at {w : World} {b n g cap : Nat} {e : TypeId} {xs : List Value} (h : w.ownsRow b e 1 (.slice (some ⟨g, 0, none⟩) n cap) n xs) : ∃ cur fr, w.heap[g]? = some (.cells cur e fr) := by
  rcases h.2 with ⟨e1, _⟩ | ⟨g', cap', cur, e1, _, hgg, _⟩
  · cases e1
  · cases e1; exact ⟨_, _, hgg⟩

theorem frames_read_from (b K : List UInt8) : (b ++ K).drop b.length = K := by simp

set_option maxRecDepth 100000 in
set_option maxHeartbeats 4000000 in
theorem frameOwn_walk (ao : Option Addr) (n cap : Nat) (l : List (List UInt8)) (aob : Option Addr) (nb capb : Nat) (b : List UInt8) (w : World) (h : RdLL w.heap.size w ao n cap l) (hb : Rd w.heap.size w aob nb capb (Bs b)) (h47 : nb ≤ 140737488351232) :
    Calls Try.prog 7 #[.slice ao n cap, .slice aob nb capb] w fun e w' => e = .returned (.bool true) ∧ Below w.heap.size w w' := by
  have hnb : b.length = nb := by rw [← Bs_length]; exact hb.1
  subst hnb
  obtain ⟨R, hR⟩ : ∃ R, someS l = R := ⟨_, rfl⟩
  have HS : Hid (someS l = R) := hR
  have hR8 : R.length ≤ 8 := by rw [← hR]; exact someS_len l
  have HR2 : Hid (∀ r ∈ R, r.length ≤ 200) := by show ∀ r ∈ R, _; rw [← hR]; exact someS_le l
  obtain ⟨K, hK⟩ : ∃ K, framesF sum8 R = K := ⟨_, rfl⟩
  have HK : Hid (framesF sum8 R = K) := hK
  have hKl : K.length ≤ 1736 := by rw [← hK]; have := frames_few R HR2.out; omega
  have HRA : Hid (readS sum8 K = (R, K.length)) := by
    show _ = _
    rw [← hK, readS_all sum8 sum8_length R (fun r hr => Nat.le_trans (HR2.out r hr) (by omega))]
  obtain ⟨C, hC⟩ : ∃ C, b ++ K = C := ⟨_, rfl⟩
  have HC : Hid (b ++ framesF sum8 R = C) := by show _ = _; rw [hK]; exact hC
  have HCL : Hid (C.length = b.length + K.length) := by show _ = _; rw [← hC, List.length_append]
  have hCl : C.length ≤ 140737488353087 := by rw [HCL.out]; omega
  have hbC : b.length ≤ C.length := by rw [HCL.out]; omega
  have HCK : Hid (C.drop b.length = K) := by show _ = _; rw [← hC, frames_read_from]
  obtain ⟨SL, hSL⟩ : ∃ SL, R.map str = SL := ⟨_, rfl⟩
  have HSL : Hid (R.map str = SL) := hSL
  have HSLl : Hid (SL.length = R.length) := by show _ = _; rw [← hSL, List.length_map]
  have HH : Hid (RdLL w.heap.size w ao n cap l) := h
  have HHb : Hid (Rd w.heap.size w aob b.length capb (Bs b)) := hb
  clear hR hK hC hSL h hb
  go_enter Try.func7, Try.ntmps7
  go_wp2_with fail
  refine (some_any _ _ _ l w HH.out HS.out).mono ?_
  rintro e w1 ⟨ao1, cp1, rfl, hown1, hb1⟩
  have HR1 : Hid (RdLL w1.heap.size w1 ao1 R.length cp1 R) := hown1.rd
  clear hown1
  go_wp2
  go_loopw [6, 21] (fun v i wr => ∃ (k : Nat) (ss : List ByteArray) (ao' : Option Addr) (cp' : Nat), k ≤ R.length ∧ i = .int .i64 k ∧ ss.length ≤ 8 ∧ v = .slice ao' ss.length cp' ∧ Hid (ss = (R.take k).map str) ∧
      wr.ownsRow w1.heap.size 9 1 v ss.length (Ss ss) ∧ Below w1.heap.size w1 wr)
    (fun _ i _ => R.length - (intOf i).toNat)
  case atStart => exact ⟨0, [], none, 0, Nat.zero_le _, rfl, Nat.zero_le _, rfl, rfl, World.ownsRow_nil _ _ _ _, Below.refl _ _⟩
  case round =>
    obtain ⟨k, ss, ao2, cp2, hk, rfl, hs8, rfl, HI, hown2, hbel⟩ := hrel
    by_cases hlt : k < R.length
    · obtain ⟨b1, o1, rfl, hbB, hcells⟩ := HR1.out.at (by omega)
      obtain ⟨r, hr⟩ : ∃ r, R[k]? = some r := ⟨R[k], List.getElem?_eq_getElem _⟩
      obtain ⟨aor, cpr, hcr, hRr⟩ := hcells k r hr
      have hc : wr.cell? ⟨b1, o1 + k, none⟩ = some (.slice aor r.length cpr) := (hbel.cell (p := ⟨b1, o1 + k, none⟩) hbB).trans hcr
      have hst := run_str _ _ _ _ _ (hRr.later hbel)
      have HN : Hid (ss ++ [str r] = (R.take (k + 1)).map str) := by show _ = _; rw [List.take_add_one, hr, HI.out]; simp
      have hsk : ss.length < 8 := by rw [HI.out, List.length_map, List.length_take]; omega
      have hsz := hbel.size
      clear hcells hcr hr hRr
      go_wp2_with (at_builtin; refine appS rfl _ _ _ rfl _ _ _ _ rfl (hown2.alloc _) _ 1 [_] rfl (src_one wr Try.underlying35 _ 9 rfl) (by omega) (by simp; omega) ?_)
      intro ao3 cp3 w3 hown3 _ hb3
      have hbel3 := (hbel.alloc (by omega) _).trans hb3
      have HF : Hid (w3.ownsRow w1.heap.size 9 1 (.slice ao3 (ss.length + 1) cp3) (ss ++ [str r]).length (Ss (ss ++ [str r]))) := by
        show World.ownsRow _ _ _ _ _ _ _
        rw [List.length_append, show Ss (ss ++ [str r]) = Ss ss ++ [.string (str r)] from by simp [Ss]]
        exact hown3
      clear hown3 hb3 hown2
      go_wp2
      go_roundw
      case rel => exact ⟨k + 1, ss ++ [str r], ao3, cp3, by omega, by go_num, by rw [List.length_append]; simp; omega, by simp, HN, HF.out, hbel3⟩
      case measure => simp [intOf]; omega
    · have HW : Hid (ss = SL) := by
        show _ = _
        rw [HI.out, List.take_of_length_le (by omega), HSL.out]
      rw [HW.out] at hown2 ⊢
      obtain ⟨w2, rfl⟩ : ∃ w2 : World, w2 = wr := ⟨_, rfl⟩
      have HW2 : Hid (Rd w2.heap.size w2 ao2 SL.length cp2 (Ss SL)) := ownsRow.rd hown2
      have hB2 := bel_call hb1 hbel
      have HR2' : Hid (RdLL w2.heap.size w2 ao1 R.length cp1 R) := (HR1.out.later hbel).mono hbel.size
      clear hown2 hbel HR1 HI HW hs8 hb1
      go_wp2_with fail
      refine (Lay_n _ _ _ b _ _ _ R w2 ((HHb.out.later hB2).mono hB2.size) HR2'.out HC.out rfl (by omega)).mono ?_
      rintro e w3 ⟨ao3, cp3, rfl, hown3, hb3⟩
      have hB3 := bel_call hB2 hb3
      have HW3 : Hid (Rd w2.heap.size w3 ao2 SL.length cp2 (Ss SL)) := HW2.out.later hb3
      have HR3 : Hid (RdLL w2.heap.size w3 ao1 R.length cp1 R) := HR2'.out.later hb3
      have hRC := ownsRow.rd hown3
      have hF3 := hRC.from b.length hbC
      rw [← Bs_drop, HCK.out] at hF3
      have hsz3 := hb3.size
      have hcp3 := hRC.2.1
      have hCb : ∀ g, Value.ownBlock (.slice ao3 C.length cp3) = some g → g < w3.heap.size := fun g hg => (hown3.lt g hg).2
      clear HW2 HR2' hRC
      go_upto_region 9 with fail
      go_cut [10] (fun v wx => ∃ aoM cpM vs, v = .slice aoM R.length cpM ∧ wx.ownsRow w3.heap.size 22 1 v R.length vs ∧ OwnL w3.heap.size wx vs R ∧ Below w3.heap.size w3 wx)
      case first =>
        by_cases hcs : cp3 = b.length
        · rw [if_pos hcs] at hF3
          have hKz : C.length - b.length = 0 := by omega
          have hcs2 := hcs.symm
          clear hcs
          subst hcs2
          rw [Nat.sub_self, hKz] at hF3
          go_wp2_with fail
          refine (Read_n _ _ _ K w3 hF3 (by omega) HRA.out rfl).mono ?_
          rintro e w4 ⟨ao4, cp4, rfl, ⟨vs, hv, hL⟩, hb4⟩
          go_wp2
          go_meet
          case rel => exact ⟨ao4, cp4, vs, rfl, hv, hL, hb4⟩
        · rw [if_neg hcs] at hF3
          have hKz : C.length - b.length ≤ 1736 := by rw [HCL.out]; omega
          go_wp2_with fail
          refine (Read_n _ _ _ K w3 hF3 (by omega) HRA.out rfl).mono ?_
          rintro e w4 ⟨ao4, cp4, rfl, ⟨vs, hv, hL⟩, hb4⟩
          go_wp2
          go_meet
          case rel => exact ⟨ao4, cp4, vs, rfl, hv, hL, hb4⟩
      case rest =>
        obtain ⟨aoM, cpM, vs, rfl, hv4, hL4, hb4⟩ := hcut
        obtain ⟨w4, rfl⟩ : ∃ w4 : World, w4 = wc := ⟨_, rfl⟩
        have hB4 := bel_call hB3 hb4
        have hown4 := own_below hown3 hb4
        have HW4 : Hid (Rd w2.heap.size w4 ao2 SL.length cp2 (Ss SL)) := HW3.out.later (hb4.mono hsz3)
        have HR4 : Hid (RdLL w2.heap.size w4 ao1 R.length cp1 R) := HR3.out.later (hb4.mono hsz3)
        have hsz4 := hb4.size
        clear hF3 HW3 HR3 hown3 hB3
        go_wp2_with fail
        refine (known_any w4).mono ?_
        rintro e w5 ⟨rfl, hb5⟩
        have hB5 := bel_call hB4 hb5
        have hown5 := own_below hown4 hb5
        have hv5 := own_below hv4 hb5
        have hN5 := hL4.ownN.below hb5
        have HW5 : Hid (Rd w2.heap.size w5 ao2 SL.length cp2 (Ss SL)) := HW4.out.later (hb5.mono (by omega))
        have HR5 : Hid (RdLL w2.heap.size w5 ao1 R.length cp1 R) := HR4.out.later (hb5.mono (by omega))
        have hsz5 := hb5.size
        have hRC5 := ownsRow.rd hown5
        have hvl : vs.length = R.length := hL4.1
        clear hb5 hv4 hL4 hown4 HW4 HR4 hB4
        go_wp2_with (at_builtin; refine appB rfl _ _ _ rfl _ _ _ _ rfl (own_built w5 _) _ C.length (Bs C) rfl (((hRC5.later ((Below.refl _ _).alloc (Nat.le_refl _) _)).src Try.underlying22 (Bs_one C))) (by omega) (by simp) ?_)
        intro ao6 cp6 w6 hown6 _ hb6
        have hb6' : Below w5.heap.size w5 w6 := ((Below.refl _ _).alloc (Nat.le_refl _) _).trans hb6
        have hB6 := bel_call hB5 hb6'
        have hsz6 := hb6'.size
        have hI6 : InvO w3.heap.size w4.heap.size w5.heap.size w6 (.slice aoM R.length cpM) (.slice ao6 C.length cp6) R.length C.length vs R C w6 := ⟨hN5.below hb6', own_below hv5 hb6', hown6, Below.refl _ _⟩
        have hc6 := own_below hown5 hb6'
        have HCb : Hid (∀ g, Value.ownBlock (.slice ao3 C.length cp3) = some g → g < w3.heap.size) := hCb
        have HW6 : Hid (Rd w2.heap.size w6 ao2 SL.length cp2 (Ss SL)) := HW5.out.later (hb6'.mono (by omega))
        have HR6 : Hid (RdLL w2.heap.size w6 ao1 R.length cp1 R) := HR5.out.later (hb6'.mono (by omega))
        clear hN5 hv5 hown6 hown5 HW5 HR5 hb6 hb6' hB5 hRC5 hCb
        go_wp2
        go_loopw [59] (fun i wr => ∃ j : Nat, j ≤ R.length ∧ i = .int .i64 j ∧ InvO w3.heap.size w4.heap.size w5.heap.size w6 (.slice aoM R.length cpM) (.slice ao6 C.length cp6) R.length C.length vs R C wr) (fun i _ => R.length - (intOf i).toNat)
        case atStart => exact ⟨0, Nat.zero_le _, rfl, hI6⟩
        case round =>
          obtain ⟨j, hj, rfl, hI⟩ := hrel
          by_cases hlt : j < R.length
          · obtain ⟨gm, cm, hform⟩ := Go.Joins.ownsRow_form hI.2.1 (by omega)
            cases hform
            obtain ⟨r, hr⟩ : ∃ r, R[j]? = some r := ⟨R[j], List.getElem?_eq_getElem _⟩
            obtain ⟨v, hv⟩ : ∃ v, vs[j]? = some v := ⟨vs[j]'(by omega), List.getElem?_eq_getElem _⟩
            obtain ⟨aj, cj, _, rfl, _, _, hgT⟩ := hI.1 j v r hv hr
            have HRj : Hid (R[j]? = some r) := hr
            have HVj : Hid (vs[j]? = some (.slice aj r.length cj)) := hv
            have HgT : Hid (∀ g, Value.ownBlock (.slice aj r.length cj) = some g → g < w4.heap.size) := hgT
            have hcM : wr.cell? ⟨gm, j, none⟩ = some (.slice aj r.length cj) := (hI.2.1.cellAt j (by omega)).trans hv
            have hr200 : r.length ≤ 200 := HR2.out r (List.mem_of_getElem? hr)
            clear hr hv hgT
            go_wp2
            obtain ⟨wo, rfl⟩ : ∃ wo : World, wo = wr := ⟨_, rfl⟩
            go_loopw [67] (fun i wr => ∃ t : Nat, t ≤ r.length ∧ i = .int .i64 t ∧ InvO w3.heap.size w4.heap.size w5.heap.size w6 (.slice (some ⟨gm, 0, none⟩) R.length cpM) (.slice ao6 C.length cp6) R.length C.length vs R C wr) (fun i _ => r.length - (intOf i).toNat)
            case atStart => exact ⟨0, Nat.zero_le _, rfl, hI⟩
            case round =>
              obtain ⟨t, ht, rfl, hI2⟩ := hrel
              clear hI hcM
              by_cases htl : t < r.length
              · have hcM : wr.cell? ⟨gm, j, none⟩ = some (.slice aj r.length cj) := (hI2.2.1.cellAt j (by omega)).trans HVj.out
                obtain ⟨a', c', l', e1, hl', hown, _⟩ := hI2.1 j _ r HVj.out HRj.out
                obtain ⟨g, cg, hform⟩ := Go.Joins.ownsRow_form hown (by omega)
                cases hform
                obtain ⟨x, hx⟩ : ∃ x, l'[t]? = some x := ⟨l'[t]'(by omega), List.getElem?_eq_getElem _⟩
                have hcx : wr.cell? ⟨g, t, none⟩ = some (.int .u8 x.toNat) := (hown.cellAt t (by omega)).trans (by simp [Bs, hx])
                have hfx := hown.frozenAt t
                have hlt' := hown.lt g rfl
                have HI3 : Hid (InvO w3.heap.size w4.heap.size w5.heap.size w6 (.slice (some ⟨gm, 0, none⟩) R.length cpM) (.slice ao6 C.length cp6) R.length C.length vs R C (wr.setCell ⟨g, t, none⟩ (.int .u8 ((x + 1).toNat : Int)))) :=
                  hI2.store (by omega) g t (x + 1) hlt'.1 (HgT.out g rfl) (by omega) (own_block_at hown)
                have HU : Hid (((x.toNat : Int) + 1) % 256 = ((x + 1).toNat : Int)) := u8_inc x
                have hx256 := UInt8.toNat_lt x
                clear e1 hl' hown hx hlt' hI2
                go_wp2
                go_roundw
                case rel =>
                  refine ⟨t + 1, by omega, by go_num, ?_⟩
                  rw [HU.out]
                  exact HI3.out
                case measure => simp [intOf]; omega
              · obtain ⟨b1, o1, rfl, hb1, hc1⟩ := HR6.out.at (by omega)
                obtain ⟨a3, p3, hd3, hR3⟩ := hc1 j r HRj.out
                obtain ⟨b2, o2, rfl, hb2, hc2⟩ := HW6.out.atSome (by rw [HSLl.out]; omega)
                have hbW : Below w2.heap.size w6 wr := hI2.2.2.2.mono hsz3
                have hcA : wr.cell? ⟨b1, o1 + j, none⟩ = some (.slice a3 r.length p3) := (hbW.cell (p := ⟨b1, o1 + j, none⟩) hb1).trans hd3
                have hcB : wr.cell? ⟨b2, o2 + j, none⟩ = some (.string (str r)) := (hbW.cell (p := ⟨b2, o2 + j, none⟩) hb2).trans (hc2 j _ (by rw [← HSL.out]; simp [Ss, HRj.out]))
                have hs3 := run_str _ _ _ _ _ (hR3.later hbW).drew
                have hm2 : (j : Int) < (R.length : Int) := by omega
                have hm3 : (j : Int) < (SL.length : Int) := by rw [HSLl.out]; omega
                have HI3 : Hid (InvO w3.heap.size w4.heap.size w5.heap.size w6 (.slice (some ⟨gm, 0, none⟩) R.length cpM) (.slice ao6 C.length cp6) R.length C.length vs R C wr.drew) := hI2.below (by omega) (Below.refl _ _).drew
                clear hc1 hc2 hd3 hR3 hI2 hbW
                go_wp2_with fail
                go_region
                all_goals
                  go_wp2
                  go_roundw
                  case rel => exact ⟨j + 1, by omega, by go_num, HI3.out⟩
                  case measure => simp [intOf]; omega
          · obtain ⟨w7, rfl⟩ : ∃ w7 : World, w7 = wr := ⟨_, rfl⟩
            have hc7 := own_belowB hc6 HCb.out hI.2.2.2
            have hsC := run_str _ _ _ _ _ (ownsRow.rd hc7)
            have hsD := run_str _ _ _ _ _ (ownsRow.rd hI.2.2.1)
            have hbW : Below w2.heap.size w6 w7 := hI.2.2.2.mono hsz3
            have HW7 : Hid (Rd w2.heap.size w7 ao2 SL.length cp2 (Ss SL)) := HW6.out.later hbW
            have HR7 : Hid (RdLL w2.heap.size w7 ao1 R.length cp1 R) := HR6.out.later hbW
            have hB7 : Below w.heap.size w w7 := hB6.trans (hbW.mono hB2.size)
            have hsz7 := hbW.size
            clear hI hI6 hc6 HW6 HR6 hbW
            go_wp2
            go_loopw [98] (fun i wr => ∃ (t : Nat) (C' : List UInt8), t ≤ C.length ∧ i = .int .i64 t ∧ C'.length = C.length ∧ wr.ownsRow w2.heap.size 5 1 (.slice ao3 C.length cp3) C.length (Bs C') ∧ Below w2.heap.size w7 wr) (fun i _ => C.length - (intOf i).toNat)
            case atStart => exact ⟨0, C, Nat.zero_le _, rfl, rfl, hc7, Below.refl _ _⟩
            case round =>
              obtain ⟨t, C', ht, rfl, hC', hown, hbel⟩ := hrel
              clear hc7 hsC hsD
              by_cases htl : t < C.length
              · obtain ⟨g, cg, hform⟩ := Go.Joins.ownsRow_form hown (by omega)
                cases hform
                obtain ⟨x, hx⟩ : ∃ x, C'[t]? = some x := ⟨C'[t]'(by omega), List.getElem?_eq_getElem _⟩
                have hcx : wr.cell? ⟨g, t, none⟩ = some (.int .u8 x.toNat) := (hown.cellAt t (by omega)).trans (by simp [Bs, hx])
                have hfx := hown.frozenAt t
                have hst := hown.stored t (.int .u8 ((x + 1).toNat : Int))
                rw [Bs_set] at hst
                have HO : Hid ((wr.setCell ⟨g, t, none⟩ (.int .u8 ((x + 1).toNat : Int))).ownsRow w2.heap.size 5 1 (.slice (some ⟨g, 0, none⟩) C.length cp3) C.length (Bs (C'.set t (x + 1)))) := hst.1
                have HBl : Hid (Below w2.heap.size w7 (wr.setCell ⟨g, t, none⟩ (.int .u8 ((x + 1).toNat : Int)))) := hbel.grown hst.2 (by have := hbel.size; omega) (fun k hk => by cases hk; exact (hown.lt g rfl).1)
                have HU : Hid (((x.toNat : Int) + 1) % 256 = ((x + 1).toNat : Int)) := u8_inc x
                have hx256 := UInt8.toNat_lt x
                have HL' : Hid ((C'.set t (x + 1)).length = C.length) := by show _ = _; rw [List.length_set]; exact hC'
                clear hst hown hx hC'
                go_wp2
                go_roundw
                case rel =>
                  refine ⟨t + 1, C'.set t (x + 1), by omega, by go_num, HL'.out, ?_, ?_⟩
                  · rw [HU.out]; exact HO.out
                  · rw [HU.out]; exact HBl.out
                case measure => simp [intOf]; omega
              · obtain ⟨w8, rfl⟩ : ∃ w8 : World, w8 = wr := ⟨_, rfl⟩
                have HW8 : Hid (Rd w2.heap.size w8 ao2 SL.length cp2 (Ss SL)) := HW7.out.later hbel
                have HR8 : Hid (RdLL w2.heap.size w8 ao1 R.length cp1 R) := HR7.out.later hbel
                have hB8 : Below w.heap.size w w8 := hB7.trans (hbel.mono hB2.size)
                have hsz8 := hbel.size
                clear hown hbel HW7 HR7 hB7 hC'
                go_wp2
                go_loopw [110] (fun i wr => ∃ j : Nat, j ≤ R.length ∧ i = .int .i64 j ∧ Below w8.heap.size w8 wr) (fun i _ => R.length - (intOf i).toNat)
                case atStart => exact ⟨0, Nat.zero_le _, rfl, Below.refl _ _⟩
                case round =>
                  obtain ⟨j, hj, rfl, hbel⟩ := hrel
                  by_cases hjl : j < R.length
                  · obtain ⟨b1, o1, rfl, hb1, hc1⟩ := (HR8.out.mono (B' := w8.heap.size) (by omega)).at (by omega)
                    obtain ⟨r, hr⟩ : ∃ r, R[j]? = some r := ⟨R[j], List.getElem?_eq_getElem _⟩
                    obtain ⟨a3, p3, hd3, hR3⟩ := hc1 j r hr
                    obtain ⟨b2, o2, rfl, hb2, hc2⟩ := (HW8.out.mono (B' := w8.heap.size) (by omega)).atSome (by rw [HSLl.out]; omega)
                    have hcA : wr.cell? ⟨b1, o1 + j, none⟩ = some (.slice a3 r.length p3) := (hbel.cell (p := ⟨b1, o1 + j, none⟩) hb1).trans hd3
                    have hcB : wr.cell? ⟨b2, o2 + j, none⟩ = some (.string (str r)) := (hbel.cell (p := ⟨b2, o2 + j, none⟩) hb2).trans (hc2 j _ (by rw [← HSL.out]; simp [Ss, hr]))
                    have hs3 := run_str _ _ _ _ _ (hR3.later hbel).drew
                    have hm2 : (j : Int) < (R.length : Int) := by omega
                    have hm3 : (j : Int) < (SL.length : Int) := by rw [HSLl.out]; omega
                    have hbel2 := hbel.drew
                    clear hc1 hc2 hd3 hR3 hr
                    go_wp2_with fail
                    go_region
                    all_goals
                      go_wp2
                      go_roundw
                      case rel => exact ⟨j + 1, by omega, by go_num, hbel2⟩
                      case measure => simp [intOf]; omega
                  · have hB9 := bel_call hB8 hbel
                    go_wp2
                    go_ret
                    exact ⟨rfl, hB9⟩
end Go.Proofs.Ytnmpagnibhaocaa
