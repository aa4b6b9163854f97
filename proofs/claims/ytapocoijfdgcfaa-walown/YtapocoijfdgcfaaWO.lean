/- WalOwn: the walk -/
import Derived.Test.YtapocoijfdgcfaaWI
import Derived.Test.YtapocoijfdgcfaaOW
import Derived.Deep.DeepCutAuto
import Derived.Deep.CutBlock
namespace Go.Proofs.Ytapocoijfdgcfaa
open Go.RowKit

set_option maxRecDepth 100000 in
set_option maxHeartbeats 4000000 in
theorem walOwn_walk (ao : Option Addr) (n cap : Nat) (a : List (List UInt8)) (w : World) (h : RdLL w.heap.size w ao n cap a) :
    Calls Try.prog 7 #[.slice ao n cap] w fun e w' => e = .returned (.bool true) ∧ Below w.heap.size w w' := by
  have HA : Hid (RdLL w.heap.size w ao n cap a) := h
  obtain ⟨X, hX⟩ : ∃ X, someS a = X := ⟨_, rfl⟩
  have HSX : Hid (someS a = X) := hX
  have hXl : X.length ≤ 5 := by rw [← hX]; exact someS_len a
  have HX60 : Hid (∀ r ∈ X, r.length ≤ 60) := by show ∀ r ∈ X, _; rw [← hX]; exact someS_le a
  obtain ⟨K, hK⟩ : ∃ K, framesF sum8 X = K := ⟨_, rfl⟩
  have hKl : K.length ≤ 385 := by rw [← hK, ← hX]; exact someS_frames a
  have HW : Hid ((framesF sum8 X).length ≤ 140737488355328) := by rw [hK]; show _ ≤ _; omega
  have HAB : Hid (addB [] X = true) := by
    show _ = _
    rw [addB, hK, ← hX, someS_ok]; exact decide_eq_true (by simp; omega)
  have HAL : Hid ((if true = true then [] ++ framesF sum8 X else []) = K) := by show _ = _; rw [if_pos rfl, hK]; rfl
  have HR : Hid (readS sum8 K = (X, K.length)) := by
    show _ = _
    rw [← hK, readS_all sum8 sum8_length X (fun r hr => Nat.le_trans (HX60.out r hr) (by omega))]
  clear h hX hK
  go_enter Try.func7, Try.ntmps7
  go_wp2_with fail
  refine (New_any w).mono ?_
  rintro e w1 ⟨rfl, hw1⟩
  have hD1 : DK (fun i => w.heap.size ≤ i) w1 w.heap.size [] 0 := by rw [hw1]; exact DK.made w
  have hB1 : Below w.heap.size w w1 := by rw [hw1]; exact (Below.refl _ _).alloc (Nat.le_refl _) _
  clear hw1
  go_wp2_with fail
  refine (Open_dk hD1 openS_nil).mono ?_
  rintro e w2 ⟨lg, rfl, hlg, N, hL2, hN, hO2⟩
  have HN : Hid (∀ i, N i → w.heap.size ≤ i) := hN
  have hB2 := hB1.trans (hO2.below (fun _ h => h) hB1.size)
  clear hD1 hB1 hO2 hN hlg
  go_wp2_with fail
  refine (known_any w2).mono ?_
  rintro e w3 ⟨rfl, hb3⟩
  have hL3 := hL2.below hb3
  have hB3 := bel_call hB2 hb3
  have hlg3 := hL3.lt
  clear hL2 hB2 hb3
  go_wp2_with fail
  refine (some_any _ _ _ a w3 ((HA.out.later hB3).mono hB3.size) HSX.out).mono ?_
  rintro e w4 ⟨ao4, cp4, rfl, hown4, hb4⟩
  have HL4 : Hid (LK (fun i => N i ∧ ¬ (w3.heap.size ≤ i ∧ i < w4.heap.size)) w4 lg w.heap.size [] 0) := hL3.shrink hb4
  have hB4 := bel_call hB3 hb4
  have hs34 := hb4.size
  have hs3 := hB3.size
  have HX4 : Hid (RdLL w4.heap.size w4 ao4 X.length cp4 X) := hown4.rd
  obtain ⟨vs, hv4, hl4⟩ := hown4
  have HV4 : Hid (w4.ownsRow w3.heap.size 28 1 (.slice ao4 X.length cp4) X.length vs) := hv4
  have HN4 : Hid (OwnN w3.heap.size w4.heap.size w4 vs X) := hl4.ownN
  have hvl : vs.length = X.length := hl4.1
  clear hL3 hB3 hb4 hv4 hl4
  go_wp2
  go_loopw [6, 33] (fun v i wr => ∃ (k : Nat) (rs : List (List UInt8)) (ao' : Option Addr) (cp' : Nat), k ≤ X.length ∧ rs.length ≤ 5 ∧ i = .int .i64 k ∧ v = .slice ao' rs.length cp' ∧ Hid (rs = X.take k) ∧
      OwnLL w4.heap.size wr v rs.length rs ∧ Below w4.heap.size w4 wr) (fun _ i _ => X.length - (intOf i).toNat)
  case atStart => exact ⟨0, [], none, 0, Nat.zero_le _, Nat.zero_le _, rfl, rfl, rfl, OwnLL.nil _ _, Below.refl _ _⟩
  case round =>
    obtain ⟨k, rs, ao5, cp5, hk, hrs, rfl, rfl, HI, hown, hbel⟩ := hrel
    have hsz := hbel.size
    by_cases hlt : k < X.length
    · obtain ⟨b, off, rfl, hbB, hcells⟩ := HX4.out.at (by omega)
      obtain ⟨r, hr⟩ : ∃ r, X[k]? = some r := ⟨X[k], List.getElem?_eq_getElem _⟩
      obtain ⟨aor, cpr, hcr, hRr⟩ := hcells k r hr
      have hc : wr.cell? ⟨b, off + k, none⟩ = some (.slice aor r.length cpr) := (hbel.cell (p := ⟨b, off + k, none⟩) hbB).trans hcr
      have HRr : Hid (Rd wr.heap.size wr aor r.length cpr (Bs r)) := (hRr.later hbel).mono (by omega)
      have HNX : Hid (rs ++ [r] = X.take (k + 1)) := by show _ = _; rw [List.take_add_one, hr, HI.out]; rfl
      have hr60 : r.length ≤ 60 := HX60.out r (List.mem_of_getElem? hr)
      have hlen : rs.length < 5 := by rw [HI.out, List.length_take]; omega
      clear hcells hcr hr hRr
      go_wp2_with fail
      refine (Few_geq _ _ _ r r.length wr HRr.out (by omega) (List.take_length)).mono ?_
      rintro e w5 ⟨ao6, cp6, rfl, hown6, hb6⟩
      obtain ⟨us, hv1, hv2⟩ := hown.below hb6
      have hbel5 : Below w4.heap.size w4 w5 := hbel.trans (hb6.mono (by omega))
      have hsz5 := hbel5.size
      have hown6' := own_mono hown6 (show w4.heap.size ≤ wr.heap.size by omega)
      clear hown6 hb6 hown
      go_wp2_with (at_builtin; refine appL rfl _ _ _ rfl _ _ _ _ rfl (hv1.alloc _) _ 1 [_] rfl (src_slice w5 ao6 r.length cp6) (by omega) (by simp; omega) ?_)
      intro ao7 cp7 w7 hown7 hg7 hb7
      have hbel7 := (hbel5.alloc (by omega) _).trans hb7
      have HO : Hid (OwnLL w4.heap.size w7 (.slice ao7 (rs.length + 1) cp7) (rs ++ [r]).length (rs ++ [r])) := by
        refine ⟨_, ?_, ((hv2.snoc hown6').alloc _).grown hg7 (hv1.alloc _)⟩
        rw [List.length_append]
        exact hown7
      clear hown7 hg7 hb7 hv1 hv2 hown6'
      go_wp2
      go_roundw
      case rel => exact ⟨k + 1, rs ++ [r], ao7, cp7, by omega, by rw [List.length_append]; simp; omega, by go_num, by simp, HNX, HO.out, hbel7⟩
      case measure => simp [intOf]; omega
    · have HW5 : Hid (rs = X) := by show _ = _; rw [HI.out, List.take_of_length_le (by omega)]
      rw [HW5.out] at hown ⊢
      obtain ⟨w5, rfl⟩ : ∃ w5 : World, w5 = wr := ⟨_, rfl⟩
      obtain ⟨N5, HL5, HN5, HD5⟩ : ∃ N5 : Nat → Prop, Hid (LK N5 w5 lg w.heap.size [] 0) ∧ Hid (∀ i, N5 i → w.heap.size ≤ i) ∧ Hid (∀ i, N5 i → ¬ (w3.heap.size ≤ i ∧ i < w5.heap.size)) :=
        ⟨_, HL4.out.shrink hbel, fun i hi => HN.out i hi.1.1, fun i hi hx => by have := hi.1.2; have := hi.2; omega⟩
      have hB5 := bel_call hB4 hbel
      have HWAS : Hid (RdLLP (fun i => w4.heap.size ≤ i ∧ i < w5.heap.size) w5 ao5 X.length cp5 X) := hown.rdP fun i h1 h2 => ⟨h1, h2⟩
      have hs5 := hbel.size
      have hN5 : OwnN w3.heap.size w4.heap.size w5 vs X := HN4.out.only (Only.of_below (fun _ => False) hbel) (fun _ _ _ => id)
      have hv5 := own_below HV4.out hbel
      have hX5 := (HX4.out.later hbel).mono hbel.size
      clear hown hbel HL4 HI HW5 hB4 HX4 HV4 HN4 HN hrs
      go_wp2_with fail
      refine (Add_lk HL5.out hX5 HW.out HAB.out HAL.out).mono ?_
      rintro e w6 ⟨rfl, hL6, hO6⟩
      have hB6 := hB5.trans (hO6.below HN5.out hB5.size)
      have hs6 := hO6.size
      have hI6 : InvW w3.heap.size w4.heap.size w6 (.slice ao4 X.length cp4) X.length vs X w6 :=
        ⟨hN5.only hO6 (fun i h1 h2 hn => HD5.out i hn ⟨h1, by omega⟩), own_only hv5 hO6 (fun g hg hn => HD5.out g hn (hv5.lt g hg)), Only.refl _ _⟩
      have HWAS6 : Hid (RdLLP (fun i => w4.heap.size ≤ i ∧ i < w5.heap.size) w6 ao5 X.length cp5 X) := HWAS.out.only hO6 (fun i hi hn => HD5.out i hn ⟨by omega, hi.2⟩)
      clear hN5 hv5 hX5 HL5 hO6 hB5 HWAS
      go_wp2
      go_loopw [50] (fun i wr => ∃ j : Nat, j ≤ X.length ∧ i = .int .i64 j ∧ InvW w3.heap.size w4.heap.size w6 (.slice ao4 X.length cp4) X.length vs X wr) (fun i _ => X.length - (intOf i).toNat)
      case atStart => exact ⟨0, Nat.zero_le _, rfl, hI6⟩
      case round =>
        obtain ⟨j, hj, rfl, hI⟩ := hrel
        by_cases hlt : j < X.length
        · obtain ⟨gm, cm, hform⟩ := Go.Joins.ownsRow_form hI.2.1 (by omega)
          cases hform
          obtain ⟨r, hr⟩ : ∃ r, X[j]? = some r := ⟨X[j], List.getElem?_eq_getElem _⟩
          obtain ⟨v, hv⟩ : ∃ v, vs[j]? = some v := ⟨vs[j]'(by omega), List.getElem?_eq_getElem _⟩
          obtain ⟨aj, cj, _, rfl, _, _, hgT⟩ := hI.1 j v r hv hr
          have HRj : Hid (X[j]? = some r) := hr
          have HVj : Hid (vs[j]? = some (.slice aj r.length cj)) := hv
          have HgT : Hid (∀ g, Value.ownBlock (.slice aj r.length cj) = some g → g < w4.heap.size) := hgT
          have hcM : wr.cell? ⟨gm, j, none⟩ = some (.slice aj r.length cj) := (hI.2.1.cellAt j (by omega)).trans hv
          have hr60 : r.length ≤ 60 := HX60.out r (List.mem_of_getElem? hr)
          clear hr hv hgT
          go_wp2
          obtain ⟨wo, rfl⟩ : ∃ wo : World, wo = wr := ⟨_, rfl⟩
          go_loopw [56] (fun i wr => ∃ t : Nat, t ≤ r.length ∧ i = .int .i64 t ∧ InvW w3.heap.size w4.heap.size w6 (.slice (some ⟨gm, 0, none⟩) X.length cp4) X.length vs X wr) (fun i _ => r.length - (intOf i).toNat)
          case atStart => exact ⟨0, Nat.zero_le _, rfl, hI⟩
          case round =>
            obtain ⟨t, ht, rfl, hI2⟩ := hrel
            clear hI hcM
            by_cases htl : t < r.length
            · obtain ⟨a', c', l', e1, hl', hown, _⟩ := hI2.1 j _ r HVj.out HRj.out
              obtain ⟨g, cg, hform⟩ := Go.Joins.ownsRow_form hown (by omega)
              cases hform
              obtain ⟨x, hx⟩ : ∃ x, l'[t]? = some x := ⟨l'[t]'(by omega), List.getElem?_eq_getElem _⟩
              have hcx : wr.cell? ⟨g, t, none⟩ = some (.int .u8 x.toNat) := (hown.cellAt t (by omega)).trans (by simp [Bs, hx])
              have hfx := hown.frozenAt t
              have hlt' := hown.lt g rfl
              have HI3 : Hid (InvW w3.heap.size w4.heap.size w6 (.slice (some ⟨gm, 0, none⟩) X.length cp4) X.length vs X (wr.setCell ⟨g, t, none⟩ (.int .u8 ((x + 1).toNat : Int)))) := hI2.store g t (x + 1) hlt'.1 (HgT.out g rfl) (own_block_at hown)
              have HU : Hid (((x.toNat : Int) + 1) % 256 = ((x + 1).toNat : Int)) := u8_inc x
              have hx256 := UInt8.toNat_lt x
              clear e1 hl' hown hx hlt' hI2
              go_wp2
              go_roundw
              case rel =>
                refine ⟨t + 1, by omega, by go_num, ?_⟩
                rw [HU.out]
                exact HI3.out
              case measure => simp [intOf]; omega
            · go_wp2
              go_roundw
              case rel => exact ⟨j + 1, by omega, by go_num, hI2⟩
              case measure => simp [intOf]; omega
        · skip
          obtain ⟨w7, rfl⟩ : ∃ w7 : World, w7 = wr := ⟨_, rfl⟩
          have hO7 := hI.2.2
          have hL7 := hL6.only hO7 (fun i hn _ hx => HD5.out i hn ⟨hx.1, by omega⟩) (fun hx => by omega)
          have hB7 := hB6.trans (hO7.below (fun i hi => by omega) hB6.size)
          have HWAS7 : Hid (RdLLP (fun i => w4.heap.size ≤ i ∧ i < w5.heap.size) w7 ao5 X.length cp5 X) := HWAS6.out.only hO7 (fun i hi hx => by omega)
          have hs7 := hO7.size
          clear hI hI6 hO7 hL6 hB6 HWAS6
          go_wp2_with fail
          refine (Records_lk hL7 HR.out rfl).mono ?_
          rintro e w8 ⟨ao8, cp8, rfl, ⟨us, hv8, hl8⟩, hb8⟩
          have HL8 : Hid (LK (fun i => N5 i ∧ ¬ (w7.heap.size ≤ i ∧ i < w8.heap.size)) w8 lg w.heap.size K 0) := hL7.shrink hb8
          have hB8 := bel_call hB7 hb8
          have hs8 := hb8.size
          have HWAS8 : Hid (RdLLP (fun i => w4.heap.size ≤ i ∧ i < w5.heap.size) w8 ao5 X.length cp5 X) := HWAS7.out.below hb8
          have hI8 : InvW w7.heap.size w8.heap.size w8 (.slice ao8 X.length cp8) X.length us X w8 := ⟨hl8.ownN, hv8, Only.refl _ _⟩
          have hul : us.length = X.length := hl8.1
          clear hL7 hB7 hb8 hv8 hl8 HWAS7
          go_wp2
          go_loopw [71] (fun i wr => ∃ j : Nat, j ≤ X.length ∧ i = .int .i64 j ∧ InvW w7.heap.size w8.heap.size w8 (.slice ao8 X.length cp8) X.length us X wr) (fun i _ => X.length - (intOf i).toNat)
          case atStart => exact ⟨0, Nat.zero_le _, rfl, hI8⟩
          case round =>
            obtain ⟨j, hj, rfl, hI⟩ := hrel
            by_cases hlt : j < X.length
            · obtain ⟨gm, cm, hform⟩ := Go.Joins.ownsRow_form hI.2.1 (by omega)
              cases hform
              obtain ⟨r, hr⟩ : ∃ r, X[j]? = some r := ⟨X[j], List.getElem?_eq_getElem _⟩
              obtain ⟨v, hv⟩ : ∃ v, us[j]? = some v := ⟨us[j]'(by omega), List.getElem?_eq_getElem _⟩
              obtain ⟨aj, cj, _, rfl, _, _, hgT⟩ := hI.1 j v r hv hr
              have HRj : Hid (X[j]? = some r) := hr
              have HVj : Hid (us[j]? = some (.slice aj r.length cj)) := hv
              have HgT : Hid (∀ g, Value.ownBlock (.slice aj r.length cj) = some g → g < w8.heap.size) := hgT
              have hcM : wr.cell? ⟨gm, j, none⟩ = some (.slice aj r.length cj) := (hI.2.1.cellAt j (by omega)).trans hv
              have hr60 : r.length ≤ 60 := HX60.out r (List.mem_of_getElem? hr)
              clear hr hv hgT
              go_wp2
              obtain ⟨wo, rfl⟩ : ∃ wo : World, wo = wr := ⟨_, rfl⟩
              go_loopw [77] (fun i wr => ∃ t : Nat, t ≤ r.length ∧ i = .int .i64 t ∧ InvW w7.heap.size w8.heap.size w8 (.slice (some ⟨gm, 0, none⟩) X.length cp8) X.length us X wr) (fun i _ => r.length - (intOf i).toNat)
              case atStart => exact ⟨0, Nat.zero_le _, rfl, hI⟩
              case round =>
                obtain ⟨t, ht, rfl, hI2⟩ := hrel
                clear hI hcM
                by_cases htl : t < r.length
                · obtain ⟨a', c', l', e1, hl', hown, _⟩ := hI2.1 j _ r HVj.out HRj.out
                  obtain ⟨g, cg, hform⟩ := Go.Joins.ownsRow_form hown (by omega)
                  cases hform
                  obtain ⟨x, hx⟩ : ∃ x, l'[t]? = some x := ⟨l'[t]'(by omega), List.getElem?_eq_getElem _⟩
                  have hcx : wr.cell? ⟨g, t, none⟩ = some (.int .u8 x.toNat) := (hown.cellAt t (by omega)).trans (by simp [Bs, hx])
                  have hfx := hown.frozenAt t
                  have hlt' := hown.lt g rfl
                  have HI3 : Hid (InvW w7.heap.size w8.heap.size w8 (.slice (some ⟨gm, 0, none⟩) X.length cp8) X.length us X (wr.setCell ⟨g, t, none⟩ (.int .u8 ((x + 1).toNat : Int)))) := hI2.store g t (x + 1) hlt'.1 (HgT.out g rfl) (own_block_at hown)
                  have HU : Hid (((x.toNat : Int) + 1) % 256 = ((x + 1).toNat : Int)) := u8_inc x
                  have hx256 := UInt8.toNat_lt x
                  clear e1 hl' hown hx hlt' hI2
                  go_wp2
                  go_roundw
                  case rel =>
                    refine ⟨t + 1, by omega, by go_num, ?_⟩
                    rw [HU.out]
                    exact HI3.out
                  case measure => simp [intOf]; omega
                · go_wp2
                  go_roundw
                  case rel => exact ⟨j + 1, by omega, by go_num, hI2⟩
                  case measure => simp [intOf]; omega
            · skip
              obtain ⟨w9, rfl⟩ : ∃ w9 : World, w9 = wr := ⟨_, rfl⟩
              have hO9 := hI.2.2
              have hL9 := HL8.out.only hO9 (fun i hn _ hx => hn.2 hx) (fun hx => by omega)
              have hB9 := hB8.trans (hO9.below (fun i hi => by omega) hB8.size)
              have HWAS9 : Hid (RdLLP (fun i => w4.heap.size ≤ i ∧ i < w5.heap.size) w9 ao5 X.length cp5 X) := HWAS8.out.only hO9 (fun i hi hx => by omega)
              clear hI hI8 hO9 HL8 hB8 HWAS8
              go_wp2_with fail
              refine (Records_lk hL9 HR.out rfl).mono ?_
              rintro e w10 ⟨ao10, cp10, rfl, hown10, hb10⟩
              have hB10 := bel_call hB9 hb10
              have HWAS10 : Hid (RdLLP (fun i => w4.heap.size ≤ i ∧ i < w5.heap.size) w10 ao5 X.length cp5 X) := HWAS9.out.below hb10
              have hY10 := hown10.rd
              clear hL9 hB9 hb10 hown10 HWAS9
              go_wp2_with fail
              refine (same_any _ _ _ X _ _ _ X w10 hY10 HWAS10.out.rd rfl).mono ?_
              rintro e w11 ⟨rfl, hb11⟩
              have hB11 := bel_call hB10 hb11
              go_wp2
              go_ret
              exact ⟨rfl, hB11⟩
end Go.Proofs.Ytapocoijfdgcfaa
