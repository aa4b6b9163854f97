/- DiskApart: the walk -/
import Derived.Test.YtlbjkeijakefcaaDK
import Derived.Test.YtlbjkeijakefcaaDP
import Derived.Test.YtlbjkeijakefcaaOW
import Derived.Deep.DeepCutAuto
import Derived.Deep.CutBlock
namespace Go.Proofs.Ytlbjkeijakefcaa
open Go.RowKit

set_option maxRecDepth 100000 in
set_option maxHeartbeats 4000000 in
theorem diskApart_walk (ao : Option Addr) (n cap : Nat) (l : List (List UInt8)) (ao2 : Option Addr) (n2 cap2 : Nat) (l2 : List (List UInt8)) (keep : Int) (w : World)
    (h : RdLL w.heap.size w ao n cap l) (h2 : RdLL w.heap.size w ao2 n2 cap2 l2) :
    Calls Try.prog 6 #[.slice ao n cap, .slice ao2 n2 cap2, .int .i64 keep] w fun e w' => e = .returned (.bool true) ∧ Below w.heap.size w w' := by
  obtain ⟨R, hR⟩ : ∃ R, someS l = R := ⟨_, rfl⟩
  have HS : Hid (someS l = R) := hR
  have hR6 : R.length ≤ 6 := by rw [← hR]; exact someS_len l
  have HRC : Hid ((cat R).length ≤ 360) := by show _ ≤ _; rw [← hR]; exact someS_cat l
  have HRL : Hid (∀ r ∈ R, r.length ≤ 60) := by show ∀ r ∈ R, _; rw [← hR]; exact someS_le l
  obtain ⟨T, hT⟩ : ∃ T, someS l2 = T := ⟨_, rfl⟩
  have HT : Hid (someS l2 = T) := hT
  have HTC : Hid ((cat T).length ≤ 360) := by show _ ≤ _; rw [← hT]; exact someS_cat l2
  have HH : Hid (RdLL w.heap.size w ao n cap l) := h
  have HH2 : Hid (RdLL w.heap.size w ao2 n2 cap2 l2) := h2
  clear hR hT h h2
  go_enter Try.func6, Try.ntmps6
  go_wp2_with fail
  refine (New_any w).mono ?_
  rintro e w1 ⟨rfl, hw1⟩
  have hD1 : DiskAt 45 (fun k => k = w.heap.size) w1 w.heap.size [] 0 := by rw [hw1]; exact DiskAt.made _ w
  have hs1 : w1.heap.size = w.heap.size + 1 := by rw [hw1]; simp
  have hB1 : Below w.heap.size w w1 := by rw [hw1]; exact (Below.refl _ _).alloc (Nat.le_refl _) _
  clear hw1
  go_wp2_with fail
  refine (New_any w1).mono ?_
  rintro e w2 ⟨rfl, hw2⟩
  have hE2 : DiskAt 45 (fun k => k = w1.heap.size) w2 w1.heap.size [] 0 := by rw [hw2]; exact DiskAt.made _ w1
  have hs2 : w2.heap.size = w1.heap.size + 1 := by rw [hw2]; simp
  have hb2 : Below w1.heap.size w1 w2 := by rw [hw2]; exact (Below.refl _ _).alloc (Nat.le_refl _) _
  have hB2 := bel_call hB1 hb2
  have hD2 := hD1.below hb2
  clear hw2 hb2 hB1 hD1
  have HS1 : Hid (w1.heap.size = w.heap.size + 1) := hs1
  have HS2 : Hid (w2.heap.size = w.heap.size + 2) := by show _ = _; omega
  clear hs1 hs2
  go_wp2_with fail
  refine (known_any w2).mono ?_
  rintro e w3 ⟨rfl, hb3⟩
  have hB3 := bel_call hB2 hb3
  have hD3 := hD2.below hb3
  have hE3 := hE2.below hb3
  have HS3 : Hid (w.heap.size + 2 ≤ w3.heap.size) := by show _ ≤ _; rw [← HS2.out]; exact hb3.size
  clear hb3 hB2 hD2 hE2 HS2
  go_wp2_with fail
  refine (some_any _ _ _ l w3 ((HH.out.later hB3).mono hB3.size) HS.out).mono ?_
  rintro e w4 ⟨ao4, cp4, rfl, hown4, hb4⟩
  have hB4 := bel_call hB3 hb4
  have hD4 := hD3.below hb4
  have hE4 := hE3.below hb4
  have HS4 : Hid (w3.heap.size ≤ w4.heap.size) := hb4.size
  clear hb4 hB3 hD3 hE3
  go_wp2_with fail
  refine (Append_any _ _ _ _ _ _ R w4 hD4 (A := fun i => w3.heap.size ≤ i ∧ i < w4.heap.size) (hown4.rdP fun i h1 h2 => ⟨h1, h2⟩) (fun i hi e => by have := HS3.out; omega)).mono ?_
  rintro e w5 ⟨rfl, Sd, hD5, hS5⟩
  rw [show fitsB [] R = true from decide_eq_true (by have := HRC.out; simp; omega), if_pos rfl, List.nil_append] at hD5
  have hE5 := hE4.only hS5.1 (fun i hi e => by have := HS1.out; omega)
  have HSd : Hid (∀ k, Sd k → (k = w.heap.size ∨ w4.heap.size ≤ k) ∧ k < w5.heap.size) := hS5.2
  have HS5 : Hid (w4.heap.size ≤ w5.heap.size) := hS5.1.size
  have hB5 := hB4.trans (hS5.1.below (fun i hi => by omega) hB4.size)
  obtain ⟨vs, hv4, hL4⟩ := hown4
  have hI5 : InvW w3.heap.size w4.heap.size w5 (.slice ao4 R.length cp4) R.length vs R w5 :=
    ⟨hL4.ownN.only hS5.1 (fun i h1 h2 e => by have := HS3.out; omega), own_only hv4 hS5.1 (fun g hg e => by have := (hv4.lt g hg).1; have := HS3.out; omega), Only.refl _ _⟩
  have HVL : Hid (vs.length = R.length) := hL4.1
  obtain ⟨L, hL⟩ : ∃ L, cat R = L := ⟨_, rfl⟩
  rw [hL] at hD5 HRC
  clear hS5 hD4 hE4 hB4 hv4 hL4 hL
  go_wp2_with fail
  refine (Bytes_any _ _ _ _ hD5).mono ?_
  rintro e w6 ⟨ao6, cp6, rfl, hown6, hb6⟩
  have hst := run_str _ _ _ _ _ (ownsRow.rd hown6)
  have hD6 := hD5.below hb6
  have hE6 := hE5.below hb6
  have hB6 := bel_call hB5 hb6
  have hI6 : InvW w3.heap.size w4.heap.size w6 (.slice ao4 R.length cp4) R.length vs R w6 := by
    have ho := Only.of_below (fun _ => False) hb6
    exact ⟨hI5.1.only ho (fun _ _ _ => id), own_only hI5.2.1 ho (fun _ _ => id), Only.refl _ _⟩
  have HS6 : Hid (w5.heap.size ≤ w6.heap.size) := hb6.size
  clear hD5 hE5 hB5 hI5 hown6 hb6
  go_wp2
  go_loopw [38] (fun i wr => ∃ j : Nat, j ≤ R.length ∧ i = .int .i64 j ∧ InvW w3.heap.size w4.heap.size w6 (.slice ao4 R.length cp4) R.length vs R wr) (fun i _ => R.length - (intOf i).toNat)
  case atStart => exact ⟨0, Nat.zero_le _, rfl, hI6⟩
  case round =>
    clear hst hI6
    obtain ⟨j, hj, rfl, hI⟩ := hrel
    by_cases hlt : j < R.length
    · obtain ⟨gm, cm, hform⟩ := Go.Joins.ownsRow_form hI.2.1 (by omega)
      cases hform
      obtain ⟨r, hr⟩ : ∃ r, R[j]? = some r := ⟨R[j], List.getElem?_eq_getElem _⟩
      obtain ⟨v, hv⟩ : ∃ v, vs[j]? = some v := ⟨vs[j]'(by rw [HVL.out]; exact hlt), List.getElem?_eq_getElem _⟩
      obtain ⟨aj, cj, _, rfl, _, _, hgT⟩ := hI.1 j v r hv hr
      have HRj : Hid (R[j]? = some r) := hr
      have HVj : Hid (vs[j]? = some (.slice aj r.length cj)) := hv
      have HgT : Hid (∀ g, Value.ownBlock (.slice aj r.length cj) = some g → g < w4.heap.size) := hgT
      have hcM : wr.cell? ⟨gm, j, none⟩ = some (.slice aj r.length cj) := (hI.2.1.cellAt j (by omega)).trans hv
      have hr60 : r.length ≤ 60 := HRL.out r (List.mem_of_getElem? hr)
      clear hr hv hgT
      go_wp2
      obtain ⟨wo, rfl⟩ : ∃ wo : World, wo = wr := ⟨_, rfl⟩
      go_loopw [44] (fun i wr => ∃ t : Nat, t ≤ r.length ∧ i = .int .i64 t ∧ InvW w3.heap.size w4.heap.size w6 (.slice (some ⟨gm, 0, none⟩) R.length cp4) R.length vs R wr) (fun i _ => r.length - (intOf i).toNat)
      case atStart => exact ⟨0, Nat.zero_le _, rfl, hI⟩
      case round =>
        obtain ⟨t, ht, rfl, hI2⟩ := hrel
        clear hI hcM
        by_cases htl : t < r.length
        · obtain ⟨a', c', l', e1, hl', hown, _⟩ := hI2.1 j _ r HVj.out HRj.out
          obtain ⟨g, cg, hform⟩ := Go.Joins.ownsRow_form hown (by omega)
          cases hform
          obtain ⟨x, hx⟩ : ∃ x, l'[t]? = some x := ⟨l'[t]'(by omega), List.getElem?_eq_getElem _⟩
          have hcx : wr.cell? ⟨g, t, none⟩ = some (.int .u8 x.toNat) := (hown.cellAt t (by omega)).trans (by simp [Bs, hx])
          have hfx := hown.frozenAt t
          have hlt' := hown.lt g rfl
          have HI3 : Hid (InvW w3.heap.size w4.heap.size w6 (.slice (some ⟨gm, 0, none⟩) R.length cp4) R.length vs R (wr.setCell ⟨g, t, none⟩ (.int .u8 ((x + 1).toNat : Int)))) :=
            hI2.store g t (x + 1) hlt'.1 (HgT.out g rfl) (own_block_at hown)
          have HU : Hid (((x.toNat : Int) + 1) % 256 = ((x + 1).toNat : Int)) := u8_inc x
          have hx256 := UInt8.toNat_lt x
          clear e1 hl' hown hx hlt' hI2
          go_wp2
          go_roundw
          case rel =>
            refine ⟨t + 1, by omega, by go_num, ?_⟩
            rw [HU.out]
            exact HI3.out
          case measure => simp [intOf]; omega
        · go_wp2
          go_roundw
          case rel => exact ⟨j + 1, by omega, by go_num, hI2⟩
          case measure => simp [intOf]; omega
    · obtain ⟨w7, rfl⟩ : ∃ w7 : World, w7 = wr := ⟨_, rfl⟩
      have hO7 := hI.2.2
      have hD7 := hD6.only hO7 (fun i hi e => by have := HSd.out i hi; have := HS3.out; omega)
      have hE7 := hE6.only hO7 (fun i hi e => by have := HS1.out; have := HS3.out; omega)
      have hB7 := hB6.trans (hO7.below (fun i hi => by have := HS3.out; omega) hB6.size)
      have HS7 : Hid (w5.heap.size ≤ w7.heap.size) := Nat.le_trans HS6.out hO7.size
      clear hI hO7 hD6 hE6 hB6
      go_wp2_with fail
      refine (some_any _ _ _ l2 w7 ((HH2.out.later hB7).mono hB7.size) HT.out).mono ?_
      rintro e w8 ⟨ao8, cp8, rfl, hown8, hb8⟩
      have hB8 := bel_call hB7 hb8
      have hD8 := hD7.below hb8
      have hE8 := hE7.below hb8
      have HS8 : Hid (w7.heap.size ≤ w8.heap.size) := hb8.size
      clear hb8 hB7 hD7 hE7
      go_wp2_with fail
      refine (Append_any _ _ _ _ _ _ T w8 hE8 (A := fun i => w7.heap.size ≤ i ∧ i < w8.heap.size) (hown8.rdP fun i h1 h2 => ⟨h1, h2⟩) (fun i hi e => by have := HS1.out; have := HS3.out; have := HS4.out; have := HS5.out; have := HS7.out; omega)).mono ?_
      rintro e w9 ⟨rfl, Se, hE9, hS9⟩
      have hD9 := hD8.only hS9.1 (fun i hi e => by have := HSd.out i hi; have := HS1.out; have := HS3.out; have := HS4.out; omega)
      have HSe : Hid (∀ k, Se k → (k = w1.heap.size ∨ w8.heap.size ≤ k) ∧ k < w9.heap.size) := hS9.2
      have hB9 := hB8.trans (hS9.1.below (fun i hi => by have := HS1.out; omega) hB8.size)
      have HS9 : Hid (w8.heap.size ≤ w9.heap.size) := hS9.1.size
      generalize (if fitsB [] T = true then [] ++ cat T else []) = M at hE9
      clear hS9 hB8 hD8 hE8 hown8
      have HDE : Hid (∀ i, Sd i → ¬ Se i) := by intro i h1 h2; have := HSd.out i h1; have := HSe.out i h2; have := HS1.out; have := HS3.out; have := HS4.out; have := HS7.out; have := HS8.out; omega
      have HSeG : Hid (∀ i, Se i → w.heap.size ≤ i) := by intro i h2; have := HSe.out i h2; have := HS1.out; have := HS3.out; have := HS4.out; have := HS5.out; have := HS7.out; have := HS8.out; omega
      go_wp2_with fail
      refine (Sync_any _ _ _ _ hE9).mono ?_
      rintro e w10 ⟨rfl, hE10, hO10⟩
      have hD10 := hD9.only hO10 HDE.out
      have hB10 := hB9.trans (hO10.below HSeG.out hB9.size)
      have HS10 : Hid (w9.heap.size ≤ w10.heap.size) := hO10.size
      clear hE9 hD9 hB9 hO10
      go_wp2_with (go_at_call 16; refine (Pick_any _ _ _ (by omega) (by omega)).mono ?_; rintro e wq ⟨rfl, hwq⟩; subst wq)
      refine (Crash_any _ _ _ _ _ hE10).mono ?_
      rintro e w11 ⟨rfl, hE11, hO11⟩
      have hz : kept (pick keep 50) (M.length - M.length) = 0 := by have := kept_le (pick keep 50) (M.length - M.length); omega
      rw [hz, Nat.add_zero, List.take_length] at hE11
      have hD11 := hD10.only hO11 HDE.out
      have hB11 := hB10.trans (hO11.below HSeG.out hB10.size)
      have HS11 : Hid (w10.heap.size ≤ w11.heap.size) := hO11.size
      clear hE10 hD10 hB10 hO11 hz
      go_wp2_with fail
      refine (Bytes_any _ _ _ _ hD11).mono ?_
      rintro e w12 ⟨ao12, cp12, rfl, hown12, hb12⟩
      have hD12 := hD11.below hb12
      have hE12 := hE11.below hb12
      have hB12 := bel_call hB11 hb12
      have HS12 : Hid (w11.heap.size ≤ w12.heap.size) := hb12.size
      have hLl : L.length ≤ 360 := HRC.out
      clear hD11 hE11 hB11 hb12
      go_wp2
      go_loopw [69] (fun i wr => ∃ (t : Nat) (C' : List UInt8), t ≤ L.length ∧ i = .int .i64 t ∧ C'.length = L.length ∧ wr.ownsRow w11.heap.size 5 1 (.slice ao12 L.length cp12) L.length (Bs C') ∧ Only (fun i => w11.heap.size ≤ i) w12 wr) (fun i _ => L.length - (intOf i).toNat)
      case atStart => exact ⟨0, L, Nat.zero_le _, rfl, rfl, hown12, Only.refl _ _⟩
      case round =>
        obtain ⟨t, C', ht, rfl, hC', hown, hO⟩ := hrel
        clear hown12
        by_cases htl : t < L.length
        · obtain ⟨g, cg, hform⟩ := Go.Joins.ownsRow_form hown (by omega)
          cases hform
          obtain ⟨x, hx⟩ : ∃ x, C'[t]? = some x := ⟨C'[t]'(by omega), List.getElem?_eq_getElem _⟩
          have hcx : wr.cell? ⟨g, t, none⟩ = some (.int .u8 x.toNat) := (hown.cellAt t (by omega)).trans (by simp [Bs, hx])
          have hfx := hown.frozenAt t
          have hst := hown.stored t (.int .u8 ((x + 1).toNat : Int))
          rw [Bs_set] at hst
          have HO : Hid ((wr.setCell ⟨g, t, none⟩ (.int .u8 ((x + 1).toNat : Int))).ownsRow w11.heap.size 5 1 (.slice (some ⟨g, 0, none⟩) L.length cp12) L.length (Bs (C'.set t (x + 1)))) := hst.1
          have HBl : Hid (Only (fun i => w11.heap.size ≤ i) w12 (wr.setCell ⟨g, t, none⟩ (.int .u8 ((x + 1).toNat : Int)))) := hO.trans (Only.of_set _ _ _ (hown.lt g rfl).1)
          have HU : Hid (((x.toNat : Int) + 1) % 256 = ((x + 1).toNat : Int)) := u8_inc x
          have hx256 := UInt8.toNat_lt x
          have HL' : Hid ((C'.set t (x + 1)).length = L.length) := by show _ = _; rw [List.length_set]; exact hC'
          clear hst hown hx hC' hO
          go_wp2
          go_roundw
          case rel =>
            refine ⟨t + 1, C'.set t (x + 1), by omega, by go_num, HL'.out, ?_, ?_⟩
            · rw [HU.out]; exact HO.out
            · rw [HU.out]; exact HBl.out
          case measure => simp [intOf]; omega
        · obtain ⟨w13, rfl⟩ : ∃ w13 : World, w13 = wr := ⟨_, rfl⟩
          have hD13 := hD12.only hO (fun i hi e => by have := HSd.out i hi; have := HS7.out; have := HS8.out; have := HS9.out; have := HS10.out; have := HS11.out; omega)
          have hE13 := hE12.only hO (fun i hi e => by have := HSe.out i hi; have := HS10.out; have := HS11.out; omega)
          have hB13 := hB12.trans (hO.below (fun i hi => by have := HS3.out; have := HS4.out; have := HS5.out; have := HS7.out; have := HS8.out; have := HS9.out; have := HS10.out; have := HS11.out; omega) hB12.size)
          clear hD12 hE12 hB12 hO hown hC'
          go_wp2_with fail
          refine (Bytes_any _ _ _ _ hD13).mono ?_
          rintro e w14 ⟨ao14, cp14, rfl, hown14, hb14⟩
          have hst := run_str _ _ _ _ _ (ownsRow.rd hown14)
          have hD14 := hD13.below hb14
          have hE14 := hE13.below hb14
          have hB14 := bel_call hB13 hb14
          clear hD13 hE13 hB13 hb14 hown14
          go_wp2_with fail
          refine (Synced_any _ _ _ _ hD14).mono ?_
          rintro e wq ⟨rfl, hwq⟩
          subst wq
          go_wp2_with fail
          refine (Size_any _ _ _ _ hE14).mono ?_
          rintro e wq ⟨rfl, hwq⟩
          subst wq
          go_wp2_with fail
          refine (Synced_any _ _ _ _ hE14).mono ?_
          rintro e wq ⟨rfl, hwq⟩
          subst wq
          go_wp2
          go_ret
          exact ⟨rfl, hB14⟩
end Go.Proofs.Ytlbjkeijakefcaa
