/- first -/
import Derived.Test.YtjhcldccogpoaaaD
namespace Go.Proofs.Ytjhcldccogpoaaa
open Go.RowKit

/-- the number that bytes are, the lowest first -/
def val : List UInt8 → Nat
  | [] => 0
  | c :: r => c.toNat % 128 + 128 * val r
theorem val_lt (l : List UInt8) : val l < 128 ^ l.length := by
  induction l with
  | nil => simp [val]
  | cons c r ih =>
    have h := Nat.mod_lt c.toNat (show 0 < 128 by omega)
    simp only [val, List.length_cons, Nat.pow_succ]
    omega

/-- what first answers: the number, its bytes, the error -/
def firstS (l : List UInt8) : Int × Nat × Int :=
  match l.findIdx? endB with
  | none => (0, 0, 3)
  | some i => if 9 ≤ i then (0, 0, 2) else if 0 < i ∧ l[i]? = some 0 then (0, 0, 2) else if 4611686018427387903 < val (l.take (i + 1)) then (0, 0, 2) else ((val (l.take (i + 1)) : Int), i + 1, 0)

theorem firstS_none {l : List UInt8} (h : l.findIdx? endB = none) : firstS l = (0, 0, 3) := by simp [firstS, h]
theorem firstS_long {l : List UInt8} {i : Nat} (h : l.findIdx? endB = some i) (hi : 9 ≤ i) : firstS l = (0, 0, 2) := by simp [firstS, h, hi]
theorem firstS_zero {l : List UInt8} {i : Nat} (h : l.findIdx? endB = some i) (hi : ¬ 9 ≤ i) (h0 : 0 < i) (hz : l[i]? = some 0) : firstS l = (0, 0, 2) := by simp [firstS, h, hi, h0, hz]
theorem firstS_big {l : List UInt8} {i : Nat} (h : l.findIdx? endB = some i) (hi : ¬ 9 ≤ i) (hz : ¬ (0 < i ∧ l[i]? = some 0)) (hv : 4611686018427387903 < val (l.take (i + 1))) : firstS l = (0, 0, 2) := by simp only [firstS, h]; rw [if_neg hi, if_neg hz, if_pos hv]
theorem firstS_ok {l : List UInt8} {i : Nat} (h : l.findIdx? endB = some i) (hi : ¬ 9 ≤ i) (hz : ¬ (0 < i ∧ l[i]? = some 0)) (hv : ¬ 4611686018427387903 < val (l.take (i + 1))) : firstS l = ((val (l.take (i + 1)) : Int), i + 1, 0) := by simp only [firstS, h]; rw [if_neg hi, if_neg hz, if_neg hv]

/-- a triple of results -/
def trip (x : Int × Nat × Int) : Value := .tuple #[.int .i64 x.1, .int .i64 x.2.1, .int .i64 x.2.2]

theorem idxR_none' {l : List UInt8} (h : l.findIdx? endB = none) : idxR l = -1 := by simp [idxR, h]
theorem idxR_some' {l : List UInt8} {i : Nat} (h : l.findIdx? endB = some i) : idxR l = i := by simp [idxR, h]

set_option maxHeartbeats 400000 in
theorem first_none (ao : Option Addr) (n cap : Nat) (l : List UInt8) (w : World) (h : Rd w.heap.size w ao n cap (Bs l)) (hf : l.findIdx? endB = none) :
    Calls Try.prog 58 #[.slice ao n cap] w fun e w' => e = .returned (trip (firstS l)) ∧ w' = w := by
  have HF : Hid (firstS l = (0, 0, 3)) := firstS_none hf
  have hi : idxR l = -1 := idxR_none' hf
  clear hf
  go_enter Try.func58, Try.ntmps58
  go_wp2_with (go_at_call 61; refine (IndexB_any _ _ _ _ _ h).mono ?_; rintro e w ⟨rfl, rfl⟩)
  go_ret3
  rw [HF.out]
  exact ⟨rfl, rfl⟩

set_option maxHeartbeats 400000 in
theorem first_long (ao : Option Addr) (n cap : Nat) (l : List UInt8) (w : World) (h : Rd w.heap.size w ao n cap (Bs l)) (i : Nat) (hf : l.findIdx? endB = some i) (h9 : 9 ≤ i) :
    Calls Try.prog 58 #[.slice ao n cap] w fun e w' => e = .returned (trip (firstS l)) ∧ w' = w := by
  have hcm : n ≤ maxLen := Nat.le_trans h.2.1 h.2.2.1
  unfold maxLen at hcm
  have HF : Hid (firstS l = (0, 0, 2)) := firstS_long hf h9
  have hi : idxR l = i := idxR_some' hf
  have hlt : i < n := by
    have h1 := (List.findIdx?_eq_some_iff_getElem.1 hf).1
    have h2 := h.1
    rw [Bs_length] at h2
    omega
  clear hf
  go_enter Try.func58, Try.ntmps58
  go_wp2_with (go_at_call 61; refine (IndexB_any _ _ _ _ _ h).mono ?_; rintro e w ⟨rfl, rfl⟩)
  go_ret3
  rw [HF.out]
  exact ⟨rfl, rfl⟩

set_option maxHeartbeats 400000 in
theorem first_zero (b off n cap : Nat) (l : List UInt8) (w : World) (h : Rd w.heap.size w (some ⟨b, off, none⟩) n cap (Bs l)) (i : Nat) (hf : l.findIdx? endB = some i) (h9 : ¬ 9 ≤ i) (h0 : 0 < i) (hz : l[i]? = some 0)
    (hc : w.cell? ⟨b, off + i, none⟩ = some (.int .u8 0)) :
    Calls Try.prog 58 #[.slice (some ⟨b, off, none⟩) n cap] w fun e w' => e = .returned (trip (firstS l)) ∧ w' = w := by
  have HF : Hid (firstS l = (0, 0, 2)) := firstS_zero hf h9 h0 hz
  have hi : idxR l = i := idxR_some' hf
  have hlt : i < n := by
    have h1 := (List.findIdx?_eq_some_iff_getElem.1 hf).1
    have h2 := h.1
    rw [Bs_length] at h2
    omega
  clear hf hz
  go_enter Try.func58, Try.ntmps58
  go_wp2_with (go_at_call 61; refine (IndexB_any _ _ _ _ _ h).mono ?_; rintro e w ⟨rfl, rfl⟩)
  go_ret3
  rw [HF.out]
  exact ⟨rfl, rfl⟩

theorem val_step {l : List UInt8} {i t : Nat} {c : UInt8} (hc : l[t]? = some c) (ht : t ≤ i) : val ((l.take (i + 1)).drop t) = c.toNat % 128 + 128 * val ((l.take (i + 1)).drop (t + 1)) := by
  have h1 : (l.take (i + 1))[t]? = some c := by rw [List.getElem?_take, if_pos (by omega)]; exact hc
  obtain ⟨h2, h3⟩ := List.getElem?_eq_some_iff.1 h1
  rw [List.drop_eq_getElem_cons h2, h3]
  rfl
theorem val_bound {l : List UInt8} {i t : Nat} (h9 : i < 9) : val ((l.take (i + 1)).drop (t + 1)) ≤ 72057594037927935 := by
  have h1 := val_lt ((l.take (i + 1)).drop (t + 1))
  have h2 : ((l.take (i + 1)).drop (t + 1)).length ≤ 8 := by simp; omega
  have h3 : 128 ^ ((l.take (i + 1)).drop (t + 1)).length ≤ 128 ^ 8 := Nat.pow_le_pow_right (by omega) h2
  omega

theorem i64_or_nat (a b : Nat) (ha : a < 9223372036854775808) (hb : b < 9223372036854775808) : bits .or .i64 (a : Int) (b : Int) = ((a ||| b : Nat) : Int) := by
  have key : (BitVec.ofInt 64 a ||| BitVec.ofInt 64 b).toNat = (a ||| b) := by
    rw [BitVec.toNat_or, BitVec.toNat_ofInt, BitVec.toNat_ofInt]
    congr 1 <;> omega
  show IntKind.i64.wrap ((BitVec.ofInt 64 a ||| BitVec.ofInt 64 b).toNat : Nat) = _
  have hlt : (a ||| b) < 2 ^ 63 := Nat.or_lt_two_pow (by omega) (by omega)
  rw [key, IntKind.wrap_i64]
  omega
theorem u8_and127 (c : Nat) (h : c < 256) : bits .and .u8 (c : Int) 127 = ((c % 128 : Nat) : Int) := by
  have := u8_and_nat c 127 h (by omega)
  rw [show (127 : Nat) = 2 ^ 7 - 1 from rfl, Nat.and_two_pow_sub_one_eq_mod] at this
  exact this
theorem or_step (V : Nat) (x : UInt8) (h : V ≤ 72057594037927935) : bits .or .i64 (↑V * 128) (wrap64 (bits .and .u8 (↑x.toNat) 127)) = ((x.toNat % 128 + 128 * V : Nat) : Int) := by
  have hx : x.toNat < 256 := UInt8.toNat_lt x
  rw [u8_and127 _ hx]
  have hw : wrap64 ((x.toNat % 128 : Nat) : Int) = ((x.toNat % 128 : Nat) : Int) := by unfold wrap64; omega
  rw [hw, show (↑V * 128 : Int) = ((2 ^ 7 * V : Nat) : Int) from by omega, i64_or_nat _ _ (by omega) (by omega)]
  rw [← Nat.two_pow_add_eq_or_of_lt (show x.toNat % 128 < 2 ^ 7 by omega)]
  omega

/-- slots of first's loop: the place t, and what is behind it -/
def FR (l : List UInt8) (i : Nat) (n k : Value) : Prop :=
  (∃ t V : Nat, t ≤ i ∧ k = .int .i64 t ∧ n = .int .i64 V ∧ V = val ((l.take (i + 1)).drop (t + 1))) ∨ (k = .int .i64 (-1) ∧ n = .int .i64 (val (l.take (i + 1))))

set_option maxHeartbeats 400000 in
theorem first_loop (b off n cap : Nat) (l : List UInt8) (w : World) (h : Rd w.heap.size w (some ⟨b, off, none⟩) n cap (Bs l)) (i : Nat) (c : UInt8) (hf : l.findIdx? endB = some i) (h9 : i < 9) (hz : l[i]? = some c)
    (hcz : i < 1 ∨ (0 < i ∧ c ≠ 0)) (hcells : ∀ j u, (Bs l)[j]? = some u → w.cell? ⟨b, off + j, none⟩ = some u) :
    Calls Try.prog 58 #[.slice (some ⟨b, off, none⟩) n cap] w fun e w' => e = .returned (trip (firstS l)) ∧ w' = w := by
  have hi : idxR l = i := idxR_some' hf
  have hlt : i < n := by
    have h1 := (List.findIdx?_eq_some_iff_getElem.1 hf).1
    have h2 := h.1
    rw [Bs_length] at h2
    omega
  have HLL : Hid (l.length = n) := by have h2 := h.1; rwa [Bs_length] at h2
  have hcl : w.cell? ⟨b, off + i, none⟩ = some (.int .u8 c.toNat) := hcells i _ (by simp [Bs, hz])
  have HC : Hid (∀ j u, (Bs l)[j]? = some u → w.cell? ⟨b, off + j, none⟩ = some u) := hcells
  have HFI : Hid (l.findIdx? endB = some i) := hf
  have HZ : Hid (l[i]? = some c) := hz
  have HCZ : Hid (i < 1 ∨ (0 < i ∧ c ≠ 0)) := hcz
  clear hf hz hcells
  rcases hcz with h1 | ⟨h0, hc0⟩
  case' inl =>
    go_enter Try.func58, Try.ntmps58
    go_wp2_with (go_at_call 61; refine (IndexB_any _ _ _ _ _ h).mono ?_; rintro e w ⟨rfl, rfl⟩)
  case' inr =>
    have hcb : ((c.toNat : Int) == 0) = false := by
      rw [beq_eq_false_iff_ne]
      intro h
      apply hc0
      apply UInt8.toNat_inj.1
      simpa using h
    clear hc0
    go_enter Try.func58, Try.ntmps58
    go_wp2_with (go_at_call 61; refine (IndexB_any _ _ _ _ _ h).mono ?_; rintro e w ⟨rfl, rfl⟩)
  all_goals
    go_loop [2, 5] (fun n k => FR l i n k) (fun _ k => (intOf k + 1).toNat)
    case atStart =>
      refine .inl ⟨i, 0, Nat.le_refl _, rfl, rfl, ?_⟩
      rw [List.drop_eq_nil_of_le (by simp; omega)]; rfl
    case round =>
      rcases hrel with ⟨t, V, ht, rfl, rfl, hV⟩ | ⟨rfl, rfl⟩
      · have HV : Hid (V = val ((l.take (i + 1)).drop (t + 1))) := hV
        have hVb : V ≤ 72057594037927935 := by rw [hV]; exact val_bound h9
        obtain ⟨x, hx⟩ : ∃ x, l[t]? = some x := ⟨l[t]'(by rw [HLL.out]; omega), List.getElem?_eq_getElem _⟩
        have hct : w.cell? ⟨b, off + t, none⟩ = some (.int .u8 x.toNat) := HC.out t _ (by simp [Bs, hx])
        have HX : Hid (l[t]? = some x) := hx
        have hxb := UInt8.toNat_lt x
        clear hV hx hcl
        go_wp2
        go_round
        case rel =>
          have hs := val_step HX.out ht
          rw [or_step V x hVb, show x.toNat % 128 + 128 * V = val ((l.take (i + 1)).drop t) from by rw [hs, HV.out]]
          cases t with
          | zero => exact .inr ⟨by go_num, by rw [List.drop_zero]⟩
          | succ t => exact .inl ⟨t, val ((l.take (i + 1)).drop (t + 1)), by omega, by go_num, rfl, rfl⟩
        case measure => simp [intOf]
      · have HNZ : Hid (¬ (0 < i ∧ l[i]? = some 0)) := by
          rintro ⟨g1, g2⟩
          rcases HCZ.out with g3 | ⟨_, g3⟩
          · omega
          · rw [HZ.out] at g2; exact g3 (Option.some.inj g2)
        have hnn : (0 : Int) ≤ (val (l.take (i + 1)) : Int) := by omega
        generalize hV : val (l.take (i + 1)) = V at *
        by_cases hbig : 4611686018427387903 < V
        · have HF : Hid (firstS l = (0, 0, 2)) := firstS_big HFI.out (by omega) HNZ.out (by rw [hV]; exact hbig)
          have HO : Hid (outB V = true) := outB_hi (by omega)
          clear hV
          go_wp2_with (go_at_call 54; refine (outside_any _ _).mono ?_; rw [HO.out]; rintro e w ⟨rfl, rfl⟩)
          go_ret3
          rw [HF.out]
          exact ⟨rfl, rfl⟩
        · have HF : Hid (firstS l = ((V : Int), i + 1, 0)) := by have := firstS_ok HFI.out (by omega) HNZ.out (by rw [hV]; exact hbig); rw [hV] at this; exact this
          have HO : Hid (outB V = false) := outB_no (by omega) (by omega)
          clear hV
          go_wp2_with (go_at_call 54; refine (outside_any _ _).mono ?_; rw [HO.out]; rintro e w ⟨rfl, rfl⟩)
          go_ret3
          rw [HF.out]
          exact ⟨rfl, rfl⟩

/-- first, whatever the bytes -/
theorem first_any (ao : Option Addr) (n cap : Nat) (l : List UInt8) (w : World) (h : Rd w.heap.size w ao n cap (Bs l)) :
    Calls Try.prog 58 #[.slice ao n cap] w fun e w' => e = .returned (trip (firstS l)) ∧ w' = w := by
  cases hf : l.findIdx? endB with
  | none => exact first_none ao n cap l w h hf
  | some i =>
    obtain ⟨hi, hc, _⟩ := List.findIdx?_eq_some_iff_getElem.1 hf
    by_cases h9 : 9 ≤ i
    · exact first_long ao n cap l w h i hf h9
    · have hn : 0 < n := by have h2 := h.1; rw [Bs_length] at h2; omega
      obtain ⟨b, off, rfl, _, hcells⟩ := h.atSome hn
      have hz : l[i]? = some l[i] := List.getElem?_eq_getElem hi
      by_cases hc0 : 0 < i ∧ l[i] = 0
      · refine first_zero b off n cap l w h i hf h9 hc0.1 (by rw [hz, hc0.2]) (hcells i _ ?_)
        rw [Bs, List.getElem?_map, hz, hc0.2]; rfl
      · refine first_loop b off n cap l w h i l[i] hf (by omega) hz ?_ hcells
        by_cases h1 : i < 1
        · exact .inl h1
        · exact .inr ⟨by omega, fun e => hc0 ⟨by omega, e⟩⟩
end Go.Proofs.Ytjhcldccogpoaaa
