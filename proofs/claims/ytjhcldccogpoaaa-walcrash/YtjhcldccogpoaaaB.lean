/- IndexFunc, ContainsFunc -/
import Derived.Test.YtjhcldccogpoaaaA
namespace Go.Proofs.Ytjhcldccogpoaaa
open Go.RowKit

theorem any_false_snoc {l : List Int} {k : Nat} {x : Int} (h : (l.take k).any outB = false) (hx : l[k]? = some x) (ho : outB x = false) : (l.take (k + 1)).any outB = false := by
  rw [List.take_add_one, hx]; simp [List.any_append, h, ho]
theorem any_true_of {l : List Int} {k : Nat} {x : Int} (hx : l[k]? = some x) (ho : outB x = true) : l.any outB = true :=
  List.any_eq_true.2 ⟨x, List.mem_of_getElem? hx, ho⟩

set_option maxHeartbeats 400000 in
theorem IndexI_any (ao : Option Addr) (n cap : Nat) (l : List Int) (w : World) (h : Rd w.heap.size w ao n cap (Is l)) :
    Calls Try.prog 59 #[.slice ao n cap, .func (.func 54) #[] #[]] w fun e w' => ∃ r : Int, e = .returned (.int .i64 r) ∧ decide (0 ≤ r) = l.any outB ∧ w' = w := by
  have hcm : n ≤ maxLen := Nat.le_trans h.2.1 h.2.2.1
  unfold maxLen at hcm
  have hll : l.length = n := by rw [← Is_length]; exact h.1
  rcases Nat.eq_zero_or_pos n with rfl | hn
  · have hl : l = [] := List.eq_nil_of_length_eq_zero hll
    have HL : Hid (l.any outB = false) := by rw [hl]; rfl
    clear hl
    go_enter Try.func59, Try.ntmps59
    go_wp2
    refine wp_loop_rounds 1 ?_
    rw [rounds_succ]
    go_wp2
    go_ret
    exact ⟨-1, rfl, by rw [HL.out]; rfl, rfl⟩
  · obtain ⟨b, off, rfl, hbB, hcells⟩ := h.atSome hn
    have HC : Hid (∀ j u, (Is l)[j]? = some u → w.cell? ⟨b, off + j, none⟩ = some u) := hcells
    have HLL : Hid (l.length = n) := hll
    clear hcells hll
    go_enter Try.func59, Try.ntmps59
    go_wp2
    go_loop [8] (fun i => ∃ k : Nat, k ≤ n ∧ i = .int .i64 k ∧ Hid ((l.take k).any outB = false)) (fun i => n - (intOf i).toNat)
    case atStart => exact ⟨0, Nat.zero_le _, rfl, by simp [Hid]⟩
    case round =>
      obtain ⟨k, hk, rfl, HK⟩ := hrel
      by_cases hlt : k < n
      · obtain ⟨x, hx⟩ : ∃ x, l[k]? = some x := ⟨l[k]'(by rw [HLL.out]; exact hlt), List.getElem?_eq_getElem _⟩
        have hc : w.cell? ⟨b, off + k, none⟩ = some (.int .i64 x) := HC.out k _ (by simp [Is, hx])
        have HX : Hid (l[k]? = some x) := hx
        clear hx
        cases ho : outB x
        · have HO : Hid (outB x = false) := ho
          go_wp2_with (go_at_call 54; refine (outside_any _ _).mono ?_; rintro e w' ⟨rfl, rfl⟩)
          go_round
          case rel => exact ⟨k + 1, by omega, by go_num, any_false_snoc HK.out HX.out HO.out⟩
          case measure => simp [intOf]; omega
        · have HO : Hid (outB x = true) := ho
          go_wp2_with (go_at_call 54; refine (outside_any _ _).mono ?_; rintro e w' ⟨rfl, rfl⟩)
          go_ret
          exact ⟨k, rfl, by rw [any_true_of HX.out HO.out]; simp, rfl⟩
      · go_wp2
        go_ret
        have hkn : k = n := by omega
        have hf : l.any outB = false := by have := HK.out; rwa [hkn, List.take_of_length_le (by rw [HLL.out]; exact Nat.le_refl _)] at this
        exact ⟨-1, rfl, by rw [hf]; rfl, rfl⟩

set_option maxHeartbeats 400000 in
theorem ContainsI_any (ao : Option Addr) (n cap : Nat) (l : List Int) (w : World) (h : Rd w.heap.size w ao n cap (Is l)) :
    Calls Try.prog 53 #[.slice ao n cap, .func (.func 54) #[] #[]] w fun e w' => e = .returned (.bool (l.any outB)) ∧ w' = w := by
  go_enter Try.func53, Try.ntmps53
  go_wp2_with (go_at_call 59; refine (IndexI_any _ _ _ _ _ h).mono ?_; rintro e w' ⟨r, rfl, hr, rfl⟩)
  go_ret
  exact ⟨rfl, rfl⟩

/-- where the first byte without its highest bit is; -1 if there is none -/
def idxR (l : List UInt8) : Int := match l.findIdx? endB with | some i => (i : Int) | none => -1
theorem idxR_found {l : List UInt8} {k : Nat} {c : UInt8} (h : (l.take k).any endB = false) (hx : l[k]? = some c) (hc : endB c = true) : idxR l = k := by
  have : l.findIdx? endB = some k := by
    rw [List.findIdx?_eq_some_iff_getElem]
    obtain ⟨hk, hg⟩ := List.getElem?_eq_some_iff.1 hx
    refine ⟨hk, by rw [hg]; exact hc, ?_⟩
    intro j hj
    have := List.any_eq_false.1 h (l[j]) (by
      rw [List.mem_take_iff_getElem]
      exact ⟨j, by omega, rfl⟩)
    simpa using this
  simp [idxR, this]
theorem idxR_none {l : List UInt8} (h : l.any endB = false) : idxR l = -1 := by
  have : l.findIdx? endB = none := by
    rw [List.findIdx?_eq_none_iff]
    intro x hx
    have := List.any_eq_false.1 h x hx
    simpa using this
  simp [idxR, this]
theorem anyB_false_snoc {l : List UInt8} {k : Nat} {x : UInt8} (h : (l.take k).any endB = false) (hx : l[k]? = some x) (ho : endB x = false) : (l.take (k + 1)).any endB = false := by
  rw [List.take_add_one, hx]; simp [List.any_append, h, ho]

set_option maxHeartbeats 400000 in
theorem IndexB_any (ao : Option Addr) (n cap : Nat) (l : List UInt8) (w : World) (h : Rd w.heap.size w ao n cap (Bs l)) :
    Calls Try.prog 61 #[.slice ao n cap, .func (.func 62) #[] #[]] w fun e w' => e = .returned (.int .i64 (idxR l)) ∧ w' = w := by
  have hcm : n ≤ maxLen := Nat.le_trans h.2.1 h.2.2.1
  unfold maxLen at hcm
  have hll : l.length = n := by rw [← Bs_length]; exact h.1
  rcases Nat.eq_zero_or_pos n with rfl | hn
  · have hl : l = [] := List.eq_nil_of_length_eq_zero hll
    have HL : Hid (idxR l = -1) := by rw [hl]; rfl
    clear hl
    go_enter Try.func61, Try.ntmps61
    go_wp2
    refine wp_loop_rounds 1 ?_
    rw [rounds_succ]
    go_wp2
    go_ret
    exact ⟨ret_int HL.out.symm, rfl⟩
  · obtain ⟨b, off, rfl, hbB, hcells⟩ := h.atSome hn
    have HC : Hid (∀ j u, (Bs l)[j]? = some u → w.cell? ⟨b, off + j, none⟩ = some u) := hcells
    have HLL : Hid (l.length = n) := hll
    clear hcells hll
    go_enter Try.func61, Try.ntmps61
    go_wp2
    go_loop [8] (fun i => ∃ k : Nat, k ≤ n ∧ i = .int .i64 k ∧ Hid ((l.take k).any endB = false)) (fun i => n - (intOf i).toNat)
    case atStart => exact ⟨0, Nat.zero_le _, rfl, by simp [Hid]⟩
    case round =>
      obtain ⟨k, hk, rfl, HK⟩ := hrel
      by_cases hlt : k < n
      · obtain ⟨x, hx⟩ : ∃ x, l[k]? = some x := ⟨l[k]'(by rw [HLL.out]; exact hlt), List.getElem?_eq_getElem _⟩
        have hc : w.cell? ⟨b, off + k, none⟩ = some (.int .u8 x.toNat) := HC.out k _ (by simp [Bs, hx])
        have HX : Hid (l[k]? = some x) := hx
        clear hx
        cases ho : endB x
        · have HO : Hid (endB x = false) := ho
          go_wp2_with (go_at_call 62; refine (ends_any _ _).mono ?_; rintro e w' ⟨rfl, rfl⟩)
          go_round
          case rel => exact ⟨k + 1, by omega, by go_num, anyB_false_snoc HK.out HX.out HO.out⟩
          case measure => simp [intOf]; omega
        · have HO : Hid (endB x = true) := ho
          go_wp2_with (go_at_call 62; refine (ends_any _ _).mono ?_; rintro e w' ⟨rfl, rfl⟩)
          go_ret
          exact ⟨ret_int (idxR_found HK.out HX.out HO.out).symm, rfl⟩
      · go_wp2
        go_ret
        have hkn : k = n := by omega
        have hf : l.any endB = false := by have := HK.out; rwa [hkn, List.take_of_length_le (by rw [HLL.out]; exact Nat.le_refl _)] at this
        exact ⟨ret_int (idxR_none hf).symm, rfl⟩
end Go.Proofs.Ytjhcldccogpoaaa
