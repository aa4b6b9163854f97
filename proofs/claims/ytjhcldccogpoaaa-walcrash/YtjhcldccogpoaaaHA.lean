/- Walks: mix, step, Pick, Sum, Shard, and the same of the plain ones. -/
import Derived.Test.YtjhcldccogpoaaaGA
import Derived.Test.YtjhcldccogpoaaaHM
namespace Go.Proofs.Ytjhcldccogpoaaa
open Go.RowKit

theorem mix_eq (h c : Nat) (hh : h < 18446744073709551616) (hc : c < 18446744073709551616) : IntKind.u64.wrap (bits .xor .u64 (h : Int) (c : Int) * 1099511628211) = ((mixN h c : Nat) : Int) := by
  rw [u64_xor_nat _ _ hh hc, IntKind.wrap_u64]; simp [mixN]

set_option maxHeartbeats 400000 in
theorem mix_any (h c : Nat) (w : World) (hh : h < 18446744073709551616) (hc : c < 18446744073709551616) :
    Calls Try.prog 60 #[.int .u64 h, .int .u64 c] w fun e w' => e = .returned (.int .u64 (mixN h c)) ∧ w' = w := by
  go_enter Try.func60, Try.ntmps60
  go_wp2
  go_ret
  exact ⟨ret_int (mix_eq h c hh hc), rfl⟩

set_option maxHeartbeats 400000 in
theorem step_any (h c : Nat) (w : World) (hh : h < 18446744073709551616) (hc : c < 18446744073709551616) :
    Calls Try.prog 49 #[.int .u64 h, .int .u64 c] w fun e w' => e = .returned (.int .u64 (mixN h c)) ∧ w' = w := by
  go_enter Try.func49, Try.ntmps49
  go_wp2
  go_ret
  exact ⟨ret_int (mix_eq h c hh hc), rfl⟩

set_option maxHeartbeats 1000000 in
theorem Sum_any (ao : Option Addr) (n cap : Nat) (l : List ByteArray) (w : World) (h : Rd w.heap.size w ao n cap (Ss l)) (hs : ∀ s ∈ l, s.size ≤ 9223372036854775807) :
    Calls Try.prog 56 #[.slice ao n cap] w fun e w' => e = .returned (.int .u64 (sumOf l)) ∧ w' = w := by
  have hcm : n ≤ maxLen := Nat.le_trans h.2.1 h.2.2.1
  unfold maxLen at hcm
  have hll : l.length = n := by rw [← Ss_length]; exact h.1
  rcases Nat.eq_zero_or_pos n with rfl | hn
  · have hl : l = [] := List.eq_nil_of_length_eq_zero hll
    have HL : Hid (sumOf l = 14695981039346656037) := by rw [hl]; exact sumOf_nil
    clear hl hs
    go_enter Try.func56, Try.ntmps56
    go_wp2
    refine wp_loop_rounds 1 ?_
    rw [rounds_succ]
    go_wp2
    go_ret
    exact ⟨ret_int (by rw [HL.out]; rfl), rfl⟩
  · obtain ⟨b, off, rfl, hbB, hcells⟩ := h.atSome hn
    have HC : Hid (∀ j u, (Ss l)[j]? = some u → w.cell? ⟨b, off + j, none⟩ = some u) := hcells
    have HLL : Hid (l.length = n) := hll
    have HS : Hid (∀ s ∈ l, s.size ≤ 9223372036854775807) := hs
    clear hcells hll hs h
    go_enter Try.func56, Try.ntmps56
    go_wp2
    go_loop [3, 9] (fun s i => ∃ (k t : Nat), k ≤ n ∧ i = .int .i64 k ∧ s = .int .u64 t ∧ t < 18446744073709551616 ∧ Hid (t = partsS 14695981039346656037 (l.take k))) (fun _ i => n - (intOf i).toNat)
    case atStart => exact ⟨0, 14695981039346656037, Nat.zero_le _, rfl, rfl, by decide, by simp [Hid, partsS, partsF]⟩
    case round =>
      obtain ⟨k, t, hk, rfl, rfl, ht, HT⟩ := hrel
      by_cases hlt : k < n
      · obtain ⟨x, hx⟩ : ∃ x, l[k]? = some x := ⟨l[k]'(by rw [HLL.out]; exact hlt), List.getElem?_eq_getElem _⟩
        have hc : w.cell? ⟨b, off + k, none⟩ = some (.string x) := HC.out k _ (by simp [Ss, hx])
        have hxs := HS.out x (List.mem_of_getElem? hx)
        have HX : Hid (l[k]? = some x) := hx
        clear hx
        go_wp2
        go_loop [3, 15] (fun s i => ∃ (m u : Nat), m ≤ x.size ∧ i = .int .i64 m ∧ s = .int .u64 u ∧ u < 18446744073709551616 ∧ Hid (u = sumS t (x.data.toList.take m))) (fun _ i => x.size - (intOf i).toNat)
        case atStart => exact ⟨0, t, Nat.zero_le _, rfl, rfl, ht, by simp [Hid, sumS, foldF]⟩
        case round =>
          obtain ⟨m, u, hm, rfl, rfl, hu, HU⟩ := hrel
          by_cases hml : m < x.size
          · have HN : Hid (sumS t (x.data.toList.take (m + 1)) = mixN (sumS t (x.data.toList.take m)) x[m].toNat) := sumS_take t x m hml
            have h8 := UInt8.toNat_lt x[m]
            go_wp2_with (go_at_call 60; refine (mix_any _ _ _ hu (by omega)).mono ?_; rintro e w' ⟨rfl, rfl⟩)
            go_round
            case rel => exact ⟨m + 1, _, by omega, by go_num, rfl, mixN_lt _ _, by show _ = _; rw [HN.out, ← HU.out]⟩
            case measure => simp [intOf]; omega
          · have HN : Hid (sumS t x.data.toList = u) := by
              have := HU.out
              rw [List.take_of_length_le (by simp; omega)] at this
              exact this.symm
            have HP : Hid (partsS 14695981039346656037 (l.take (k + 1)) = mixN (sumS (partsS 14695981039346656037 (l.take k)) x.data.toList) 256) := partsS_take _ l k x HX.out
            go_wp2_with (go_at_call 60; refine (mix_any _ 256 _ hu (by omega)).mono ?_; rintro e w' ⟨rfl, rfl⟩)
            go_round
            case rel => exact ⟨k + 1, _, by omega, by go_num, rfl, mixN_lt _ _, by show _ = _; rw [HP.out, ← HT.out, HN.out]⟩
            case measure => simp [intOf]; omega
      · go_wp2
        go_ret
        have hkn : k = n := by omega
        have hf : t = sumOf l := by have := HT.out; rwa [hkn, List.take_of_length_le (by rw [HLL.out]; exact Nat.le_refl _)] at this
        exact ⟨ret_int (by rw [hf]), rfl⟩
set_option maxHeartbeats 1000000 in
theorem refSum_any (ao : Option Addr) (n cap : Nat) (l : List ByteArray) (w : World) (h : Rd w.heap.size w ao n cap (Ss l)) (hs : ∀ s ∈ l, s.size ≤ 9223372036854775807) :
    Calls Try.prog 40 #[.slice ao n cap] w fun e w' => e = .returned (.int .u64 (sumOf l)) ∧ w' = w := by
  have hcm : n ≤ maxLen := Nat.le_trans h.2.1 h.2.2.1
  unfold maxLen at hcm
  have hll : l.length = n := by rw [← Ss_length]; exact h.1
  rcases Nat.eq_zero_or_pos n with rfl | hn
  · have hl : l = [] := List.eq_nil_of_length_eq_zero hll
    have HL : Hid (sumOf l = 14695981039346656037) := by rw [hl]; exact sumOf_nil
    clear hl hs
    go_enter Try.func40, Try.ntmps40
    go_wp2
    refine wp_loop_rounds 1 ?_
    rw [rounds_succ]
    go_wp2
    go_ret
    exact ⟨ret_int (by rw [HL.out]; rfl), rfl⟩
  · obtain ⟨b, off, rfl, hbB, hcells⟩ := h.atSome hn
    have HC : Hid (∀ j u, (Ss l)[j]? = some u → w.cell? ⟨b, off + j, none⟩ = some u) := hcells
    have HLL : Hid (l.length = n) := hll
    have HS : Hid (∀ s ∈ l, s.size ≤ 9223372036854775807) := hs
    clear hcells hll hs h
    go_enter Try.func40, Try.ntmps40
    go_wp2
    go_loop [3, 4] (fun s i => ∃ (k t : Nat), k ≤ n ∧ i = .int .i64 k ∧ s = .int .u64 t ∧ t < 18446744073709551616 ∧ Hid (t = partsS 14695981039346656037 (l.take k))) (fun _ i => n - (intOf i).toNat)
    case atStart => exact ⟨0, 14695981039346656037, Nat.zero_le _, rfl, rfl, by decide, by simp [Hid, partsS, partsF]⟩
    case round =>
      obtain ⟨k, t, hk, rfl, rfl, ht, HT⟩ := hrel
      by_cases hlt : k < n
      · obtain ⟨x, hx⟩ : ∃ x, l[k]? = some x := ⟨l[k]'(by rw [HLL.out]; exact hlt), List.getElem?_eq_getElem _⟩
        have hc : w.cell? ⟨b, off + k, none⟩ = some (.string x) := HC.out k _ (by simp [Ss, hx])
        have hxs := HS.out x (List.mem_of_getElem? hx)
        have HX : Hid (l[k]? = some x) := hx
        clear hx
        go_wp2
        go_loop [3, 5] (fun s i => ∃ (m u : Nat), m ≤ x.size ∧ i = .int .i64 m ∧ s = .int .u64 u ∧ u < 18446744073709551616 ∧ Hid (u = sumS t (x.data.toList.take m))) (fun _ i => x.size - (intOf i).toNat)
        case atStart => exact ⟨0, t, Nat.zero_le _, rfl, rfl, ht, by simp [Hid, sumS, foldF]⟩
        case round =>
          obtain ⟨m, u, hm, rfl, rfl, hu, HU⟩ := hrel
          by_cases hml : m < x.size
          · have HN : Hid (sumS t (x.data.toList.take (m + 1)) = mixN (sumS t (x.data.toList.take m)) x[m].toNat) := sumS_take t x m hml
            have h8 := UInt8.toNat_lt x[m]
            go_wp2_with (go_at_call 49; refine (step_any _ _ _ hu (by omega)).mono ?_; rintro e w' ⟨rfl, rfl⟩)
            go_round
            case rel => exact ⟨m + 1, _, by omega, by go_num, rfl, mixN_lt _ _, by show _ = _; rw [HN.out, ← HU.out]⟩
            case measure => simp [intOf]; omega
          · have HN : Hid (sumS t x.data.toList = u) := by
              have := HU.out
              rw [List.take_of_length_le (by simp; omega)] at this
              exact this.symm
            have HP : Hid (partsS 14695981039346656037 (l.take (k + 1)) = mixN (sumS (partsS 14695981039346656037 (l.take k)) x.data.toList) 256) := partsS_take _ l k x HX.out
            go_wp2_with (go_at_call 49; refine (step_any _ 256 _ hu (by omega)).mono ?_; rintro e w' ⟨rfl, rfl⟩)
            go_round
            case rel => exact ⟨k + 1, _, by omega, by go_num, rfl, mixN_lt _ _, by show _ = _; rw [HP.out, ← HT.out, HN.out]⟩
            case measure => simp [intOf]; omega
      · go_wp2
        go_ret
        have hkn : k = n := by omega
        have hf : t = sumOf l := by have := HT.out; rwa [hkn, List.take_of_length_le (by rw [HLL.out]; exact Nat.le_refl _)] at this
        exact ⟨ret_int (by rw [hf]), rfl⟩

theorem shardS_lo {s : ByteArray} {n : Int} (h : n < 1) : shardS s n = 0 := by simp [shardS, h]
theorem shardS_hi {s : ByteArray} {n : Int} (h : 1 ≤ n) : shardS s n = ((sumOf [s] : Nat) : Int) % n := by
  unfold shardS; rw [if_neg (by omega)]

end Go.Proofs.Ytjhcldccogpoaaa
