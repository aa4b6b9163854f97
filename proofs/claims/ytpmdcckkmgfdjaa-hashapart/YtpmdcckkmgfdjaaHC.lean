/- the laws HashTells, HashDivides, HashApart: their walks -/
import Derived.Test.YtpmdcckkmgfdjaaHB
namespace Go.Proofs.Ytpmdcckkmgfdjaa
open Go.RowKit

theorem refSum_eq (ao : Option Addr) (n cap : Nat) (l : List ByteArray) (t : Int) (w : World) (h : Rd w.heap.size w ao n cap (Ss l)) (hs : ∀ s ∈ l, s.size ≤ 9223372036854775807) (ht : ((sumOf l : Nat) : Int) = t) :
    Calls Try.prog 11 #[.slice ao n cap] w fun e w' => e = .returned (.int .u64 t) ∧ w' = w := by
  subst ht; exact refSum_any ao n cap l w h hs
theorem Pick_eq (n m t : Int) (w : World) (h0 : 0 < m) (h1 : m ≤ 9223372036854775807) (ht : pick n m = t) :
    Calls Try.prog 10 #[.int .i64 n, .int .i64 m] w fun e w' => e = .returned (.int .i64 t) ∧ w' = w := by
  subst ht; exact Pick_any n m w h0 h1

set_option maxRecDepth 100000 in
set_option maxHeartbeats 1000000 in
theorem tells_some (ao : Option Addr) (n cap : Nat) (l : List ByteArray) (s : ByteArray) (m : Int) (w : World) (h : Rd w.heap.size w ao n cap (Ss l)) (hs : ∀ x ∈ l, x.size ≤ 9223372036854775807) (hk : s.size ≤ 9223372036854775807) (hm : m ≤ 9223372036854775807) :
    Calls Try.prog 4 #[.slice ao n cap, .string s, .int .i64 m] w fun e w' => e = .returned (.bool true) ∧ Below w.heap.size w w' := by
  have hcm : n ≤ maxLen := Nat.le_trans h.2.1 h.2.2.1
  unfold maxLen at hcm
  have hncap := h.2.1
  have l1 := pick_lo m 12 (by omega)
  have l2 := pick_hi m 12 (by omega)
  obtain ⟨L, N, hR, hN, hLs⟩ : ∃ (L : List ByteArray) (N : Nat), Rd w.heap.size w ao N cap (Ss L) ∧ (N = if 30 < n then 30 else n) ∧ ∀ x ∈ L, x.size ≤ 9223372036854775807 := by
    by_cases h30 : 30 < n
    · refine ⟨l.take 30, 30, ?_, by rw [if_pos h30], fun x hx => hs x (List.mem_of_mem_take hx)⟩
      have := h.till 30 (by omega)
      rwa [show (Ss l).take 30 = Ss (l.take 30) by simp [Ss]] at this
    · exact ⟨l, n, h, by rw [if_neg h30], hs⟩
  have HR : Hid (Rd w.heap.size w ao N cap (Ss L)) := hR
  have HLs : Hid (∀ x ∈ L, x.size ≤ 9223372036854775807) := hLs
  clear h hs hR hLs
  obtain ⟨T, hT⟩ : ∃ T : Nat, sumOf L = T := ⟨_, rfl⟩
  have HT : Hid (sumOf L = T) := hT
  clear hT
  by_cases h30 : 30 < n
  · rw [if_pos h30] at hN
    subst hN
    go_enter Try.func4, Try.ntmps4
    go_wp2_with fail
    refine (Pick_any m 12 _ (by omega) (by omega)).mono ?_
    rintro e w ⟨rfl, rfl⟩
    go_wp2_with fail
    refine (known_any _).mono ?_
    rintro e w1 ⟨rfl, hb1⟩
    go_wp2_with fail
    refine (Sum_eq _ _ _ L T _ ((HR.out.later hb1).mono hb1.size) HLs.out (by rw [HT.out])).mono ?_
    rintro e w1 ⟨rfl, rfl⟩
    go_wp2_with fail
    refine (refSum_eq _ _ _ L T _ ((HR.out.later hb1).mono hb1.size) HLs.out (by rw [HT.out])).mono ?_
    rintro e w1 ⟨rfl, rfl⟩
    go_wp2_with fail
    refine (Shard_any _ _ _ hk (by omega)).mono ?_
    rintro e w2 ⟨rfl, hw⟩
    have hb2 := bel_call hb1 hw
    clear hw
    go_wp2_with fail
    refine (ShardOf_any _ _ _ hk (by omega)).mono ?_
    rintro e w3 ⟨rfl, hw⟩
    have hb3 := bel_call hb2 hw
    clear hw
    go_wp2_with fail
    refine (Shard_any _ _ _ hk (by omega)).mono ?_
    rintro e w4 ⟨rfl, hw⟩
    have hb4 := bel_call hb3 hw
    clear hw
    go_wp2_with fail
    refine (ShardOf_any _ _ _ hk (by omega)).mono ?_
    rintro e w5 ⟨rfl, hw⟩
    have hb5 := bel_call hb4 hw
    clear hw
    go_wp2
    go_ret
    exact ⟨rfl, hb5⟩
  · rw [if_neg h30] at hN
    subst hN
    go_enter Try.func4, Try.ntmps4
    go_wp2_with fail
    refine (Pick_any m 12 _ (by omega) (by omega)).mono ?_
    rintro e w ⟨rfl, rfl⟩
    go_wp2_with fail
    refine (known_any _).mono ?_
    rintro e w1 ⟨rfl, hb1⟩
    go_wp2_with fail
    refine (Sum_eq _ _ _ L T _ ((HR.out.later hb1).mono hb1.size) HLs.out (by rw [HT.out])).mono ?_
    rintro e w1 ⟨rfl, rfl⟩
    go_wp2_with fail
    refine (refSum_eq _ _ _ L T _ ((HR.out.later hb1).mono hb1.size) HLs.out (by rw [HT.out])).mono ?_
    rintro e w1 ⟨rfl, rfl⟩
    go_wp2_with fail
    refine (Shard_any _ _ _ hk (by omega)).mono ?_
    rintro e w2 ⟨rfl, hw⟩
    have hb2 := bel_call hb1 hw
    clear hw
    go_wp2_with fail
    refine (ShardOf_any _ _ _ hk (by omega)).mono ?_
    rintro e w3 ⟨rfl, hw⟩
    have hb3 := bel_call hb2 hw
    clear hw
    go_wp2_with fail
    refine (Shard_any _ _ _ hk (by omega)).mono ?_
    rintro e w4 ⟨rfl, hw⟩
    have hb4 := bel_call hb3 hw
    clear hw
    go_wp2_with fail
    refine (ShardOf_any _ _ _ hk (by omega)).mono ?_
    rintro e w5 ⟨rfl, hw⟩
    have hb5 := bel_call hb4 hw
    clear hw
    go_wp2
    go_ret
    exact ⟨rfl, hb5⟩

theorem prod_bd (u v : Int) (h1 : 1 ≤ u) (h2 : u ≤ 50) (h3 : 1 ≤ v) (h4 : v ≤ 50) : 1 ≤ u * v ∧ u * v ≤ 2500 := by
  have a1 : 0 < u * v := Int.mul_pos (by omega) (by omega)
  have a2 : u * v ≤ 50 * 50 := Int.mul_le_mul h2 h4 (by omega) (by omega)
  omega

set_option maxHeartbeats 1000000 in
theorem divides_walk (s : ByteArray) (a b : Int) (w : World) (hk : s.size ≤ 9223372036854775807) :
    Calls Try.prog 6 #[.string s, .int .i64 a, .int .i64 b] w fun e w' => e = .returned (.bool true) ∧ Below w.heap.size w w' := by
  obtain ⟨x, hx⟩ : ∃ x, pick a 50 = x := ⟨_, rfl⟩
  obtain ⟨y, hy⟩ : ∃ y, pick b 50 = y := ⟨_, rfl⟩
  have l1 := pick_lo a 50 (by omega)
  have l2 := pick_hi a 50 (by omega)
  have l3 := pick_lo b 50 (by omega)
  have l4 := pick_hi b 50 (by omega)
  rw [hx] at l1 l2
  rw [hy] at l3 l4
  have HX : Hid (pick a 50 = x) := hx
  have HY : Hid (pick b 50 = y) := hy
  clear hx hy
  obtain ⟨p1, p2⟩ := prod_bd (1 + x) (1 + y) (by omega) (by omega) (by omega) (by omega)
  obtain ⟨T, hT⟩ : ∃ T : Int, ((sumOf [s] : Nat) : Int) = T := ⟨_, rfl⟩
  have hT0 : 0 ≤ T := by omega
  have HT : Hid (((sumOf [s] : Nat) : Int) = T) := hT
  have HD : Hid (T % ((1 + x) * (1 + y)) % (1 + x) = T % (1 + x)) := Int.emod_emod_of_dvd T ⟨_, rfl⟩
  have HW : Hid (wrap64 ((1 + x) * (1 + y)) = (1 + x) * (1 + y)) := IntWalk.wrap64_in _ ⟨by omega, by omega⟩
  obtain ⟨P, hP⟩ : ∃ P, (1 + x) * (1 + y) = P := ⟨_, rfl⟩
  rw [hP] at p1 p2
  have hwr : wrap64 ((1 + x) * (1 + y)) = P := by rw [HW.out, hP]
  have hD : (T % (1 + x) == T % P % (1 + x)) = true := by rw [← hP, HD.out]; simp
  have g1 := Int.emod_nonneg T (show P ≠ 0 by omega)
  have g2 := Int.emod_lt_of_pos T (show 0 < P by omega)
  have HP : Hid ((1 + x) * (1 + y) = P) := hP
  clear hT hP
  go_enter Try.func6, Try.ntmps6
  go_wp2_with fail
  refine (Pick_eq a 50 x _ (by omega) (by omega) HX.out).mono ?_
  rintro e w ⟨rfl, rfl⟩
  go_wp2_with fail
  refine (Pick_eq b 50 y _ (by omega) (by omega) HY.out).mono ?_
  rintro e w ⟨rfl, rfl⟩
  go_wp2_with fail
  refine (known_any _).mono ?_
  rintro e w1 ⟨rfl, hb1⟩
  go_wp2_with fail
  refine (Shard_eq _ _ (T % (1 + x)) _ hk (by omega) (by rw [shardS_hi (by omega), HT.out])).mono ?_
  rintro e w2 ⟨rfl, hw⟩
  have hb2 := bel_call hb1 hw
  clear hw
  go_wp2_with fail
  refine (Shard_eq _ _ (T % P) _ hk (by omega) (by rw [shardS_hi (by omega), HT.out])).mono ?_
  rintro e w3 ⟨rfl, hw⟩
  have hb3 := bel_call hb2 hw
  clear hw
  go_wp2_with fail
  refine (Sum_eq _ _ _ [s] T _ (by exact Rd.strs w3 [s] _ rfl (by simp)) (by simpa using hk) HT.out).mono ?_
  rintro e w4 ⟨rfl, hw⟩
  have hb4 := bel_eq hb3 hw
  clear hw
  go_wp2_with fail
  refine (Sum_eq _ _ _ [s] T _ (by exact Rd.strs w4 [s] _ rfl (by simp)) (by simpa using hk) HT.out).mono ?_
  rintro e w5 ⟨rfl, hw⟩
  have hb5 := bel_eq hb4 hw
  clear hw
  go_wp2
  go_ret
  exact ⟨rfl, hb5⟩
end Go.Proofs.Ytpmdcckkmgfdjaa
