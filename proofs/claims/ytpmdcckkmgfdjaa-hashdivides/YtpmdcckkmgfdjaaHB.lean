/- ShardOf, known, and the law HashKnown: its walk -/
import Derived.Test.YtpmdcckkmgfdjaaHA
namespace Go.Proofs.Ytpmdcckkmgfdjaa
open Go.RowKit

set_option maxHeartbeats 400000 in
theorem ShardOf_any (s : ByteArray) (n : Int) (w : World) (hs : s.size ≤ 9223372036854775807) (h1 : n ≤ 9223372036854775807) :
    Calls Try.prog 12 #[.string s, .int .i64 n] w fun e w' => e = .returned (.int .i64 (shardS s n)) ∧ Below w.heap.size w w' := by
  by_cases hn : n < 1
  · have H : Hid (shardS s n = 0) := shardS_lo hn
    go_enter Try.func12, Try.ntmps12
    go_wp2
    go_ret
    exact ⟨ret_int H.out.symm, Below.refl _ _⟩
  · have H : Hid (shardS s n = ((sumOf [s] : Nat) : Int) % n) := shardS_hi (by omega)
    have hlt := sumOf_lt [s]
    have g1 := Int.emod_nonneg (sumOf [s] : Int) (show n ≠ 0 by omega)
    have g2 := Int.emod_lt_of_pos (sumOf [s] : Int) (show 0 < n by omega)
    go_enter Try.func12, Try.ntmps12
    go_wp2_with (go_at_call 11; refine (refSum_any _ _ _ [s] _ (by exact Rd.built w (Ss [s]) 9 (by unfold maxLen; simp [Ss])) (by simpa using hs)).mono ?_; rintro e w' ⟨rfl, rfl⟩)
    go_ret
    exact ⟨ret_int H.out.symm, (Below.refl _ _).alloc (Nat.le_refl _) _⟩

theorem sz_of {l : List ByteArray} (h : (l.all fun s => decide (s.size ≤ 9223372036854775807)) = true) : ∀ s ∈ l, s.size ≤ 9223372036854775807 :=
  fun s hs => of_decide_eq_true (List.all_eq_true.1 h s hs)
/-- strings that were just laid read as such, at whatever block -/
theorem Rd.strs (W : World) (l : List ByteArray) (B : Nat) (hB : W.heap.size = B) (hm : l.length ≤ 1000) : Rd (W.alloc (.cells (Ss l).toArray 9)).heap.size (W.alloc (.cells (Ss l).toArray 9)) (some ⟨B, 0, none⟩) l.length l.length (Ss l) := by
  have := Rd.built W (Ss l) 9 (by rw [Ss_length]; unfold maxLen; omega)
  rwa [hB, Ss_length] at this

theorem Sum_eq (ao : Option Addr) (n cap : Nat) (l : List ByteArray) (t : Int) (w : World) (h : Rd w.heap.size w ao n cap (Ss l)) (hs : ∀ s ∈ l, s.size ≤ 9223372036854775807) (ht : ((sumOf l : Nat) : Int) = t) :
    Calls Try.prog 8 #[.slice ao n cap] w fun e w' => e = .returned (.int .u64 t) ∧ w' = w := by
  subst ht; exact Sum_any ao n cap l w h hs
theorem Shard_eq (s : ByteArray) (n : Int) (t : Int) (w : World) (hs : s.size ≤ 9223372036854775807) (h1 : n ≤ 9223372036854775807) (ht : shardS s n = t) :
    Calls Try.prog 9 #[.string s, .int .i64 n] w fun e w' => e = .returned (.int .i64 t) ∧ Below w.heap.size w w' := by
  subst ht; exact Shard_any s n w hs h1

set_option maxHeartbeats 400000 in
theorem known_any (w : World) : Calls Try.prog 7 #[] w fun e w' => e = .returned (.bool true) ∧ Below w.heap.size w w' := by
  go_enter Try.func7, Try.ntmps7
  go_wp2_with fail
  refine (Sum_eq none 0 0 [] 14695981039346656037 _ (Rd.nil _ _) (by simp) (by rw [sumOf_nil]; rfl)).mono ?_
  rintro e w ⟨rfl, rfl⟩
  go_wp2_with fail
  refine (Sum_any _ _ _ [⟨#[]⟩] _ (by exact Rd.strs w [⟨#[]⟩] _ rfl (by decide)) (sz_of (by decide))).mono ?_
  rintro e w1 ⟨rfl, rfl⟩
  go_wp2_with fail
  refine (refSum_any _ _ _ [⟨#[]⟩] _ (by exact Rd.strs (w.alloc (.cells #[.string ⟨#[]⟩] 9)) [⟨#[]⟩] _ (by simp) (by decide)) (sz_of (by decide))).mono ?_
  rintro e w1 ⟨rfl, rfl⟩
  go_wp2_with fail
  refine (Shard_eq ⟨#[97]⟩ 1 0 _ (by decide) (by omega) (by rw [shardS_hi (by omega), Int.emod_one])).mono ?_
  rintro e w2 ⟨rfl, hb⟩
  go_wp2
  go_ret
  exact ⟨rfl, (((Below.refl _ _).alloc (Nat.le_refl _) _).alloc (by simp) _).trans (hb.mono (by simp; omega))⟩

theorem bel_call {w w1 w2 : World} (h : Below w.heap.size w w1) (h2 : Below w1.heap.size w1 w2) : Below w.heap.size w w2 := h.trans (h2.mono h.size)
theorem bel_eq {w w1 w2 : World} {o : Obj} (h : Below w.heap.size w w1) (h2 : w2 = w1.alloc o) : Below w.heap.size w w2 := by subst h2; exact h.alloc h.size o

theorem ab_apart : (((sumOf [⟨#[97, 98]⟩] : Nat) : Int) == ((sumOf [⟨#[97]⟩, ⟨#[98]⟩] : Nat) : Int)) = false := by decide +kernel

set_option maxHeartbeats 1000000 in
set_option maxRecDepth 100000 in
theorem hashKnown_walk (w : World) : Calls Try.prog 3 #[] w fun e w' => e = .returned (.bool true) ∧ Below w.heap.size w w' := by
  obtain ⟨A, hA⟩ : ∃ A : Int, ((sumOf [⟨#[97, 98]⟩] : Nat) : Int) = A := ⟨_, rfl⟩
  obtain ⟨B, hB⟩ : ∃ B : Int, ((sumOf [⟨#[97]⟩, ⟨#[98]⟩] : Nat) : Int) = B := ⟨_, rfl⟩
  obtain ⟨C, hC⟩ : ∃ C : Int, ((sumOf [⟨#[97]⟩] : Nat) : Int) = C := ⟨_, rfl⟩
  have hab : (A != B) = true := by rw [← hA, ← hB, bne, ab_apart]; rfl
  have HS : Hid (shardS ⟨#[97]⟩ 6 = C % 6) := by rw [← hC]; exact shardS_hi (by omega)
  have hC0 : 0 ≤ C := by omega
  have hC1 : C < 18446744073709551616 := by have := sumOf_lt [⟨#[97]⟩]; omega
  have HA : Hid (((sumOf [⟨#[97, 98]⟩] : Nat) : Int) = A) := hA
  have HB : Hid (((sumOf [⟨#[97]⟩, ⟨#[98]⟩] : Nat) : Int) = B) := hB
  have HC : Hid (((sumOf [⟨#[97]⟩] : Nat) : Int) = C) := hC
  clear hA hB hC
  go_enter Try.func3, Try.ntmps3
  go_wp2_with fail
  refine (known_any _).mono ?_
  rintro e w1 ⟨rfl, hb1⟩
  go_wp2_with fail
  refine (Sum_eq _ _ _ [⟨#[97, 98]⟩] _ _ (by exact Rd.strs w1 [⟨#[97, 98]⟩] _ rfl (by decide)) (sz_of (by decide)) HA.out).mono ?_
  rintro e w2 ⟨rfl, hw⟩
  have hb2 := bel_eq hb1 hw
  clear hw hb1
  go_wp2_with fail
  refine (Sum_eq _ _ _ [⟨#[97]⟩, ⟨#[98]⟩] _ _ (by exact Rd.strs w2 [⟨#[97]⟩, ⟨#[98]⟩] _ rfl (by decide)) (sz_of (by decide)) HB.out).mono ?_
  rintro e w3 ⟨rfl, hw⟩
  have hb3 := bel_eq hb2 hw
  clear hw hb2
  go_wp2_with fail
  refine (Sum_eq _ _ _ [⟨#[97]⟩, ⟨#[98]⟩] _ _ (by exact Rd.strs w3 [⟨#[97]⟩, ⟨#[98]⟩] _ rfl (by decide)) (sz_of (by decide)) HB.out).mono ?_
  rintro e w4 ⟨rfl, hw⟩
  have hb4 := bel_eq hb3 hw
  clear hw hb3
  go_wp2_with fail
  refine (Sum_eq _ _ _ [⟨#[97]⟩, ⟨#[98]⟩] _ _ (by exact Rd.strs w4 [⟨#[97]⟩, ⟨#[98]⟩] _ rfl (by decide)) (sz_of (by decide)) HB.out).mono ?_
  rintro e w5 ⟨rfl, hw⟩
  have hb5 := bel_eq hb4 hw
  clear hw hb4
  go_wp2_with fail
  refine (Shard_eq ⟨#[97]⟩ 0 0 _ (by decide) (by omega) (shardS_lo (by omega))).mono ?_
  rintro e w6 ⟨rfl, hw⟩
  have hb6 := bel_call hb5 hw
  clear hw hb5
  go_wp2_with fail
  refine (Shard_eq ⟨#[97]⟩ (-3) 0 _ (by decide) (by omega) (shardS_lo (by omega))).mono ?_
  rintro e w7 ⟨rfl, hw⟩
  have hb7 := bel_call hb6 hw
  clear hw hb6
  go_wp2_with fail
  refine (Shard_eq ⟨#[97]⟩ 6 _ _ (by decide) (by omega) HS.out).mono ?_
  rintro e w8 ⟨rfl, hw⟩
  have hb8 := bel_call hb7 hw
  clear hw hb7
  go_wp2_with fail
  refine (Sum_eq _ _ _ [⟨#[97]⟩] _ _ (by exact Rd.strs w8 [⟨#[97]⟩] _ rfl (by decide)) (sz_of (by decide)) HC.out).mono ?_
  rintro e w9 ⟨rfl, hw⟩
  have hb9 := bel_eq hb8 hw
  clear hw hb8
  go_wp2
  go_ret
  exact ⟨rfl, hb9⟩
end Go.Proofs.Ytpmdcckkmgfdjaa
