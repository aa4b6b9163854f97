/- a string of bytes; the law HashApart: its walk -/
import Derived.Test.YtpmdcckkmgfdjaaHC
namespace Go.Proofs.Ytpmdcckkmgfdjaa
open Go.RowKit

def str (l : List UInt8) : ByteArray := ⟨l.toArray⟩
theorem str_inj {a b : List UInt8} (h : str a = str b) : a = b := by
  have := congrArg (fun s : ByteArray => s.data.toList) h
  simpa [str] using this

theorem str_toList (l : List UInt8) : (str l).toList = l := by rw [ByteArray.toList_eq]; simp [str]

/-- string(b) -/
theorem run_str {B : Nat} (w : World) (ao : Option Addr) (n cap : Nat) (l : List UInt8) (h : Rd B w ao n cap (Bs l)) :
    (convert 30 9 (.slice ao n cap)).run Try.prog w = .ok (.string (str l)) w := by
  obtain ⟨h1, h2, h3, h4, h5⟩ := h
  rw [Bs_length] at h1
  subst h1
  cases ao with
  | none =>
    have : l = [] := List.eq_nil_of_length_eq_zero (by have := h4 rfl; omega)
    subst this
    exact run_convert_bytes_nil w 30 5 Try.underlying30 Try.underlying5 _ _ 9 Try.underlying9
  | some a =>
    have hl : (loadCells a l.length).run Try.prog w = .ok ((l.map fun c => (c.toNat : Int)).map (Value.int .u8)).toArray w := by
      have := run_loadCells_list (P := Try.prog) w a ((l.map fun c => (c.toNat : Int)).map (Value.int .u8)) (fun j v hj => by
        rcases h5 with h5 | ⟨b, off, e1, e2, e3⟩
        · have : l = [] := by simpa [Bs] using h5
          subst this
          simp at hj
        · cases e1
          rw [show (⟨b, off, none⟩ : Addr).add j = ⟨b, off + j, none⟩ from by unfold Addr.add; split <;> simp_all]
          refine e3 j v ?_
          rw [← hj, List.map_map]
          rfl)
      simpa using this
    rw [run_convert_bytes_string w 30 9 5 _ l.length cap Try.underlying30 Try.underlying5 Try.underlying9, run_bytesToString w _ l.length cap _ hl, foldl_push_bytes]
    have hm : (l.map fun c => (c.toNat : Int)).map (fun n : Int => UInt8.ofNat n.toNat) = l := by
      rw [List.map_map]
      conv => rhs; rw [← List.map_id l]
      apply List.map_congr_left
      intro c _
      simp
    rw [hm]
    simp [str, ByteArray.empty, ByteArray.emptyWithCapacity]
    rfl


theorem cat_list (a b : ByteArray) (x : UInt8) : (a ++ str [x] ++ b).data.toList = a.data.toList ++ x :: b.data.toList := by simp [str]
theorem one_size (x : UInt8) : (str [x]).size = 1 := rfl
theorem cat_size (a b : ByteArray) (x : UInt8) : (a ++ str [x] ++ b).size = a.size + 1 + b.size := by rw [ByteArray.size_append, ByteArray.size_append, one_size]
theorem sz_one {s : ByteArray} (h : s.size ≤ 9223372036854775807) : ∀ t ∈ [s], t.size ≤ 9223372036854775807 := by
  intro t ht; rw [List.mem_singleton] at ht; rw [ht]; exact h
theorem Rd.byte (W : World) (x : UInt8) : Rd (W.alloc (.cells #[.int .u8 x.toNat] 5)).heap.size (W.alloc (.cells #[.int .u8 x.toNat] 5)) (some ⟨W.heap.size, 0, none⟩) 1 1 (Bs [x]) :=
  Rd.built W (Bs [x]) 5 (by rw [Bs_length]; unfold maxLen; simp)

set_option maxHeartbeats 1000000 in
theorem apart_walk (a b : ByteArray) (x y : UInt8) (m : Int) (w : World) (ha : a.size ≤ 140737488351232) (hb : b.size ≤ 140737488351232) :
    Calls Try.prog 5 #[.string a, .string b, .int .u8 x.toNat, .int .u8 y.toNat, .int .i64 m] w fun e w' => e = .returned (.bool true) ∧ Below w.heap.size w w' := by
  obtain ⟨k, hk⟩ : ∃ k, pick m 100 = k := ⟨_, rfl⟩
  have l1 := pick_lo m 100 (by omega)
  have l2 := pick_hi m 100 (by omega)
  rw [hk] at l1 l2
  have HK : Hid (pick m 100 = k) := hk
  clear hk
  have h1 := one_size x
  have h2 := one_size y
  have hs := cat_size a b x
  have ht := cat_size a b y
  obtain ⟨X, hX⟩ : ∃ X : Int, ((sumOf [a ++ str [x] ++ b] : Nat) : Int) = X := ⟨_, rfl⟩
  obtain ⟨Y, hY⟩ : ∃ Y : Int, ((sumOf [a ++ str [y] ++ b] : Nat) : Int) = Y := ⟨_, rfl⟩
  obtain ⟨Z, hZ⟩ : ∃ Z : Int, shardS (a ++ b) (1 + k) = Z := ⟨_, rfl⟩
  have z1 : 0 ≤ Z := by rw [← hZ, shardS_hi (by omega)]; exact Int.emod_nonneg _ (by omega)
  have z2 : Z < 1 + k := by rw [← hZ, shardS_hi (by omega)]; exact Int.emod_lt_of_pos _ (by omega)
  have hxy : (X = Y) ↔ x = y := by
    rw [← hX, ← hY, ← part_apart _ _ (cat_list a b x) (cat_list a b y)]; omega
  have hq : ((X == Y) == ((x.toNat : Int) == (y.toNat : Int))) = true := by
    by_cases h : x = y
    · rw [show (X == Y) = true from beq_iff_eq.2 (hxy.2 h), h]; simp
    · rw [show (X == Y) = false from beq_eq_false_iff_ne.2 (fun e => h (hxy.1 e)), show ((x.toNat : Int) == (y.toNat : Int)) = false from beq_eq_false_iff_ne.2 (fun e => h (UInt8.toNat_inj.1 (by omega)))]; rfl
  have HX : Hid (((sumOf [a ++ str [x] ++ b] : Nat) : Int) = X) := hX
  have HY : Hid (((sumOf [a ++ str [y] ++ b] : Nat) : Int) = Y) := hY
  have HZ : Hid (shardS (a ++ b) (1 + k) = Z) := hZ
  clear hxy hX hY hZ
  have r1 := run_str _ _ _ _ _ (Rd.byte w x)
  go_enter Try.func5, Try.ntmps5
  go_wp2_with fail
  refine (Pick_eq m 100 k _ (by omega) (by omega) HK.out).mono ?_
  rintro e w ⟨rfl, rfl⟩
  go_wp2_with fail
  refine (Sum_eq _ _ _ [a ++ str [x] ++ b] X _ (by exact Rd.strs (w.alloc (.cells #[.int .u8 x.toNat] 5)) [a ++ str [x] ++ b] _ (by simp) (by simp)) (sz_one (by omega)) HX.out).mono ?_
  rintro e w1 ⟨rfl, hw⟩
  have hb1 : Below w.heap.size w w1 := by subst hw; exact ((Below.refl _ _).alloc (Nat.le_refl _) _).alloc (by simp) _
  clear hw r1
  have r2 := run_str _ _ _ _ _ (Rd.byte w1 y)
  go_wp2_with fail
  refine (Sum_eq _ _ _ [a ++ str [y] ++ b] Y _ (by exact Rd.strs (w1.alloc (.cells #[.int .u8 y.toNat] 5)) [a ++ str [y] ++ b] _ (by simp) (by simp)) (sz_one (by omega)) HY.out).mono ?_
  rintro e w2 ⟨rfl, hw⟩
  have hb2 : Below w1.heap.size w1 w2 := by subst hw; exact ((Below.refl _ _).alloc (Nat.le_refl _) _).alloc (by simp) _
  have hb2 := bel_call hb1 hb2
  clear hw r2
  have hab : (a ++ b).size ≤ 9223372036854775807 := by rw [ByteArray.size_append]; omega
  go_wp2_with fail
  refine (Shard_eq _ _ Z _ hab (by omega) HZ.out).mono ?_
  rintro e w3 ⟨rfl, hw⟩
  have hb3 := bel_call hb2 hw
  clear hw
  go_wp2_with fail
  refine (known_any _).mono ?_
  rintro e w4 ⟨rfl, hw⟩
  have hb4 := bel_call hb3 hw
  clear hw
  go_wp2
  go_ret
  exact ⟨rfl, hb4⟩
end Go.Proofs.Ytpmdcckkmgfdjaa
