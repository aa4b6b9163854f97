/- lay -/
import Derived.Test.YtjhcldccogpoaaaB
import Derived.Test.YtjhcldccogpoaaaM
namespace Go.Proofs.Ytjhcldccogpoaaa
open Go.RowKit

set_option maxHeartbeats 400000 in
theorem lay_some (base : Nat) (v : Value) (l : List UInt8) (b off n cap : Nat) (ns : List Int) (w : World)
    (hown : w.ownsRow base 5 1 v l.length (Bs l)) (h : Rd w.heap.size w (some ⟨b, off, none⟩) n cap (Is ns)) (hn : 0 < n)
    (hsep : b < base ∨ ∃ cs e fr, w.heap[b]? = some (.cells cs e fr) ∧ e ≠ 5) (hbase : base ≤ w.heap.size)
    (hin : ∀ x ∈ ns, 0 ≤ x ∧ x ≤ 4611686018427387903) (hb : (l ++ encs ns).length ≤ 140737488355328) :
    Calls Try.prog 55 #[v, .slice (some ⟨b, off, none⟩) n cap] w fun e w' => ∃ ao' cap', e = .returned (.slice ao' (l ++ encs ns).length cap') ∧
      w'.ownsRow base 5 1 (.slice ao' (l ++ encs ns).length cap') (l ++ encs ns).length (Bs (l ++ encs ns)) ∧ Below base w w' ∧ w'.heap[b]? = w.heap[b]? := by
  have hcm : n ≤ maxLen := Nat.le_trans h.2.1 h.2.2.1
  unfold maxLen at hcm
  have hll : ns.length = n := by rw [← Is_length]; exact h.1
  obtain ⟨b', off', heq, hbB, hcells⟩ := h.atSome hn
  cases heq
  obtain ⟨ao, cp, rfl⟩ := ownsRow.form hown
  have HC : Hid (∀ j u, (Is ns)[j]? = some u → w.cell? ⟨b, off + j, none⟩ = some u) := hcells
  have HLL : Hid (ns.length = n) := hll
  have HIN : Hid (∀ x ∈ ns, 0 ≤ x ∧ x ≤ 4611686018427387903) := hin
  clear hcells hll hin h
  go_enter Try.func55, Try.ntmps55
  go_wp2
  go_loopw [0, 9] (fun v i wr => ∃ (k : Nat) (ao' : Option Addr) (cp' : Nat), k ≤ n ∧ i = .int .i64 k ∧ v = .slice ao' (l ++ encs (ns.take k)).length cp' ∧
      wr.ownsRow base 5 1 v (l ++ encs (ns.take k)).length (Bs (l ++ encs (ns.take k))) ∧ Below base w wr ∧ wr.heap[b]? = w.heap[b]?)
    (fun _ i _ => n - (intOf i).toNat)
  case atStart =>
    refine ⟨0, ao, cp, Nat.zero_le _, rfl, ?_, ?_, Below.refl _ _, rfl⟩
    · simp [encs]
    · simpa [encs] using hown
  case round =>
    obtain ⟨k, ao1, cp1, hk, rfl, rfl, hown1, hbel, hblk⟩ := hrel
    by_cases hlt : k < n
    · obtain ⟨x, hx⟩ : ∃ x, ns[k]? = some x := ⟨ns[k]'(by rw [HLL.out]; exact hlt), List.getElem?_eq_getElem _⟩
      have hc : wr.cell? ⟨b, off + k, none⟩ = some (.int .i64 x) := (World.cell?_of_block hblk).trans (HC.out k _ (by simp [Is, hx]))
      have HX : Hid (ns[k]? = some x) := hx
      have hx0 := (HIN.out x (List.mem_of_getElem? hx)).1
      have hx1 := (HIN.out x (List.mem_of_getElem? hx)).2
      clear hx
      go_wp2
      obtain ⟨wo, rfl⟩ : ∃ wo : World, wo = wr := ⟨_, rfl⟩
      go_loopw [0, 6] (fun v i wr => ∃ (m : Nat) (L : List UInt8) (ao' : Option Addr) (cp' : Nat), m ≤ 4611686018427387903 ∧ i = .int .i64 m ∧ Hid (L ++ enc m = l ++ encs (ns.take (k + 1))) ∧ v = .slice ao' L.length cp' ∧
        wr.ownsRow base 5 1 v L.length (Bs L) ∧ Below base w wr ∧ wr.heap[b]? = w.heap[b]?)
        (fun _ i _ => (intOf i).toNat)
      case atStart =>
        refine ⟨x.toNat, l ++ encs (ns.take k), ao1, cp1, by omega, ?_, ?_, rfl, hown1, hbel, hblk⟩
        · go_num
        · show _ = _; rw [encs_snoc HX.out, List.append_assoc]
      case round =>
        obtain ⟨m, L, ao2, cp2, hm, rfl, HL, rfl, hown2, hbel2, hblk2⟩ := hrel
        have hlen : L.length + (enc m).length = (l ++ encs (ns.take (k + 1))).length := by rw [← HL.out]; simp
        have hle := encs_take_le ns (k + 1)
        have hpos := enc_pos m
        have hbd : L.length + 1 ≤ 140737488355328 := by simp at hlen hb; omega
        have hsz := hbel2.size
        clear hlen hle hpos
        by_cases hgt : 127 < m
        · have HE : Hid (enc m = UInt8.ofNat (m % 128 + 128) :: enc (m / 128)) := enc_large (by omega)
          have HO : Hid (bits .or .i64 (bits .and .i64 (m : Int) 127) 128 % 256 = ((UInt8.ofNat (m % 128 + 128)).toNat : Int)) := or128 m
          go_wp2_with (at_builtin; refine appB rfl _ _ _ rfl _ _ _ _ rfl (hown2.alloc _) _ 1 [_] rfl (src_one wr Try.underlying23 _ 5 rfl) hbd (by simp; omega) ?_)
          intro ao3 cp3 w3 hown3 hg3 hb3
          obtain ⟨hbel3, hblk3⟩ := lay_step hbB hsep hown2 hbel2 hblk2 hbase hg3 hb3
          rw [HO.out] at hown3
          have HF : Hid (w3.ownsRow base 5 1 (.slice ao3 (L.length + 1) cp3) (L ++ [UInt8.ofNat (m % 128 + 128)]).length (Bs (L ++ [UInt8.ofNat (m % 128 + 128)]))) := by
            show World.ownsRow _ _ _ _ _ _ _
            rw [Bs_append, List.length_append]
            exact hown3
          clear hown3 hg3 hb3
          go_wp2
          go_roundw
          case rel =>
            refine ⟨m / 128, L ++ [UInt8.ofNat (m % 128 + 128)], ao3, cp3, by omega, by go_num, ?_, by simp, HF.out, hbel3, hblk3⟩
            show _ = _
            rw [← HL.out, HE.out, List.append_assoc]; rfl
          case measure => simp [intOf]; omega
        · have HE : Hid (enc m = [UInt8.ofNat m]) := enc_small (by omega)
          have HO : Hid ((m : Int) = ((UInt8.ofNat m).toNat : Int)) := low8 m (by omega)
          go_wp2_with (at_builtin; refine appB rfl _ _ _ rfl _ _ _ _ rfl (hown2.alloc _) _ 1 [_] rfl (src_one wr Try.underlying23 _ 5 rfl) hbd (by simp; omega) ?_)
          intro ao3 cp3 w3 hown3 hg3 hb3
          obtain ⟨hbel3, hblk3⟩ := lay_step hbB hsep hown2 hbel2 hblk2 hbase hg3 hb3
          have HF : Hid (w3.ownsRow base 5 1 (.slice ao3 (L.length + 1) cp3) (l ++ encs (ns.take (k + 1))).length (Bs (l ++ encs (ns.take (k + 1))))) := by
            show World.ownsRow _ _ _ _ _ _ _
            rw [HO.out] at hown3
            rw [← HL.out, HE.out, Bs_append, List.length_append]
            exact hown3
          have HG : Hid (L.length + 1 = (l ++ encs (ns.take (k + 1))).length) := by
            show _ = _
            rw [← HL.out, HE.out, List.length_append]; rfl
          clear hown3 hg3 hb3
          go_wp2
          go_roundw
          case rel => exact ⟨k + 1, ao3, cp3, by omega, by go_num, by rw [HG.out], HF.out, hbel3, hblk3⟩
          case measure => simp [intOf]; omega
    · have hkn : k = n := by omega
      have HT : Hid (ns.take k = ns) := List.take_of_length_le (by rw [HLL.out]; omega)
      go_wp2
      go_ret
      rw [HT.out] at hown1 ⊢
      exact ⟨ao1, cp1, rfl, hown1, hbel, hblk⟩

set_option maxHeartbeats 400000 in
/-- lay: the numbers behind what one owns -/
theorem lay_any (base : Nat) (v : Value) (l : List UInt8) (ao : Option Addr) (n cap : Nat) (ns : List Int) (w : World)
    (hown : w.ownsRow base 5 1 v l.length (Bs l)) (h : Rd w.heap.size w ao n cap (Is ns))
    (hsep : 0 < n → ∃ b off, ao = some ⟨b, off, none⟩ ∧ (b < base ∨ ∃ cs e fr, w.heap[b]? = some (.cells cs e fr) ∧ e ≠ 5)) (hbase : base ≤ w.heap.size)
    (hin : ∀ x ∈ ns, 0 ≤ x ∧ x ≤ 4611686018427387903) (hb : (l ++ encs ns).length ≤ 140737488355328) :
    Calls Try.prog 55 #[v, .slice ao n cap] w fun e w' => ∃ ao' cap', e = .returned (.slice ao' (l ++ encs ns).length cap') ∧
      w'.ownsRow base 5 1 (.slice ao' (l ++ encs ns).length cap') (l ++ encs ns).length (Bs (l ++ encs ns)) ∧ Below base w w' := by
  rcases Nat.eq_zero_or_pos n with rfl | hn
  · have hl : ns = [] := List.eq_nil_of_length_eq_zero (by rw [← Is_length]; exact h.1)
    have HL : Hid (l ++ encs ns = l) := by rw [hl]; exact List.append_nil l
    obtain ⟨ao0, cp, rfl⟩ := ownsRow.form hown
    clear hl
    go_enter Try.func55, Try.ntmps55
    go_wp2
    refine wp_loop_rounds 1 ?_
    rw [rounds_succ]
    go_wp2
    go_ret
    rw [HL.out]
    exact ⟨ao0, cp, rfl, hown, Below.refl _ _⟩
  · obtain ⟨b, off, rfl, hs⟩ := hsep hn
    refine (lay_some base v l b off n cap ns w hown h hn hs hbase hin hb).mono ?_
    rintro e w' ⟨ao', cap', he, h1, h2, _⟩
    exact ⟨ao', cap', he, h1, h2⟩
end Go.Proofs.Ytjhcldccogpoaaa
