/- Two images that are the same. -/
import Derived.Test.YtodgcfmacmfcpaaYD
namespace Go.Proofs.Ytodgcfmacmfcpaa
open Go.RowKit

/-- an image that is read -/
structure RdI (w : World) (ao : Option Addr) (cap : Nat) (T : List Pr) (bo : Option Addr) (cap2 : Nat) (S : List Se) : Prop where
  ps : PrR w ao cap T
  xs : SeR w bo cap2 S
theorem RdI.below {w w' : World} {ao bo : Option Addr} {cap cap2 : Nat} {T : List Pr} {S : List Se} (h : RdI w ao cap T bo cap2 S) (o : Below w.heap.size w w') : RdI w' ao cap T bo cap2 S := ⟨h.ps.below o, h.xs.below o⟩
theorem OwnI.rd {B : Nat} {w : World} {ao bo : Option Addr} {cap cap2 : Nat} {T : List Pr} {S : List Se} (h : OwnI B w ao cap T bo cap2 S) : RdI w ao cap T bo cap2 S := ⟨h.ps.rd, h.xs.arK.mono fun _ _ _ => trivial⟩
theorem PrR.at {w : World} {ao : Option Addr} {cap : Nat} {l : List Pr} (h : PrR w ao cap l) (k : Nat) (hk : k < l.length) (x : Pr) (hx : l[k] = x) : ∃ b off, ao = some ⟨b, off, none⟩ ∧ b < w.heap.size ∧ ∀ w', Below w.heap.size w w' → w'.cell? ⟨b, off + k * 2, none⟩ = some (.string x.1) ∧ w'.cell? ⟨b, off + k * 2 + 1, none⟩ = some (.string x.2) := by
  obtain ⟨b, off, e, hb, hr⟩ := h.2.2 (by omega)
  refine ⟨b, off, e, hb, fun w' hB => ?_⟩
  have := (hr.below hB hb) k hk
  rw [hx] at this
  exact this
theorem SeR.at {w : World} {ao : Option Addr} {cap : Nat} {l : List Se} (h : SeR w ao cap l) (k : Nat) (hk : k < l.length) (x : Se) (hx : l[k] = x) : ∃ b off, ao = some ⟨b, off, none⟩ ∧ b < w.heap.size ∧ ∀ w', Below w.heap.size w w' → w'.cell? ⟨b, off + k * 4, none⟩ = some (.int .i64 x.cl) ∧ w'.cell? ⟨b, off + k * 4 + 1, none⟩ = some (.int .i64 x.sq) ∧ w'.cell? ⟨b, off + k * 4 + 2, none⟩ = some (.int .i64 x.why) ∧ w'.cell? ⟨b, off + k * 4 + 3, none⟩ = some (.string x.val) := by
  obtain ⟨b, off, e, hb, _, hr⟩ := ArK.at h (by omega)
  refine ⟨b, off, e, hb, fun w' hB => ?_⟩
  have := (hr.below hB hb).se k hk
  rw [hx] at this
  exact this
theorem PrR.len {w : World} {ao : Option Addr} {cap : Nat} {l : List Pr} (h : PrR w ao cap l) : l.length ≤ 9223372036854775807 := Nat.le_trans h.1 (Nat.le_trans h.2.1 (by unfold maxLen; omega))
set_option maxHeartbeats 4000000 in
theorem SameI_any (id ep : Int) (ao : Option Addr) (cap : Nat) (bo : Option Addr) (cap2 : Nat) (ao' : Option Addr) (cap' : Nat) (bo' : Option Addr) (cap2' : Nat) (n m : Nat) (T : List Pr) (S : List Se) (w : World) (hn : T.length = n) (hm : S.length = m) (h : RdI w ao cap T bo cap2 S) (h' : RdI w ao' cap' T bo' cap2' S) :
    Calls Try.prog 22 #[.agg #[.int .i64 id, .int .i64 ep, .slice ao n cap, .slice bo m cap2], .agg #[.int .i64 id, .int .i64 ep, .slice ao' n cap', .slice bo' m cap2']] w fun e w' => e = .returned (.bool true) ∧ Below w.heap.size w w' := by
  have hn3 := h.ps.len
  have hm3 := h.xs.len
  rw [hn] at hn3
  rw [hm] at hm3
  have HR : Hid (RdI w ao cap T bo cap2 S ∧ RdI w ao' cap' T bo' cap2' S ∧ T.length = n ∧ S.length = m) := ⟨h, h', hn, hm⟩
  have HI : Hid (∃ w1 : World, (w.alloc (.cells #[.int .i64 id, .int .i64 ep, .slice ao n cap, .slice bo m cap2] 41)).alloc (.cells #[.int .i64 id, .int .i64 ep, .slice ao' n cap', .slice bo' m cap2'] 41) = w1 ∧ ImAt w1 w.heap.size id ep (.slice ao n cap) (.slice bo m cap2) ∧ ImAt w1 (w.heap.size + 1) id ep (.slice ao' n cap') (.slice bo' m cap2') ∧ Below w.heap.size w w1) :=
    ⟨_, rfl, al2_fst w _ _, al2_snd w _ _, bel_al2 w _ _⟩
  clear h h' hn hm
  go_enter Try.func22, Try.ntmps22
  go_upto_region 1 with fail
  obtain ⟨w1, e1, I1, J1, B1⟩ := HI.out
  rw [e1]
  have HW : Hid (ImAt w1 w.heap.size id ep (.slice ao n cap) (.slice bo m cap2) ∧ ImAt w1 (w.heap.size + 1) id ep (.slice ao' n cap') (.slice bo' m cap2') ∧ Below w.heap.size w w1) := ⟨I1, J1, B1⟩
  obtain ⟨p0, p1, p2, p3⟩ := I1.cells
  obtain ⟨q0, q1, q2, q3⟩ := J1.cells
  clear HI e1 I1 J1 B1
  go_wp2_with fail
  go_loopw [5] (fun i wr => ∃ j : Nat, j ≤ n ∧ i = .int .i64 j ∧ Below w1.heap.size w1 wr) (fun i _ => n - (intOf i).toNat)
  case atStart => exact ⟨0, Nat.zero_le _, rfl, Below.refl _ _⟩
  case round =>
    obtain ⟨j, hj, rfl, hbel⟩ := hrel
    have HB : Hid (Below w1.heap.size w1 wr) := hbel
    clear p0 p1 p2 p3 q0 q1 q2 q3
    obtain ⟨p0, p1, p2, p3⟩ := (HW.out.1.below hbel).cells
    obtain ⟨q0, q1, q2, q3⟩ := (HW.out.2.1.below hbel).cells
    by_cases hlt : j < n
    · obtain ⟨x, hx⟩ : ∃ x, T[j]'(by rw [HR.out.2.2.1]; exact hlt) = x := ⟨_, rfl⟩
      obtain ⟨b, off, rfl, hb, hc⟩ := HR.out.1.ps.at j (by rw [HR.out.2.2.1]; exact hlt) x hx
      obtain ⟨b', off', rfl, hb', hc'⟩ := HR.out.2.1.ps.at j (by rw [HR.out.2.2.1]; exact hlt) x hx
      have hB : Below w.heap.size w wr := bel_call HW.out.2.2 hbel
      obtain ⟨c0, c1⟩ := hc wr hB
      obtain ⟨d0, d1⟩ := hc' wr hB
      have hji : (j : Int) < (n : Int) := by omega
      clear hc hc' hx hB hbel
      go_wp2_with fail
      go_region
      all_goals
        go_wp2
        go_roundw
        case rel => exact ⟨j + 1, by omega, by go_num, HB.out.drew⟩
        case measure => simp [intOf]; omega
    · have hjn : j = n := by omega
      subst hjn
      clear hbel
      go_wp2_with fail
      go_loopw [6] (fun i wr => ∃ k : Nat, k ≤ m ∧ i = .int .i64 k ∧ Below w1.heap.size w1 wr) (fun i _ => m - (intOf i).toNat)
      case atStart => exact ⟨0, Nat.zero_le _, rfl, HB.out⟩
      case round =>
        obtain ⟨k, hk, rfl, hbel2⟩ := hrel
        have HB2 : Hid (Below w1.heap.size w1 _) := hbel2
        clear p0 p1 p2 p3 q0 q1 q2 q3
        obtain ⟨p0, p1, p2, p3⟩ := (HW.out.1.below hbel2).cells
        obtain ⟨q0, q1, q2, q3⟩ := (HW.out.2.1.below hbel2).cells
        by_cases hltk : k < m
        · obtain ⟨x, hx⟩ : ∃ x, S[k]'(by rw [HR.out.2.2.2]; exact hltk) = x := ⟨_, rfl⟩
          obtain ⟨b, off, rfl, hb, hc⟩ := HR.out.1.xs.at k (by rw [HR.out.2.2.2]; exact hltk) x hx
          obtain ⟨b', off', rfl, hb', hc'⟩ := HR.out.2.1.xs.at k (by rw [HR.out.2.2.2]; exact hltk) x hx
          have hB : Below w.heap.size w _ := bel_call HW.out.2.2 hbel2
          obtain ⟨c0, c1, c2, c3⟩ := hc _ hB
          obtain ⟨d0, d1, d2, d3⟩ := hc' _ hB
          have hki : (k : Int) < (m : Int) := by omega
          clear hc hc' hx hB hbel2
          go_wp2_with fail
          go_region
          all_goals
            go_wp2
            go_roundw
            case rel => exact ⟨k + 1, by omega, by go_num, HB2.out.drew⟩
            case measure => simp [intOf]; omega
        · have hkm : k = m := by omega
          subst hkm
          clear hbel2
          go_wp2
          go_ret
          exact ⟨rfl, bel_call HW.out.2.2 HB2.out⟩
end Go.Proofs.Ytodgcfmacmfcpaa
