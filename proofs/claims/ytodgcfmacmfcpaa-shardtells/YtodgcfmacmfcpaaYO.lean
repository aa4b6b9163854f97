/- The plain words' shard: Image, Weight, ShardFrom. -/
import Derived.Test.YtodgcfmacmfcpaaYN
import Derived.Test.YtodgcfmacmfcpaaYE
import Derived.Deep.RegionHeld3
import Derived.Deep.RegionHeldLaw
namespace Go.Proofs.Ytodgcfmacmfcpaa
open Go.RowKit

theorem askR_o (N g : Nat) (T : List Pr) (S : List Se) (id ep : Int) (c s k : Int) (key v old : ByteArray) (w : World) (h : RSh N w g T S id ep) (hN : N < w.heap.size) : askRQ N g T S id ep c s k key v old w := by
  cases hm : askableS c s k key v old with
  | false => exact askR_no N g T S id ep c s k key v old w h hm
  | true => exact askR_yes N g T S id ep c s k key v old w h hN hm
theorem askR_eq (N g : Nat) (T : List Pr) (S : List Se) (id ep : Int) (c s k : Int) (key v old : ByteArray) (w : World) (h : RSh N w g T S id ep) (hN : N < w.heap.size) (T' : List Pr) (S' : List Se) (a : Int) (y : ByteArray) (f : Bool) (hA : askS T S c s k key v old = (T', S', a, y, f)) :
    Calls Try.prog 19 #[.pointer (some ⟨g, 0, none⟩), .agg #[.int .i64 c, .int .i64 s, .int .i64 k, .string key, .string v, .string old]] w fun e w' =>
      e = .returned (.tuple #[.agg #[.int .i64 a, .string y], .bool f]) ∧ RSh N w' g T' S' id ep ∧ Part g 0 35 w w' := by
  have := askR_o N g T S id ep c s k key v old w h hN
  unfold askRQ at this
  rw [hA] at this
  exact this
theorem WeightR_any (N g : Nat) (T : List Pr) (S : List Se) (id ep : Int) (w : World) (h : RSh N w g T S id ep) (n : Nat) (hn : T.length = n) :
    Calls Try.prog 21 #[.pointer (some ⟨g, 0, none⟩)] w fun e w' => e = .returned (.int .i64 (1 + (n : Int))) ∧ w' = w := by
  obtain ⟨ao, cap, h1, _, _⟩ := h.tab
  have hf := h.few
  rw [hn] at hf h1
  have hf2 : (n : Int) ≤ 8 := by omega
  have c0 := h1.at 0 _ rfl
  simp only [Nat.add_zero] at c0
  have hg := h1.lt
  clear h h1 hn
  go_enter Try.func21, Try.ntmps21
  go_wp2
  go_ret
  exact ⟨rfl, rfl⟩
theorem refT_w {N : Nat} {w1 W : World} (hB : Below w1.heap.size w1 W) {ao : Option Addr} {n cap : Nat} {ps : List Pr} (hn : ps.length = n) (hR : PrR w1 ao cap ps) (hN : N < w1.heap.size) :
    Calls Try.prog 41 #[.slice ao n cap] W fun e W' => ∃ ao' cap', e = .returned (.agg #[.slice ao' (putsS [] ps).length cap']) ∧ (ao' = none → cap' = 0) ∧ PrA (fun i => i ≠ N) W' ao' cap' (putsS [] ps) ∧ Below w1.heap.size w1 W' ∧ Below W.heap.size W W' :=
  (refOf_any (N := N) ao n cap ps W hn (hR.below hB) (Nat.lt_of_lt_of_le hN hB.size)).mono fun _ _ ⟨a, c, h1, h2, h3, h4⟩ => ⟨a, c, h1, h2, h3, bel_call hB h4, h4⟩
theorem refS_w {N : Nat} {w1 W : World} (hB : Below w1.heap.size w1 W) {ao : Option Addr} {n cap : Nat} {xs : List Se} (hn : xs.length = n) (hR : SeR w1 ao cap xs) (hN : N < w1.heap.size) :
    Calls Try.prog 42 #[.slice ao n cap] W fun e W' => ∃ ao' cap', e = .returned (.agg #[.slice ao' (allS (notesS zeroS xs)).length cap']) ∧ ArK seK (fun i => i ≠ N) W' ao' cap' (allS (notesS zeroS xs)) ∧ Below w1.heap.size w1 W' ∧ Below W.heap.size W W' :=
  (refOfS_any N ao n cap xs W hn (ArK.below hR hB) (Nat.lt_of_lt_of_le hN hB.size)).mono fun _ _ ⟨a, c, h1, h3, h4⟩ => ⟨a, c, h1, h3, bel_call hB h4, h4⟩
theorem RSh.made {N : Nat} {w : World} {ao bo : Option Addr} {cap cap2 : Nat} {T : List Pr} {S : List Se} {id ep : Int} {t : TypeId} (h0 : ao = none → cap = 0) (h1 : PrA (fun i => i ≠ N) w ao cap T) (h2 : ArK seK (fun i => i ≠ N) w bo cap2 (allS S)) (hr : Rise T) (hf : T.length ≤ 8) (hI : SInv S) :
    RSh N (w.alloc (.cells #[.slice ao T.length cap, .slice bo (allS S).length cap2, .int .i64 id, .int .i64 ep] t)) w.heap.size T S id ep := by
  have hO := Ob.whole (alloc_new w (.cells #[.slice ao T.length cap, .slice bo (allS S).length cap2, .int .i64 id, .int .i64 ep] t))
  have e1 : Ob _ w.heap.size 0 ([.slice ao T.length cap] ++ ([.slice bo (allS S).length cap2] ++ [.int .i64 id, .int .i64 ep])) := hO
  have hb := bel_al w (.cells #[.slice ao T.length cap, .slice bo (allS S).length cap2, .int .i64 id, .int .i64 ep] t)
  have p1 := h1.below hb
  have p2 := ArK.below h2 hb
  refine ⟨⟨ao, cap, e1.fst, h0, p1.1, p1.2.1, fun hl => ?_⟩, ⟨bo, cap2, e1.snd.fst, ⟨p2.1, p2.2.1, p2.2.2.1, fun hl => ?_⟩⟩, e1.snd.snd, hr, hf, hI⟩
  · obtain ⟨g, o, e, x1, x2, x3⟩ := h1.2.2 hl
    exact ⟨g, o, e, Nat.lt_of_lt_of_le x1 hb.size, ⟨by omega, x2⟩, x3.below hb x1⟩
  · obtain ⟨g, o, e, x1, x2, x3⟩ := h2.2.2.2 hl
    exact ⟨g, o, e, Nat.lt_of_lt_of_le x1 hb.size, ⟨by omega, x2⟩, x3.below hb x1⟩
set_option maxRecDepth 20000 in
set_option maxHeartbeats 4000000 in
theorem ShardFrom_any (N : Nat) (ao : Option Addr) (n cap : Nat) (ps : List Pr) (bo : Option Addr) (m cap2 : Nat) (xs : List Se) (id ep : Int) (w : World) (hn : ps.length = n) (hR : PrR w ao cap ps) (hm : xs.length = m) (hS : SeR w bo cap2 xs) (hN : N < w.heap.size) :
    Calls Try.prog 17 #[.agg #[.int .i64 id, .int .i64 ep, .slice ao n cap, .slice bo m cap2]] w fun e w' => ∃ g, e = .returned (.pointer (some ⟨g, 0, none⟩)) ∧ RSh N w' g (putsS [] ps) (notesS zeroS xs) id ep ∧ Below w.heap.size w w' ∧ w.heap.size ≤ g := by
  have HI : Hid (∃ w1 : World, w.alloc (.cells #[.int .i64 id, .int .i64 ep, .slice ao n cap, .slice bo m cap2] 41) = w1 ∧ ImAt w1 w.heap.size id ep (.slice ao n cap) (.slice bo m cap2) ∧ Below w.heap.size w w1 ∧ PrR w1 ao cap ps ∧ SeR w1 bo cap2 xs ∧ N < w1.heap.size) :=
    ⟨_, rfl, alloc_new w _, bel_al w _, hR.below (bel_al w _), hS.below (bel_al w _), Nat.lt_of_lt_of_le hN (bel_al w _).size⟩
  clear hR hS hN
  go_enter Try.func17, Try.ntmps17
  go_upto_region 1 with fail
  obtain ⟨w1, e1, I1, B1, R1, S1, N1⟩ := HI.out
  rw [e1]
  obtain ⟨q0, q1, q2, q3⟩ := I1.cells
  have HW : Hid (ImAt w1 w.heap.size id ep (.slice ao n cap) (.slice bo m cap2) ∧ Below w.heap.size w w1 ∧ PrR w1 ao cap ps ∧ SeR w1 bo cap2 xs ∧ N < w1.heap.size) := ⟨I1, B1, R1, S1, N1⟩
  have hlt := I1.lt
  clear HI e1 I1 B1 R1 S1 N1
  have tokA : True := trivial
  have tokB : True := trivial
  go_region_held3 (fun w' => w'.cell? ⟨w.heap.size, 0, none⟩ = some (.int .i64 id) ∧ w'.cell? ⟨w.heap.size, 1, none⟩ = some (.int .i64 ep) ∧ w'.cell? ⟨w.heap.size, 2, none⟩ = some (.slice ao n cap) ∧ w'.cell? ⟨w.heap.size, 3, none⟩ = some (.slice bo m cap2)) (first | (refine ⟨?_, ?_, ?_, ?_⟩ <;> with_reducible assumption) | go_keep) (first
    | (have _t := tokA; go_at_call 41; refine (refT_w (w1 := w1) (by first | exact (Below.refl _ _).drew | assumption) hn HW.out.2.2.1 HW.out.2.2.2.2).mono ?_; rintro e x2 ⟨ta, tc, rfl, h0, hT, hb, _⟩; obtain ⟨r0, r1, r2, r3⟩ := (HW.out.1.below hb).cells; have HT : Hid (PrA (fun i => i ≠ N) x2 ta tc (putsS [] ps) ∧ (ta = none → tc = 0)) := ⟨hT, h0⟩; clear tokA _t hT h0)
    | (have _t := tokB; go_at_call 42; refine (refS_w (w1 := w1) (by first | exact (Below.refl _ _).drew | assumption) hm HW.out.2.2.2.1 HW.out.2.2.2.2).mono ?_; rintro e x3 ⟨sa, sc, rfl, hS, hb', hd'⟩; obtain ⟨s0, s1, s2, s3⟩ := (HW.out.1.below hb').cells; have HS : Hid (ArK seK (fun i => i ≠ N) x3 sa sc (allS (notesS zeroS xs)) ∧ Below w1.heap.size w1 x3 ∧ Below x2.heap.size x2 x3) := ⟨hS, hb', hd'⟩; have hx3 : w.heap.size < x3.heap.size := Nat.lt_of_lt_of_le hlt hb'.size; clear tokB _t hS))
  all_goals
    go_wp2
    go_ret
    obtain ⟨p1, p2⟩ := puts_fine ps [] List.Pairwise.nil (Nat.zero_le _)
    exact ⟨_, rfl, RSh.made HT.out.2 (HT.out.1.below HS.out.2.2) HS.out.1 p1 p2 (SInv.zero.notes xs), (bel_call HW.out.2.1 HS.out.2.1).trans ((bel_al x3 _).mono (by omega)), by omega⟩
end Go.Proofs.Ytodgcfmacmfcpaa
