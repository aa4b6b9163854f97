/- Requests of raw operations (osmosishand.Req). -/
import Derived.Test.YtodgcfmacmfcpaaRQ
import Derived.Test.YtodgcfmacmfcpaaRP
import Derived.Deep.RegionHeld3
namespace Go.Proofs.Ytodgcfmacmfcpaa
open Go.RowKit

theorem Text_any (s : ByteArray) (n : Nat) (w : World) :
    Calls Try.prog 44 #[.string s, .int .i64 n] w fun e w' => (∃ t, e = .returned (.string t)) ∧ w' = w := by
  by_cases h : (n : Int) < (s.size : Int)
  · go_enter Try.func44, Try.ntmps44
    go_wp2
    go_ret
    exact ⟨⟨_, rfl⟩, rfl⟩
  · go_enter Try.func44, Try.ntmps44
    go_wp2
    go_ret
    exact ⟨⟨_, rfl⟩, rfl⟩
set_option maxHeartbeats 400000 in
theorem Num_some (n : Int) (w : World) :
    Calls Try.prog 40 #[.int .i64 n] w fun e w' => (∃ x, e = .returned (.int .i64 x)) ∧ w' = w := by
  have l1 := pick_lo n 7 (by omega)
  have l2 := pick_hi n 7 (by omega)
  have l3 := pick_lo (n.tdiv 7) 63 (by omega)
  have l4 := pick_hi (n.tdiv 7) 63 (by omega)
  have l5 := pick_lo (n.tdiv 441) 3 (by omega)
  have l6 := pick_hi (n.tdiv 441) 3 (by omega)
  go_enter Try.func40, Try.ntmps40
  go_wp2_with (go_at_call 24; refine (Pick_any _ _ _ (by omega) (by omega)).mono ?_; rintro e w' ⟨rfl, rfl⟩)
  all_goals (go_ret; exact ⟨⟨_, rfl⟩, rfl⟩)
set_option maxRecDepth 20000 in
set_option maxHeartbeats 4000000 in
theorem Req_any (x : RawO) (w : World) :
    Calls Try.prog 18 #[.agg (rawV x)] w fun e w' =>
      (∃ (c s k : Int) (key v old : ByteArray), e = .returned (.agg #[.int .i64 c, .int .i64 s, .int .i64 k, .string key, .string v, .string old])) ∧ Below w.heap.size w w' := by
  have l1 := pick_lo x.client 4 (by omega)
  have l2 := pick_hi x.client 4 (by omega)
  have l3 := pick_lo x.seq 9 (by omega)
  have l4 := pick_hi x.seq 9 (by omega)
  have HR : Hid (∃ w0 : World, ((w.alloc (.cells (rawV x) 59)).alloc (reqO 0 0 0 ⟨#[]⟩ ⟨#[]⟩ ⟨#[]⟩)) = w0 ∧ RawAt w0 w.heap.size x ∧ ReqAt w0 (w.heap.size + 1) 0 0 0 ⟨#[]⟩ ⟨#[]⟩ ⟨#[]⟩ ∧ Below w.heap.size w w0) :=
    ⟨_, rfl, al2_fst w _ _, al2_snd w _ _, (bel_al w _).trans ((Below.refl _ _).alloc (by show _ ≤ (w.heap.push _).size; simp) _)⟩
  unfold rawV reqO at HR
  unfold rawV
  go_enter Try.func18, Try.ntmps18
  go_upto_region 1 with fail
  obtain ⟨w0, hw0, R0, A0, B0⟩ := HR.out
  rw [hw0]
  have H0 : Hid (RawAt w0 w.heap.size x ∧ ReqAt w0 (w.heap.size + 1) 0 0 0 ⟨#[]⟩ ⟨#[]⟩ ⟨#[]⟩ ∧ Below w.heap.size w w0) := ⟨R0, A0, B0⟩
  obtain ⟨q0, q1, q2, q3, q4, q5, q6, q7⟩ := R0.cells
  have hlt : w.heap.size + 1 < w0.heap.size := (Array.getElem?_eq_some_iff.1 A0).1
  have hlt0 : w.heap.size < w0.heap.size := by omega
  have hne0 : w.heap.size ≠ w0.heap.size := by omega
  clear HR hw0 R0 A0 B0
  have tokA : True := trivial
  go_cut [3] (fun v wx => ∃ (b : Nat) (c s k : Int) (key val old : ByteArray), v = .pointer (some ⟨b, 0, none⟩) ∧ w0.heap.size ≤ b ∧ ReqAt wx b c s k key val old ∧ Below w0.heap.size w0 wx)
  case first =>
    go_region_held3 (fun w' => w'.cell? ⟨w.heap.size, 0, none⟩ = some (.int .i64 x.kind) ∧ w'.cell? ⟨w.heap.size, 1, none⟩ = some (.int .i64 x.key) ∧ w'.cell? ⟨w.heap.size, 2, none⟩ = some (.int .i64 x.value) ∧ w'.cell? ⟨w.heap.size, 3, none⟩ = some (.int .i64 x.old) ∧ w'.cell? ⟨w.heap.size, 4, none⟩ = some (.int .i64 x.client) ∧ w'.cell? ⟨w.heap.size, 5, none⟩ = some (.int .i64 x.seq)) (first | (refine ⟨?_, ?_, ?_, ?_, ?_, ?_⟩ <;> with_reducible assumption) | (refine ⟨?_, ?_, ?_, ?_, ?_, ?_⟩ <;> (rw [set6 hne0]; with_reducible assumption)) | go_keep) (first
      | (go_at_call 24; refine (Pick_any _ _ _ (by omega) (by omega)).mono ?_; rintro e w' ⟨rfl, rfl⟩)
      | (have _t := tokA; go_at_call 43; refine (Op_any _ _ _ _ _).mono ?_; rintro e w3 ⟨rfl, hb⟩; first
          | (have hb2 : Below w0.drew.heap.size w0.drew w3 := (by with_reducible exact hb); have hb3 : Below w0.heap.size w0 w3 := below_undrew hb2; obtain ⟨q0, q1, q2, q3, q4, q5, q6, q7⟩ := (H0.out.1.below hb3).cells; clear tokA hb hb2)
          | (have hb2 : Below (w0.alloc (.cells #[.int .i64 0, .int .i64 0, .int .i64 0, .string ⟨#[]⟩, .string ⟨#[]⟩, .string ⟨#[]⟩] 47)).drew.heap.size (w0.alloc (.cells #[.int .i64 0, .int .i64 0, .int .i64 0, .string ⟨#[]⟩, .string ⟨#[]⟩, .string ⟨#[]⟩] 47)).drew w3 := (by with_reducible exact hb); have hb3 : Below w0.heap.size w0 w3 := (bel_al w0 _).trans (Below.mono (below_undrew hb2) (bel_al w0 _).size); obtain ⟨q0, q1, q2, q3, q4, q5, q6, q7⟩ := (H0.out.1.below hb3).cells; have hz : ReqAt w3 w0.heap.size 0 0 0 ⟨#[]⟩ ⟨#[]⟩ ⟨#[]⟩ := ReqAt.below (alloc_new w0 _) (below_undrew hb2); obtain ⟨z0, z1, z2, z3, z4, z5⟩ := hz.cells; obtain ⟨f0, f1, f2, f3, f4, f5⟩ := hz.free; have HZ : Hid (ReqAt w3 w0.heap.size 0 0 0 ⟨#[]⟩ ⟨#[]⟩ ⟨#[]⟩) := hz; clear tokA hz hb hb2)))
    all_goals
      go_wp2
      go_meet
      case rel =>
        first
        | exact ⟨w0.heap.size, _, _, _, _, _, _, rfl, Nat.le_refl _, req_set6 HZ.out _ _ _ _ _ _, hb3.trans ((only_set6 _ _ _ _ _ _).below (fun i e => by omega) hb3.size)⟩
        | exact ⟨w3.heap.size, _, _, _, _, _, _, rfl, hb3.size, alloc_new w3 _, hb3.alloc hb3.size _⟩
  case rest =>
  obtain ⟨b, c, s, k, key, val, old, rfl, hb, hQ, hB⟩ := hcut
  have HQ : Hid (ReqAt wc b c s k key val old ∧ Below w0.heap.size w0 wc ∧ w0.heap.size ≤ b) := ⟨hQ, hB, hb⟩
  obtain ⟨q0, q1, q2, q3, q4, q5, q6, q7⟩ := (H0.out.1.below hB).cells
  have hA := H0.out.2.1.below hB
  obtain ⟨a0, a1, a2, a3, a4, a5⟩ := hA.cells
  obtain ⟨f0, f1, f2, f3, f4, f5⟩ := hA.free
  obtain ⟨b0, b1, b2, b3, b4, b5⟩ := hQ.cells
  obtain ⟨g0, g1, g2, g3, g4, g5⟩ := hQ.free
  have hnb : ¬ b = w.heap.size + 1 := by omega
  have hnb2 : ¬ w.heap.size + 1 = b := by omega
  have hnb3 : ¬ w.heap.size = b := by omega
  have hnb4 : ¬ b = w.heap.size := by omega
  clear hb hQ hB hA
  obtain ⟨m, hm⟩ : ∃ m : Int, pick x.bend 16 = m := ⟨_, rfl⟩
  have HM : Hid (pick x.bend 16 = m) := hm
  have HA : Hid (ReqAt wc (w.heap.size + 1) 0 0 0 ⟨#[]⟩ ⟨#[]⟩ ⟨#[]⟩) := H0.out.2.1.below HQ.out.2.1
  clear hm l1 l2 l3 l4
  go_upto_block 0 with (go_at_call 24; refine (Pick_eq _ _ _ (by omega) (by omega) HM.out).mono ?_; rintro e w' ⟨rfl, rfl⟩)
  go_cut [] (fun wx => ∃ (c s k : Int) (key val old : ByteArray), ReqAt wx b c s k key val old ∧ Only (fun i => i = b) w' wx)
  case first =>
    have l1 := pick_lo (x.bend.tdiv 16) 8 (by omega)
    have l2 := pick_hi (x.bend.tdiv 16) 8 (by omega)
    have l3 := pick_lo (x.bend.tdiv 16) 9 (by omega)
    have l4 := pick_hi (x.bend.tdiv 16) 9 (by omega)
    clear a0 a1 a2 a3 a4 a5 f0 f1 f2 f3 f4 f5
    by_cases h10 : m = 10
    · subst h10
      go_wp2_with (go_at_call 44; refine (Text_any _ 12 _).mono ?_; rintro e w2 ⟨⟨t, rfl⟩, rfl⟩)
      go_meet
      case rel => exact ⟨_, _, _, _, _, _, req_set1 HQ.out.1 3 (.string t) rfl, only_set (Only.refl _ _) _ _⟩
    by_cases h11 : m = 11
    · subst h11
      go_wp2_with (go_at_call 44; refine (Text_any _ 20 _).mono ?_; rintro e w2 ⟨⟨t, rfl⟩, rfl⟩)
      go_meet
      case rel => exact ⟨_, _, _, _, _, _, req_set1 HQ.out.1 4 (.string t) rfl, only_set (Only.refl _ _) _ _⟩
    by_cases h12 : m = 12
    · subst h12
      go_wp2_with (go_at_call 24; refine (Pick_any _ _ _ (by omega) (by omega)).mono ?_; rintro e w2 ⟨rfl, rfl⟩)
      go_meet
      case rel => exact ⟨_, _, _, _, _, _, req_set1 HQ.out.1 2 (.int .i64 _) rfl, only_set (Only.refl _ _) _ _⟩
    by_cases h13 : m = 13
    · subst h13
      go_wp2_with (go_at_call 24; refine (Pick_any _ _ _ (by omega) (by omega)).mono ?_; rintro e w2 ⟨rfl, rfl⟩)
      go_meet
      case rel => exact ⟨_, _, _, _, _, _, req_set1 HQ.out.1 0 (.int .i64 _) rfl, only_set (Only.refl _ _) _ _⟩
    by_cases h14 : m = 14
    · subst h14
      go_wp2_with (go_at_call 40; refine (Num_some _ _).mono ?_; rintro e w2 ⟨⟨t, rfl⟩, rfl⟩)
      go_meet
      case rel => exact ⟨_, _, _, _, _, _, req_set1 HQ.out.1 1 (.int .i64 t) rfl, only_set (Only.refl _ _) _ _⟩
    by_cases h15 : m = 15
    · subst h15
      go_wp2
      go_meet
      case rel => exact ⟨_, _, _, _, _, _, req_set6 HQ.out.1 _ _ _ _ _ _, only_set6 _ _ _ _ _ _⟩
    go_wp2
    go_meet
    case rel => exact ⟨_, _, _, _, _, _, HQ.out.1, Only.refl _ _⟩
  case rest =>
  obtain ⟨c, s, k, key, val, old, hQ, hO⟩ := hcut
  have hA : ReqAt wc (w.heap.size + 1) 0 0 0 ⟨#[]⟩ ⟨#[]⟩ ⟨#[]⟩ := (hO.block _ (Array.getElem?_eq_some_iff.1 HA.out).1 hnb2).trans HA.out
  have HB : Hid (Below w.heap.size w wc) := H0.out.2.2.trans ((HQ.out.2.1.trans (hO.below (fun i e => by have := HQ.out.2.2; omega) HQ.out.2.1.size)).mono H0.out.2.2.size)
  have HE := req_end hA c s k key val old
  clear a0 a1 a2 a3 a4 a5 f0 f1 f2 f3 f4 f5 b0 b1 b2 b3 b4 b5 g0 g1 g2 g3 g4 g5 q0 q1 q2 q3 q4 q5 q6 q7
  obtain ⟨a0, a1, a2, a3, a4, a5⟩ := hA.cells
  obtain ⟨f0, f1, f2, f3, f4, f5⟩ := hA.free
  obtain ⟨b0, b1, b2, b3, b4, b5⟩ := hQ.cells
  have HE : Hid _ := HE
  clear hA hQ hO
  go_wp2
  obtain ⟨r0, r1, r2, r3, r4, r5⟩ := HE.out
  refine bodyPost_ret (by simp [results, Try.results18, go_sem, r0, r1, r2, r3, r4, r5]; try rfl) rfl ?_
  exact ⟨⟨_, _, _, _, _, _, rfl⟩, HB.out.trans ((only_set6 _ _ _ _ _ _).below (fun i e => by omega) HB.out.size)⟩
end Go.Proofs.Ytodgcfmacmfcpaa
