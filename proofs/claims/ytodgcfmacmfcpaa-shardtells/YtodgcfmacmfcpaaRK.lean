/- Requests of raw operations that are not bent. -/
import Derived.Test.YtodgcfmacmfcpaaRQ
import Derived.Test.YtodgcfmacmfcpaaRP
import Derived.Deep.RegionHeld3
namespace Go.Proofs.Ytodgcfmacmfcpaa
open Go.RowKit

theorem Op_eq (kind key value old : Int) (w : World) (k : Int) (y v o : ByteArray) (h1 : oKind kind = k) (h2 : keyS key = y) (h3 : oVal kind value = v) (h4 : oOld kind old = o) : Calls Try.prog 43 #[.int .i64 kind, .int .i64 key, .int .i64 value, .int .i64 old] w fun e w' => e = .returned (.agg #[.int .i64 k, .string y, .string v, .string o]) ∧ Below w.heap.size w w' := by
  subst h1 h2 h3 h4; exact Op_any kind key value old w
set_option maxRecDepth 20000 in
set_option maxHeartbeats 4000000 in
theorem Req_fine (x : RawO) (h0 : x.bend = 0) (w : World) :
    Calls Try.prog 18 #[.agg (rawV x)] w fun e w' =>
      e = .returned (.agg #[.int .i64 (pick x.client 4), .int .i64 (1 + pick x.seq 9), .int .i64 (oKind x.kind), .string (keyS x.key), .string (oVal x.kind x.value), .string (oOld x.kind x.old)]) ∧ Below w.heap.size w w' := by
  have H00 : Hid (x.bend = 0) := h0
  clear h0
  have l1 := pick_lo x.client 4 (by omega)
  have l2 := pick_hi x.client 4 (by omega)
  have l3 := pick_lo x.seq 9 (by omega)
  have l4 := pick_hi x.seq 9 (by omega)
  obtain ⟨c, hc⟩ : ∃ c, pick x.client 4 = c := ⟨_, rfl⟩
  obtain ⟨q, hq⟩ : ∃ q, pick x.seq 9 = q := ⟨_, rfl⟩
  obtain ⟨k, hk⟩ : ∃ k, oKind x.kind = k := ⟨_, rfl⟩
  obtain ⟨key, hkey⟩ : ∃ key, keyS x.key = key := ⟨_, rfl⟩
  obtain ⟨val, hval⟩ : ∃ val, oVal x.kind x.value = val := ⟨_, rfl⟩
  obtain ⟨old, hold⟩ : ∃ old, oOld x.kind x.old = old := ⟨_, rfl⟩
  rw [hc, hq, hk, hkey, hval, hold]
  rw [hc] at l1 l2
  rw [hq] at l3 l4
  have hw : IntKind.i64.wrap (1 + q) = 1 + q := by rw [IntKind.wrap_i64]; omega
  have HC : Hid (pick x.client 4 = c) := hc
  have HQ9 : Hid (pick x.seq 9 = q) := hq
  have HV : Hid (oKind x.kind = k ∧ keyS x.key = key ∧ oVal x.kind x.value = val ∧ oOld x.kind x.old = old) := ⟨hk, hkey, hval, hold⟩
  clear hc hq hk hkey hval hold
  have tokC : True := trivial
  have tokS : True := trivial
  have HR : Hid (∃ w0 : World, ((w.alloc (.cells (rawV x) 59)).alloc (reqO 0 0 0 ⟨#[]⟩ ⟨#[]⟩ ⟨#[]⟩)) = w0 ∧ RawAt w0 w.heap.size x ∧ ReqAt w0 (w.heap.size + 1) 0 0 0 ⟨#[]⟩ ⟨#[]⟩ ⟨#[]⟩ ∧ Below w.heap.size w w0) :=
    ⟨_, rfl, al2_fst w _ _, al2_snd w _ _, (bel_al w _).trans ((Below.refl _ _).alloc (by show _ ≤ (w.heap.push _).size; simp) _)⟩
  unfold rawV reqO at HR
  unfold rawV
  go_enter Try.func18, Try.ntmps18
  go_upto_region 1 with fail
  obtain ⟨w0, hw0, R0, A0, B0⟩ := HR.out
  rw [hw0]
  have H0 : Hid (RawAt w0 w.heap.size x ∧ ReqAt w0 (w.heap.size + 1) 0 0 0 ⟨#[]⟩ ⟨#[]⟩ ⟨#[]⟩ ∧ Below w.heap.size w w0) := ⟨R0, A0, B0⟩
  obtain ⟨q0, q1, q2, q3, q4, q5, q6, q7⟩ := R0.cells
  have hlt : w.heap.size + 1 < w0.heap.size := (Array.getElem?_eq_some_iff.1 A0).1
  have hlt0 : w.heap.size < w0.heap.size := by omega
  have hne0 : w.heap.size ≠ w0.heap.size := by omega
  clear HR hw0 R0 A0 B0
  have tokA : True := trivial
  go_cut [3] (fun v wx => ∃ (b : Nat), v = .pointer (some ⟨b, 0, none⟩) ∧ w0.heap.size ≤ b ∧ ReqAt wx b c (1 + q) k key val old ∧ Below w0.heap.size w0 wx)
  case first =>
    go_region_held3 (fun w' => w'.cell? ⟨w.heap.size, 0, none⟩ = some (.int .i64 x.kind) ∧ w'.cell? ⟨w.heap.size, 1, none⟩ = some (.int .i64 x.key) ∧ w'.cell? ⟨w.heap.size, 2, none⟩ = some (.int .i64 x.value) ∧ w'.cell? ⟨w.heap.size, 3, none⟩ = some (.int .i64 x.old) ∧ w'.cell? ⟨w.heap.size, 4, none⟩ = some (.int .i64 x.client) ∧ w'.cell? ⟨w.heap.size, 5, none⟩ = some (.int .i64 x.seq)) (first | (refine ⟨?_, ?_, ?_, ?_, ?_, ?_⟩ <;> with_reducible assumption) | (refine ⟨?_, ?_, ?_, ?_, ?_, ?_⟩ <;> (rw [set6 hne0]; with_reducible assumption)) | go_keep) (first
      | (have _t := tokC; go_at_call 24; refine (Pick_eq _ 4 _ (by omega) (by omega) HC.out).mono ?_; rintro e w' ⟨rfl, rfl⟩; clear tokC _t)
      | (have _t := tokS; go_at_call 24; refine (Pick_eq _ 9 _ (by omega) (by omega) HQ9.out).mono ?_; rintro e w' ⟨rfl, rfl⟩; clear tokS _t)
      | (have _t := tokA; go_at_call 43; refine (Op_eq _ _ _ _ _ _ _ _ _ HV.out.1 HV.out.2.1 HV.out.2.2.1 HV.out.2.2.2).mono ?_; rintro e w3 ⟨rfl, hb⟩; first
          | (have hb2 : Below w0.drew.heap.size w0.drew w3 := (by with_reducible exact hb); have hb3 : Below w0.heap.size w0 w3 := below_undrew hb2; obtain ⟨q0, q1, q2, q3, q4, q5, q6, q7⟩ := (H0.out.1.below hb3).cells; clear tokA hb hb2)
          | (have hb2 : Below (w0.alloc (.cells #[.int .i64 0, .int .i64 0, .int .i64 0, .string ⟨#[]⟩, .string ⟨#[]⟩, .string ⟨#[]⟩] 47)).drew.heap.size (w0.alloc (.cells #[.int .i64 0, .int .i64 0, .int .i64 0, .string ⟨#[]⟩, .string ⟨#[]⟩, .string ⟨#[]⟩] 47)).drew w3 := (by with_reducible exact hb); have hb3 : Below w0.heap.size w0 w3 := (bel_al w0 _).trans (Below.mono (below_undrew hb2) (bel_al w0 _).size); obtain ⟨q0, q1, q2, q3, q4, q5, q6, q7⟩ := (H0.out.1.below hb3).cells; have hz : ReqAt w3 w0.heap.size 0 0 0 ⟨#[]⟩ ⟨#[]⟩ ⟨#[]⟩ := ReqAt.below (alloc_new w0 _) (below_undrew hb2); obtain ⟨z0, z1, z2, z3, z4, z5⟩ := hz.cells; obtain ⟨f0, f1, f2, f3, f4, f5⟩ := hz.free; have HZ : Hid (ReqAt w3 w0.heap.size 0 0 0 ⟨#[]⟩ ⟨#[]⟩ ⟨#[]⟩) := hz; clear tokA hz hb hb2)))
    all_goals
      go_wp2
      go_meet
      case rel =>
        first
        | exact ⟨w0.heap.size, rfl, Nat.le_refl _, req_set6 HZ.out _ _ _ _ _ _, hb3.trans ((only_set6 _ _ _ _ _ _).below (fun i e => by omega) hb3.size)⟩
        | exact ⟨w3.heap.size, rfl, hb3.size, alloc_new w3 _, hb3.alloc hb3.size _⟩
  case rest =>
  obtain ⟨b, rfl, hb, hQ, hB⟩ := hcut
  obtain ⟨s, hs⟩ : ∃ s, 1 + q = s := ⟨_, rfl⟩
  rw [hs] at hQ
  have HSS : Hid (1 + q = s) := hs
  clear hs hw l3 l4 l1 l2
  have HQ : Hid (ReqAt wc b c s k key val old ∧ Below w0.heap.size w0 wc ∧ w0.heap.size ≤ b) := ⟨hQ, hB, hb⟩
  obtain ⟨q0, q1, q2, q3, q4, q5, q6, q7⟩ := (H0.out.1.below hB).cells
  have hA := H0.out.2.1.below hB
  obtain ⟨a0, a1, a2, a3, a4, a5⟩ := hA.cells
  obtain ⟨f0, f1, f2, f3, f4, f5⟩ := hA.free
  obtain ⟨b0, b1, b2, b3, b4, b5⟩ := hQ.cells
  obtain ⟨g0, g1, g2, g3, g4, g5⟩ := hQ.free
  have hnb : ¬ b = w.heap.size + 1 := by omega
  have hnb2 : ¬ w.heap.size + 1 = b := by omega
  have hnb3 : ¬ w.heap.size = b := by omega
  have hnb4 : ¬ b = w.heap.size := by omega
  clear hb hQ hB hA
  have hm : pick x.bend 16 = 0 := by rw [H00.out]; rfl
  have HA : Hid (ReqAt wc (w.heap.size + 1) 0 0 0 ⟨#[]⟩ ⟨#[]⟩ ⟨#[]⟩) := H0.out.2.1.below HQ.out.2.1
  have HM : Hid (pick x.bend 16 = 0) := hm
  have HB : Hid (Below w.heap.size w wc) := bel_call H0.out.2.2 HQ.out.2.1
  have HE := req_end HA.out c s k key val old
  have HE : Hid _ := HE
  clear hm
  go_wp2_with (go_at_call 24; refine (Pick_eq _ _ _ (by omega) (by omega) HM.out).mono ?_; rintro e w' ⟨rfl, rfl⟩)
  obtain ⟨r0, r1, r2, r3, r4, r5⟩ := HE.out
  refine bodyPost_ret (by simp [results, Try.results18, go_sem, r0, r1, r2, r3, r4, r5]; try rfl) rfl ?_
  exact ⟨by rw [HSS.out], HB.out.trans ((only_set6 _ _ _ _ _ _).below (fun i e => by omega) HB.out.size)⟩
end Go.Proofs.Ytodgcfmacmfcpaa
