/- Sessions: the law's known, same, sess. -/
import Derived.Test.YtaffgddjmolfgaaSB
import Derived.Test.YtaffgddjmolfgaaHV
import Derived.Test.YtaffgddjmolfgaaRG
namespace Go.Proofs.Ytaffgddjmolfgaa
open Go.RowKit

theorem Note_eq (g : Nat) (l : List Se) (a b c : Int) (v : ByteArray) (w : World) (h : SesAt w g l) (l' : List Se) (ok : Bool) (h1 : noteS l ⟨a, b, c, v⟩ = l') (h2 : mayS l ⟨a, b, c, v⟩ = ok) :
    Calls Try.prog 8 #[.pointer (some ⟨g, 0, none⟩), .agg #[.int .i64 a, .int .i64 b, .int .i64 c, .string v]] w fun e w' => e = .returned (.bool ok) ∧ SesAt w' g l' ∧ Only (fun k => k = g) w w' := by
  subst h1 h2; exact Note_sp g l a b c v w h
theorem All_eq (g : Nat) (l : List Se) (w : World) (h : SesAt w g l) (r : List Se) (n : Nat) (h1 : allS l = r) (h2 : r.length = n) :
    Calls Try.prog 10 #[.pointer (some ⟨g, 0, none⟩)] w fun e w' => ∃ ao cap, e = .returned (.slice ao n cap) ∧ OwnK seK w.heap.size w' ao cap r ∧ Below w.heap.size w w' := by
  subst h1 h2; exact All_any g l w h
theorem kn1 : noteS zeroS ⟨1, 3, 0, ⟨#[]⟩⟩ = [Se.z, ⟨1, 3, 0, ⟨#[]⟩⟩, Se.z, Se.z] := by kernel_rfl
theorem kn2 : mayS zeroS ⟨1, 3, 0, ⟨#[]⟩⟩ = true := by kernel_rfl
theorem kn3 : noteS [Se.z, ⟨1, 3, 0, ⟨#[]⟩⟩, Se.z, Se.z] ⟨1, 3, 0, ⟨#[]⟩⟩ = [Se.z, ⟨1, 3, 0, ⟨#[]⟩⟩, Se.z, Se.z] := by kernel_rfl
theorem kn4 : mayS [Se.z, ⟨1, 3, 0, ⟨#[]⟩⟩, Se.z, Se.z] ⟨1, 3, 0, ⟨#[]⟩⟩ = false := by kernel_rfl
theorem kn5 : allS [Se.z, ⟨1, 3, 0, ⟨#[]⟩⟩, Se.z, Se.z] = [⟨1, 3, 0, ⟨#[]⟩⟩] := by kernel_rfl
set_option maxHeartbeats 2000000 in
theorem knownS_any (w : World) : Calls Try.prog 11 #[] w fun e w' => e = .returned (.bool true) ∧ Below w.heap.size w w' := by
  have HT : Hid (SesAt (w.alloc zeroSO) w.heap.size zeroS) := SesAt.zero (alloc_new w _)
  go_enter Try.func11, Try.ntmps11
  go_wp2_with fail
  refine (Note_eq w.heap.size zeroS 1 3 0 ⟨#[]⟩ _ (HT.out.below (bel_al _ _)) _ _ kn1 kn2).mono ?_
  rintro e w2 ⟨rfl, hT, hO⟩
  have hS : SeAt w2 (w.heap.size + 1) ⟨1, 3, 0, ⟨#[]⟩⟩ := SeAt.only (al2_snd w zeroSO (.cells #[.int .i64 1, .int .i64 3, .int .i64 0, .string ⟨#[]⟩] 26)) hO (by omega)
  obtain ⟨q0, q1, q2, q3⟩ := hS.cells
  have hB : Below w.heap.size w w2 := (bel_al2 w zeroSO _).trans (hO.below (fun i e => by omega) (bel_al2 w zeroSO _).size)
  have H2 : Hid (SesAt w2 w.heap.size _ ∧ Below w.heap.size w w2) := ⟨hT, hB⟩
  clear hT hO hS hB HT
  simp only at q0 q1 q2 q3
  go_wp2_with fail
  refine (Note_eq w.heap.size _ 1 3 0 ⟨#[]⟩ _ H2.out.1 _ _ kn3 kn4).mono ?_
  rintro e w3 ⟨rfl, hT, hO⟩
  have H3 : Hid (SesAt w3 w.heap.size _ ∧ Below w.heap.size w w3) := ⟨hT, H2.out.2.trans (hO.below (fun i e => by omega) H2.out.2.size)⟩
  clear hT hO H2 q0 q1 q2 q3
  go_wp2_with fail
  refine (All_eq w.heap.size _ _ H3.out.1 _ 1 kn5 rfl).mono ?_
  rintro e w4 ⟨ao, cap, rfl, hown, hb⟩
  have hB : Below w.heap.size w w4 := bel_call H3.out.2 hb
  clear hown hb H3
  go_wp2
  go_ret
  exact ⟨rfl, hB⟩
/-- a raw note in a block of its own -/
def Rw (w : World) (b : Nat) (x0 x1 x2 x3 : Int) : Prop := w.heap[b]? = some (.cells #[.int .i64 x0, .int .i64 x1, .int .i64 x2, .int .i64 x3] 39 (0, 0))
theorem Rw.cells {w : World} {b : Nat} {x0 x1 x2 x3 : Int} (h : Rw w b x0 x1 x2 x3) : w.cell? ⟨b, 0, none⟩ = some (.int .i64 x0) ∧ w.cell? ⟨b, 1, none⟩ = some (.int .i64 x1) ∧ w.cell? ⟨b, 2, none⟩ = some (.int .i64 x2) ∧ w.cell? ⟨b, 3, none⟩ = some (.int .i64 x3) := by
  rw [cell_of_row w _ 0 _ _ (0, 0) h, cell_of_row w _ 1 _ _ (0, 0) h, cell_of_row w _ 2 _ _ (0, 0) h, cell_of_row w _ 3 _ _ (0, 0) h]
  exact ⟨rfl, rfl, rfl, rfl⟩
theorem Rw.below {w w' : World} {b : Nat} {x0 x1 x2 x3 : Int} (h : Rw w b x0 x1 x2 x3) (hb : Below w.heap.size w w') : Rw w' b x0 x1 x2 x3 := (hb.block b (Array.getElem?_eq_some_iff.1 h).1).trans h
set_option maxHeartbeats 4000000 in
/-- sess: of a raw note -/
theorem sess_any (a b c d : Int) (w : World) : Calls Try.prog 12 #[.agg #[.int .i64 a, .int .i64 b, .int .i64 c, .int .i64 d]] w fun e w' => ∃ x : Se, e = .returned (seV x) ∧ Below w.heap.size w w' := by
  have l1 := pick_lo a 7 (by omega)
  have l2 := pick_hi a 7 (by omega)
  have l3 := pick_lo b 12 (by omega)
  have l4 := pick_hi b 12 (by omega)
  have HR : Hid (∃ w0 : World, ((w.alloc (.cells #[.int .i64 a, .int .i64 b, .int .i64 c, .int .i64 d] 39)).alloc (.cells #[.int .i64 0, .int .i64 0, .int .i64 0, .string ⟨#[]⟩] 26)) = w0 ∧ Rw w0 w.heap.size a b c d ∧ SeAt w0 (w.heap.size + 1) Se.z ∧ Below w.heap.size w w0) :=
    ⟨_, rfl, al2_fst w _ _, al2_snd w _ _, bel_al2 w _ _⟩
  go_enter Try.func12, Try.ntmps12
  go_upto_region 1 with fail
  obtain ⟨w0, e0, R0, S0, B0⟩ := HR.out
  rw [e0]
  obtain ⟨q0, q1, q2, q3⟩ := R0.cells
  have hlt : w.heap.size + 1 < w0.heap.size := S0.lt
  have H0 : Hid (Rw w0 w.heap.size a b c d ∧ SeAt w0 (w.heap.size + 1) Se.z ∧ Below w.heap.size w w0) := ⟨R0, S0, B0⟩
  clear HR e0 R0 S0 B0
  go_cut [3] (fun v wx => ∃ x : Se, v = .pointer (some ⟨w0.heap.size, 0, none⟩) ∧ SeAt wx w0.heap.size x ∧ Below w0.heap.size w0 wx)
  case first =>
    go_region_held3 (fun w' => w'.cell? ⟨w.heap.size, 0, none⟩ = some (.int .i64 a) ∧ w'.cell? ⟨w.heap.size, 1, none⟩ = some (.int .i64 b) ∧ w'.cell? ⟨w.heap.size, 2, none⟩ = some (.int .i64 c) ∧ w'.cell? ⟨w.heap.size, 3, none⟩ = some (.int .i64 d)) (first | (refine ⟨?_, ?_, ?_, ?_⟩ <;> with_reducible assumption) | go_keep) (first
      | (go_at_call 18; refine (Pick_any _ _ _ (by omega) (by omega)).mono ?_; rintro e w' ⟨rfl, rfl⟩)
      | (go_at_call 17; refine (Value_any _ _).mono ?_; rintro e w' ⟨rfl, rfl⟩))
    all_goals
      go_wp2
      go_meet
      case rel => exact ⟨⟨_, _, _, _⟩, rfl, alloc_new w0 _, (bel_al w0 _).drew⟩
  case rest =>
  obtain ⟨x, rfl, hS, hB⟩ := hcut
  obtain ⟨xa, xb, xc, xd⟩ := x
  obtain ⟨q0, q1, q2, q3⟩ := (H0.out.1.below hB).cells
  have hZ := H0.out.2.1.below hB
  obtain ⟨z0, z1, z2, z3⟩ := hZ.cells
  have zf := hZ.free
  obtain ⟨s0, s1, s2, s3⟩ := hS.cells
  have sf := hS.free
  simp only at s0 s1 s2 s3
  simp only [Se.z] at z0 z1 z2 z3
  have hn1 : ¬ w0.heap.size = w.heap.size + 1 := by omega
  have hn2 : ¬ w.heap.size + 1 = w0.heap.size := by omega
  have hn3 : ¬ w.heap.size = w0.heap.size := by omega
  have HB : Hid (Below w.heap.size w wc ∧ w.heap.size + 1 < w0.heap.size ∧ w0.heap.size < wc.heap.size) := ⟨bel_call H0.out.2.2 hB, hlt, hS.lt⟩
  obtain ⟨p, hp0⟩ : ∃ p, pick b 13 = p := ⟨_, rfl⟩
  have HP : Hid (pick b 13 = p) := hp0
  have HZ : Hid (SeAt wc (w.heap.size + 1) Se.z) := hZ
  clear hp0 hB hZ hS
  by_cases hp : p = 12
  · subst hp
    go_wp2_with first | (go_at_call 18; refine (Pick_eq _ _ _ (by omega) (by omega) HP.out).mono ?_; rintro e w' ⟨rfl, rfl⟩) | (go_at_call 20; refine (Num_any _ _).mono ?_; rintro e w' ⟨y, rfl, rfl⟩)
    have hO := only_set (Only.refl (fun k => k = w0.heap.size) w') 1 (.int .i64 y)
    have hZ2 := (HZ.out.only hO (by omega)).set ⟨xa, y, xc, xd⟩
    obtain ⟨r0, r1, r2, r3⟩ := hZ2.cells
    simp only at r0 r1 r2 r3
    refine bodyPost_ret (by simp [results, Try.results12, go_sem, r0, r1, r2, r3]; try rfl) rfl ?_
    refine ⟨⟨xa, y, xc, xd⟩, rfl, ?_⟩
    exact (HB.out.1.trans (hO.below (fun i e => by have := HB.out.2.1; omega) HB.out.1.size)).trans ((wsets_only (w.heap.size + 1) (Se.cells ⟨xa, y, xc, xd⟩) _ 0).below (fun i e => by omega) (Nat.le_trans HB.out.1.size hO.size))
  · go_wp2_with (go_at_call 18; refine (Pick_eq _ _ _ (by omega) (by omega) HP.out).mono ?_; rintro e w' ⟨rfl, rfl⟩)
    have hZ2 := HZ.out.set ⟨xa, xb, xc, xd⟩
    obtain ⟨r0, r1, r2, r3⟩ := hZ2.cells
    simp only at r0 r1 r2 r3
    refine bodyPost_ret (by simp [results, Try.results12, go_sem, r0, r1, r2, r3]; try rfl) rfl ?_
    refine ⟨⟨xa, xb, xc, xd⟩, rfl, ?_⟩
    exact HB.out.1.trans ((wsets_only (w.heap.size + 1) (Se.cells ⟨xa, xb, xc, xd⟩) _ 0).below (fun i e => by omega) HB.out.1.size)
theorem rawn_cells {w : World} {ao : Option Addr} {n c : Nat} {l : List RawN} (h : RdG 4 RawN.Q w.heap.size w ao n c l) (hn : 0 < n) : ∃ b off, ao = some ⟨b, off, none⟩ ∧ b < w.heap.size ∧ ∀ (wr : World) (_ : Below w.heap.size w wr) (j : Nat) (x : RawN), l[j]? = some x →
    wr.cell? ⟨b, off + j * 4, none⟩ = some (.int .i64 x.a) ∧ wr.cell? ⟨b, off + j * 4 + 1, none⟩ = some (.int .i64 x.b) ∧ wr.cell? ⟨b, off + j * 4 + 2, none⟩ = some (.int .i64 x.c) ∧ wr.cell? ⟨b, off + j * 4 + 3, none⟩ = some (.int .i64 x.d) := by
  obtain ⟨b, off, e, hb, hc⟩ := h.atSome hn
  refine ⟨b, off, e, hb, fun wr hB j x hx => ?_⟩
  obtain ⟨cs, _, rfl, hcs⟩ := hc j x hx
  have q : ∀ i u, ([Value.int .i64 x.a, .int .i64 x.b, .int .i64 x.c, .int .i64 x.d] : List Value)[i]? = some u → wr.cell? ⟨b, off + j * 4 + i, none⟩ = some u := fun i u hu => (hB.cell (p := ⟨b, off + j * 4 + i, none⟩) hb).trans (hcs i u hu)
  exact ⟨q 0 _ rfl, q 1 _ rfl, q 2 _ rfl, q 3 _ rfl⟩
theorem RdG.lens {α : Type} {c : Nat} {Q : Nat → World → List Value → α → Prop} {B : Nat} {w : World} {ao : Option Addr} {n cap : Nat} {xs : List α} (h : RdG c Q B w ao n cap xs) : xs.length = n ∧ n ≤ 9223372036854775807 := ⟨h.1, Nat.le_trans h.2.1 (Nat.le_trans h.2.2.1 (by unfold maxLen; omega))⟩
end Go.Proofs.Ytaffgddjmolfgaa
