/- Shards: Of. -/
import Derived.Test.YtodgcfmacmfcpaaYA
import Derived.Deep.RegionHeld3
namespace Go.Proofs.Ytodgcfmacmfcpaa
open Go.RowKit

/-- the cells of a shard -/
def ShC (C : Array Value) (T : List Pr) (S : List Se) (id ep : Int) : Prop :=
  ∃ z, T.length + z.length = 8 ∧ Rise T ∧ SInv S ∧ C.toList = tcells T z ++ flt seK S ++ [.int .i64 id, .int .i64 ep]
section
variable {C : Array Value} {T : List Pr} {S : List Se} {id ep : Int}
theorem ShC.size (h : ShC C T S id ep) : C.size = 35 := by
  obtain ⟨z, h1, _, h3, h4⟩ := h
  rw [← Array.length_toList, h4, List.length_append, List.length_append, tcells_length h1, flt_length, h3.1]
  rfl
theorem ShC.ones (h : ShC C T S id ep) : C.all (·.oneCell') = true := by
  obtain ⟨z, h1, _, h3, h4⟩ := h
  rw [Array.all_eq_true']
  intro u hu
  have hu : u ∈ C.toList := by simpa using hu
  rw [h4] at hu
  rcases List.mem_append.1 hu with hu | hu
  · rcases List.mem_append.1 hu with hu | hu
    · have := tcells_one T z
      rw [Array.all_eq_true'] at this
      exact this u (by simpa using hu)
    · exact flt_one S u hu
  · simp at hu; rcases hu with rfl | rfl <;> rfl
theorem ShC.at (h : ShC C T S id ep) {w : World} {g : Nat} {t : TypeId} (hg : w.heap[g]? = some (.cells C t (0, 0))) : ShO w g 0 T S id ep := by
  obtain ⟨z, h1, h2, h3, h4⟩ := h
  have hO := Ob.whole hg
  rw [h4] at hO
  have hA := hO.fst
  have hB := hA.snd
  rw [tcells_length h1] at hB
  have hC := hO.snd
  rw [List.length_append, tcells_length h1, flt_length, h3.1] at hC
  exact ⟨⟨z, h1, h2, hA.fst⟩, ⟨h3, hB⟩, hC⟩
end
def zeroH : Obj := .cells #[.string ⟨#[]⟩, .string ⟨#[]⟩, .string ⟨#[]⟩, .string ⟨#[]⟩, .string ⟨#[]⟩, .string ⟨#[]⟩, .string ⟨#[]⟩, .string ⟨#[]⟩, .string ⟨#[]⟩, .string ⟨#[]⟩, .string ⟨#[]⟩, .string ⟨#[]⟩, .string ⟨#[]⟩, .string ⟨#[]⟩, .string ⟨#[]⟩, .string ⟨#[]⟩, .int .i64 0, .int .i64 0, .int .i64 0, .int .i64 0, .string ⟨#[]⟩, .int .i64 0, .int .i64 0, .int .i64 0, .string ⟨#[]⟩, .int .i64 0, .int .i64 0, .int .i64 0, .string ⟨#[]⟩, .int .i64 0, .int .i64 0, .int .i64 0, .string ⟨#[]⟩, .int .i64 0, .int .i64 0] 36
/-- an image in a block of its own -/
def ImAt (w : World) (b : Nat) (id ep : Int) (ps xs : Value) : Prop := w.heap[b]? = some (.cells #[.int .i64 id, .int .i64 ep, ps, xs] 41 (0, 0))
section
variable {w w' : World} {b : Nat} {id ep : Int} {ps xs : Value}
theorem ImAt.lt (h : ImAt w b id ep ps xs) : b < w.heap.size := (Array.getElem?_eq_some_iff.1 h).1
theorem ImAt.below (h : ImAt w b id ep ps xs) (hb : Below w.heap.size w w') : ImAt w' b id ep ps xs := (hb.block b h.lt).trans h
theorem ImAt.only {R : Nat → Prop} (h : ImAt w b id ep ps xs) (o : Only R w w') (hn : ¬ R b) : ImAt w' b id ep ps xs := (o.block b h.lt hn).trans h
theorem ImAt.free (h : ImAt w b id ep ps xs) (o : Nat) : w.frozen? ⟨b, o, none⟩ = false := by unfold ImAt at h; simp [World.frozen?, h]
theorem ImAt.cells (h : ImAt w b id ep ps xs) : w.cell? ⟨b, 0, none⟩ = some (.int .i64 id) ∧ w.cell? ⟨b, 1, none⟩ = some (.int .i64 ep) ∧ w.cell? ⟨b, 2, none⟩ = some ps ∧ w.cell? ⟨b, 3, none⟩ = some xs := by
  rw [cell_of_row w _ 0 _ _ (0, 0) h, cell_of_row w _ 1 _ _ (0, 0) h, cell_of_row w _ 2 _ _ (0, 0) h, cell_of_row w _ 3 _ _ (0, 0) h]
  exact ⟨rfl, rfl, rfl, rfl⟩
end
theorem size17 {C : Array Value} (h : C.size = 17) : ∃ a0 a1 a2 a3 a4 a5 a6 a7 a8 a9 a10 a11 a12 a13 a14 a15 a16, C = #[a0, a1, a2, a3, a4, a5, a6, a7, a8, a9, a10, a11, a12, a13, a14, a15, a16] := by
  obtain ⟨l⟩ := C
  match l, h with
  | [a0, a1, a2, a3, a4, a5, a6, a7, a8, a9, a10, a11, a12, a13, a14, a15, a16], _ => exact ⟨a0, a1, a2, a3, a4, a5, a6, a7, a8, a9, a10, a11, a12, a13, a14, a15, a16, rfl⟩
theorem size16 {C : Array Value} (h : C.size = 16) : ∃ a0 a1 a2 a3 a4 a5 a6 a7 a8 a9 a10 a11 a12 a13 a14 a15, C = #[a0, a1, a2, a3, a4, a5, a6, a7, a8, a9, a10, a11, a12, a13, a14, a15] := by
  obtain ⟨l⟩ := C
  match l, h with
  | [a0, a1, a2, a3, a4, a5, a6, a7, a8, a9, a10, a11, a12, a13, a14, a15], _ => exact ⟨a0, a1, a2, a3, a4, a5, a6, a7, a8, a9, a10, a11, a12, a13, a14, a15, rfl⟩
theorem shard_info : (Try.prog.info? 36).map (·.size) = some 35 := by kernel_rfl
/-- the two calls, from a world that is known -/
theorem OfT_w {w1 W : World} (hB : Below w1.heap.size w1 W) {ao : Option Addr} {n cap : Nat} {ps : List Pr} (hn : ps.length = n) (hR : PrR w1 ao cap ps) :
    Calls Try.prog 27 #[.slice ao n cap] W fun e W' => ∃ C : Array Value, e = .returned (.agg C) ∧ (∃ z, C.toList = tcells (putsS [] ps) z ∧ (putsS [] ps).length + z.length = 8 ∧ Rise (putsS [] ps)) ∧ C.size = 17 ∧ Below w1.heap.size w1 W' :=
  (Of_any ao n cap ps W hn (hR.below hB)).mono fun _ _ ⟨z, h1, h2, h3, h4⟩ => ⟨_, h1, ⟨z, rfl, h2, h3⟩, by rw [List.size_toArray, tcells_length h2], hB.trans (h4.mono hB.size)⟩
theorem OfS_w {w1 W : World} (hB : Below w1.heap.size w1 W) {ao : Option Addr} {n cap : Nat} {xs : List Se} (hn : xs.length = n) (hR : SeR w1 ao cap xs) :
    Calls Try.prog 28 #[.slice ao n cap] W fun e W' => ∃ C : Array Value, e = .returned (.agg C) ∧ C.toList = flt seK (notesS zeroS xs) ∧ C.size = 16 ∧ Below w1.heap.size w1 W' :=
  (OfAll_any ao n cap xs W hn (hR.below hB)).mono fun _ _ ⟨h1, h2⟩ => ⟨_, h1, rfl, by rw [List.size_toArray, flt_length, (SInv.zero.notes xs).1]; rfl, hB.trans (h2.mono hB.size)⟩
def StH (w : World) (g : Nat) (C : Array Value) : Prop := w.heap[g]? = some zeroH ∧ C.size = 35 ∧ C.all (·.oneCell') = true
theorem st_sh (w : World) (g : Nat) (C : Array Value) (h : StH w g C) : (storeCells ⟨g, 0, none⟩ C.toList).run Try.prog w = .ok () (w.setRow g C) := by
  obtain ⟨h1, h3, h4⟩ := h
  have := run_storeCells_from (P := Try.prog) g 36 C.toList 0 _ w h1 (by simp; omega) (fun v hv => (Array.all_eq_true_iff_forall_mem.1 h4) v (by simpa using hv))
  have e : (⟨g, 0, none⟩ : Addr).add 0 = ⟨g, 0, none⟩ := rfl
  have hd : (#[Value.string ⟨#[]⟩, .string ⟨#[]⟩, .string ⟨#[]⟩, .string ⟨#[]⟩, .string ⟨#[]⟩, .string ⟨#[]⟩, .string ⟨#[]⟩, .string ⟨#[]⟩, .string ⟨#[]⟩, .string ⟨#[]⟩, .string ⟨#[]⟩, .string ⟨#[]⟩, .string ⟨#[]⟩, .string ⟨#[]⟩, .string ⟨#[]⟩, .string ⟨#[]⟩, .int .i64 0, .int .i64 0, .int .i64 0, .int .i64 0, .string ⟨#[]⟩, .int .i64 0, .int .i64 0, .int .i64 0, .string ⟨#[]⟩, .int .i64 0, .int .i64 0, .int .i64 0, .string ⟨#[]⟩, .int .i64 0, .int .i64 0, .int .i64 0, .string ⟨#[]⟩, .int .i64 0, .int .i64 0] : Array Value).toList.drop C.size = [] := by rw [h3]; rfl
  simpa using this
/-- the cells of a shard as they are put together: its table's, its sessions', its numbers -/
def bl1 (C1 : Array Value) : Array Value := C1 ++ #[Value.int .i64 0, .int .i64 0, .int .i64 0, .string ⟨#[]⟩, .int .i64 0, .int .i64 0, .int .i64 0, .string ⟨#[]⟩, .int .i64 0, .int .i64 0, .int .i64 0, .string ⟨#[]⟩, .int .i64 0, .int .i64 0, .int .i64 0, .string ⟨#[]⟩, .int .i64 0, .int .i64 0]
def bl2 (C1 C2 : Array Value) : Array Value := C1 ++ C2 ++ #[.int .i64 0, .int .i64 0]
def blC (C1 C2 : Array Value) (id ep : Int) : Array Value := C1 ++ C2 ++ #[.int .i64 id, .int .i64 ep]
theorem fold_t (C1 : Array Value) (h : C1.size = 17) : Array.foldl (fun cs x => cs.setIfInBounds x.snd x.fst) #[Value.string ⟨#[]⟩, .string ⟨#[]⟩, .string ⟨#[]⟩, .string ⟨#[]⟩, .string ⟨#[]⟩, .string ⟨#[]⟩, .string ⟨#[]⟩, .string ⟨#[]⟩, .string ⟨#[]⟩, .string ⟨#[]⟩, .string ⟨#[]⟩, .string ⟨#[]⟩, .string ⟨#[]⟩, .string ⟨#[]⟩, .string ⟨#[]⟩, .string ⟨#[]⟩, .int .i64 0, .int .i64 0, .int .i64 0, .int .i64 0, .string ⟨#[]⟩, .int .i64 0, .int .i64 0, .int .i64 0, .string ⟨#[]⟩, .int .i64 0, .int .i64 0, .int .i64 0, .string ⟨#[]⟩, .int .i64 0, .int .i64 0, .int .i64 0, .string ⟨#[]⟩, .int .i64 0, .int .i64 0] C1.zipIdx 0 17 = bl1 C1 := by
  obtain ⟨a0, a1, a2, a3, a4, a5, a6, a7, a8, a9, a10, a11, a12, a13, a14, a15, a16, rfl⟩ := size17 h
  kernel_rfl
theorem size_bl1 (C1 : Array Value) (h : C1.size = 17) : (bl1 C1).size = 35 := by simp [bl1, h]
theorem fold_s (C1 C2 : Array Value) (h : C1.size = 17) (h2 : C2.size = 16) : Array.foldl (fun cs x => cs.setIfInBounds (17 + x.snd) x.fst) (bl1 C1) C2.zipIdx 0 16 = bl2 C1 C2 := by
  obtain ⟨a0, a1, a2, a3, a4, a5, a6, a7, a8, a9, a10, a11, a12, a13, a14, a15, a16, rfl⟩ := size17 h
  obtain ⟨b0, b1, b2, b3, b4, b5, b6, b7, b8, b9, b10, b11, b12, b13, b14, b15, rfl⟩ := size16 h2
  kernel_rfl
theorem size_bl2 (C1 C2 : Array Value) (h : C1.size = 17) (h2 : C2.size = 16) : (bl2 C1 C2).size = 35 := by simp [bl2, h, h2]
theorem set_bl2 (C1 C2 : Array Value) (id ep : Int) (h : C1.size = 17) (h2 : C2.size = 16) : ((bl2 C1 C2).setIfInBounds 33 (.int .i64 id)).setIfInBounds 34 (.int .i64 ep) = blC C1 C2 id ep := by
  obtain ⟨a0, a1, a2, a3, a4, a5, a6, a7, a8, a9, a10, a11, a12, a13, a14, a15, a16, rfl⟩ := size17 h
  obtain ⟨b0, b1, b2, b3, b4, b5, b6, b7, b8, b9, b10, b11, b12, b13, b14, b15, rfl⟩ := size16 h2
  kernel_rfl
theorem shc_of {C1 C2 C : Array Value} {T : List Pr} {S : List Se} {id ep : Int} (hC : blC C1 C2 id ep = C) (hT : ∃ z, C1.toList = tcells T z ∧ T.length + z.length = 8 ∧ Rise T) (hS : C2.toList = flt seK S) (hI : SInv S) : ShC C T S id ep := by
  obtain ⟨z, h1, h2, h3⟩ := hT
  subst hC
  exact ⟨z, h2, h3, hI, by simp [blC, h1, hS]⟩
attribute [local go_sem] st_sh
attribute [local go_sem] fold_t fold_s size_bl1 size_bl2 set_bl2
set_option maxHeartbeats 4000000 in
theorem ShOf_any (ao : Option Addr) (n cap : Nat) (ps : List Pr) (bo : Option Addr) (m cap2 : Nat) (xs : List Se) (id ep : Int) (w : World) (hn : ps.length = n) (hR : PrR w ao cap ps) (hm : xs.length = m) (hS : SeR w bo cap2 xs) :
    Calls Try.prog 8 #[.agg #[.int .i64 id, .int .i64 ep, .slice ao n cap, .slice bo m cap2]] w fun e w' => ∃ C : Array Value, e = .returned (.agg C) ∧ ShC C (putsS [] ps) (notesS zeroS xs) id ep ∧ Below w.heap.size w w' := by
  have HI : Hid (∃ w1 : World, (w.alloc (.cells #[.int .i64 id, .int .i64 ep, .slice ao n cap, .slice bo m cap2] 41)).alloc zeroH = w1 ∧ ImAt w1 w.heap.size id ep (.slice ao n cap) (.slice bo m cap2) ∧ w1.heap[w.heap.size + 1]? = some zeroH ∧ Below w.heap.size w w1 ∧ PrR w1 ao cap ps ∧ SeR w1 bo cap2 xs) :=
    ⟨_, rfl, al2_fst w _ _, al2_snd w _ _, bel_al2 w _ _, hR.below (bel_al2 w _ _), hS.below (bel_al2 w _ _)⟩
  clear hR hS
  unfold zeroH at HI
  go_enter Try.func8, Try.ntmps8
  go_upto_region 1 with fail
  obtain ⟨w1, e1, I1, Z1, B1, R1, S1⟩ := HI.out
  rw [e1]
  obtain ⟨q0, q1, q2, q3⟩ := I1.cells
  have hlt := I1.lt
  have hlt1 : w.heap.size + 1 < w1.heap.size := (Array.getElem?_eq_some_iff.1 Z1).1
  have HW : Hid (ImAt w1 w.heap.size id ep (.slice ao n cap) (.slice bo m cap2) ∧ w1.heap[w.heap.size + 1]? = some zeroH ∧ Below w.heap.size w w1 ∧ PrR w1 ao cap ps ∧ SeR w1 bo cap2 xs) := ⟨I1, Z1, B1, R1, S1⟩
  clear HI e1 I1 Z1 B1 R1 S1
  go_cut [] (fun wx => ∃ C : Array Value, ShC C (putsS [] ps) (notesS zeroS xs) id ep ∧ wx.heap[w.heap.size + 1]? = some (.cells C 36 (0, 0)) ∧ Below w.heap.size w wx)
  case first =>
    have tokA : True := trivial
    have tokB : True := trivial
    go_region_held3 (fun w' => w'.cell? ⟨w.heap.size, 0, none⟩ = some (.int .i64 id) ∧ w'.cell? ⟨w.heap.size, 1, none⟩ = some (.int .i64 ep) ∧ w'.cell? ⟨w.heap.size, 2, none⟩ = some (.slice ao n cap) ∧ w'.cell? ⟨w.heap.size, 3, none⟩ = some (.slice bo m cap2)) (first | (refine ⟨?_, ?_, ?_, ?_⟩ <;> with_reducible assumption) | (refine ⟨?_, ?_, ?_, ?_⟩ <;> exact (cell_setRow_other _ _ _ _ (Nat.ne_of_lt (Nat.lt_succ_self _))).trans (by with_reducible assumption)) | go_keep) (first
        | (have _t := tokA; go_at_call 27; refine (OfT_w (w1 := w1) (by first | exact (Below.refl _ _).drew | assumption) hn HW.out.2.2.2.1).mono ?_; rintro e x2 ⟨C1, rfl, hT, h17, hb⟩; obtain ⟨r0, r1, r2, r3⟩ := (HW.out.1.below hb).cells; have HT : Hid (∃ z, C1.toList = tcells (putsS [] ps) z ∧ (putsS [] ps).length + z.length = 8 ∧ Rise (putsS [] ps)) := hT; clear tokA _t hT; try (have HC : Hid (ShC (blC C1 C2 id ep) (putsS [] ps) (notesS zeroS xs) id ep) := shc_of rfl HT.out HS.out (SInv.zero.notes xs); have hst : StH x2 (w.heap.size + 1) (blC C1 C2 id ep) := ⟨(hb.block _ hlt1).trans HW.out.2.1, HC.out.size, HC.out.ones⟩; have h35 : (blC C1 C2 id ep).size = 35 := HC.out.size; have HX : Hid (Below w1.heap.size w1 x2) := hb))
        | (have _t := tokB; go_at_call 28; refine (OfS_w (w1 := w1) (by first | exact (Below.refl _ _).drew | assumption) hm HW.out.2.2.2.2).mono ?_; rintro e x3 ⟨C2, rfl, hS, h16, hb'⟩; obtain ⟨s0, s1, s2, s3⟩ := (HW.out.1.below hb').cells; have HS : Hid (C2.toList = flt seK (notesS zeroS xs)) := hS; clear tokB _t hS; try (have HC : Hid (ShC (blC C1 C2 id ep) (putsS [] ps) (notesS zeroS xs) id ep) := shc_of rfl HT.out HS.out (SInv.zero.notes xs); have hst : StH x3 (w.heap.size + 1) (blC C1 C2 id ep) := ⟨(hb'.block _ hlt1).trans HW.out.2.1, HC.out.size, HC.out.ones⟩; have h35 : (blC C1 C2 id ep).size = 35 := HC.out.size; have HX : Hid (Below w1.heap.size w1 x3) := hb')))
    all_goals
      go_wp2
      go_meet
      case rel => exact ⟨_, HC.out, setRow_heap _ _ _ _ _ _ hst.1, below_setRow (HW.out.2.2.1.trans (HX.out.mono HW.out.2.2.1.size)) (by omega) _⟩
  case rest =>
  obtain ⟨C, hC, hrow, hB⟩ := hcut
  have hi : (Try.prog.info? 36).map (·.size) = some C.size := by rw [shard_info, hC.size]
  have HC : Hid (ShC C (putsS [] ps) (notesS zeroS xs) id ep ∧ Below w.heap.size w wc) := ⟨hC, hB⟩
  clear q0 q1 q2 q3 hC hB HW
  go_wp2
  try simp only [Exit.inBlock, Exit.then]
  refine bodyPost_ret (results_cell_row Try.results8 _ _ _ 36 C (0, 0) _ rfl hrow Try.underlying36 rfl hi) rfl ?_
  exact ⟨C, rfl, HC.out.1, HC.out.2⟩
end Go.Proofs.Ytodgcfmacmfcpaa
