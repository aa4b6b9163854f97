/- Pairs, Of. -/
import Derived.Test.YtodgcfmacmfcpaaTF
import Derived.Test.YtodgcfmacmfcpaaST
namespace Go.Proofs.Ytodgcfmacmfcpaa
open Go.RowKit

/-- a slice of pairs, in memory of its own from block B on -/
def OwnPr (B : Nat) (w : World) (ao : Option Addr) (cap : Nat) (l : List Pr) : Prop := w.ownsRow B 23 2 (.slice ao l.length cap) l.length (flat l)
theorem flat_at {w : World} {g off : Nat} {l : List Pr} (h : RdPr w g off l) (j : Nat) (u : Value) (hj : (flat l)[j]? = some u) : w.cell? ⟨g, off + j, none⟩ = some u := by
  have hl : j < (flat l).length := (List.getElem?_eq_some_iff.1 hj).1
  rw [flat_length] at hl
  have hk : j / 2 < l.length := by omega
  obtain ⟨h1, h2⟩ := h (j / 2) hk
  rcases Nat.mod_two_eq_zero_or_one j with e | e
  · have ej : j = 2 * (j / 2) := by omega
    rw [ej, flat_key l _ hk] at hj
    rw [ej, Nat.mul_comm, h1, ← hj]
  · have ej : j = 2 * (j / 2) + 1 := by omega
    rw [ej, flat_val l _ hk] at hj
    rw [ej, Nat.mul_comm, ← Nat.add_assoc, h2, ← hj]
theorem rd_flat {w : World} {g off : Nat} {l : List Pr} (h : ∀ j u, (flat l)[j]? = some u → w.cell? ⟨g, off + j, none⟩ = some u) : RdPr w g off l := by
  intro k hk
  refine ⟨?_, ?_⟩
  · rw [Nat.mul_comm k 2]; exact h _ _ (flat_key l k hk)
  · rw [Nat.mul_comm k 2, Nat.add_assoc]; exact h _ _ (flat_val l k hk)
theorem pair_info : (Try.prog.info? 23).map (fun i => (i.zero, i.size, i.bytes)) = some (some (.agg #[.string ⟨#[]⟩, .string ⟨#[]⟩]), 2, 32) := by kernel_rfl
theorem flat_add {w : World} {g off : Nat} {l : List Pr} (h : RdPr w g off l) (j : Nat) (u : Value) (hj : (flat l)[j]? = some u) : w.cell? ((⟨g, off, none⟩ : Addr).add j) = some u := by
  have e : (⟨g, off, none⟩ : Addr).add j = ⟨g, off + j, none⟩ := by
    unfold Addr.add
    split
    · rename_i h0; subst h0; rfl
    · rfl
  rw [e]
  exact flat_at h j u hj
theorem step_appP {w : World} {ops : Array Oper} {o : Oper} {a : Act} {K : Act → World → Prop} {Q : Exit → Act → World → Prop} {E : Prop} (hgd : o.guard = none) (s x : Operand)
    (ho : o.op = .call { callee := .builtin .append, args := #[s, x], argTypes := #[38, 38] })
    (B : Nat) (ao : Option Addr) (cap n : Nat) (l : List Pr) (hs : a.eval s = .slice ao n cap) (hn : l.length = n) (hown : OwnPr B w ao cap l)
    (ad : Addr) (m c : Nat) (l2 : List Pr) (hx : a.eval x = .slice (some ad) m c) (hm : l2.length = m) (hnews : ∀ j u, (flat l2)[j]? = some u → w.cell? (ad.add j) = some u)
    (hfew : l.length + l2.length ≤ 1000000) (hB : B ≤ w.heap.size)
    (h : ∀ ao' cap' w', OwnPr B w' ao' cap' (l ++ l2) → w.grownBy w' (Value.slice ao n cap).ownBlock → Below B w w' → K (a.put o.dst (.slice ao' (n + m) cap')) w') :
    if Region.wanted o (yielded ops a.tmps) = true then Oper.wp Try.prog o a w K Q else E := by
  have hw : Region.wanted o (yielded ops a.tmps) = true := by simp [Region.wanted, hgd]
  rw [if_pos hw]
  subst hn hm
  obtain ⟨i0, hi, hz0, hz1, hz2⟩ := info_parts pair_info
  obtain ⟨v', w', hr, h2, h3, _⟩ := run_append_own (P := Try.prog) w B 38 o.type 23 i0 _ 2 32 Try.underlying38 hi hz0 hz1 hz2 rfl (by omega) (.slice ao l.length cap) l.length (flat l) hown ad l2.length c (flat l2)
    (by rw [flat_length]; omega) hnews (flat_one l2) (by have : maxLen = 9223372036854775807 := rfl; omega) (by omega) hB
  have hsh : ∃ ao' cap', v' = .slice ao' (l.length + l2.length) cap' := by
    rcases h2.2 with ⟨e, e2⟩ | ⟨g, cp, cur, e, _⟩
    · exact ⟨none, 0, by rw [e, e2]⟩
    · exact ⟨_, _, e⟩
  obtain ⟨ao', cap', rfl⟩ := hsh
  unfold Oper.wp execOp
  simp only [ho, resolve, invoke, builtin, Sem.run_bind, Sem.run_pure, Result.andThen_ok, List.map_toArray, List.map_cons, List.map_nil, hs, hx, hr]
  refine h ao' cap' w' ?_ h3 ((Below.refl B w).grown h3 hB fun k hk => (hown.lt k hk).1)
  show w'.ownsRow B _ 2 (.slice ao' (l ++ l2).length cap') (l ++ l2).length (flat (l ++ l2))
  rw [flat_append, List.length_append]
  exact h2
theorem OwnPr.nil (B : Nat) (w : World) : OwnPr B w none 0 [] := ⟨rfl, .inl ⟨rfl, rfl⟩⟩
theorem OwnPr.at {B : Nat} {w : World} {ao : Option Addr} {cap : Nat} {l : List Pr} (h : OwnPr B w ao cap l) (hl : 0 < l.length) : ∃ g, ao = some ⟨g, 0, none⟩ ∧ B ≤ g ∧ g < w.heap.size ∧ RdPr w g 0 l := by
  rcases h.2 with ⟨_, e⟩ | ⟨g, cp, cur, e, hB, hg, _, _, hs, ht⟩
  · omega
  · simp only [Value.slice.injEq] at e
    refine ⟨g, e.1, hB, (Array.getElem?_eq_some_iff.1 hg).1, rd_flat fun j u hj => ?_⟩
    rw [cell_of_row w _ _ _ _ (0, 0) hg, Nat.zero_add]
    rw [← ht] at hj
    rw [List.getElem?_take] at hj
    split at hj
    · rw [← hj]; simp
    · cases hj
theorem OwnPr.caps {B : Nat} {w : World} {ao : Option Addr} {cap : Nat} {l : List Pr} (h : OwnPr B w ao cap l) : l.length ≤ cap ∧ cap ≤ maxLen := by
  rcases h.2 with ⟨e, e2⟩ | ⟨g, cp, cur, e, hB, hg, h1, h2, _⟩
  · simp only [Value.slice.injEq] at e
    have : maxLen = 9223372036854775807 := rfl
    omega
  · simp only [Value.slice.injEq] at e
    omega

set_option maxHeartbeats 1000000 in
theorem Pairs_o (g fo : Nat) (l : List Pr) (w : World) (h : TabO w g fo l) :
    Calls Try.prog 32 #[.pointer (some ⟨g, fo, none⟩)] w fun e w' => ∃ ao cap, e = .returned (.slice ao l.length cap) ∧ OwnPr w.heap.size w' ao cap l ∧ Below w.heap.size w w' := by
  have hu := h.used
  have hn := h.few
  have hg := h.lt
  have HC : Hid (RdPr w g fo l) := h.rd
  clear h
  have hn2 : (l.length : Int) ≤ 8 := by omega
  go_enter Try.func32, Try.ntmps32
  go_wp2_with fail
  go_region_law (go_loud (refine step_appP rfl _ _ rfl w.heap.size none 0 0 [] rfl rfl (OwnPr.nil _ _) ⟨g, fo, none⟩ l.length 8 l rfl rfl (fun j u hj => flat_add (w := w.drew) HC.out j u hj) (by simp; omega) (Nat.le_refl _) ?_; intro ao' cap' w2 hown hgr hb))
  all_goals
    go_wp2
    go_ret
    refine ⟨ao', cap', rfl, by simpa using hown, below_undrew hb⟩
theorem Pairs_any (g : Nat) (l : List Pr) (w : World) (h : TabAt w g l) :
    Calls Try.prog 32 #[.pointer (some ⟨g, 0, none⟩)] w fun e w' => ∃ ao cap, e = .returned (.slice ao l.length cap) ∧ OwnPr w.heap.size w' ao cap l ∧ Below w.heap.size w w' := Pairs_o g 0 l w h.o

/-- a slice of pairs that is read -/
def PrR (w : World) (ao : Option Addr) (cap : Nat) (l : List Pr) : Prop := l.length ≤ cap ∧ cap ≤ maxLen ∧ (0 < l.length → ∃ g off, ao = some ⟨g, off, none⟩ ∧ g < w.heap.size ∧ RdPr w g off l)
theorem OwnPr.rd {B : Nat} {w : World} {ao : Option Addr} {cap : Nat} {l : List Pr} (h : OwnPr B w ao cap l) : PrR w ao cap l :=
  ⟨h.caps.1, h.caps.2, fun hl => by obtain ⟨g, e, _, h2, h3⟩ := h.at hl; exact ⟨g, 0, e, h2, h3⟩⟩
theorem RdPr.below {B : Nat} {w w' : World} {g off : Nat} {l : List Pr} (h : RdPr w g off l) (hb : Below B w w') (hg : g < B) : RdPr w' g off l := fun k hk =>
  ⟨(hb.cell (p := ⟨g, off + k * 2, none⟩) hg).trans (h k hk).1, (hb.cell (p := ⟨g, off + k * 2 + 1, none⟩) hg).trans (h k hk).2⟩
theorem PrR.below {w w' : World} {ao : Option Addr} {cap : Nat} {l : List Pr} (h : PrR w ao cap l) (hb : Below w.heap.size w w') : PrR w' ao cap l :=
  ⟨h.1, h.2.1, fun hl => by obtain ⟨g, o, e, h2, h3⟩ := h.2.2 hl; exact ⟨g, o, e, Nat.lt_of_lt_of_le h2 hb.size, h3.below hb h2⟩⟩

/-- the pairs that are put, in order, upon those that are there -/
def putsS (l ps : List Pr) : List Pr := ps.foldl (fun l p => (doS l 2 p.1 p.2 ⟨#[]⟩).1) l
def zeroT : Obj := .cells #[.string ⟨#[]⟩, .string ⟨#[]⟩, .string ⟨#[]⟩, .string ⟨#[]⟩, .string ⟨#[]⟩, .string ⟨#[]⟩, .string ⟨#[]⟩, .string ⟨#[]⟩, .string ⟨#[]⟩, .string ⟨#[]⟩, .string ⟨#[]⟩, .string ⟨#[]⟩, .string ⟨#[]⟩, .string ⟨#[]⟩, .string ⟨#[]⟩, .string ⟨#[]⟩, .int .i64 0] 26
theorem TabAt.zero {w : World} {g : Nat} (h : w.heap[g]? = some zeroT) : TabAt w g [] := ⟨List.replicate 8 (⟨#[]⟩, ⟨#[]⟩), rfl, List.Pairwise.nil, h⟩

theorem tab_info : (Try.prog.info? 26).map (·.size) = some 17 := by kernel_rfl
theorem tcells_size {l z : List Pr} (h : l.length + z.length = 8) : (Try.prog.info? 26).map (·.size) = some (tcells l z).toArray.size := by
  rw [tab_info, List.size_toArray, tcells_length h]
theorem tcells_one (l z : List Pr) : (tcells l z).toArray.all (·.oneCell') = true := by
  rw [Array.all_eq_true']
  intro u hu
  have hu : u ∈ tcells l z := by simpa using hu
  unfold tcells at hu
  rcases List.mem_append.1 hu with h | h
  · exact flat_one _ u h
  · simp at h; subst h; rfl
theorem putsS_next (ps : List Pr) (j : Nat) (h : j < ps.length) (l : List Pr) : putsS l (ps.take (j + 1)) = (doS (putsS l (ps.take j)) 2 ps[j].1 ps[j].2 ⟨#[]⟩).1 := by
  unfold putsS
  rw [List.take_succ_eq_append_getElem h, List.foldl_append]
  rfl

set_option maxHeartbeats 2000000 in
theorem Of_any (ao : Option Addr) (n cap : Nat) (ps : List Pr) (w : World) (hn : ps.length = n) (hR : PrR w ao cap ps) :
    Calls Try.prog 27 #[.slice ao n cap] w fun e w' => ∃ z, e = .returned (.agg (tcells (putsS [] ps) z).toArray) ∧ (putsS [] ps).length + z.length = 8 ∧ Rise (putsS [] ps) ∧ Below w.heap.size w w' := by
  subst hn
  have hcm : ps.length ≤ maxLen := Nat.le_trans hR.1 hR.2.1
  unfold maxLen at hcm
  have HR : Hid (PrR w ao cap ps) := hR
  clear hR
  go_enter Try.func27, Try.ntmps27
  go_wp2_with fail
  go_loopw [8] (fun i wr => ∃ j : Nat, j ≤ ps.length ∧ i = .int .i64 j ∧ wr.heap[w.heap.size]? = some zeroT ∧ TabAt wr (w.heap.size + 1) (putsS [] (ps.take j)) ∧ Below w.heap.size w wr) (fun i _ => ps.length - (intOf i).toNat)
  case atStart => exact ⟨0, Nat.zero_le _, rfl, al2_fst w _ _, TabAt.zero (al2_snd w _ _), (bel_al w _).trans ((Below.refl _ _).alloc (by show _ ≤ (w.heap.push _).size; simp) _)⟩
  case round =>
    obtain ⟨j, hj, rfl, hz, hT, hbel⟩ := hrel
    by_cases hlt : j < ps.length
    · obtain ⟨g, off, rfl, hg, hrd⟩ := HR.out.2.2 (by omega)
      obtain ⟨hk, hv⟩ := hrd.below hbel hg j hlt
      have HP := putsS_next ps j hlt []
      obtain ⟨pk, hpk⟩ : ∃ pk, ps[j].1 = pk := ⟨_, rfl⟩
      obtain ⟨pv, hpv⟩ : ∃ pv, ps[j].2 = pv := ⟨_, rfl⟩
      rw [hpk] at hk HP
      rw [hpv] at hv HP
      have hm1 : (j : Int) < (ps.length : Int) := by omega
      have HZ : Hid (wr.heap[w.heap.size]? = some zeroT) := hz
      have HT : Hid (TabAt wr (w.heap.size + 1) (putsS [] (ps.take j))) := hT
      have HP2 : Hid (putsS [] (ps.take (j + 1)) = _) := HP
      have HBel : Hid (Below w.heap.size w wr) := hbel
      have hsz : w.heap.size + 1 < wr.heap.size := hT.lt
      clear hrd hpk hpv hz hT HP hbel
      go_wp2_with (go_at_call 30; refine (Do_any (w.heap.size + 1) (putsS [] (ps.take j)) 2 pk pv ⟨#[]⟩ _ (HT.out.below (bel_al wr _))).mono ?_; rintro e w2 ⟨rfl, hT2, hO⟩; have HT2 : Hid (TabAt w2 _ _) := hT2; have HO : Hid (Only _ _ w2) := hO; clear hT2 hO)
      have hO := (Only.of_alloc (fun k => k = w.heap.size + 1) wr _).trans HO.out
      refine ⟨⟨j + 1, hlt, by go_num, (hO.block w.heap.size (by omega) (by omega)).trans HZ.out, ?_, HBel.out.trans (hO.below (fun i e => by omega) (by omega))⟩, by simp [intOf]; omega⟩
      rw [HP2.out]
      exact HT2.out
    · have hjn : j = ps.length := by omega
      subst hjn
      rw [List.take_length] at hT
      obtain ⟨z, hz8, hr, hcell⟩ := hT
      have hi := tcells_size hz8
      have h17 : (17 : Nat) = (tcells (putsS [] ps) z).toArray.size := by rw [List.size_toArray, tcells_length hz8]
      have h1 := tcells_one (putsS [] ps) z
      obtain ⟨C, hC⟩ : ∃ C, (tcells (putsS [] ps) z).toArray = C := ⟨_, rfl⟩
      have HF : Hid ((putsS [] ps).length + z.length = 8 ∧ Rise (putsS [] ps)) := ⟨hz8, hr⟩
      have HBel : Hid (Below w.heap.size w wr) := hbel
      have HC : Hid ((tcells (putsS [] ps) z).toArray = C) := hC
      rw [hC] at hcell hi h17 h1
      have hrow : Hid ((wr.setRow w.heap.size C).heap[w.heap.size]? = some (.cells C 26 (0, 0))) := setRow_heap wr _ _ C _ _ hz
      clear hC hz8 hr hbel
      go_wp2_with first | (refine wpList_load_row rfl 26 _ rfl (w.heap.size + 1) rfl 26 C (0, 0) _ hcell Try.underlying26 rfl hi ?_) | (refine wpList_store_row rfl 26 _ _ rfl w.heap.size C rfl rfl 26 _ hz hi h17 h1 ?_)
      try simp only [Exit.inBlock, Exit.then]
      refine bodyPost_ret (results_cell_row Try.results27 _ _ w.heap.size 26 C (0, 0) _ rfl hrow.out Try.underlying26 rfl hi) rfl ?_
      exact ⟨z, by rw [HC.out], HF.out.1, HF.out.2, below_setRow HBel.out (Nat.le_refl _) C⟩
end Go.Proofs.Ytodgcfmacmfcpaa
