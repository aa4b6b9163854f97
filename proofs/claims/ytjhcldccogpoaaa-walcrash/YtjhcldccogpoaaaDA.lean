/- A disk as an object; its calls. -/
import Derived.Test.YtjhcldccogpoaaaOB
namespace Go.Proofs.Ytjhcldccogpoaaa
open Go.RowKit

/-- a disk (a struct of type t) in block g has the bytes l, of which the first s are synced; all that it has lies in S -/
def DiskAt (t : TypeId) (S : Nat → Prop) (w : World) (g : Nat) (l : List UInt8) (s : Nat) : Prop :=
  ∃ ao cap, w.heap[g]? = some (.cells #[.slice ao l.length cap, .int .i64 s] t (0, 0)) ∧ w.ownsRow 0 5 1 (.slice ao l.length cap) l.length (Bs l) ∧ s ≤ l.length ∧ l.length ≤ 65536 ∧
    S g ∧ ∀ k, Value.ownBlock (.slice ao l.length cap) = some k → S k ∧ k ≠ g
/-- from w to w' an object's blocks S became S': of S alone something was turned; what S' has more is new -/
def Step (S : Nat → Prop) (w w' : World) (S' : Nat → Prop) : Prop := Only S w w' ∧ ∀ k, S' k → (S k ∨ w.heap.size ≤ k) ∧ k < w'.heap.size
section
variable {t : TypeId} {S S' T : Nat → Prop} {w w' : World} {g s : Nat} {l : List UInt8}
theorem DiskAt.only (h : DiskAt t S w g l s) (ho : Only T w w') (hd : ∀ i, S i → ¬ T i) : DiskAt t S w' g l s := by
  obtain ⟨ao, cap, h1, h2, h3, h4, h5, h6⟩ := h
  exact ⟨ao, cap, (ho.block g (Array.getElem?_eq_some_iff.1 h1).1 (hd g h5)).trans h1, own_only h2 ho fun k hk => hd k (h6 k hk).1, h3, h4, h5, h6⟩
theorem DiskAt.below (h : DiskAt t S w g l s) (hb : Below w.heap.size w w') : DiskAt t S w' g l s := h.only (T := fun _ => False) (Only.of_below _ hb) fun _ _ => id
theorem DiskAt.mono (h : DiskAt t S w g l s) (hs : ∀ i, i < w.heap.size → S i → T i) : DiskAt t T w g l s := by
  obtain ⟨ao, cap, h1, h2, h3, h4, h5, h6⟩ := h
  exact ⟨ao, cap, h1, h2, h3, h4, hs g (Array.getElem?_eq_some_iff.1 h1).1 h5, fun k hk => ⟨hs k (h2.lt k hk).2 (h6 k hk).1, (h6 k hk).2⟩⟩
theorem DiskAt.sizes (h : DiskAt t S w g l s) : s ≤ l.length ∧ l.length ≤ 65536 := by
  obtain ⟨ao, cap, h1, h2, h3, h4, h5, h6⟩ := h; exact ⟨h3, h4⟩
theorem DiskAt.lt (h : DiskAt t S w g l s) : g < w.heap.size := by
  obtain ⟨ao, cap, h1, _⟩ := h; exact (Array.getElem?_eq_some_iff.1 h1).1
/-- exactly its own blocks -/
theorem DiskAt.tight (h : DiskAt t S w g l s) : ∃ S', DiskAt t S' w g l s ∧ ∀ k, S' k → S k ∧ k < w.heap.size := by
  obtain ⟨ao, cap, h1, h2, h3, h4, h5, h6⟩ := h
  refine ⟨fun k => S k ∧ k < w.heap.size, ⟨ao, cap, h1, h2, h3, h4, ⟨h5, (Array.getElem?_eq_some_iff.1 h1).1⟩, fun k hk => ⟨⟨(h6 k hk).1, (h2.lt k hk).2⟩, (h6 k hk).2⟩⟩, fun k hk => hk⟩
theorem DiskAt.owns {ao : Option Addr} {n cap : Nat} (h : DiskAt t S w g l s) (hc : w.cell? ⟨g, 0, none⟩ = some (.slice ao n cap)) : w.ownsRow 0 5 1 (.slice ao n cap) n (Bs l) := by
  obtain ⟨ao0, cap0, g1, g2, g3, g4, g5, g6⟩ := h
  have e := (cell_of_row _ g 0 _ _ (0, 0) g1).symm.trans hc
  simp at e
  obtain ⟨rfl, rfl, rfl⟩ := e
  exact g2
/-- what a walk reads -/
theorem DiskAt.cells (h : DiskAt t S w g l s) : ∃ ao cap, w.cell? ⟨g, 0, none⟩ = some (.slice ao l.length cap) ∧ w.cell? ⟨g, 1, none⟩ = some (.int .i64 s) ∧ w.frozen? ⟨g, 0, none⟩ = false ∧ w.frozen? ⟨g, 1, none⟩ = false ∧
    Rd w.heap.size w ao l.length cap (Bs l) := by
  obtain ⟨ao, cap, h1, h2, h3, h4, h5, h6⟩ := h
  refine ⟨ao, cap, ?_, ?_, ?_, ?_, ownsRow.rd h2⟩
  · rw [cell_of_row w g 0 _ t (0, 0) h1]; rfl
  · rw [cell_of_row w g 1 _ t (0, 0) h1]; rfl
  · simp [World.frozen?, h1]
  · simp [World.frozen?, h1]
end

set_option maxHeartbeats 400000 in
theorem Size_any {S : Nat → Prop} (g : Nat) (l : List UInt8) (s : Nat) (w : World) (h : DiskAt 55 S w g l s) :
    Calls Try.prog 27 #[.pointer (some ⟨g, 0, none⟩)] w fun e w' => e = .returned (.int .i64 l.length) ∧ w' = w := by
  obtain ⟨ao, cap, hc0, hc1, hf0, hf1, hR⟩ := h.cells
  clear h hR
  go_enter Try.func27, Try.ntmps27
  go_wp2
  go_ret
  exact ⟨rfl, rfl⟩

theorem bel_drewN (w : World) (n : Nat) : Below w.heap.size w (w.drewN n) := ⟨rfl, rfl, rfl, Nat.le_refl _, fun _ _ => rfl⟩
theorem New_any (w : World) : Calls Try.prog 5 #[] w fun e w' => e = .returned (.pointer (some ⟨w.heap.size, 0, none⟩)) ∧ w' = w.alloc (.cells #[.slice none 0 0, .int .i64 0] 55) := by
  go_enter Try.func5, Try.ntmps5
  go_wp2
  go_ret
  exact ⟨rfl, rfl⟩
/-- a disk that was just made -/
theorem DiskAt.made (t : TypeId) (w : World) : DiskAt t (fun k => k = w.heap.size) (w.alloc (.cells #[.slice none 0 0, .int .i64 0] t)) w.heap.size [] 0 :=
  ⟨none, 0, heap_alloc_new w _, World.ownsRow_nil _ _ _ _, Nat.le_refl _, Nat.zero_le _, rfl, fun k hk => by cases hk⟩

theorem Synced_any {S : Nat → Prop} (g : Nat) (l : List UInt8) (s : Nat) (w : World) (h : DiskAt 55 S w g l s) :
    Calls Try.prog 24 #[.pointer (some ⟨g, 0, none⟩)] w fun e w' => e = .returned (.int .i64 s) ∧ w' = w := by
  obtain ⟨ao, cap, hc0, hc1, hf0, hf1, hR⟩ := h.cells
  clear h hR
  go_enter Try.func24, Try.ntmps24
  go_wp2
  go_ret
  exact ⟨rfl, rfl⟩

set_option maxHeartbeats 400000 in
theorem unsynced_any {S : Nat → Prop} (g : Nat) (l : List UInt8) (s : Nat) (w : World) (h : DiskAt 55 S w g l s) :
    Calls Try.prog 30 #[.pointer (some ⟨g, 0, none⟩)] w fun e w' => e = .returned (.int .i64 (l.length - s : Nat)) ∧ Below w.heap.size w w' := by
  obtain ⟨ao, cap, hc0, hc1, hf0, hf1, hR⟩ := h.cells
  obtain ⟨h1, h2⟩ := h.sizes
  have H : Hid ((l.length : Int) - s = (l.length - s : Nat)) := by show _ = _; omega
  clear h hR
  go_enter Try.func30, Try.ntmps30
  go_wp2_with fail
  go_quiet (fail)
  all_goals
    go_wp2
    go_ret
    exact ⟨ret_int H.out, bel_drewN _ _⟩

theorem set_block {w : World} {g : Nat} {cs : Array Value} {t : TypeId} {fr : Nat × Nat} (h : w.heap[g]? = some (.cells cs t fr)) (k : Nat) (u : Value) : (w.setCell ⟨g, k, none⟩ u).heap[g]? = some (.cells (cs.setIfInBounds k u) t fr) := by
  simp only [World.setCell, Array.getElem?_modify, if_true, h]
  rfl
section
variable {t : TypeId} {S S' T : Nat → Prop} {w w' : World} {g s : Nat} {l : List UInt8}
/-- how many are synced is written -/
theorem DiskAt.setSynced (h : DiskAt t S w g l s) (s' : Nat) (hs : s' ≤ l.length) : DiskAt t S (w.setCell ⟨g, 1, none⟩ (.int .i64 s')) g l s' := by
  obtain ⟨ao, cap, h1, h2, h3, h4, h5, h6⟩ := h
  exact ⟨ao, cap, set_block h1 1 _, own_only (S := fun k => k = g) h2 (Only.of_set _ _ _ rfl) fun k hk e => (h6 k hk).2 e, hs, h4, h5, h6⟩
/-- all bytes are written -/
theorem DiskAt.setAll (h : DiskAt t S w g l s) {l' : List UInt8} {ao' : Option Addr} {cap' : Nat} (hown : w.ownsRow 0 5 1 (.slice ao' l'.length cap') l'.length (Bs l')) (hs : s ≤ l'.length) (hl : l'.length ≤ 65536)
    (hS : S' g) (hk : ∀ k, Value.ownBlock (.slice ao' l'.length cap') = some k → S' k ∧ k ≠ g) : DiskAt t S' (w.setCell ⟨g, 0, none⟩ (.slice ao' l'.length cap')) g l' s := by
  obtain ⟨ao, cap, h1, h2, h3, h4, h5, h6⟩ := h
  exact ⟨ao', cap', set_block h1 0 _, own_only (S := fun k => k = g) hown (Only.of_set _ _ _ rfl) fun k hk' e => (hk k hk').2 e, hs, hl, hS, hk⟩
/-- both are written -/
theorem DiskAt.setBoth (h : DiskAt t S w g l s) {l' : List UInt8} {ao' : Option Addr} {cap' : Nat} (hown : w.ownsRow 0 5 1 (.slice ao' l'.length cap') l'.length (Bs l')) (s' : Nat) (hs : s' ≤ l'.length) (hl : l'.length ≤ 65536)
    (hS : S' g) (hk : ∀ k, Value.ownBlock (.slice ao' l'.length cap') = some k → S' k ∧ k ≠ g) : DiskAt t S' ((w.setCell ⟨g, 0, none⟩ (.slice ao' l'.length cap')).setCell ⟨g, 1, none⟩ (.int .i64 s')) g l' s' := by
  obtain ⟨ao, cap, h1, h2, h3, h4, h5, h6⟩ := h
  exact ⟨ao', cap', set_block (set_block h1 0 _) 1 _, own_only (S := fun k => k = g) (own_only (S := fun k => k = g) hown (Only.of_set _ _ _ rfl) fun k hk' e => (hk k hk').2 e) (Only.of_set _ _ _ rfl) fun k hk' e => (hk k hk').2 e, hs, hl, hS, hk⟩
end

set_option maxHeartbeats 400000 in
theorem Sync_any {S : Nat → Prop} (g : Nat) (l : List UInt8) (s : Nat) (w : World) (h : DiskAt 55 S w g l s) :
    Calls Try.prog 10 #[.pointer (some ⟨g, 0, none⟩)] w fun e w' => e = .returned (.int .i64 (l.length - s : Nat)) ∧ DiskAt 55 S w' g l l.length ∧ Only S w w' := by
  have hS : S g := by obtain ⟨_, _, _, _, _, _, h5, _⟩ := h; exact h5
  have HH : Hid (DiskAt 55 S w g l s) := h
  clear h
  go_enter Try.func10, Try.ntmps10
  go_wp2_with fail
  refine (unsynced_any g l s w HH.out).mono ?_
  rintro e w1 ⟨rfl, hb⟩
  have H1 : Hid (DiskAt 55 S w1 g l s) := HH.out.below hb
  obtain ⟨ao, cap, hc0, hc1, hf0, hf1, hR⟩ := H1.out.cells
  have HB : Hid (Only S w w1) := Only.of_below _ hb
  clear hR hb
  go_wp2
  go_ret
  exact ⟨rfl, H1.out.setSynced l.length (Nat.le_refl _), HB.out.trans (Only.of_set _ _ _ hS)⟩

set_option maxHeartbeats 400000 in
theorem Bytes_any {S : Nat → Prop} (g : Nat) (l : List UInt8) (s : Nat) (w : World) (h : DiskAt 55 S w g l s) :
    Calls Try.prog 23 #[.pointer (some ⟨g, 0, none⟩)] w fun e w' => ∃ ao' cap', e = .returned (.slice ao' l.length cap') ∧ w'.ownsRow w.heap.size 5 1 (.slice ao' l.length cap') l.length (Bs l) ∧ Below w.heap.size w w' := by
  obtain ⟨ao, cap, hc0, hc1, hf0, hf1, hR⟩ := h.cells
  obtain ⟨h1, h2⟩ := h.sizes
  clear h
  go_enter Try.func23, Try.ntmps23
  go_wp2_with fail
  refine (Clone_any _ _ _ l w hR (by omega)).mono ?_
  rintro e w1 ⟨ao1, cp1, rfl, hown, hb⟩
  clear hR
  go_wp2
  go_ret
  exact ⟨ao1, cp1, rfl, hown, hb⟩

set_option maxHeartbeats 400000 in
theorem Swap_any {S : Nat → Prop} (g : Nat) (l : List UInt8) (s : Nat) (ao : Option Addr) (n cap : Nat) (b : List UInt8) (w : World) (h : DiskAt 55 S w g l s) (hb : Rd w.heap.size w ao n cap (Bs b)) :
    Calls Try.prog 29 #[.pointer (some ⟨g, 0, none⟩), .slice ao n cap] w fun e w' =>
      (65536 < b.length ∧ e = .returned (.bool false) ∧ w' = w) ∨ (b.length ≤ 65536 ∧ e = .returned (.bool true) ∧ ∃ S', DiskAt 55 S' w' g b b.length ∧ Step S w w' S') := by
  have hl : b.length = n := by rw [← Bs_length]; exact hb.1
  subst hl
  by_cases hlt : 65536 < b.length
  · go_enter Try.func29, Try.ntmps29
    go_wp2
    go_ret
    exact .inl ⟨hlt, rfl, rfl⟩
  · have hS : S g := by obtain ⟨_, _, _, _, _, _, h5, _⟩ := h; exact h5
    have HH : Hid (DiskAt 55 S w g l s) := h
    have hg := h.lt
    clear h
    go_enter Try.func29, Try.ntmps29
    go_wp2_with fail
    refine (Clone_any _ _ _ b w hb (by omega)).mono ?_
    rintro e w1 ⟨ao1, cp1, rfl, hown, hbel⟩
    have H1 : Hid (DiskAt 55 S w1 g l s) := HH.out.below hbel
    obtain ⟨ao0, cap0, hc0, hc1, hf0, hf1, hR⟩ := H1.out.cells
    have HB : Hid (Only S w w1) := Only.of_below _ hbel
    have HO : Hid (w1.ownsRow w.heap.size 5 1 (.slice ao1 b.length cp1) b.length (Bs b)) := hown
    clear hR hb hown
    go_wp2
    go_ret
    have hsz := HB.out.size
    refine .inr ⟨by omega, rfl, fun k => k = g ∨ (w.heap.size ≤ k ∧ k < w1.heap.size), H1.out.setBoth (own_mono HO.out (Nat.zero_le _)) b.length (Nat.le_refl _) (by omega) (.inl rfl) ?_, ?_, ?_⟩
    · intro k hk
      have := HO.out.lt k hk
      exact ⟨.inr this, by omega⟩
    · exact (HB.out.trans (Only.of_set _ _ _ hS)).trans (Only.of_set _ _ _ hS)
    · rintro k (rfl | ⟨h1, h2⟩)
      · exact ⟨.inl hS, by simp; omega⟩
      · exact ⟨.inr h1, by simpa using h2⟩

/-- how many of n stay -/
def kept (keep : Int) (n : Nat) : Nat := min (max keep 0).toNat n
theorem kept_le (keep : Int) (n : Nat) : kept keep n ≤ n := by unfold kept; omega

set_option maxHeartbeats 400000 in
theorem Crash_any {S : Nat → Prop} (g : Nat) (l : List UInt8) (s : Nat) (keep : Int) (w : World) (h : DiskAt 55 S w g l s) :
    Calls Try.prog 12 #[.pointer (some ⟨g, 0, none⟩), .int .i64 keep] w fun e w' => e = .returned (.int .i64 (kept keep (l.length - s))) ∧
      DiskAt 55 S w' g (l.take (s + kept keep (l.length - s))) (s + kept keep (l.length - s)) ∧ Only S w w' := by
  have hS : S g := by obtain ⟨_, _, _, _, _, _, h5, _⟩ := h; exact h5
  obtain ⟨h1, h2⟩ := h.sizes
  have HH : Hid (DiskAt 55 S w g l s) := h
  obtain ⟨q, hq⟩ : ∃ q, kept keep (l.length - s) = q := ⟨_, rfl⟩
  have hqn : q ≤ l.length - s := by rw [← hq]; exact kept_le _ _
  have HQ : Hid (min (max keep 0) ((l.length - s : Nat) : Int) = (q : Int)) := by show _ = _; rw [← hq]; unfold kept; omega
  rw [hq]
  clear h hq
  have hcase : (keep < 0 ∧ q = 0) ∨ (0 ≤ keep ∧ keep ≤ ((l.length - s : Nat) : Int) ∧ (q : Int) = keep) ∨ (((l.length - s : Nat) : Int) < keep ∧ q = l.length - s) := by
    have := HQ.out
    omega
  have HX : Hid (Only S w w) := Only.refl _ _
  have fin : ∀ (w1 w3 : World), Below w.heap.size w w1 → w3 = w1.setCell ⟨g, 1, none⟩ (.int .i64 ((s + q : Nat) : Int)) → DiskAt 55 S w1 g l s →
      ∃ ao cap, w3.cell? ⟨g, 0, none⟩ = some (.slice ao l.length cap) ∧ w3.cell? ⟨g, 1, none⟩ = some (.int .i64 ((s + q : Nat) : Int)) ∧ w3.frozen? ⟨g, 0, none⟩ = false ∧ (l.length : Int) ≤ (cap : Int) ∧
        Hid (DiskAt 55 S (w3.setCell ⟨g, 0, none⟩ (.slice ao (s + q) cap)) g (l.take (s + q)) (s + q)) ∧ Hid (Only S w (w3.setCell ⟨g, 0, none⟩ (.slice ao (s + q) cap))) := by
    rintro w1 w3 hb rfl H1
    have H2 := H1.setSynced (s + q) (by omega)
    obtain ⟨ao, cap, hc0, hc1, hf0, hf1, hR⟩ := H2.cells
    have hcap := hR.2.1
    refine ⟨ao, cap, hc0, hc1, hf0, by omega, ?_, ?_⟩
    · obtain ⟨ao', cap', g1, g2, g3, g4, g5, g6⟩ := H2
      have e := (cell_of_row _ g 0 _ _ (0, 0) g1).symm.trans hc0
      simp at e
      obtain ⟨rfl, rfl⟩ := e
      have hl : (l.take (s + q)).length = s + q := by simp; omega
      have ho := own_till g2 (s + q) (by omega)
      rw [← Bs_take] at ho
      have := DiskAt.setAll (S' := S) ⟨ao', cap', g1, g2, g3, g4, g5, g6⟩ (l' := l.take (s + q)) (ao' := ao') (cap' := cap') (by rw [hl]; exact ho) (by omega) (by omega) g5 (fun k hk => g6 k (by cases ao' <;> exact hk))
      rwa [hl] at this
    · exact ((Only.of_below S hb).trans (Only.of_set _ _ _ hS)).trans (Only.of_set _ _ _ hS)
  have HF : Hid (∀ (w1 w3 : World), Below w.heap.size w w1 → w3 = w1.setCell ⟨g, 1, none⟩ (.int .i64 ((s + q : Nat) : Int)) → DiskAt 55 S w1 g l s →
      ∃ ao cap, w3.cell? ⟨g, 0, none⟩ = some (.slice ao l.length cap) ∧ w3.cell? ⟨g, 1, none⟩ = some (.int .i64 ((s + q : Nat) : Int)) ∧ w3.frozen? ⟨g, 0, none⟩ = false ∧ (l.length : Int) ≤ (cap : Int) ∧
        Hid (DiskAt 55 S (w3.setCell ⟨g, 0, none⟩ (.slice ao (s + q) cap)) g (l.take (s + q)) (s + q)) ∧ Hid (Only S w (w3.setCell ⟨g, 0, none⟩ (.slice ao (s + q) cap)))) := fin
  clear fin
  have hqi : ((s + q : Nat) : Int) ≤ (l.length : Int) := by omega
  have hq0 : (0 : Int) ≤ ((s + q : Nat) : Int) := by omega
  rcases hcase with ⟨hk1, rfl⟩ | ⟨hk0, hk1, hk2⟩ | ⟨hk1, rfl⟩
  · skip
    go_enter Try.func12, Try.ntmps12
    go_wp2_with fail
    refine (unsynced_any g l s w HH.out).mono ?_
    rintro e w1 ⟨rfl, hb⟩
    obtain ⟨ao, cap, hc0, hc1, hf0, hf1, hR⟩ := (HH.out.below hb).cells
    have HB : Hid (Below w.heap.size w w1) := hb
    clear hR hb
    go_wp2_with fail
    obtain ⟨w3, hw3⟩ : ∃ w3, w3 = w1.setCell ⟨g, 1, none⟩ (.int .i64 ((s + 0 : Nat) : Int)) := ⟨_, rfl⟩
    obtain ⟨ao3, cap3, d0, d1, d2, d3, H4, H5⟩ := HF.out w1 w3 HB.out hw3 (HH.out.below HB.out)
    rw [show w1.setCell ⟨g, 1, none⟩ (.int .i64 ((s : Int))) = w3 from hw3.symm]
    clear hw3 hc0 hc1 hf0 hf1
    go_region
    all_goals
      go_wp2
      go_ret
      exact ⟨rfl, H4.out.below (Below.refl _ _).drew, H5.out.trans (Only.of_drew _ _)⟩
  · subst hk2
    go_enter Try.func12, Try.ntmps12
    go_wp2_with fail
    refine (unsynced_any g l s w HH.out).mono ?_
    rintro e w1 ⟨rfl, hb⟩
    obtain ⟨ao, cap, hc0, hc1, hf0, hf1, hR⟩ := (HH.out.below hb).cells
    have HB : Hid (Below w.heap.size w w1) := hb
    clear hR hb
    go_wp2_with fail
    obtain ⟨w3, hw3⟩ : ∃ w3, w3 = w1.setCell ⟨g, 1, none⟩ (.int .i64 ((s + q : Nat) : Int)) := ⟨_, rfl⟩
    obtain ⟨ao3, cap3, d0, d1, d2, d3, H4, H5⟩ := HF.out w1 w3 HB.out hw3 (HH.out.below HB.out)
    rw [show w1.setCell ⟨g, 1, none⟩ (.int .i64 ((s : Int) + (q : Int))) = w3 from hw3.symm]
    clear hw3 hc0 hc1 hf0 hf1
    go_region
    all_goals
      go_wp2
      go_ret
      exact ⟨rfl, H4.out.below (Below.refl _ _).drew, H5.out.trans (Only.of_drew _ _)⟩
  · skip
    go_enter Try.func12, Try.ntmps12
    go_wp2_with fail
    refine (unsynced_any g l s w HH.out).mono ?_
    rintro e w1 ⟨rfl, hb⟩
    obtain ⟨ao, cap, hc0, hc1, hf0, hf1, hR⟩ := (HH.out.below hb).cells
    have HB : Hid (Below w.heap.size w w1) := hb
    clear hR hb
    go_wp2_with fail
    obtain ⟨w3, hw3⟩ : ∃ w3, w3 = w1.setCell ⟨g, 1, none⟩ (.int .i64 ((s + (l.length - s) : Nat) : Int)) := ⟨_, rfl⟩
    obtain ⟨ao3, cap3, d0, d1, d2, d3, H4, H5⟩ := HF.out w1 w3 HB.out hw3 (HH.out.below HB.out)
    rw [show w1.setCell ⟨g, 1, none⟩ (.int .i64 ((s : Int) + ((l.length - s : Nat) : Int))) = w3 from hw3.symm]
    clear hw3 hc0 hc1 hf0 hf1
    go_region
    all_goals
      go_wp2
      go_ret
      have hsq : s + (l.length - s) = l.length := by omega
      rw [hsq] at H4 H5 ⊢
      exact ⟨rfl, H4.out.below (Below.refl _ _).drew, H5.out.trans (Only.of_drew _ _)⟩
end Go.Proofs.Ytjhcldccogpoaaa
