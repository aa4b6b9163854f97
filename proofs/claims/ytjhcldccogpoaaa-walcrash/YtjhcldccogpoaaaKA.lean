/- One disk alone ('DK') -/
import Derived.Test.YtjhcldccogpoaaaDB
namespace Go.Proofs.Ytjhcldccogpoaaa
open Go.RowKit

/-- a disk that has, and takes, blocks of N alone; what is not there yet is of N -/
def DK (N : Nat → Prop) (w : World) (g : Nat) (l : List UInt8) (s : Nat) : Prop := (∀ i, w.heap.size ≤ i → N i) ∧ ∃ S, DiskAt 55 S w g l s ∧ ∀ i, S i → N i ∧ i < w.heap.size
section
variable {N : Nat → Prop} {w w' W : World} {g s : Nat} {l : List UInt8}
theorem DK.only {T : Nat → Prop} (h : DK N w g l s) (ho : Only T w w') (hd : ∀ i, N i → i < w.heap.size → ¬ T i) : DK N w' g l s := by
  obtain ⟨h0, S, h1, h2⟩ := h
  exact ⟨fun i hi => h0 i (Nat.le_trans ho.size hi), S, h1.only ho (fun i hi => hd i (h2 i hi).1 (h2 i hi).2), fun i hi => ⟨(h2 i hi).1, Nat.lt_of_lt_of_le (h2 i hi).2 ho.size⟩⟩
theorem DK.below (h : DK N w g l s) (hb : Below w.heap.size w w') : DK N w' g l s := h.only (T := fun _ => False) (Only.of_below _ hb) fun _ _ _ => id
/-- what was made in between is none of its -/
theorem DK.shrink (h : DK N w g l s) (hb : Below w.heap.size w w') : DK (fun i => N i ∧ ¬ (w.heap.size ≤ i ∧ i < w'.heap.size)) w' g l s := by
  have hsz := hb.size
  obtain ⟨h0, S, h1, h2⟩ := h
  refine ⟨fun i hi => ⟨h0 i (by omega), by omega⟩, S, h1.below hb, fun i hi => ?_⟩
  have := h2 i hi
  exact ⟨⟨this.1, by omega⟩, by omega⟩
theorem DK.mono {N' : Nat → Prop} (h : DK N w g l s) (hn : ∀ i, N i → N' i) : DK N' w g l s := by
  obtain ⟨h0, S, h1, h2⟩ := h
  exact ⟨fun i hi => hn i (h0 i hi), S, h1, fun i hi => ⟨hn i (h2 i hi).1, (h2 i hi).2⟩⟩
theorem DK.made (w : World) : DK (fun i => w.heap.size ≤ i) (w.alloc (.cells #[.slice none 0 0, .int .i64 0] 55)) w.heap.size [] 0 :=
  ⟨fun i hi => by simp at hi; omega, _, DiskAt.made _ w, fun i hi => by subst hi; simp⟩
theorem DK.sizes (h : DK N w g l s) : s ≤ l.length ∧ l.length ≤ 65536 := by obtain ⟨_, S, h1, h2⟩ := h; exact h1.sizes
theorem DK.step {S S' : Nat → Prop} {l' : List UInt8} {s' : Nat} (h0 : ∀ i, w.heap.size ≤ i → N i) (h2 : ∀ i, S i → N i ∧ i < w.heap.size) (hD : DiskAt 55 S' w' g l' s') (hS : Step S w w' S') : DK N w' g l' s' ∧ Only N w w' := by
  refine ⟨⟨fun i hi => h0 i (Nat.le_trans hS.1.size hi), S', hD, fun i hi => ⟨?_, (hS.2 i hi).2⟩⟩, hS.1.mono fun i hi => (h2 i hi).1⟩
  rcases (hS.2 i hi).1 with y | y
  · exact (h2 i y).1
  · exact h0 i y
theorem Append_dk (h : DK N W g l s) (hb : Below W.heap.size W w) {ao : Option Addr} {n cap : Nat} {ls : List (List UInt8)} (hp : RdLLP (fun i => W.heap.size ≤ i ∨ ¬ N i) w ao n cap ls) {b : Bool} {l' : List UInt8} (hf : fitsB l ls = b) (hl : (if b = true then l ++ cat ls else l) = l') :
    Calls Try.prog 18 #[.pointer (some ⟨g, 0, none⟩), .slice ao n cap] w fun e w' => e = .returned (.bool b) ∧ DK N w' g l' s ∧ Only N W w' := by
  obtain ⟨h0, S, h1, h2⟩ := h
  have hsz := hb.size
  refine (Append_any g l s ao n cap ls w (h1.below hb) hp (fun i hi hs => by have := h2 i hs; rcases hi with hi | hi; omega; exact hi this.1)).mono ?_
  rintro e w2 ⟨he, S', hD, hS⟩
  rw [hf] at he hD
  rw [hl] at hD
  have := DK.step (N := N) (fun i hi => h0 i (by omega)) (fun i hi => ⟨(h2 i hi).1, by have := (h2 i hi).2; omega⟩) hD hS
  exact ⟨he, this.1, (Only.of_below N hb).trans this.2⟩
theorem Swap_dk (h : DK N w g l s) {ao : Option Addr} {n cap : Nat} {c : List UInt8} (hp : Rd w.heap.size w ao n cap (Bs c)) {b : Bool} {l' : List UInt8} {s' : Nat} (hf : decide (c.length ≤ 65536) = b) (hl : (if b = true then (c, c.length) else (l, s)) = (l', s')) :
    Calls Try.prog 29 #[.pointer (some ⟨g, 0, none⟩), .slice ao n cap] w fun e w' => e = .returned (.bool b) ∧ DK N w' g l' s' ∧ Only N w w' := by
  obtain ⟨h0, S, h1, h2⟩ := h
  refine (Swap_any g l s ao n cap c w h1 hp).mono ?_
  rintro e w2 (⟨hlt, he, hw⟩ | ⟨hle, he, S', hD, hS⟩)
  · have hb : b = false := by rw [← hf]; exact decide_eq_false (by omega)
    subst hb
    simp at hl
    obtain ⟨rfl, rfl⟩ := hl
    subst hw
    exact ⟨he, ⟨h0, S, h1, h2⟩, Only.refl _ _⟩
  · have hb : b = true := by rw [← hf]; exact decide_eq_true hle
    subst hb
    simp at hl
    obtain ⟨rfl, rfl⟩ := hl
    exact ⟨he, DK.step h0 h2 hD hS⟩
theorem Sync_dk (h : DK N w g l s) : Calls Try.prog 10 #[.pointer (some ⟨g, 0, none⟩)] w fun e w' => e = .returned (.int .i64 (l.length - s : Nat)) ∧ DK N w' g l l.length ∧ Only N w w' := by
  obtain ⟨h0, S, h1, h2⟩ := h
  refine (Sync_any g l s w h1).mono ?_
  rintro e w2 ⟨he, hD, hO⟩
  exact ⟨he, DK.step h0 h2 hD ⟨hO, fun i hi => ⟨.inl hi, Nat.lt_of_lt_of_le (h2 i hi).2 hO.size⟩⟩⟩
theorem Crash_dk (h : DK N w g l s) (keep : Int) {q : Nat} {l' : List UInt8} {s' : Nat} (hq : kept keep (l.length - s) = q) (hl : l.take (s + q) = l') (hs : s + q = s') :
    Calls Try.prog 12 #[.pointer (some ⟨g, 0, none⟩), .int .i64 keep] w fun e w' => e = .returned (.int .i64 q) ∧ DK N w' g l' s' ∧ Only N w w' := by
  obtain ⟨h0, S, h1, h2⟩ := h
  refine (Crash_any g l s keep w h1).mono ?_
  rintro e w2 ⟨he, hD, hO⟩
  rw [hq] at he hD
  rw [hl, hs] at hD
  exact ⟨he, DK.step h0 h2 hD ⟨hO, fun i hi => ⟨.inl hi, Nat.lt_of_lt_of_le (h2 i hi).2 hO.size⟩⟩⟩
theorem Bytes_dk (h : DK N w g l s) : Calls Try.prog 23 #[.pointer (some ⟨g, 0, none⟩)] w fun e w' => ∃ ao' cap', e = .returned (.slice ao' l.length cap') ∧ w'.ownsRow w.heap.size 5 1 (.slice ao' l.length cap') l.length (Bs l) ∧ Below w.heap.size w w' := by
  obtain ⟨_, S, h1, h2⟩ := h; exact Bytes_any g l s w h1
theorem Size_dk (h : DK N w g l s) : Calls Try.prog 27 #[.pointer (some ⟨g, 0, none⟩)] w fun e w' => e = .returned (.int .i64 l.length) ∧ w' = w := by
  obtain ⟨_, S, h1, h2⟩ := h; exact Size_any g l s w h1
theorem Synced_dk (h : DK N w g l s) : Calls Try.prog 24 #[.pointer (some ⟨g, 0, none⟩)] w fun e w' => e = .returned (.int .i64 s) ∧ w' = w := by
  obtain ⟨_, S, h1, h2⟩ := h; exact Synced_any g l s w h1
end
/-- one part that is a literal -/
theorem lit_one (A : Nat → Prop) (W : World) (l : List UInt8) (fr : Nat × Nat) (hm : l.length ≤ 1000) (hA : ∀ i, W.heap.size ≤ i → A i) :
    RdLLP A ((W.alloc (.cells (Bs l).toArray 5 fr)).alloc (.cells #[.slice (some ⟨W.heap.size, 0, none⟩) l.length l.length] 23)) (some ⟨W.heap.size + 1, 0, none⟩) 1 1 [l] :=
  RdLLP.of A _ [.slice (some ⟨W.heap.size, 0, none⟩) l.length l.length] [l] _ (by simp) (RdLP.cons ⟨Rd.lit W l fr _ rfl hm, fun a e _ => by cases e; exact hA _ (Nat.le_refl _)⟩ (RdLP.nil _ _)) (by simp) (hA _ (by omega))
theorem bel_two (W : World) (a b : Obj) : Below W.heap.size W ((W.alloc a).alloc b) := ((Below.refl W.heap.size W).alloc (Nat.le_refl _) _).alloc (by simp) _

theorem str_append (a b : List UInt8) : str a ++ str b = str (a ++ b) := by
  apply ByteArray.ext
  simp [str]
theorem str_take (a : List UInt8) (k : Nat) : (str a).extract 0 k = str (a.take k) := by
  apply ByteArray.ext
  simp [str]
/-- one part that is told in a list of its own -/
theorem box_one (A : Nat → Prop) (W : World) (ao : Option Addr) (cap : Nat) (l : List UInt8) (h : RdP A W ao l.length cap (Bs l)) (hA : A W.heap.size) :
    RdLLP A (W.alloc (.cells #[.slice ao l.length cap] 23)) (some ⟨W.heap.size, 0, none⟩) 1 1 [l] :=
  RdLLP.of A W [.slice ao l.length cap] [l] _ rfl (RdLP.cons h (RdLP.nil _ _)) (by simp) hA
end Go.Proofs.Ytjhcldccogpoaaa
