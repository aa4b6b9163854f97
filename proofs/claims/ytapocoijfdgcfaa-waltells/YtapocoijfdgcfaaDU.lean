/- DiskTells: two disks, one beside the other; the walk -/
import Derived.Test.YtapocoijfdgcfaaKA
import Derived.Test.YtapocoijfdgcfaaDT
namespace Go.Proofs.Ytapocoijfdgcfaa
open Go.RowKit

/-- the slice reads as a list, each element being c cells that Q says of -/
def RdG {α : Type} (c : Nat) (Q : Nat → World → List Value → α → Prop) (B : Nat) (w : World) (ao : Option Addr) (n cap : Nat) (xs : List α) : Prop :=
  xs.length = n ∧ n ≤ cap ∧ cap ≤ maxLen ∧ (ao = none → cap = 0) ∧
  (xs = [] ∨ ∃ b off, ao = some ⟨b, off, none⟩ ∧ b < B ∧ ∀ k x, xs[k]? = some x → ∃ cs : List Value, cs.length = c ∧ Q B w cs x ∧ ∀ j u, cs[j]? = some u → w.cell? ⟨b, off + k * c + j, none⟩ = some u)
theorem RdG.later {α : Type} {c : Nat} {Q : Nat → World → List Value → α → Prop} {B : Nat} {w w' : World} {ao : Option Addr} {n cap : Nat} {xs : List α} (h : RdG c Q B w ao n cap xs) (hb : Below B w w') (hQ : ∀ cs x, Q B w cs x → Q B w' cs x) : RdG c Q B w' ao n cap xs := by
  obtain ⟨h1, h2, h3, h4, h5⟩ := h
  refine ⟨h1, h2, h3, h4, ?_⟩
  rcases h5 with h5 | ⟨b, off, e1, e2, e3⟩
  · exact .inl h5
  · refine .inr ⟨b, off, e1, e2, fun k x hk => ?_⟩
    obtain ⟨cs, g1, g2, g3⟩ := e3 k x hk
    exact ⟨cs, g1, hQ cs x g2, fun j u hj => (hb.cell (p := ⟨b, off + k * c + j, none⟩) e2).trans (g3 j u hj)⟩
theorem RdG.atSome {α : Type} {c : Nat} {Q : Nat → World → List Value → α → Prop} {B : Nat} {w : World} {ao : Option Addr} {n cap : Nat} {xs : List α} (h : RdG c Q B w ao n cap xs) (hn : 0 < n) :
    ∃ b off, ao = some ⟨b, off, none⟩ ∧ b < B ∧ ∀ k x, xs[k]? = some x → ∃ cs : List Value, cs.length = c ∧ Q B w cs x ∧ ∀ j u, cs[j]? = some u → w.cell? ⟨b, off + k * c + j, none⟩ = some u := by
  obtain ⟨g1, g2, g3, g4, g5⟩ := h
  rcases g5 with rfl | h5
  · simp at g1; omega
  · exact h5
/-- a raw call -/
structure Raw4 where
  what : Int
  n : Int
  parts : List (List UInt8)
def Raw4.Q (B : Nat) (w : World) (cs : List Value) (x : Raw4) : Prop := ∃ ao n cap, cs = [.int .i64 x.what, .int .i64 x.n, .slice ao n cap] ∧ RdLL B w ao n cap x.parts
theorem Raw4.Q.later {B : Nat} {w w' : World} (hb : Below B w w') (cs : List Value) (x : Raw4) (h : Raw4.Q B w cs x) : Raw4.Q B w' cs x := by
  obtain ⟨ao, n, cap, e, r⟩ := h; exact ⟨ao, n, cap, e, r.later hb⟩

/-- two disks, apart, with blocks of N alone; what is not there yet is of N -/
def Two (N : Nat → Prop) (w : World) (gd gr : Nat) (l : List UInt8) (s : Nat) (l2 : List UInt8) (s2 : Nat) : Prop :=
  (∀ i, w.heap.size ≤ i → N i) ∧ ∃ Sd Sr, DiskAt 56 Sd w gd l s ∧ DiskAt 37 Sr w gr l2 s2 ∧ (∀ i, Sd i → N i ∧ i < w.heap.size) ∧ (∀ i, Sr i → N i ∧ i < w.heap.size) ∧ ∀ i, Sd i → ¬ Sr i
section
variable {N N' : Nat → Prop} {w w' W : World} {gd gr s s2 : Nat} {l l2 : List UInt8}
theorem Two.only {T : Nat → Prop} (h : Two N w gd gr l s l2 s2) (ho : Only T w w') (hd : ∀ i, N i → i < w.heap.size → ¬ T i) : Two N w' gd gr l s l2 s2 := by
  obtain ⟨h0, Sd, Sr, h1, h2, h3, h4, h5⟩ := h
  exact ⟨fun i hi => h0 i (Nat.le_trans ho.size hi), Sd, Sr, h1.only ho (fun i hi => hd i (h3 i hi).1 (h3 i hi).2), h2.only ho (fun i hi => hd i (h4 i hi).1 (h4 i hi).2),
    fun i hi => ⟨(h3 i hi).1, Nat.lt_of_lt_of_le (h3 i hi).2 ho.size⟩, fun i hi => ⟨(h4 i hi).1, Nat.lt_of_lt_of_le (h4 i hi).2 ho.size⟩, h5⟩
theorem Two.below (h : Two N w gd gr l s l2 s2) (hb : Below w.heap.size w w') : Two N w' gd gr l s l2 s2 := h.only (T := fun _ => False) (Only.of_below _ hb) fun _ _ _ => id
/-- what was made in between is none of theirs -/
theorem Two.shrink (h : Two N w gd gr l s l2 s2) (hb : Below w.heap.size w w') : Two (fun i => N i ∧ ¬ (w.heap.size ≤ i ∧ i < w'.heap.size)) w' gd gr l s l2 s2 := by
  have hsz := hb.size
  obtain ⟨h0, Sd, Sr, h1, h2, h3, h4, h5⟩ := h
  refine ⟨fun i hi => ⟨h0 i (by omega), by omega⟩, Sd, Sr, h1.below hb, h2.below hb, fun i hi => ?_, fun i hi => ?_, h5⟩
  · have := h3 i hi; exact ⟨⟨this.1, by omega⟩, by omega⟩
  · have := h4 i hi; exact ⟨⟨this.1, by omega⟩, by omega⟩
theorem Two.mono (h : Two N w gd gr l s l2 s2) (hn : ∀ i, N i → N' i) : Two N' w gd gr l s l2 s2 := by
  obtain ⟨h0, Sd, Sr, h1, h2, h3, h4, h5⟩ := h
  exact ⟨fun i hi => hn i (h0 i hi), Sd, Sr, h1, h2, fun i hi => ⟨hn i (h3 i hi).1, (h3 i hi).2⟩, fun i hi => ⟨hn i (h4 i hi).1, (h4 i hi).2⟩, h5⟩
theorem Two.stepD {Sd Sr S' : Nat → Prop} {l' : List UInt8} {s' : Nat} (h0 : ∀ i, w.heap.size ≤ i → N i) (hr : DiskAt 37 Sr w gr l2 s2) (h3 : ∀ i, Sd i → N i ∧ i < w.heap.size) (h4 : ∀ i, Sr i → N i ∧ i < w.heap.size) (h5 : ∀ i, Sd i → ¬ Sr i)
    (hD : DiskAt 56 S' w' gd l' s') (hS : Step Sd w w' S') : Two N w' gd gr l' s' l2 s2 ∧ Only N w w' := by
  refine ⟨⟨fun i hi => h0 i (Nat.le_trans hS.1.size hi), S', Sr, hD, hr.only hS.1 (fun i a b => h5 i b a), fun i hi => ⟨?_, (hS.2 i hi).2⟩, fun i hi => ⟨(h4 i hi).1, Nat.lt_of_lt_of_le (h4 i hi).2 hS.1.size⟩, fun i a b => ?_⟩, hS.1.mono fun i hi => (h3 i hi).1⟩
  · rcases (hS.2 i hi).1 with y | y
    · exact (h3 i y).1
    · exact h0 i y
  · rcases (hS.2 i a).1 with y | y
    · exact h5 i y b
    · have := (h4 i b).2; omega
theorem Two.stepR {Sd Sr S' : Nat → Prop} {l' : List UInt8} {s' : Nat} (h0 : ∀ i, w.heap.size ≤ i → N i) (hd : DiskAt 56 Sd w gd l s) (h3 : ∀ i, Sd i → N i ∧ i < w.heap.size) (h4 : ∀ i, Sr i → N i ∧ i < w.heap.size) (h5 : ∀ i, Sd i → ¬ Sr i)
    (hD : DiskAt 37 S' w' gr l' s') (hS : Step Sr w w' S') : Two N w' gd gr l s l' s' ∧ Only N w w' := by
  refine ⟨⟨fun i hi => h0 i (Nat.le_trans hS.1.size hi), Sd, S', hd.only hS.1 h5, hD, fun i hi => ⟨(h3 i hi).1, Nat.lt_of_lt_of_le (h3 i hi).2 hS.1.size⟩, fun i hi => ⟨?_, (hS.2 i hi).2⟩, fun i a b => ?_⟩, hS.1.mono fun i hi => (h4 i hi).1⟩
  · rcases (hS.2 i hi).1 with y | y
    · exact (h4 i y).1
    · exact h0 i y
  · rcases (hS.2 i b).1 with y | y
    · exact h5 i a y
    · have := (h3 i a).2; omega
theorem Two.sizes (h : Two N w gd gr l s l2 s2) : (s ≤ l.length ∧ l.length ≤ 65536) ∧ (s2 ≤ l2.length ∧ l2.length ≤ 65536) := by
  obtain ⟨_, _, _, h1, h2, _⟩ := h; exact ⟨h1.sizes, h2.sizes⟩
theorem same_step {S : Nat → Prop} (h3 : ∀ i, S i → N i ∧ i < w.heap.size) (ho : Only S w w') : Step S w w' S := ⟨ho, fun i hi => ⟨.inl hi, Nat.lt_of_lt_of_le (h3 i hi).2 ho.size⟩⟩
theorem Sync_tw (h : Two N w gd gr l s l2 s2) : Calls Try.prog 19 #[.pointer (some ⟨gd, 0, none⟩)] w fun e w' => e = .returned (.int .i64 (l.length - s : Nat)) ∧ Two N w' gd gr l l.length l2 s2 ∧ Only N w w' := by
  obtain ⟨h0, Sd, Sr, h1, h2, h3, h4, h5⟩ := h
  refine (Sync_any gd l s w h1).mono ?_
  rintro e w2 ⟨he, hD, hO⟩
  exact ⟨he, Two.stepD h0 h2 h3 h4 h5 hD (same_step h3 hO)⟩
theorem refSync_tw (h : Two N w gd gr l s l2 s2) : Calls Try.prog 20 #[.pointer (some ⟨gr, 0, none⟩)] w fun e w' => e = .returned (.int .i64 (l2.length - s2 : Nat)) ∧ Two N w' gd gr l s l2 l2.length ∧ Only N w w' := by
  obtain ⟨h0, Sd, Sr, h1, h2, h3, h4, h5⟩ := h
  refine (refSync_any gr l2 s2 w h2).mono ?_
  rintro e w2 ⟨he, hD, hO⟩
  exact ⟨he, Two.stepR h0 h1 h3 h4 h5 hD (same_step h4 hO)⟩
theorem Crash_tw (h : Two N w gd gr l s l2 s2) (keep : Int) {q : Nat} (hq : kept keep (l.length - s) = q) :
    Calls Try.prog 21 #[.pointer (some ⟨gd, 0, none⟩), .int .i64 keep] w fun e w' => e = .returned (.int .i64 q) ∧ Two N w' gd gr (l.take (s + q)) (s + q) l2 s2 ∧ Only N w w' := by
  obtain ⟨h0, Sd, Sr, h1, h2, h3, h4, h5⟩ := h
  refine (Crash_any gd l s keep w h1).mono ?_
  rintro e w2 ⟨he, hD, hO⟩
  rw [hq] at he hD
  exact ⟨he, Two.stepD h0 h2 h3 h4 h5 hD (same_step h3 hO)⟩
theorem refCrash_tw (h : Two N w gd gr l s l2 s2) (keep : Int) {q : Nat} (hq : kept keep (l2.length - s2) = q) :
    Calls Try.prog 22 #[.pointer (some ⟨gr, 0, none⟩), .int .i64 keep] w fun e w' => e = .returned (.int .i64 q) ∧ Two N w' gd gr l s (l2.take (s2 + q)) (s2 + q) ∧ Only N w w' := by
  obtain ⟨h0, Sd, Sr, h1, h2, h3, h4, h5⟩ := h
  refine (refCrash_any gr l2 s2 keep w h2).mono ?_
  rintro e w2 ⟨he, S', hD, hO⟩
  rw [hq] at he hD
  exact ⟨he, Two.stepR h0 h1 h3 h4 h5 hD hO⟩
theorem Append_tw (h : Two N w gd gr l s l2 s2) {A : Nat → Prop} {ao : Option Addr} {n cap : Nat} {ls : List (List UInt8)} (hp : RdLLP A w ao n cap ls) (hA : ∀ i, A i → ¬ N i) {b : Bool} {l' : List UInt8} (hf : fitsB l ls = b) (hl : (if b = true then l ++ cat ls else l) = l') :
    Calls Try.prog 16 #[.pointer (some ⟨gd, 0, none⟩), .slice ao n cap] w fun e w' => e = .returned (.bool b) ∧ Two N w' gd gr l' s l2 s2 ∧ Only N w w' := by
  obtain ⟨h0, Sd, Sr, h1, h2, h3, h4, h5⟩ := h
  refine (Append_any gd l s ao n cap ls w h1 hp (fun i hi hs => hA i hi (h3 i hs).1)).mono ?_
  rintro e w2 ⟨he, S', hD, hS⟩
  rw [hf] at he hD
  rw [hl] at hD
  exact ⟨he, Two.stepD h0 h2 h3 h4 h5 hD hS⟩
theorem refAppend_tw (h : Two N w gd gr l s l2 s2) {A : Nat → Prop} {ao : Option Addr} {n cap : Nat} {ls : List (List UInt8)} (hp : RdLLP A w ao n cap ls) (hA : ∀ i, A i → ¬ N i) (hfew : (cat ls).length ≤ 1000000000) {b : Bool} {l' : List UInt8} (hf : fitsB l2 ls = b) (hl : (if b = true then l2 ++ cat ls else l2) = l') :
    Calls Try.prog 26 #[.pointer (some ⟨gr, 0, none⟩), .slice ao n cap] w fun e w' => e = .returned (.bool b) ∧ Two N w' gd gr l s l' s2 ∧ Only N w w' := by
  obtain ⟨h0, Sd, Sr, h1, h2, h3, h4, h5⟩ := h
  refine (refAppend_any gr l2 s2 ao n cap ls w h2 hp (fun i hi hs => hA i hi (h4 i hs).1) hfew).mono ?_
  rintro e w2 ⟨he, S', hD, hS⟩
  rw [hf] at he hD
  rw [hl] at hD
  exact ⟨he, Two.stepR h0 h1 h3 h4 h5 hD hS⟩
theorem Swap_tw (h : Two N w gd gr l s l2 s2) {ao : Option Addr} {n cap : Nat} {c : List UInt8} (hp : Rd w.heap.size w ao n cap (Bs c)) {b : Bool} {l' : List UInt8} {s' : Nat} (hf : decide (c.length ≤ 65536) = b) (hl : (if b = true then (c, c.length) else (l, s)) = (l', s')) :
    Calls Try.prog 32 #[.pointer (some ⟨gd, 0, none⟩), .slice ao n cap] w fun e w' => e = .returned (.bool b) ∧ Two N w' gd gr l' s' l2 s2 ∧ Only N w w' := by
  obtain ⟨h0, Sd, Sr, h1, h2, h3, h4, h5⟩ := h
  refine (Swap_any gd l s ao n cap c w h1 hp).mono ?_
  rintro e w2 (⟨hlt, he, hw⟩ | ⟨hle, he, S', hD, hS⟩)
  · have hb : b = false := by rw [← hf]; exact decide_eq_false (by omega)
    subst hb
    simp at hl
    obtain ⟨rfl, rfl⟩ := hl
    subst hw
    exact ⟨he, ⟨h0, Sd, Sr, h1, h2, h3, h4, h5⟩, Only.refl _ _⟩
  · have hb : b = true := by rw [← hf]; exact decide_eq_true hle
    subst hb
    simp at hl
    obtain ⟨rfl, rfl⟩ := hl
    exact ⟨he, Two.stepD h0 h2 h3 h4 h5 hD hS⟩
theorem refSwap_tw (h : Two N w gd gr l s l2 s2) {ao : Option Addr} {n cap : Nat} {c : List UInt8} (hp : Rd w.heap.size w ao n cap (Bs c)) {b : Bool} {l' : List UInt8} {s' : Nat} (hf : decide (c.length ≤ 65536) = b) (hl : (if b = true then (c, c.length) else (l2, s2)) = (l', s')) :
    Calls Try.prog 38 #[.pointer (some ⟨gr, 0, none⟩), .slice ao n cap] w fun e w' => e = .returned (.bool b) ∧ Two N w' gd gr l s l' s' ∧ Only N w w' := by
  obtain ⟨h0, Sd, Sr, h1, h2, h3, h4, h5⟩ := h
  refine (refSwap_any gr l2 s2 ao n cap c w h2 hp).mono ?_
  rintro e w2 (⟨hlt, he, hw⟩ | ⟨hle, he, S', hD, hS⟩)
  · have hb : b = false := by rw [← hf]; exact decide_eq_false (by omega)
    subst hb
    simp at hl
    obtain ⟨rfl, rfl⟩ := hl
    subst hw
    exact ⟨he, ⟨h0, Sd, Sr, h1, h2, h3, h4, h5⟩, Only.refl _ _⟩
  · have hb : b = true := by rw [← hf]; exact decide_eq_true hle
    subst hb
    simp at hl
    obtain ⟨rfl, rfl⟩ := hl
    exact ⟨he, Two.stepR h0 h1 h3 h4 h5 hD hS⟩
theorem Bytes_tw (h : Two N w gd gr l s l2 s2) : Calls Try.prog 29 #[.pointer (some ⟨gd, 0, none⟩)] w fun e w' => ∃ ao' cap', e = .returned (.slice ao' l.length cap') ∧ w'.ownsRow w.heap.size 5 1 (.slice ao' l.length cap') l.length (Bs l) ∧ Below w.heap.size w w' := by
  obtain ⟨_, _, _, h1, _⟩ := h; exact Bytes_any gd l s w h1
theorem Size_tw (h : Two N w gd gr l s l2 s2) : Calls Try.prog 12 #[.pointer (some ⟨gd, 0, none⟩)] w fun e w' => e = .returned (.int .i64 l.length) ∧ w' = w := by
  obtain ⟨_, _, _, h1, _⟩ := h; exact Size_any gd l s w h1
theorem Synced_tw (h : Two N w gd gr l s l2 s2) : Calls Try.prog 13 #[.pointer (some ⟨gd, 0, none⟩)] w fun e w' => e = .returned (.int .i64 s) ∧ w' = w := by
  obtain ⟨_, _, _, h1, _⟩ := h; exact Synced_any gd l s w h1
end
theorem Two.made (w w1 w2 : World) (h1 : w1 = w.alloc (.cells #[.slice none 0 0, .int .i64 0] 56)) (h2 : w2 = w1.alloc (.cells #[.slice none 0 0, .int .i64 0] 37)) :
    Two (fun i => w.heap.size ≤ i) w2 w.heap.size w1.heap.size [] 0 [] 0 := by
  have e1 : w1.heap.size = w.heap.size + 1 := by rw [h1]; simp
  have e2 : w2.heap.size = w1.heap.size + 1 := by rw [h2]; simp
  refine ⟨fun i hi => by omega, fun k => k = w.heap.size, fun k => k = w1.heap.size, ?_, ?_, fun i hi => ⟨by omega, by omega⟩, fun i hi => ⟨by omega, by omega⟩, fun i a b => by omega⟩
  · rw [h2, h1]
    exact (DiskAt.made _ w).below ((Below.refl _ _).alloc (Nat.le_refl _) _)
  · rw [h2]; exact DiskAt.made _ w1

end Go.Proofs.Ytapocoijfdgcfaa
