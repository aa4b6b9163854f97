/- two disks and a log of the one -/
import Derived.Test.YtapocoijfdgcfaaWR
import Derived.Test.YtapocoijfdgcfaaWI
namespace Go.Proofs.Ytapocoijfdgcfaa
open Go.RowKit

section
variable {N : Nat → Prop} {w w' : World} {lg gd gr s s2 n cap : Nat} {l l2 : List UInt8} {ao : Option Addr} {ls : List (List UInt8)}
/-- the first disk alone -/
theorem Two.viaD (h : Two N w gd gr l s l2 s2) : ∃ N' : Nat → Prop, (∀ i, N' i → N i) ∧ DK N' w gd l s ∧
    ∀ (w' : World) (l' : List UInt8) (s' : Nat), DK N' w' gd l' s' → Only N' w w' → Two N w' gd gr l' s' l2 s2 := by
  obtain ⟨h0, Sd, Sr, h1, h2, h3, h4, h5⟩ := h
  refine ⟨fun i => N i ∧ ¬ Sr i, fun i hi => hi.1, ⟨fun i hi => ⟨h0 i hi, fun x => by have := (h4 i x).2; omega⟩, Sd, h1, fun i hi => ⟨⟨(h3 i hi).1, h5 i hi⟩, (h3 i hi).2⟩⟩, ?_⟩
  rintro w' l' s' ⟨g0, S, g1, g2⟩ ho
  exact ⟨fun i hi => (g0 i hi).1, S, Sr, g1, h2.only ho fun i hi x => x.2 hi, fun i hi => ⟨(g2 i hi).1.1, (g2 i hi).2⟩, fun i hi => ⟨(h4 i hi).1, Nat.lt_of_lt_of_le (h4 i hi).2 ho.size⟩, fun i hi x => (g2 i hi).1.2 x⟩
theorem Open_tw (h : Two N w gd gr l s l2 s2) {l' : List UInt8} {s' : Nat} (hl : openS l s = (l', s')) :
    Calls Try.prog 9 #[.pointer (some ⟨gd, 0, none⟩)] w fun e w' => ∃ lm, e = .returned (.pointer (some ⟨lm, 0, none⟩)) ∧ ∃ N' : Nat → Prop, Two N' w' gd gr l' s' l2 s2 ∧ LogAt w' lm gd ∧ ¬ N' lm ∧ (∀ i, N' i → N i) ∧ Only N w w' := by
  obtain ⟨h0, Sd, Sr, h1, h2, h3, h4, h5⟩ := h
  have hD : DK (fun i => N i ∧ ¬ Sr i) w gd l s := ⟨fun i hi => ⟨h0 i hi, fun x => by have := (h4 i x).2; omega⟩, Sd, h1, fun i hi => ⟨⟨(h3 i hi).1, h5 i hi⟩, (h3 i hi).2⟩⟩
  refine (Open_dk hD hl).mono ?_
  rintro e w' ⟨lm, he, hlm, N', ⟨⟨g0, S, g1, g2⟩, gL, gn⟩, hN', ho⟩
  refine ⟨lm, he, fun i => N i ∧ i ≠ lm, ⟨fun i hi => ⟨(hN' i (g0 i hi)).1, by have := gL.lt; omega⟩, S, Sr, g1, h2.only ho fun i hi x => x.2 hi, ?_, ?_, fun i hi x => (hN' i (g2 i hi).1).2 x⟩, gL, fun x => x.2 rfl, fun i hi => hi.1, ho.mono fun i hi => hi.1⟩
  · intro i hi
    exact ⟨⟨(hN' i (g2 i hi).1).1, fun e => gn (e ▸ (g2 i hi).1)⟩, (g2 i hi).2⟩
  · intro i hi
    have := (h4 i hi).2
    exact ⟨⟨(h4 i hi).1, by omega⟩, Nat.lt_of_lt_of_le this ho.size⟩
theorem Add_tw (h : Two N w gd gr l s l2 s2) (hL : LogAt w lg gd) (hn : ¬ N lg) (hp : RdLL w.heap.size w ao n cap ls) (hfew : (framesF sum8 ls).length ≤ 140737488355328) {b : Bool} {l' : List UInt8} (hb : addB l ls = b) (hl : (if b = true then l ++ framesF sum8 ls else l) = l') :
    Calls Try.prog 11 #[.pointer (some ⟨lg, 0, none⟩), .slice ao n cap] w fun e w' => e = .returned (.bool b) ∧ Two N w' gd gr l' s l2 s2 ∧ Only N w w' := by
  obtain ⟨N', k1, k2, k3⟩ := h.viaD
  refine (Add_lk (N := N') ⟨k2, hL, fun x => hn (k1 _ x)⟩ hp hfew hb hl).mono ?_
  rintro e w' ⟨he, hK, ho⟩
  exact ⟨he, k3 w' l' s hK.1 ho, ho.mono k1⟩
theorem Rewrite_tw (h : Two N w gd gr l s l2 s2) (hL : LogAt w lg gd) (hn : ¬ N lg) (hp : RdLL w.heap.size w ao n cap ls) (hfew : (framesF sum8 ls).length ≤ 140737488355328) {b : Bool} {l' : List UInt8} {s' : Nat} (hb : rewB ls = b) (hl : (if b = true then (framesF sum8 ls, (framesF sum8 ls).length) else (l, s)) = (l', s')) :
    Calls Try.prog 14 #[.pointer (some ⟨lg, 0, none⟩), .slice ao n cap] w fun e w' => e = .returned (.bool b) ∧ Two N w' gd gr l' s' l2 s2 ∧ Only N w w' := by
  obtain ⟨N', k1, k2, k3⟩ := h.viaD
  refine (Rewrite_lk (N := N') ⟨k2, hL, fun x => hn (k1 _ x)⟩ hp hfew hb hl).mono ?_
  rintro e w' ⟨he, hK, ho⟩
  exact ⟨he, k3 w' l' s' hK.1 ho, ho.mono k1⟩
theorem Records_tw (h : Two N w gd gr l s l2 s2) (hL : LogAt w lg gd) (hn : ¬ N lg) {rs : List (List UInt8)} {u m : Nat} (hR : readS sum8 l = (rs, u)) (hm : rs.length = m) :
    Calls Try.prog 15 #[.pointer (some ⟨lg, 0, none⟩)] w fun e w' => ∃ ao' cap', e = .returned (.slice ao' m cap') ∧ OwnLL w.heap.size w' (.slice ao' m cap') m rs ∧ Below w.heap.size w w' := by
  obtain ⟨N', k1, k2, k3⟩ := h.viaD
  exact Records_lk (N := N') ⟨k2, hL, fun x => hn (k1 _ x)⟩ hR hm
theorem refAdd_tw (h : Two N w gd gr l s l2 s2) (hp : RdLL w.heap.size w ao n cap ls) (hfew : (framesF sum8 ls).length ≤ 1000000000) {b : Bool} {l' : List UInt8} (hb : addB l2 ls = b) (hl : (if b = true then l2 ++ framesF sum8 ls else l2) = l') :
    Calls Try.prog 27 #[.pointer (some ⟨gr, 0, none⟩), .slice ao n cap] w fun e w' => e = .returned (.bool b) ∧ Two N w' gd gr l s l' s2 ∧ Only N w w' := by
  obtain ⟨h0, Sd, Sr, h1, h2, h3, h4, h5⟩ := h
  refine (refAdd_any gr l2 s2 ao n cap ls w h2 (fun i hi => (h4 i hi).2) hp hfew hb hl).mono ?_
  rintro e w2 ⟨he, S', hD, hS⟩
  exact ⟨he, Two.stepR h0 h1 h3 h4 h5 hD hS⟩
theorem refRewrite_tw (h : Two N w gd gr l s l2 s2) (hp : RdLL w.heap.size w ao n cap ls) (hfew : (framesF sum8 ls).length ≤ 1000000000) {b : Bool} {l' : List UInt8} {s' : Nat} (hb : rewB ls = b) (hl : (if b = true then (framesF sum8 ls, (framesF sum8 ls).length) else (l2, s2)) = (l', s')) :
    Calls Try.prog 24 #[.pointer (some ⟨gr, 0, none⟩), .slice ao n cap] w fun e w' => e = .returned (.bool b) ∧ Two N w' gd gr l s l' s' ∧ Only N w w' := by
  obtain ⟨h0, Sd, Sr, h1, h2, h3, h4, h5⟩ := h
  refine (refRewrite_any gr l2 s2 ao n cap ls w h2 (fun i hi => (h4 i hi).2) hp hfew hb hl).mono ?_
  rintro e w2 ⟨he, S', hD, hS⟩
  exact ⟨he, Two.stepR h0 h1 h3 h4 h5 hD hS⟩
theorem refOpenLog_tw (h : Two N w gd gr l s l2 s2) {l' : List UInt8} {s' : Nat} (hl : openS l2 s2 = (l', s')) :
    Calls Try.prog 23 #[.pointer (some ⟨gr, 0, none⟩)] w fun e w' => (∃ v, e = .returned v) ∧ Two N w' gd gr l s l' s' ∧ Only N w w' := by
  obtain ⟨h0, Sd, Sr, h1, h2, h3, h4, h5⟩ := h
  refine (refOpenLog_any gr l2 s2 w h2 (fun i hi => (h4 i hi).2) hl).mono ?_
  rintro e w2 ⟨he, S', hD, hS⟩
  exact ⟨he, Two.stepR h0 h1 h3 h4 h5 hD hS⟩
end
end Go.Proofs.Ytapocoijfdgcfaa
