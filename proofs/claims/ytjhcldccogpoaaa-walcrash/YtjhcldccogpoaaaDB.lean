/- disk: fits, Append -/
import Derived.Test.YtjhcldccogpoaaaDA
namespace Go.Proofs.Ytjhcldccogpoaaa
open Go.RowKit

/-- all parts, one behind the other -/
def cat (ls : List (List UInt8)) : List UInt8 := ls.flatten
theorem cat_nil : cat [] = [] := rfl
theorem cat_one (r : List UInt8) : cat [r] = r := by simp [cat]
theorem cat_step {ls : List (List UInt8)} {k : Nat} {r : List UInt8} (h : ls[k]? = some r) : cat (ls.take (k + 1)) = cat (ls.take k) ++ r := by
  rw [cat, List.take_add_one, h]; simp [cat]
theorem cat_le (ls : List (List UInt8)) (k : Nat) : (cat (ls.take k)).length ≤ (cat ls).length := by
  have : cat ls = cat (ls.take k) ++ cat (ls.drop k) := by rw [cat, cat, cat, ← List.flatten_append, List.take_append_drop]
  rw [this]; simp
theorem cat_zero (ls : List (List UInt8)) : cat (ls.take 0) = [] := rfl
/-- there is room for them -/
def fitsB (l : List UInt8) (ls : List (List UInt8)) : Bool := decide (l.length + (cat ls).length ≤ 65536)

set_option maxHeartbeats 400000 in
theorem fits_any {S A : Nat → Prop} (g : Nat) (l : List UInt8) (s : Nat) (ao : Option Addr) (n cap : Nat) (ls : List (List UInt8)) (w : World) (h : DiskAt 55 S w g l s) (hp : RdLLP A w ao n cap ls) :
    Calls Try.prog 37 #[.pointer (some ⟨g, 0, none⟩), .slice ao n cap] w fun e w' => e = .returned (.bool (fitsB l ls)) ∧ w' = w := by
  obtain ⟨ao0, cap0, hc0, hc1, hf0, hf1, hR⟩ := h.cells
  obtain ⟨h1, h2⟩ := h.sizes
  have hlen := hp.len
  subst hlen
  have hcm : ls.length ≤ maxLen := Nat.le_trans hp.caps.1 hp.caps.2
  unfold maxLen at hcm
  have HP : Hid (RdLLP A w ao ls.length cap ls) := hp
  clear h hR hp
  go_enter Try.func37, Try.ntmps37
  go_wp2
  go_loop [5, 16] (fun v i => ∃ (k m : Nat), k ≤ ls.length ∧ i = .int .i64 k ∧ m ≤ 65536 ∧ Hid (l.length + (cat (ls.take k)).length + m = 65536) ∧ v = .int .i64 m) (fun _ i => ls.length - (intOf i).toNat)
  case atStart => exact ⟨0, 65536 - l.length, Nat.zero_le _, rfl, by omega, (by show _ = _; rw [cat_zero, List.length_nil]; omega), by go_num⟩
  case round =>
    obtain ⟨k, m, hk, rfl, hm, HM, rfl⟩ := hrel
    by_cases hlt : k < ls.length
    · obtain ⟨b, off, rfl, hbB, hA, hcells⟩ := HP.out.at (by omega)
      obtain ⟨r, hr⟩ : ∃ r, ls[k]? = some r := ⟨ls[k], List.getElem?_eq_getElem _⟩
      obtain ⟨aor, cpr, hcr, hRr⟩ := hcells k r hr
      have HS : Hid (cat (ls.take (k + 1)) = cat (ls.take k) ++ r) := cat_step hr
      have hrm : r.length ≤ maxLen := Nat.le_trans hRr.1.2.1 hRr.1.2.2.1
      unfold maxLen at hrm
      clear hcells hr hRr
      by_cases hfit : r.length ≤ m
      · go_wp2
        go_round
        case rel => exact ⟨k + 1, m - r.length, by omega, by go_num, by omega, (by show _ = _; have := HM.out; rw [HS.out, List.length_append]; omega), by go_num⟩
        case measure => simp [intOf]; omega
      · have hbad : ¬ (l.length + (cat ls).length ≤ 65536) := by
          have := HM.out
          have h3 := cat_le ls (k + 1)
          rw [HS.out, List.length_append] at h3
          omega
        have HD : Hid (fitsB l ls = false) := decide_eq_false hbad
        clear hbad
        go_wp2
        go_ret
        exact ⟨ret_bool HD.out.symm, rfl⟩
    · have hgood : l.length + (cat ls).length ≤ 65536 := by
        have := HM.out
        rw [List.take_of_length_le (by omega)] at this
        omega
      have HD : Hid (fitsB l ls = true) := decide_eq_true hgood
      clear hgood
      go_wp2
      go_ret
      exact ⟨ret_bool HD.out.symm, rfl⟩

theorem Step.trans {S S1 S2 : Nat → Prop} {w w1 w2 : World} (h : Step S w w1 S1) (k : Step S1 w1 w2 S2) : Step S w w2 S2 := by
  refine ⟨h.1.step k.1 fun i hi x => ?_, fun i hi => ⟨?_, (k.2 i hi).2⟩⟩
  · rcases (h.2 i x).1 with y | y
    · exact y
    · omega
  · rcases (k.2 i hi).1 with y | y
    · exact (h.2 i y).1
    · exact .inr (Nat.le_trans h.1.size y)
/-- a step of another object leaves it; and they stay apart -/
theorem Step.apart {S S1 T : Nat → Prop} {w w1 : World} (h : Step S w w1 S1) (hd : ∀ i, T i → ¬ S i) (ht : ∀ i, T i → i < w.heap.size) : ∀ i, T i → ¬ S1 i := by
  intro i hi hs
  rcases (h.2 i hs).1 with y | y
  · exact hd i hi y
  · have := ht i hi; omega
theorem Step.below {S S1 : Nat → Prop} {w w1 w2 : World} (h : Step S w w1 S1) (hb : Below w1.heap.size w1 w2) : Step S w w2 S1 :=
  ⟨h.1.trans (Only.of_below _ hb), fun i hi => ⟨(h.2 i hi).1, Nat.lt_of_lt_of_le (h.2 i hi).2 hb.size⟩⟩
/-- bytes are appended to what a disk has -/
theorem DiskAt.appended {t : TypeId} {S : Nat → Prop} {w w' : World} {g s m : Nat} {Q r : List UInt8} {ao ao' : Option Addr} {cap cap' : Nat} (h : DiskAt t S w g Q s) (hc : w.cell? ⟨g, 0, none⟩ = some (.slice ao Q.length cap))
    (hg : w.grownBy w' (Value.ownBlock (.slice ao Q.length cap))) (hm : m = Q.length + r.length) (hown : w'.ownsRow 0 5 1 (.slice ao' m cap') m (Bs Q ++ Bs r)) (hk : ∀ k, Value.ownBlock (.slice ao' m cap') = some k → Value.ownBlock (.slice ao Q.length cap) = some k ∨ w.heap.size ≤ k)
    (hle : Q.length + r.length ≤ 65536) : w'.frozen? ⟨g, 0, none⟩ = false ∧ w'.cell? ⟨g, 0, none⟩ = some (.slice ao Q.length cap) ∧ ∃ S', DiskAt t S' (w'.setCell ⟨g, 0, none⟩ (.slice ao' m cap')) g (Q ++ r) s ∧ Step S w (w'.setCell ⟨g, 0, none⟩ (.slice ao' m cap')) S' := by
  obtain ⟨ao0, cap0, g1, g2, g3, g4, g5, g6⟩ := h
  have e := (cell_of_row _ g 0 _ _ (0, 0) g1).symm.trans hc
  simp at e
  obtain ⟨rfl, rfl⟩ := e
  have hgl := (Array.getElem?_eq_some_iff.1 g1).1
  have hb : w'.heap[g]? = some (.cells #[.slice ao0 Q.length cap0, .int .i64 s] t (0, 0)) := (hg.block g hgl fun e => (g6 g e.symm).2 rfl).trans g1
  have hl : (Q ++ r).length = m := by rw [List.length_append, hm]
  have hne : ∀ k, Value.ownBlock (.slice ao' m cap') = some k → k ≠ g := by
    intro k hk' e
    rcases hk k hk' with y | y
    · exact (g6 k y).2 e
    · omega
  refine ⟨by simp [World.frozen?, hb], by rw [cell_of_row _ g 0 _ _ (0, 0) hb]; rfl, fun k => S k ∧ k < w.heap.size ∨ (w.heap.size ≤ k ∧ k < w'.heap.size), ⟨ao', cap', ?_, ?_, ?_, by rw [hl]; omega, .inl ⟨g5, hgl⟩, ?_⟩, ?_, ?_⟩
  · rw [hl]; exact set_block hb 0 _
  · rw [hl, Bs_append]
    exact own_only (S := fun k => k = g) hown (Only.of_set _ _ _ rfl) hne
  · omega
  · intro k hk'
    rw [hl] at hk'
    refine ⟨?_, hne k hk'⟩
    rcases hk k hk' with y | y
    · exact .inl ⟨(g6 k y).1, (g2.lt k y).2⟩
    · exact .inr ⟨y, (hown.lt k hk').2⟩
  · exact (Only.of_grown hg fun k hk => (g6 k hk).1).trans (Only.of_set _ _ _ g5)
  · have hsz := hg.size
    rintro k (⟨h1, h2⟩ | ⟨h1, h2⟩)
    · exact ⟨.inl h1, by simp; omega⟩
    · exact ⟨.inr h1, by simpa using h2⟩

set_option maxHeartbeats 1000000 in
theorem Append_any {S A : Nat → Prop} (g : Nat) (l : List UInt8) (s : Nat) (ao : Option Addr) (n cap : Nat) (ls : List (List UInt8)) (w : World) (h : DiskAt 55 S w g l s) (hp : RdLLP A w ao n cap ls) (hd : ∀ i, A i → ¬ S i) :
    Calls Try.prog 18 #[.pointer (some ⟨g, 0, none⟩), .slice ao n cap] w fun e w' => e = .returned (.bool (fitsB l ls)) ∧ ∃ S', DiskAt 55 S' w' g (if fitsB l ls = true then l ++ cat ls else l) s ∧ Step S w w' S' := by
  have hlen := hp.len
  subst hlen
  have hcm : ls.length ≤ maxLen := Nat.le_trans hp.caps.1 hp.caps.2
  unfold maxLen at hcm
  have HH : Hid (DiskAt 55 S w g l s) := h
  have HP : Hid (RdLLP A w ao ls.length cap ls) := hp
  have hS : S g := by obtain ⟨_, _, _, _, _, _, h5, _⟩ := h; exact h5
  clear h hp
  by_cases hfit : fitsB l ls = true
  · rw [if_pos hfit]
    have hle : l.length + (cat ls).length ≤ 65536 := of_decide_eq_true hfit
    have HL : Hid (l.length + (cat ls).length ≤ 65536) := hle
    have HFT : Hid (fitsB l ls = true) := hfit
    clear hle
    go_enter Try.func18, Try.ntmps18
    go_wp2_with fail
    refine (fits_any g l s _ _ _ ls w HH.out HP.out).mono ?_
    rintro e wq ⟨rfl, hwq⟩
    subst wq
    go_wp2
    go_loopw [13] (fun i wr => ∃ (k : Nat) (Sk : Nat → Prop), k ≤ ls.length ∧ i = .int .i64 k ∧ DiskAt 55 Sk wr g (l ++ cat (ls.take k)) s ∧ Step S w wr Sk) (fun i _ => ls.length - (intOf i).toNat)
    case atStart =>
      obtain ⟨S1, h1, h2⟩ := HH.out.tight
      exact ⟨0, S1, Nat.zero_le _, rfl, by rw [cat_zero, List.append_nil]; exact h1, Only.refl _ _, fun k hk => ⟨.inl (h2 k hk).1, (h2 k hk).2⟩⟩
    case round =>
      obtain ⟨k, Sk, hk, rfl, hD, hSt⟩ := hrel
      by_cases hlt : k < ls.length
      · have hP := HP.out.only hSt.1 hd
        obtain ⟨b, off, rfl, hbB, hA, hcells⟩ := hP.at (by omega)
        obtain ⟨r, hr⟩ : ∃ r, ls[k]? = some r := ⟨ls[k], List.getElem?_eq_getElem _⟩
        obtain ⟨aor, cpr, hcr, hRr⟩ := hcells k r hr
        have HS : Hid (cat (ls.take (k + 1)) = cat (ls.take k) ++ r) := cat_step hr
        have hle : (l ++ cat (ls.take k)).length + r.length ≤ 65536 := by
          have h3 := cat_le ls (k + 1)
          have h4 := HL.out
          rw [HS.out, List.length_append] at h3
          rw [List.length_append]
          omega
        have HRr : Hid (Rd wr.heap.size wr aor r.length cpr (Bs r)) := hRr.1
        obtain ⟨aoD, capD, hc0, hc1, hf0, hf1, _⟩ := hD.cells
        have HG2 : Hid (wr.ownsRow 0 5 1 (.slice aoD (l ++ cat (ls.take k)).length capD) (l ++ cat (ls.take k)).length (Bs (l ++ cat (ls.take k)))) := hD.owns hc0
        have HD : Hid (DiskAt 55 Sk wr g (l ++ cat (ls.take k)) s) := hD
        have HC0 : Hid (wr.cell? ⟨g, 0, none⟩ = some (.slice aoD (l ++ cat (ls.take k)).length capD)) := hc0
        have HST : Hid (Step S w wr Sk) := hSt
        have hg := hD.lt
        have HNX : Hid (l ++ cat (ls.take (k + 1)) = (l ++ cat (ls.take k)) ++ r) := by show _ = _; rw [HS.out, List.append_assoc]
        generalize l ++ cat (ls.take k) = Q at *
        clear hcells hr hRr hP hD hSt
        go_wp2_with (at_builtin; refine appB2 rfl _ _ _ rfl _ _ _ _ rfl HG2.out _ r.length (Bs r) rfl (HRr.out.src Try.underlying23 (Bs_one r)) (by omega) (by omega) ?_)
        intro ao5 cp5 w5 hown5 hg5 _ hk5
        obtain ⟨hf5, hc5, S5, hD5, hS5⟩ := HD.out.appended HC0.out hg5 rfl hown5 hk5 hle
        have HD5 : Hid (DiskAt 55 S5 (w5.setCell ⟨g, 0, none⟩ (.slice ao5 (Q.length + r.length) cp5)) g (Q ++ r) s) := hD5
        have HS5 : Hid (Step Sk wr (w5.setCell ⟨g, 0, none⟩ (.slice ao5 (Q.length + r.length) cp5)) S5) := hS5
        clear hown5 hg5 hk5 hD5 hS5 hc0 hc1 hf0 hf1
        go_wp2
        go_roundw
        case rel => exact ⟨k + 1, S5, by omega, by go_num, by rw [HNX.out]; exact HD5.out, HST.out.trans HS5.out⟩
        case measure => simp [intOf]; omega
      · have HT : Hid (ls.take k = ls) := List.take_of_length_le (by omega)
        rw [HT.out] at hD
        have HD : Hid (DiskAt 55 Sk wr g (l ++ cat ls) s) := hD
        clear hD
        go_wp2
        go_ret
        exact ⟨ret_bool HFT.out.symm, Sk, HD.out, hSt⟩
  · have hff : fitsB l ls = false := by simpa using hfit
    rw [if_neg hfit]
    clear hfit
    obtain ⟨S1, h1, h2⟩ := HH.out.tight
    go_enter Try.func18, Try.ntmps18
    go_wp2_with fail
    refine (fits_any g l s _ _ _ ls w HH.out HP.out).mono ?_
    rintro e wq ⟨rfl, hwq⟩
    subst wq
    go_wp2
    go_ret
    exact ⟨ret_bool hff.symm, S1, h1, Only.refl _ _, fun k hk => ⟨.inl (h2 k hk).1, (h2 k hk).2⟩⟩
end Go.Proofs.Ytjhcldccogpoaaa
