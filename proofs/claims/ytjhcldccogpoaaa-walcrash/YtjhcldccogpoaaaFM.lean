/- Frames, as plain mathematics: a record with its length and its sum ahead; what is read of bytes. -/
import Derived.Test.YtjhcldccogpoaaaP
import Derived.Test.YtjhcldccogpoaaaHM
namespace Go.Proofs.Ytjhcldccogpoaaa

/-- a number as eight bytes, the highest first -/
def eightN (h : Nat) : List UInt8 := [UInt8.ofNat (h / 72057594037927936), UInt8.ofNat (h / 281474976710656), UInt8.ofNat (h / 1099511627776), UInt8.ofNat (h / 4294967296), UInt8.ofNat (h / 16777216), UInt8.ofNat (h / 65536), UInt8.ofNat (h / 256), UInt8.ofNat h]
theorem eightN_length (h : Nat) : (eightN h).length = 8 := rfl
theorem ofNat_inj {a b : Nat} (h : UInt8.ofNat a = UInt8.ofNat b) : a % 256 = b % 256 := by
  have := congrArg UInt8.toNat h
  simpa using this
theorem eightN_inj {a b : Nat} (ha : a < 18446744073709551616) (hb : b < 18446744073709551616) (h : eightN a = eightN b) : a = b := by
  simp only [eightN, List.cons.injEq, and_true] at h
  obtain ⟨h1, h2, h3, h4, h5, h6, h7, h8⟩ := h
  have h1 := ofNat_inj h1
  have h2 := ofNat_inj h2
  have h3 := ofNat_inj h3
  have h4 := ofNat_inj h4
  have h5 := ofNat_inj h5
  have h6 := ofNat_inj h6
  have h7 := ofNat_inj h7
  have h8 := ofNat_inj h8
  omega

section
variable (s : List UInt8 → List UInt8)
/-- a record, laid -/
def frameF (r : List UInt8) : List UInt8 := enc r.length ++ (s r ++ r)
/-- records, laid -/
def framesF (ls : List (List UInt8)) : List UInt8 := ls.flatMap (frameF s)
theorem framesF_nil : framesF s [] = [] := rfl
theorem framesF_cons (r : List UInt8) (ls : List (List UInt8)) : framesF s (r :: ls) = frameF s r ++ framesF s ls := by simp [framesF]
theorem framesF_append (a b : List (List UInt8)) : framesF s (a ++ b) = framesF s a ++ framesF s b := by simp [framesF]
theorem framesF_one (r : List UInt8) : framesF s [r] = frameF s r := by simp [framesF]
theorem framesF_snoc {ls : List (List UInt8)} {k : Nat} {r : List UInt8} (h : ls[k]? = some r) : framesF s (ls.take (k + 1)) = framesF s (ls.take k) ++ frameF s r := by
  rw [List.take_add_one, h, framesF_append]; simp [framesF]
theorem framesF_split (ls : List (List UInt8)) (k : Nat) : framesF s ls = framesF s (ls.take k) ++ framesF s (ls.drop k) := by
  rw [← framesF_append, List.take_append_drop]
theorem framesF_take_le (ls : List (List UInt8)) (k : Nat) : (framesF s (ls.take k)).length ≤ (framesF s ls).length := by
  rw [framesF_split s ls k, List.length_append]; omega

/-- what is first read: the record, and how many bytes it takes -/
def recF (b : List UInt8) : Option (List UInt8 × Nat) :=
  if (firstS b).2.2 = 0 ∧ (firstS b).1 ≤ 4000 ∧ (firstS b).2.1 + 8 + (firstS b).1.toNat ≤ b.length ∧ (b.drop (firstS b).2.1).take 8 = s ((b.drop ((firstS b).2.1 + 8)).take (firstS b).1.toNat)
  then some ((b.drop ((firstS b).2.1 + 8)).take (firstS b).1.toNat, (firstS b).2.1 + 8 + (firstS b).1.toNat) else none
theorem recF_bad {b : List UInt8} (h : ¬ (firstS b).2.2 = 0) : recF s b = none := by
  rw [recF, if_neg]; exact fun g => h g.1
theorem recF_long {b : List UInt8} {x sz : Nat} (h : firstS b = ((x : Int), sz, 0)) (hx : 4000 < x) : recF s b = none := by
  rw [recF, if_neg]
  rintro ⟨_, g, _⟩
  rw [h] at g
  simp at g
  omega
theorem recF_short {b : List UInt8} {x sz : Nat} (h : firstS b = ((x : Int), sz, 0)) (hx : b.length < sz + 8 + x) : recF s b = none := by
  rw [recF, if_neg]
  rintro ⟨_, _, g, _⟩
  rw [h] at g
  simp at g
  omega
theorem recF_other {b : List UInt8} {x sz : Nat} (h : firstS b = ((x : Int), sz, 0)) (hs : ¬ (b.drop sz).take 8 = s ((b.drop (sz + 8)).take x)) : recF s b = none := by
  rw [recF, if_neg]
  rintro ⟨_, _, _, g⟩
  rw [h] at g
  exact hs g
theorem recF_ok {b : List UInt8} {x sz : Nat} (h : firstS b = ((x : Int), sz, 0)) (hx : x ≤ 4000) (hl : sz + 8 + x ≤ b.length) (hs : (b.drop sz).take 8 = s ((b.drop (sz + 8)).take x)) : recF s b = some ((b.drop (sz + 8)).take x, sz + 8 + x) := by
  rw [recF, h, if_pos]
  · rfl
  · exact ⟨rfl, by simp; omega, by simpa using hl, hs⟩
theorem recF_nil : recF s [] = none := recF_bad s (by decide)
theorem recF_some {b r : List UInt8} {k : Nat} (h : recF s b = some (r, k)) : r.length + 9 ≤ k ∧ k ≤ b.length ∧ r.length ≤ 4000 := by
  rcases firstS_cases b with g | g | ⟨x, sz, g, g1, g2, g3, g4⟩
  · rw [recF_bad s (by rw [g]; simp)] at h; cases h
  · rw [recF_bad s (by rw [g]; simp)] at h; cases h
  · by_cases c1 : 4000 < x
    · rw [recF_long s g c1] at h; cases h
    · by_cases c2 : b.length < sz + 8 + x
      · rw [recF_short s g c2] at h; cases h
      · by_cases c3 : (b.drop sz).take 8 = s ((b.drop (sz + 8)).take x)
        · rw [recF_ok s g (by omega) (by omega) c3] at h
          cases h
          simp
          omega
        · rw [recF_other s g c3] at h; cases h

theorem frameF_length (hs8 : ∀ r, (s r).length = 8) (r : List UInt8) : (frameF s r).length = (enc r.length).length + 8 + r.length := by
  simp [frameF, hs8]; omega
theorem frameF_lo (hs8 : ∀ r, (s r).length = 8) (r : List UInt8) : r.length + 9 ≤ (frameF s r).length := by
  have := enc_pos r.length
  rw [frameF_length s hs8]; omega
theorem frameF_le (hs8 : ∀ r, (s r).length = 8) (r : List UInt8) (h : r.length ≤ 4611686018427387903) : (frameF s r).length ≤ 17 + r.length := by
  have := enc_le 9 r.length (by omega) (by omega)
  rw [frameF_length s hs8]; omega
theorem recF_frame (hs8 : ∀ r, (s r).length = 8) (r : List UInt8) (h : r.length ≤ 4000) (tail : List UInt8) : recF s (frameF s r ++ tail) = some (r, (frameF s r).length) := by
  have e : frameF s r ++ tail = enc r.length ++ (s r ++ (r ++ tail)) := by simp [frameF]
  have hf := first_enc r.length (by omega) (s r ++ (r ++ tail))
  have hd : (enc r.length ++ (s r ++ (r ++ tail))).drop ((enc r.length).length + 8) = r ++ tail := by
    rw [← List.drop_drop, List.drop_left, ← hs8 r, List.drop_left]
  rw [e, recF_ok s hf h (by simp [hs8]; omega) (by rw [hd, List.drop_left, ← hs8 r, List.take_left, List.take_left]), hd, List.take_left, frameF_length s hs8]
theorem recF_cut (hs8 : ∀ r, (s r).length = 8) (r : List UInt8) (h : r.length ≤ 4000) (k : Nat) (hk : k < (frameF s r).length) : recF s ((frameF s r).take k) = none := by
  by_cases hlt : k < (enc r.length).length
  · rw [frameF, List.take_append_of_le_length (by omega)]
    exact recF_bad s (by rw [firstS_none (cut_enc _ k hlt)]; simp)
  · have e : (frameF s r).take k = enc r.length ++ (s r ++ r).take (k - (enc r.length).length) := by
      rw [frameF, List.take_append, List.take_of_length_le (by omega)]
    rw [frameF_length s hs8] at hk
    have hf := first_enc r.length (by omega) ((s r ++ r).take (k - (enc r.length).length))
    rw [e]
    exact recF_short s hf (by simp [hs8]; omega)
/-- a record whose sum is another one -/
theorem recF_turned (n : Nat) (e' r' tail : List UInt8) (h8 : e'.length = 8) (hr : r'.length = n) (hn : n ≤ 4000) (hne : ¬ e' = s r') : recF s (enc n ++ (e' ++ (r' ++ tail))) = none := by
  subst hr
  have hf := first_enc r'.length (by omega) (e' ++ (r' ++ tail))
  refine recF_other s hf ?_
  rw [← List.drop_drop, List.drop_left, ← h8, List.take_left, List.drop_left, List.take_left]
  exact hne

/-- what is read, with fuel -/
def readF : Nat → List UInt8 → List (List UInt8) × Nat
  | 0, _ => ([], 0)
  | f + 1, b => match recF s b with
    | none => ([], 0)
    | some (r, k) => (r :: (readF f (b.drop k)).1, k + (readF f (b.drop k)).2)
theorem readF_fuel (f : Nat) : ∀ g b, b.length ≤ f → b.length ≤ g → readF s f b = readF s g b := by
  induction f with
  | zero =>
    intro g b h _
    have : b = [] := List.eq_nil_of_length_eq_zero (by omega)
    subst this
    cases g with
    | zero => rfl
    | succ g => simp [readF, recF_nil]
  | succ f ih =>
    intro g b h hg
    cases g with
    | zero =>
      have : b = [] := List.eq_nil_of_length_eq_zero (by omega)
      subst this
      simp [readF, recF_nil]
    | succ g =>
      cases hr : recF s b with
      | none => simp [readF, hr]
      | some p =>
        obtain ⟨r, k⟩ := p
        have := recF_some s hr
        have e := ih g (b.drop k) (by simp; omega) (by simp; omega)
        simp [readF, hr, e]
/-- what is read -/
def readS (b : List UInt8) : List (List UInt8) × Nat := readF s b.length b
theorem readS_none {b : List UInt8} (h : recF s b = none) : readS s b = ([], 0) := by
  unfold readS
  cases b.length with
  | zero => rfl
  | succ f => simp [readF, h]
theorem readS_some {b r : List UInt8} {k : Nat} (h : recF s b = some (r, k)) : readS s b = (r :: (readS s (b.drop k)).1, k + (readS s (b.drop k)).2) := by
  have h1 := recF_some s h
  unfold readS
  obtain ⟨m, hm⟩ : ∃ m, b.length = m + 1 := ⟨b.length - 1, by omega⟩
  rw [hm]
  simp only [readF, h]
  rw [readF_fuel s m (b.drop k).length (b.drop k) (by simp; omega) (Nat.le_refl _)]
theorem readS_le (n : Nat) : ∀ b, b.length ≤ n → (readS s b).2 ≤ b.length ∧ 9 * (readS s b).1.length ≤ (readS s b).2 ∧ ∀ r ∈ (readS s b).1, r.length ≤ 4000 := by
  induction n with
  | zero =>
    intro b h
    have : b = [] := List.eq_nil_of_length_eq_zero (by omega)
    subst this
    rw [readS_none s (recF_nil s)]; simp
  | succ n ih =>
    intro b h
    cases hr : recF s b with
    | none => rw [readS_none s hr]; simp
    | some p =>
      obtain ⟨r, k⟩ := p
      have h1 := recF_some s hr
      have h2 := ih (b.drop k) (by simp; omega)
      rw [readS_some s hr]
      rw [List.length_drop] at h2
      refine ⟨by simp only; omega, by simp only [List.length_cons]; omega, ?_⟩
      intro x hx
      rcases List.mem_cons.1 hx with rfl | hx
      · omega
      · exact h2.2.2 x hx
theorem readS_frames (hs8 : ∀ r, (s r).length = 8) (ls : List (List UInt8)) (h : ∀ r ∈ ls, r.length ≤ 4000) (tail : List UInt8) (ht : recF s tail = none) : readS s (framesF s ls ++ tail) = (ls, (framesF s ls).length) := by
  induction ls with
  | nil => rw [framesF_nil, List.nil_append, readS_none s ht]; rfl
  | cons r ls ih =>
    have h1 := recF_frame s hs8 r (h r List.mem_cons_self) (framesF s ls ++ tail)
    rw [← List.append_assoc, ← framesF_cons] at h1
    rw [readS_some s h1, framesF_cons, List.append_assoc, List.drop_left, ih fun x hx => h x (List.mem_cons_of_mem _ hx), List.length_append]
theorem readS_all (hs8 : ∀ r, (s r).length = 8) (ls : List (List UInt8)) (h : ∀ r ∈ ls, r.length ≤ 4000) : readS s (framesF s ls) = (ls, (framesF s ls).length) := by
  have := readS_frames s hs8 ls h [] (recF_nil s)
  rwa [List.append_nil] at this
/-- cut anywhere, just the whole ones are read -/
theorem readS_cut (hs8 : ∀ r, (s r).length = 8) (ls : List (List UInt8)) (h : ∀ r ∈ ls, r.length ≤ 4000) (k m : Nat) (hk : (framesF s (ls.take m)).length ≤ k) (hm : ls.length ≤ m ∨ ∃ r, ls[m]? = some r ∧ k < (framesF s (ls.take m)).length + (frameF s r).length) :
    readS s ((framesF s ls).take k) = (ls.take m, (framesF s (ls.take m)).length) := by
  have e : (framesF s ls).take k = framesF s (ls.take m) ++ (framesF s (ls.drop m)).take (k - (framesF s (ls.take m)).length) := by
    rw [framesF_split s ls m, List.take_append, List.take_of_length_le hk]
  rw [e]
  refine readS_frames s hs8 _ (fun r hr => h r (List.mem_of_mem_take hr)) _ ?_
  rcases hm with hm | ⟨r, hr, hlt⟩
  · rw [List.drop_of_length_le hm, framesF_nil, List.take_nil]; exact recF_nil s
  · obtain ⟨h1, h2⟩ := List.getElem?_eq_some_iff.1 hr
    rw [List.drop_eq_getElem_cons h1, h2, framesF_cons, List.take_append_of_le_length (by omega)]
    exact recF_cut s hs8 r (h r (List.mem_of_getElem? hr)) _ (by omega)
end

/-- of the first nine bytes alone -/
theorem first_nine (b : List UInt8) : (firstS (b.take 9) = firstS b) ∨ (¬ (firstS (b.take 9)).2.2 = 0 ∧ ¬ (firstS b).2.2 = 0) := by
  cases hf : (b.take 9).findIdx? endB with
  | none =>
    right
    rw [firstS_none hf]
    refine ⟨by simp, ?_⟩
    cases hg : b.findIdx? endB with
    | none => rw [firstS_none hg]; simp
    | some i =>
      have h9 : 9 ≤ i := by
        rcases Nat.lt_or_ge i 9 with h | h
        · obtain ⟨h1, h2, _⟩ := List.findIdx?_eq_some_iff_getElem.1 hg
          have := List.findIdx?_eq_none_iff.1 hf (b[i]) (by rw [List.mem_take_iff_getElem]; exact ⟨i, by omega, rfl⟩)
          simp [this] at h2
        · exact h
      rw [firstS_long hg h9]; simp
  | some i =>
    left
    obtain ⟨h1, h2, h3⟩ := List.findIdx?_eq_some_iff_getElem.1 hf
    have hi : i < 9 := by simp at h1; omega
    have hg : b.findIdx? endB = some i := by
      rw [List.findIdx?_eq_some_iff_getElem]
      refine ⟨by simp at h1; omega, by simpa using h2, ?_⟩
      intro j hj
      have := h3 j hj
      simpa using this
    have ht : (b.take 9).take (i + 1) = b.take (i + 1) := by rw [List.take_take]; congr 1; omega
    have he : (b.take 9)[i]? = b[i]? := by rw [List.getElem?_take, if_pos hi]
    unfold firstS
    simp only [hf, hg, ht, he]

/-- the sum of a record, as eight bytes -/
def sum8 (r : List UInt8) : List UInt8 := eightN (sumOf [str r])
theorem sum8_length (r : List UInt8) : (sum8 r).length = 8 := eightN_length _
theorem sum8_def (r : List UInt8) : sum8 r = eightN (sumOf [str r]) := rfl
theorem sum8_apart {a b : List UInt8} {x y : UInt8} (h : sum8 (a ++ x :: b) = sum8 (a ++ y :: b)) : x = y := by
  rw [sum8_def, sum8_def] at h
  have := eightN_inj (sumOf_lt _) (sumOf_lt _) h
  exact (part_apart (a := a) (b := b) (str (a ++ x :: b)) (str (a ++ y :: b)) (by simp [str]) (by simp [str])).1 this
end Go.Proofs.Ytjhcldccogpoaaa
