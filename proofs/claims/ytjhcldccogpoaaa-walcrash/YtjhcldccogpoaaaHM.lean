/- Sums, as plain mathematics. No program is loaded here. -/
import Derived.Test.YtjhcldccogpoaaaBase
namespace Go.Proofs.Ytjhcldccogpoaaa

def mixN (h c : Nat) : Nat := ((h ^^^ c) * 1099511628211) % 18446744073709551616
theorem mixN_lt (h c : Nat) : mixN h c < 18446744073709551616 := Nat.mod_lt _ (by decide)

theorem mul_odd_inj {a b : Nat} (ha : a < 18446744073709551616) (hb : b < 18446744073709551616)
    (h : a * 1099511628211 % 18446744073709551616 = b * 1099511628211 % 18446744073709551616) : a = b := by
  have key : ∀ x : Nat, x < 18446744073709551616 → (x * 1099511628211 % 18446744073709551616) * 14886173955864302971 % 18446744073709551616 = x := by
    intro x hx
    rw [Nat.mod_mul_mod, Nat.mul_assoc]
    rw [Nat.mul_mod, show 1099511628211 * 14886173955864302971 % 18446744073709551616 = 1 from by decide, Nat.mul_one, Nat.mod_mod, Nat.mod_eq_of_lt hx]
  rw [← key a ha, ← key b hb, h]

theorem xor_lt {a b : Nat} (ha : a < 18446744073709551616) (hb : b < 18446744073709551616) : a ^^^ b < 18446744073709551616 :=
  Nat.xor_lt_two_pow (n := 64) ha hb
theorem xor_back (a b : Nat) : (a ^^^ b) ^^^ b = a := by rw [Nat.xor_assoc, Nat.xor_self, Nat.xor_zero]

theorem mixN_inj {h h' c : Nat} (hh : h < 18446744073709551616) (hh' : h' < 18446744073709551616) (hc : c < 18446744073709551616) (e : mixN h c = mixN h' c) : h = h' := by
  have := mul_odd_inj (xor_lt hh hc) (xor_lt hh' hc) e
  rw [← xor_back h c, ← xor_back h' c, this]
theorem mixN_inj' {h c c' : Nat} (hh : h < 18446744073709551616) (hc : c < 18446744073709551616) (hc' : c' < 18446744073709551616) (e : mixN h c = mixN h c') : c = c' := by
  have := mul_odd_inj (xor_lt hh hc) (xor_lt hh hc') e
  rw [← xor_back c h, ← xor_back c' h, Nat.xor_comm c h, Nat.xor_comm c' h, this]

/-- the bytes of a part, by whatever step -/
def foldF (f : Nat → Nat → Nat) (h : Nat) (l : List UInt8) : Nat := l.foldl (fun h c => f h c.toNat) h
def partF (f : Nat → Nat → Nat) (h : Nat) (s : ByteArray) : Nat := f (foldF f h s.data.toList) 256
def partsF (f : Nat → Nat → Nat) (h : Nat) (l : List ByteArray) : Nat := l.foldl (partF f) h
section
variable (f : Nat → Nat → Nat)
theorem foldF_cons (h : Nat) (c : UInt8) (r : List UInt8) : foldF f h (c :: r) = foldF f (f h c.toNat) r := rfl
theorem foldF_append (h : Nat) (a b : List UInt8) : foldF f h (a ++ b) = foldF f (foldF f h a) b := List.foldl_append
theorem foldF_snoc (h : Nat) (a : List UInt8) (c : UInt8) : foldF f h (a ++ [c]) = f (foldF f h a) c.toNat := by rw [foldF_append]; rfl
theorem partsF_snoc (h : Nat) (a : List ByteArray) (c : ByteArray) : partsF f h (a ++ [c]) = partF f (partsF f h a) c := by unfold partsF; rw [List.foldl_append]; rfl
theorem partsF_one (h : Nat) (s : ByteArray) : partsF f h [s] = f (foldF f h s.data.toList) 256 := rfl
theorem foldF_take (h : Nat) (s : ByteArray) (k : Nat) (hk : k < s.size) : foldF f h (s.data.toList.take (k + 1)) = f (foldF f h (s.data.toList.take k)) s[k].toNat := by
  rw [List.take_succ_eq_append_getElem (by simpa using hk)]; exact foldF_snoc f _ _ _
theorem partsF_take (h : Nat) (l : List ByteArray) (k : Nat) (s : ByteArray) (hk : l[k]? = some s) : partsF f h (l.take (k + 1)) = partF f (partsF f h (l.take k)) s := by
  rw [List.take_add_one, hk]; exact partsF_snoc f _ _ _
theorem foldF_lt (M : Nat) (hf : ∀ a b, f a b < M) {h : Nat} (hh : h < M) (l : List UInt8) : foldF f h l < M := by
  induction l generalizing h with
  | nil => exact hh
  | cons c r ih => exact ih (hf _ _)
theorem partsF_lt (M : Nat) (hf : ∀ a b, f a b < M) {h : Nat} (hh : h < M) (l : List ByteArray) : partsF f h l < M := by
  induction l generalizing h with
  | nil => exact hh
  | cons c r ih => exact ih (hf _ _)
theorem foldF_inj (M : Nat) (hf : ∀ a b, f a b < M) (hi : ∀ a b c, a < M → b < M → c ≤ 256 → f a c = f b c → a = b) {h h' : Nat} (hh : h < M) (hh' : h' < M) (l : List UInt8) (e : foldF f h l = foldF f h' l) : h = h' := by
  induction l generalizing h h' with
  | nil => exact e
  | cons c r ih =>
    have hc := UInt8.toNat_lt c
    exact hi _ _ _ hh hh' (by omega) (ih (hf _ _) (hf _ _) e)
theorem partF_inj (M : Nat) (hf : ∀ a b, f a b < M) (hi : ∀ a b c, a < M → b < M → c ≤ 256 → f a c = f b c → a = b) (hj : ∀ a b c, a < M → b < 256 → c < 256 → f a b = f a c → b = c)
    {h : Nat} {a b : List UInt8} {x y : UInt8} (hh : h < M) (e : f (foldF f h (a ++ x :: b)) 256 = f (foldF f h (a ++ y :: b)) 256) : x = y := by
  have h1 := hi _ _ _ (foldF_lt f M hf hh _) (foldF_lt f M hf hh _) (Nat.le_refl _) e
  rw [foldF_append, foldF_append] at h1
  have hx := UInt8.toNat_lt x
  have hy := UInt8.toNat_lt y
  have h2 := foldF_inj f M hf hi (hf _ _) (hf _ _) b h1
  exact UInt8.toNat_inj.1 (hj _ _ _ (foldF_lt f M hf hh a) hx hy h2)
end
/-- the bytes of a part -/
def sumS (h : Nat) (l : List UInt8) : Nat := foldF mixN h l
/-- a part, with its end -/
def partS (h : Nat) (s : ByteArray) : Nat := partF mixN h s
def partsS (h : Nat) (l : List ByteArray) : Nat := partsF mixN h l
/-- the sum of the parts -/
def sumOf (l : List ByteArray) : Nat := partsS 14695981039346656037 l

theorem sumS_lt {h : Nat} (hh : h < 18446744073709551616) (l : List UInt8) : sumS h l < 18446744073709551616 := foldF_lt mixN _ mixN_lt hh l
theorem partsS_lt {h : Nat} (hh : h < 18446744073709551616) (l : List ByteArray) : partsS h l < 18446744073709551616 := partsF_lt mixN _ mixN_lt hh l
theorem sumOf_lt (l : List ByteArray) : sumOf l < 18446744073709551616 := partsS_lt (by decide) l
theorem sumS_take (h : Nat) (s : ByteArray) (k : Nat) (hk : k < s.size) : sumS h (s.data.toList.take (k + 1)) = mixN (sumS h (s.data.toList.take k)) s[k].toNat := foldF_take mixN h s k hk
theorem partsS_take (h : Nat) (l : List ByteArray) (k : Nat) (s : ByteArray) (hk : l[k]? = some s) : partsS h (l.take (k + 1)) = mixN (sumS (partsS h (l.take k)) s.data.toList) 256 := partsF_take mixN h l k s hk
theorem sumOf_one (s : ByteArray) : sumOf [s] = mixN (foldF mixN 14695981039346656037 s.data.toList) 256 := partsF_one mixN _ s
theorem sumOf_nil : sumOf [] = 14695981039346656037 := rfl
/-- unlike in one byte -/
theorem part_apart {a b : List UInt8} {x y : UInt8} (s t : ByteArray) (hs : s.data.toList = a ++ x :: b) (ht : t.data.toList = a ++ y :: b) : (sumOf [s] = sumOf [t]) ↔ x = y := by
  constructor
  · intro e
    have e' := e
    rw [sumOf_one, sumOf_one, hs, ht] at e'
    exact partF_inj mixN 18446744073709551616 mixN_lt (fun a b c ha hb hc h => mixN_inj ha hb (by omega) h) (fun a b c ha hb hc h => mixN_inj' ha (by omega) (by omega) h) (by decide) e'
  · intro e
    have : s = t := by
      have h1 : s.data = t.data := by rw [← Array.toList_inj, hs, ht, e]
      cases s; cases t; simp_all
    rw [this]

/-- which of so many -/
def shardS (s : ByteArray) (n : Int) : Int := if n < 1 then 0 else ((sumOf [s] : Nat) : Int) % n
end Go.Proofs.Ytjhcldccogpoaaa
