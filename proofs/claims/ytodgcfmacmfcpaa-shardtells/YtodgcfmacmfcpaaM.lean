/- Plain mathematics: numbers as bytes, seven bits a byte. No program here. -/
import Derived.Test.YtodgcfmacmfcpaaBase
namespace Go.Proofs.Ytodgcfmacmfcpaa

/-- a number as bytes, with fuel -/
def encF : Nat → Nat → List UInt8
  | 0, n => [UInt8.ofNat n]
  | f + 1, n => if n < 128 then [UInt8.ofNat n] else UInt8.ofNat (n % 128 + 128) :: encF f (n / 128)
/-- a number as bytes -/
def enc (n : Nat) : List UInt8 := encF n n

theorem encF_small (f : Nat) {n : Nat} (h : n < 128) : encF f n = [UInt8.ofNat n] := by
  cases f with
  | zero => rfl
  | succ f => rw [encF, if_pos h]
theorem encF_fuel (f : Nat) : ∀ g n, n ≤ f → n ≤ g → encF f n = encF g n := by
  induction f with
  | zero => intro g n h _; rw [encF_small _ (by omega), encF_small _ (by omega)]
  | succ f ih =>
    intro g n h hg
    by_cases hn : n < 128
    · rw [encF_small _ hn, encF_small _ hn]
    · cases g with
      | zero => omega
      | succ g => rw [encF, encF, if_neg hn, if_neg hn, ih g (n / 128) (by omega) (by omega)]
theorem enc_small {n : Nat} (h : n < 128) : enc n = [UInt8.ofNat n] := encF_small n h
theorem enc_large {n : Nat} (h : 128 ≤ n) : enc n = UInt8.ofNat (n % 128 + 128) :: enc (n / 128) := by
  cases n with
  | zero => omega
  | succ m => rw [enc, encF, if_neg (by omega), enc, encF_fuel m ((m + 1) / 128) ((m + 1) / 128) (by omega) (Nat.le_refl _)]

/-- numbers as bytes, one behind the other -/
def encs (l : List Int) : List UInt8 := l.flatMap fun n => enc n.toNat
theorem encs_nil : encs [] = [] := rfl
theorem encs_append (a b : List Int) : encs (a ++ b) = encs a ++ encs b := by simp [encs]
theorem encs_one (n : Int) : encs [n] = enc n.toNat := by simp [encs]
theorem encs_snoc {l : List Int} {k : Nat} {x : Int} (h : l[k]? = some x) : encs (l.take (k + 1)) = encs (l.take k) ++ enc x.toNat := by
  rw [List.take_add_one, h, encs_append]; simp [encs]
theorem encs_take_le (l : List Int) (k : Nat) : (encs (l.take k)).length ≤ (encs l).length := by
  have : encs l = encs (l.take k) ++ encs (l.drop k) := by rw [← encs_append, List.take_append_drop]
  rw [this]; simp

/-- one row of one cell that was just built, as the source of an append -/
theorem src_one (w : World) {P : Program} {tx e' : TypeId} (hk : P.underlying tx = some (.slice e')) (u : Value) (e : TypeId) (h1 : u.oneCell' = true) :
    Src P 1 tx (.slice (some ⟨w.heap.size, 0, none⟩) 1 1) 1 [u] (w.alloc (.cells #[u] e)) := by
  refine Src.ofSlice _ hk _ 1 1 [u] rfl ?_ (by intro x hx; simp at hx; subst hx; exact h1)
  intro j x hj
  match j, hj with
  | 0, hj => simp at hj; subst hj; simp [Addr.add]


theorem enc_pos (n : Nat) : 0 < (enc n).length := by
  by_cases h : n < 128
  · rw [enc_small h]; simp
  · rw [enc_large (by omega)]; simp

theorem enc_le (k n : Nat) (h : n < 128 ^ k) (hk : 0 < k) : (enc n).length ≤ k := by
  induction k generalizing n with
  | zero => omega
  | succ k ih =>
    by_cases hn : n < 128
    · rw [enc_small hn]; simp
    · rw [enc_large (by omega)]
      have hk0 : 0 < k := by
        rcases Nat.eq_zero_or_pos k with rfl | h0
        · simp at h; omega
        · exact h0
      have : n / 128 < 128 ^ k := by rw [Nat.pow_succ] at h; omega
      have := ih (n / 128) this hk0
      simp; omega
theorem encs_le (l : List Int) (h : ∀ x ∈ l, 0 ≤ x ∧ x ≤ 4611686018427387903) : (encs l).length ≤ 9 * l.length := by
  induction l with
  | nil => simp [encs]
  | cons x l ih =>
    have h1 := ih (fun y hy => h y (List.mem_cons_of_mem _ hy))
    have h2 := h x (List.mem_cons_self)
    have h3 := enc_le 9 x.toNat (by omega) (by omega)
    rw [show encs (x :: l) = enc x.toNat ++ encs l from by simp [encs], List.length_append, List.length_cons]
    omega

/-- how many bytes texts have, all together -/
def bytesIn (l : List ByteArray) : Nat := (l.map ByteArray.size).sum
theorem bytesIn_le (l : List ByteArray) (s : ByteArray) (h : s ∈ l) : s.size ≤ bytesIn l := by
  induction l with
  | nil => cases h
  | cons x r ih =>
    simp only [bytesIn, List.map_cons, List.sum_cons] at ih ⊢
    rcases List.mem_cons.1 h with rfl | h
    · omega
    · have := ih h; omega
/-- a text as bytes: its length, its bytes -/
def textOf (s : ByteArray) : List UInt8 := enc s.size ++ s.data.toList
def textsOf (l : List ByteArray) : List UInt8 := l.flatMap textOf
theorem textsOf_append (a b : List ByteArray) : textsOf (a ++ b) = textsOf a ++ textsOf b := by simp [textsOf]
theorem textsOf_snoc {l : List ByteArray} {k : Nat} {x : ByteArray} (h : l[k]? = some x) : textsOf (l.take (k + 1)) = textsOf (l.take k) ++ textOf x := by
  rw [List.take_add_one, h, textsOf_append]; simp [textsOf]
theorem textsOf_take_le (l : List ByteArray) (k : Nat) : (textsOf (l.take k)).length ≤ (textsOf l).length := by
  have : textsOf l = textsOf (l.take k) ++ textsOf (l.drop k) := by rw [← textsOf_append, List.take_append_drop]
  rw [this]; simp
theorem size_data (s : ByteArray) : s.data.toList.length = s.size := by rw [Array.length_toList]; rfl
theorem textsOf_le (l : List ByteArray) (h : bytesIn l ≤ 4611686018427387903) : (textsOf l).length ≤ 9 * l.length + bytesIn l := by
  induction l with
  | nil => simp [textsOf]
  | cons x r ih =>
    have e : bytesIn (x :: r) = x.size + bytesIn r := by simp [bytesIn]
    have h1 := ih (by omega)
    have h2 := enc_le 9 x.size (by omega) (by omega)
    rw [show textsOf (x :: r) = textOf x ++ textsOf r from by simp [textsOf], List.length_append, textOf, List.length_append, size_data, List.length_cons, e]
    omega

theorem or128 (m : Nat) : bits .or .i64 (bits .and .i64 (m : Int) 127) 128 % 256 = ((UInt8.ofNat (m % 128 + 128)).toNat : Int) := by
  rw [i64_and127]
  have h : ∀ k : Fin 128, bits .or .i64 (k.1 : Int) 128 % 256 = ((UInt8.ofNat (k.1 + 128)).toNat : Int) := by decide +kernel
  have := h ⟨m % 128, Nat.mod_lt _ (by omega)⟩
  simpa using this

theorem low8 (m : Nat) (h : m < 128) : (m : Int) = ((UInt8.ofNat m).toNat : Int) := by
  simp; omega

theorem lay_step {e : TypeId} {base b n : Nat} {w wr w1 : World} {v : Value} {xs : List Value} {o : Obj} (hbB : b < w.heap.size) (hsep : b < base ∨ ∃ cs e' fr, w.heap[b]? = some (.cells cs e' fr) ∧ e' ≠ e)
    (hown : wr.ownsRow base e 1 v n xs) (hbel : Go.RowKit.Below base w wr) (hblk : wr.heap[b]? = w.heap[b]?) (hbase : base ≤ w.heap.size)
    (hg : (wr.alloc o).grownBy w1 v.ownBlock) (hb1 : Go.RowKit.Below base (wr.alloc o) w1) : Go.RowKit.Below base w w1 ∧ w1.heap[b]? = w.heap[b]? := by
  have hs := hbel.size
  refine ⟨(hbel.alloc (by omega) o).trans hb1, ?_⟩
  have hne : some b ≠ v.ownBlock := by
    rcases hsep with h | ⟨cs, e', fr, h1, h2⟩
    · exact ownsRow.apart (cs := #[]) (e' := 0) (fr := (0, 0)) hown (.inl h)
    · exact ownsRow.apart hown (.inr ⟨hblk.trans h1, h2⟩)
  rw [hg.block b (by simp; omega) hne, Go.RowKit.Below.heap_alloc wr o b (by omega), hblk]

end Go.Proofs.Ytodgcfmacmfcpaa
