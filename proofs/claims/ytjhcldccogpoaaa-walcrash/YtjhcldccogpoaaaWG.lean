/- WalKnown: the walk -/
import Derived.Test.YtjhcldccogpoaaaWF
namespace Go.Proofs.Ytjhcldccogpoaaa
open Go.RowKit

theorem Open_nil (w : World) : Calls Try.prog 6 #[.pointer none] w fun e w' => e = .returned (.pointer none) ∧ w' = w := by
  go_enter Try.func6, Try.ntmps6
  go_wp2
  go_ret
  exact ⟨rfl, rfl⟩
/-- another log of the same disk -/
theorem LK.other {N N' : Nat → Prop} {w w' : World} {lg lm g s s' : Nat} {l l' : List UInt8} (h : LK N w lg g l s) (ho : Only N w w') (hL : LK N' w' lm g l' s') (hN : ∀ i, N' i → N i) : LK N' w' lg g l' s' :=
  ⟨hL.1, h.2.1.only ho h.2.2, fun x => h.2.2 (hN lg x)⟩
/-- a part that is a literal, and a long one -/
theorem lit_long (W : World) (b Y : List UInt8) (n : Nat) (f : Nat × Nat) (hn : Y.length = n) (hm : n ≤ 1000000) (hb : b.length ≤ 1000) :
    RdLLP (fun _ => True) (((W.alloc (.cells (Bs b).toArray 5 f)).alloc (.cells (Bs Y).toArray 5)).alloc (.cells #[.slice (some ⟨W.heap.size, 0, none⟩) b.length b.length, .slice (some ⟨W.heap.size + 1, 0, none⟩) n n] 23)) (some ⟨W.heap.size + 1 + 1, 0, none⟩) 2 2 [b, Y] := by
  subst hn
  refine RdLLP.of _ _ [.slice (some ⟨W.heap.size, 0, none⟩) b.length b.length, .slice (some ⟨W.heap.size + 1, 0, none⟩) Y.length Y.length] [b, Y] _ (by simp)
    (RdLP.cons (l := b) ⟨rd_alloc (Rd.lit W b f _ rfl hb), fun x e _ => trivial⟩ (RdLP.cons (l := Y) ⟨?_, fun x e _ => trivial⟩ (RdLP.nil _ _))) (by simp) trivial
  have := Rd.long (W.alloc (.cells (Bs b).toArray 5 f)) Y _ rfl hm
  rwa [show (W.alloc (.cells (Bs b).toArray 5 f)).heap.size = W.heap.size + 1 from by simp] at this
theorem long_one (A : Nat → Prop) (W : World) (Y : List UInt8) (n : Nat) (hn : Y.length = n) (hm : n ≤ 1000000) (hA : ∀ i, W.heap.size ≤ i → A i) (B : Nat) (hB : W.heap.size = B) :
    RdLLP A ((W.alloc (.cells (Bs Y).toArray 5)).alloc (.cells #[.slice (some ⟨B, 0, none⟩) n n] 23)) (some ⟨B + 1, 0, none⟩) 1 1 [Y] := by
  subst hn
  subst hB
  exact RdLLP.of A _ [.slice (some ⟨W.heap.size, 0, none⟩) Y.length Y.length] [Y] _ (by simp)
    (RdLP.cons (l := Y) ⟨Rd.long W Y _ rfl hm, fun x e _ => by cases e; exact hA _ (Nat.le_refl _)⟩ (RdLP.nil _ _)) (by simp) (hA _ (by omega))
theorem lit_at (A : Nat → Prop) (W : World) (l : List UInt8) (fr : Nat × Nat) (B : Nat) (hB : W.heap.size = B) (hm : l.length ≤ 1000) (hA : ∀ i, W.heap.size ≤ i → A i) :
    RdLLP A ((W.alloc (.cells (Bs l).toArray 5 fr)).alloc (.cells #[.slice (some ⟨B, 0, none⟩) l.length l.length] 23)) (some ⟨B + 1, 0, none⟩) 1 1 [l] := by
  subst hB
  exact lit_one A W l fr hm hA
/-- a part that is a literal, and nil -/
theorem lit_nil (W : World) (b : List UInt8) (f : Nat × Nat) (hb : b.length ≤ 1000) :
    RdLLP (fun _ => True) ((W.alloc (.cells (Bs b).toArray 5 f)).alloc (.cells #[.slice (some ⟨W.heap.size, 0, none⟩) b.length b.length, .slice none 0 0] 23)) (some ⟨W.heap.size + 1, 0, none⟩) 2 2 [b, []] :=
  RdLLP.of _ _ [.slice (some ⟨W.heap.size, 0, none⟩) b.length b.length, .slice none 0 0] [b, []] _ (by simp)
    (RdLP.cons (l := b) ⟨Rd.lit W b f _ rfl hb, fun x e _ => trivial⟩ (RdLP.cons (l := []) (RdP.nil _ _) (RdLP.nil _ _))) (by simp) trivial
theorem bel_three (W : World) (a b c : Obj) : Below W.heap.size W (((W.alloc a).alloc b).alloc c) := (bel_two W a b).alloc (by simp; omega) _
/-- frames of a few records are few bytes -/
theorem frames_sum (ls : List (List UInt8)) (h : ∀ r ∈ ls, r.length ≤ 4611686018427387903) : (framesF sum8 ls).length ≤ 17 * ls.length + (cat ls).length := by
  induction ls with
  | nil => simp [framesF]
  | cons r ls ih =>
    have h1 := ih (fun x hx => h x (List.mem_cons_of_mem _ hx))
    have h3 := frameF_le sum8 sum8_length r (h r List.mem_cons_self)
    rw [framesF_cons, List.length_append, List.length_cons, show cat (r :: ls) = r ++ cat ls from rfl, List.length_append]
    omega
theorem openS_tail (ls : List (List UInt8)) (h : ∀ r ∈ ls, r.length ≤ 4000) (t : List UInt8) (ht : recF sum8 t = none) (hl : 0 < t.length) (s : Nat) : openS (framesF sum8 ls ++ t) s = (framesF sum8 ls, (framesF sum8 ls).length) := by
  unfold openS
  rw [readS_frames sum8 sum8_length ls h t ht, if_pos (by rw [List.length_append]; show (framesF sum8 ls).length < _; omega)]
  show (List.take (framesF sum8 ls).length _, _) = _
  rw [List.take_left' rfl]
theorem t123 : recF sum8 [1, 2, 3] = none := recF_short sum8 (x := 1) (sz := 1) (by decide) (by decide)

end Go.Proofs.Ytjhcldccogpoaaa
