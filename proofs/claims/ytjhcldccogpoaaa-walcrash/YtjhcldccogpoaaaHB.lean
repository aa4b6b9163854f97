/- ShardOf, known, and the law HashKnown: its walk -/
import Derived.Test.YtjhcldccogpoaaaHA
namespace Go.Proofs.Ytjhcldccogpoaaa
open Go.RowKit

theorem sz_of {l : List ByteArray} (h : (l.all fun s => decide (s.size ≤ 9223372036854775807)) = true) : ∀ s ∈ l, s.size ≤ 9223372036854775807 :=
  fun s hs => of_decide_eq_true (List.all_eq_true.1 h s hs)
/-- strings that were just laid read as such, at whatever block -/
theorem Rd.strs (W : World) (l : List ByteArray) (B : Nat) (hB : W.heap.size = B) (hm : l.length ≤ 1000) : Rd (W.alloc (.cells (Ss l).toArray 9)).heap.size (W.alloc (.cells (Ss l).toArray 9)) (some ⟨B, 0, none⟩) l.length l.length (Ss l) := by
  have := Rd.built W (Ss l) 9 (by rw [Ss_length]; unfold maxLen; omega)
  rwa [hB, Ss_length] at this

theorem Sum_eq (ao : Option Addr) (n cap : Nat) (l : List ByteArray) (t : Int) (w : World) (h : Rd w.heap.size w ao n cap (Ss l)) (hs : ∀ s ∈ l, s.size ≤ 9223372036854775807) (ht : ((sumOf l : Nat) : Int) = t) :
    Calls Try.prog 56 #[.slice ao n cap] w fun e w' => e = .returned (.int .u64 t) ∧ w' = w := by
  subst ht; exact Sum_any ao n cap l w h hs
theorem bel_eq {w w1 w2 : World} {o : Obj} (h : Below w.heap.size w w1) (h2 : w2 = w1.alloc o) : Below w.heap.size w w2 := by subst h2; exact h.alloc h.size o

end Go.Proofs.Ytjhcldccogpoaaa
