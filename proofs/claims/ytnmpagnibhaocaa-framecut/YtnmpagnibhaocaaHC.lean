/- the laws HashTells, HashDivides, HashApart: their walks -/
import Derived.Test.YtnmpagnibhaocaaHB
namespace Go.Proofs.Ytnmpagnibhaocaa
open Go.RowKit

theorem refSum_eq (ao : Option Addr) (n cap : Nat) (l : List ByteArray) (t : Int) (w : World) (h : Rd w.heap.size w ao n cap (Ss l)) (hs : ∀ s ∈ l, s.size ≤ 9223372036854775807) (ht : ((sumOf l : Nat) : Int) = t) :
    Calls Try.prog 22 #[.slice ao n cap] w fun e w' => e = .returned (.int .u64 t) ∧ w' = w := by
  subst ht; exact refSum_any ao n cap l w h hs
theorem Pick_eq (n m t : Int) (w : World) (h0 : 0 < m) (h1 : m ≤ 9223372036854775807) (ht : pick n m = t) :
    Calls Try.prog 13 #[.int .i64 n, .int .i64 m] w fun e w' => e = .returned (.int .i64 t) ∧ w' = w := by
  subst ht; exact Pick_any n m w h0 h1

end Go.Proofs.Ytnmpagnibhaocaa
