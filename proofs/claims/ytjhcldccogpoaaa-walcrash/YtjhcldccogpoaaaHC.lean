/- the laws HashTells, HashDivides, HashApart: their walks -/
import Derived.Test.YtjhcldccogpoaaaHB
namespace Go.Proofs.Ytjhcldccogpoaaa
open Go.RowKit

theorem refSum_eq (ao : Option Addr) (n cap : Nat) (l : List ByteArray) (t : Int) (w : World) (h : Rd w.heap.size w ao n cap (Ss l)) (hs : ∀ s ∈ l, s.size ≤ 9223372036854775807) (ht : ((sumOf l : Nat) : Int) = t) :
    Calls Try.prog 40 #[.slice ao n cap] w fun e w' => e = .returned (.int .u64 t) ∧ w' = w := by
  subst ht; exact refSum_any ao n cap l w h hs

end Go.Proofs.Ytjhcldccogpoaaa
