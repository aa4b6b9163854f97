/- frame.Lay, frame.Read, with the lengths as letters -/
import Derived.Test.YtjhcldccogpoaaaFC
namespace Go.Proofs.Ytjhcldccogpoaaa
open Go.RowKit

theorem Lay_n (ao : Option Addr) (n cap : Nat) (l : List UInt8) (ao2 : Option Addr) (n2 cap2 : Nat) (ls : List (List UInt8)) (w : World)
    (h : Rd w.heap.size w ao n cap (Bs l)) (h2 : RdLL w.heap.size w ao2 n2 cap2 ls) {R : List UInt8} {N : Nat} (hR : l ++ framesF sum8 ls = R) (hN : R.length = N) (hb : N ≤ 140737488355328) :
    Calls Try.prog 34 #[.slice ao n cap, .slice ao2 n2 cap2] w fun e w' => ∃ ao' cap', e = .returned (.slice ao' N cap') ∧
      w'.ownsRow w.heap.size 5 1 (.slice ao' N cap') N (Bs R) ∧ Below w.heap.size w w' := by
  subst hN
  exact Lay_any ao n cap l ao2 n2 cap2 ls w h h2 (by rw [hR]; exact hb) hR
theorem Read_n (ao : Option Addr) (n cap : Nat) (l : List UInt8) (w : World) (h : Rd w.heap.size w ao n cap (Bs l)) (hb : n ≤ 52776558133248) {rs : List (List UInt8)} {u N : Nat} (hR : readS sum8 l = (rs, u)) (hN : rs.length = N) :
    Calls Try.prog 28 #[.slice ao n cap] w fun e w' => ∃ ao' cap', e = .returned (.tuple #[.slice ao' N cap', .int .i64 (u : Nat)]) ∧ OwnLL w.heap.size w' (.slice ao' N cap') N rs ∧ Below w.heap.size w w' := by
  subst hN
  exact Read_any ao n cap l w h hb hR
end Go.Proofs.Ytjhcldccogpoaaa
