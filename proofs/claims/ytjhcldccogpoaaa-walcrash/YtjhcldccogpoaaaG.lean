/- a string of bytes; known -/
import Derived.Test.YtjhcldccogpoaaaF
namespace Go.Proofs.Ytjhcldccogpoaaa
open Go.RowKit

end Go.Proofs.Ytjhcldccogpoaaa
