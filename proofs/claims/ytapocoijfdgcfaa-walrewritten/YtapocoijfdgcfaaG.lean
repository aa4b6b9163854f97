/- a string of bytes; known -/
import Derived.Test.YtapocoijfdgcfaaF
namespace Go.Proofs.Ytapocoijfdgcfaa
open Go.RowKit

end Go.Proofs.Ytapocoijfdgcfaa
