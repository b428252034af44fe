/- Types: sameness, by the program: the whole. -/
import Derived.Test.YtkjngbliomckiaaTyE
namespace Go.Proofs.Ytkjngbliomckiaa
open Go.RowKit

end Go.Proofs.Ytkjngbliomckiaa
