/- Types: sameness, by the program: the whole. -/
import Derived.Test.YticdkbcfahjpnaaTyE
namespace Go.Proofs.Yticdkbcfahjpnaa
open Go.RowKit

end Go.Proofs.Yticdkbcfahjpnaa
