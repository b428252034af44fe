/- Types: sameness, by the program: the whole. -/
import Derived.Test.YtaklkhfdgiaclaaDoorTyE
namespace Go.Proofs.YtaklkhfdgiaclaaDoor
open Go.RowKit

end Go.Proofs.YtaklkhfdgiaclaaDoor
