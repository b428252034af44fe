/- Types: sameness, by the program: the whole. -/
import Derived.Test.YtecdapihfiahiaaTyE
namespace Go.Proofs.Ytecdapihfiahiaa
open Go.RowKit

end Go.Proofs.Ytecdapihfiahiaa
