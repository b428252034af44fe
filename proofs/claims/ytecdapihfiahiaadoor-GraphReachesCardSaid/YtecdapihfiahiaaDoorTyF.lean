/- Types: sameness, by the program: the whole. -/
import Derived.Test.YtecdapihfiahiaaDoorTyE
namespace Go.Proofs.YtecdapihfiahiaaDoor
open Go.RowKit

end Go.Proofs.YtecdapihfiahiaaDoor
