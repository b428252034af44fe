/- Types: sameness, by the program: the whole. -/
import Derived.Test.YtjmnaibbljakaaaGreatDoorTyE
namespace Go.Proofs.YtjmnaibbljakaaaGreatDoor
open Go.RowKit

end Go.Proofs.YtjmnaibbljakaaaGreatDoor
