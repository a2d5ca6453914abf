/- Lists in order, as the document asks it (layer 11, event). -/
import Derived.Test.YtfclnhmijjlhdaaGreatDoorEvE
namespace Go.Proofs.YtfclnhmijjlhdaaGreatDoor.Ev
open Go.RowKit Go.Sort
set_option linter.unusedVariables false

end Go.Proofs.YtfclnhmijjlhdaaGreatDoor.Ev
