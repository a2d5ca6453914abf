/- Two keys, or two events, are one just if all their fields are (layer 11, event). -/
import Derived.Test.YthbncbdnpeglfaaEvWorld
import Derived.Laws.StructEq
namespace Go.Proofs.Ythbncbdnpeglfaa.Ev
open Go.RowKit
set_option linter.unusedVariables false

end Go.Proofs.Ythbncbdnpeglfaa.Ev
