/-
  The law of canonical forms: its walk, the contracts of its callees given; the law for every two solids.
-/
import Derived.Test.YtadkaplafaeebaaGreatDoorPkWQ
import Derived.Test.YtadkaplafaeebaaGreatDoorPkTHQ
import Derived.Test.YtadkaplafaeebaaGreatDoorPkUCQ
set_option linter.unusedVariables false
set_option linter.unusedSimpArgs false
namespace Go.Proofs.YtadkaplafaeebaaGreatDoor
open Go Go.RowKit

end Go.Proofs.YtadkaplafaeebaaGreatDoor
