/-
  The reference's Places.
-/
import Derived.Test.YtadkaplafaeebaaGreatDoorPlcMQ
import Derived.Test.YtadkaplafaeebaaGreatDoorPkUCQ
import Derived.Test.YtadkaplafaeebaaGreatDoorPkTJQ
set_option linter.unusedVariables false
set_option linter.unusedSimpArgs false
namespace Go.Proofs.YtadkaplafaeebaaGreatDoor
open Go Go.RowKit Go.Shelf

end Go.Proofs.YtadkaplafaeebaaGreatDoor
