/-
  Mirrored, at the three axes.
-/
import Derived.Test.YtadkaplafaeebaaGreatDoorPkCQ
import Derived.Test.YtadkaplafaeebaaGreatDoorPkFQ
import Derived.Deep.Cut
set_option linter.unusedVariables false
set_option linter.unusedSimpArgs false
namespace Go.Proofs.YtadkaplafaeebaaGreatDoor
open Go Go.RowKit Go.Shelf

attribute [local go_sem] Oper.semAt_some

end Go.Proofs.YtadkaplafaeebaaGreatDoor
/-
  Mirrored, where the number is no axis.
-/
set_option linter.unusedVariables false
set_option linter.unusedSimpArgs false
namespace Go.Proofs.YtadkaplafaeebaaGreatDoor
open Go Go.RowKit

end Go.Proofs.YtadkaplafaeebaaGreatDoor
/-
  Moved of an empty solid.
-/
set_option linter.unusedVariables false
set_option linter.unusedSimpArgs false
namespace Go.Proofs.YtadkaplafaeebaaGreatDoor
open Go Go.RowKit

end Go.Proofs.YtadkaplafaeebaaGreatDoor
