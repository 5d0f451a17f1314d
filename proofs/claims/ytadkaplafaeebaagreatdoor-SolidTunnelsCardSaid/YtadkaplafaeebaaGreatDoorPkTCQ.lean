/-
  The law of motions: its walk, the contracts of its callees given.
-/
import Derived.Test.YtadkaplafaeebaaGreatDoorPkWQ
import Derived.Test.YtadkaplafaeebaaGreatDoorPkGQ
import Derived.Deep.Cut
import Derived.Test.YtadkaplafaeebaaGreatDoorPkRBQ
import Derived.Test.YtadkaplafaeebaaGreatDoorPkYQ
import Derived.Test.YtadkaplafaeebaaGreatDoorPkYMQ
import Derived.Test.YtadkaplafaeebaaGreatDoorPkUQ
import Derived.Test.YtadkaplafaeebaaGreatDoorPkTAQ
set_option linter.unusedVariables false
set_option linter.unusedSimpArgs false
namespace Go.Proofs.YtadkaplafaeebaaGreatDoor
open Go Go.RowKit

end Go.Proofs.YtadkaplafaeebaaGreatDoor
/-
  The law of motions, for every solid, turn, axis, move and motion.
-/
set_option linter.unusedVariables false
set_option linter.unusedSimpArgs false
namespace Go.Proofs.YtadkaplafaeebaaGreatDoor
open Go Go.RowKit

theorem cells_of_empty {f : Sol} (hf : Fit f) (h : emptyS f = true) : cellsL f = [] := by
  refine List.eq_nil_iff_forall_not_mem.2 fun c hc => ?_
  have := (mem_cellI f c).1 hc
  rw [(empty_has hf).1 h] at this
  cases this
theorem len_pos {f : Sol} (hf : Fit f) (he : emptyS f = false) : 0 < (cellsL f).length := List.length_pos_iff.2 (cellsL_ne hf he)
end Go.Proofs.YtadkaplafaeebaaGreatDoor
/-
  Placed of a motion: what it places, or that a cell leaves the grid.
-/
set_option linter.unusedVariables false
set_option linter.unusedSimpArgs false
namespace Go.Proofs.YtadkaplafaeebaaGreatDoor
open Go Go.RowKit

end Go.Proofs.YtadkaplafaeebaaGreatDoor
