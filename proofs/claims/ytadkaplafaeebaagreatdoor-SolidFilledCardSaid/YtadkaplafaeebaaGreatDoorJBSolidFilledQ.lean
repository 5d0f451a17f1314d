/-
  SolidFilled: the closed facts of the program's text that its row asks.
-/
import Derived.Test.YtadkaplafaeebaaGreatDoorJASolidFilledQ
import Derived.SevenTiedAt
set_option linter.unusedSimpArgs false
namespace Go.Proofs.YtadkaplafaeebaaGreatDoor.solidFilled
open Go
set_option maxRecDepth 100000
theorem joined : joinedFacts Tryz.prog 19 Tryz.f19 Rows.solidFilledSpec Rows.solidFilledRow = true := by
  unfold joinedFacts
  rw [n1, n2, n3, n4]
  kernel_rfl
theorem looks_on : true = Tryz.prog.looks [] := by kernel_rfl
theorem goes : false = Rows.solidFilledRow.goesBy Tryz.prog := by kernel_rfl
end Go.Proofs.YtadkaplafaeebaaGreatDoor.solidFilled
