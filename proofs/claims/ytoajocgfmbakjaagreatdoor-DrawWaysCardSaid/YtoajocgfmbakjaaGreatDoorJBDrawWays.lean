/-
  DrawWays: the closed facts of the program's text that its row asks.
-/
import Derived.Test.YtoajocgfmbakjaaGreatDoorJADrawWays
import Derived.SevenTiedAt
set_option linter.unusedSimpArgs false
namespace Go.Proofs.YtoajocgfmbakjaaGreatDoor.drawWays
open Go
set_option maxRecDepth 100000
theorem joined : joinedFacts Tryz.prog 4 Tryz.f4 Rows.drawWaysSpec Rows.drawWaysRow = true := by
  unfold joinedFacts
  rw [n1, n2, n3, n4]
  kernel_rfl
theorem looks_on : true = Tryz.prog.looks [] := by kernel_rfl
theorem goes : false = Rows.drawWaysRow.goesBy Tryz.prog := by kernel_rfl
end Go.Proofs.YtoajocgfmbakjaaGreatDoor.drawWays
