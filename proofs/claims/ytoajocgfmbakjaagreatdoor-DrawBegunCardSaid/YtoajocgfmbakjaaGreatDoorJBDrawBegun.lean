/-
  DrawBegun: the closed facts of the program's text that its row asks.
-/
import Derived.Test.YtoajocgfmbakjaaGreatDoorJADrawBegun
import Derived.SevenTiedAt
set_option linter.unusedSimpArgs false
namespace Go.Proofs.YtoajocgfmbakjaaGreatDoor.drawBegun
open Go
set_option maxRecDepth 100000
theorem joined : joinedFacts Tryz.prog 11 Tryz.f11 Rows.drawBegunSpec Rows.drawBegunRow = true := by
  unfold joinedFacts
  rw [n1, n2, n3, n4]
  kernel_rfl
theorem looks_on : true = Tryz.prog.looks [] := by kernel_rfl
theorem goes : false = Rows.drawBegunRow.goesBy Tryz.prog := by kernel_rfl
end Go.Proofs.YtoajocgfmbakjaaGreatDoor.drawBegun
