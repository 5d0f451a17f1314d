/-
  DrawEither: the closed facts of the program's text that its row asks.
-/
import Derived.Test.YtoajocgfmbakjaaGreatDoorJADrawEither
import Derived.SevenTiedAt
set_option linter.unusedSimpArgs false
namespace Go.Proofs.YtoajocgfmbakjaaGreatDoor.drawEither
open Go
set_option maxRecDepth 100000
theorem joined : joinedFacts Tryz.prog 10 Tryz.f10 Rows.drawEitherSpec Rows.drawEitherRow = true := by
  unfold joinedFacts
  rw [n1, n2, n3, n4]
  kernel_rfl
theorem looks_on : true = Tryz.prog.looks [] := by kernel_rfl
theorem goes : false = Rows.drawEitherRow.goesBy Tryz.prog := by kernel_rfl
end Go.Proofs.YtoajocgfmbakjaaGreatDoor.drawEither
