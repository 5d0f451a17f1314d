/-
  DrawMoulds: the closed facts of the program's text that its row asks.
-/
import Derived.Test.YtoajocgfmbakjaaGreatDoorJADrawMoulds
import Derived.SevenTiedAt
set_option linter.unusedSimpArgs false
namespace Go.Proofs.YtoajocgfmbakjaaGreatDoor.drawMoulds
open Go
set_option maxRecDepth 100000
theorem joined : joinedFacts Tryz.prog 3 Tryz.f3 Rows.drawMouldsSpec Rows.drawMouldsRow = true := by
  unfold joinedFacts
  rw [n1, n2, n3, n4]
  kernel_rfl
theorem looks_on : true = Tryz.prog.looks [] := by kernel_rfl
theorem goes : false = Rows.drawMouldsRow.goesBy Tryz.prog := by kernel_rfl
end Go.Proofs.YtoajocgfmbakjaaGreatDoor.drawMoulds
