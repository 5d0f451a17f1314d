/-
  DrawSand: closed facts of the program's text: what the function reaches.
-/
import Derived.Test.YtoajocgfmbakjaaGreatDoorRows
import Derived.JoinedOf
import Derived.KernelRfl
namespace Go.Proofs.YtoajocgfmbakjaaGreatDoor.drawSand
open Go
set_option maxRecDepth 100000
theorem n1 : (Rows.drawSandRow.inPlace == Tryz.prog.inPlace 15) = true := by kernel_rfl
theorem n2 : (Rows.drawSandRow.unfollowed == Tryz.prog.unfollowed 15) = true := by kernel_rfl
theorem n3 : (Rows.drawSandRow.recurses == Tryz.prog.recurses 15) = true := by kernel_rfl
theorem n4 : (Rows.drawSandRow.named == Tryz.prog.varsNamed 15) = true := by kernel_rfl
end Go.Proofs.YtoajocgfmbakjaaGreatDoor.drawSand
