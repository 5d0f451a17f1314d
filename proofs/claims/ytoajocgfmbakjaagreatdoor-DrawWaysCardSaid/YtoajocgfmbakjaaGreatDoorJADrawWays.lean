/-
  DrawWays: closed facts of the program's text: what the function reaches.
-/
import Derived.Test.YtoajocgfmbakjaaGreatDoorRows
import Derived.JoinedOf
import Derived.KernelRfl
namespace Go.Proofs.YtoajocgfmbakjaaGreatDoor.drawWays
open Go
set_option maxRecDepth 100000
theorem n1 : (Rows.drawWaysRow.inPlace == Tryz.prog.inPlace 4) = true := by kernel_rfl
theorem n2 : (Rows.drawWaysRow.unfollowed == Tryz.prog.unfollowed 4) = true := by kernel_rfl
theorem n3 : (Rows.drawWaysRow.recurses == Tryz.prog.recurses 4) = true := by kernel_rfl
theorem n4 : (Rows.drawWaysRow.named == Tryz.prog.varsNamed 4) = true := by kernel_rfl
end Go.Proofs.YtoajocgfmbakjaaGreatDoor.drawWays
