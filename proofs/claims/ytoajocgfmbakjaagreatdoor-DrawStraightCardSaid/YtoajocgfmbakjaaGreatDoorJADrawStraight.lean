/-
  DrawStraight: closed facts of the program's text: what the function reaches.
-/
import Derived.Test.YtoajocgfmbakjaaGreatDoorRows
import Derived.JoinedOf
import Derived.KernelRfl
namespace Go.Proofs.YtoajocgfmbakjaaGreatDoor.drawStraight
open Go
set_option maxRecDepth 100000
theorem n1 : (Rows.drawStraightRow.inPlace == Tryz.prog.inPlace 17) = true := by kernel_rfl
theorem n2 : (Rows.drawStraightRow.unfollowed == Tryz.prog.unfollowed 17) = true := by kernel_rfl
theorem n3 : (Rows.drawStraightRow.recurses == Tryz.prog.recurses 17) = true := by kernel_rfl
theorem n4 : (Rows.drawStraightRow.named == Tryz.prog.varsNamed 17) = true := by kernel_rfl
end Go.Proofs.YtoajocgfmbakjaaGreatDoor.drawStraight
