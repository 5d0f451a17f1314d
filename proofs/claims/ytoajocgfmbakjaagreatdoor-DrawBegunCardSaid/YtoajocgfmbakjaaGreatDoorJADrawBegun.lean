/-
  DrawBegun: closed facts of the program's text: what the function reaches.
-/
import Derived.Test.YtoajocgfmbakjaaGreatDoorRows
import Derived.JoinedOf
import Derived.KernelRfl
namespace Go.Proofs.YtoajocgfmbakjaaGreatDoor.drawBegun
open Go
set_option maxRecDepth 100000
theorem n1 : (Rows.drawBegunRow.inPlace == Tryz.prog.inPlace 11) = true := by kernel_rfl
theorem n2 : (Rows.drawBegunRow.unfollowed == Tryz.prog.unfollowed 11) = true := by kernel_rfl
theorem n3 : (Rows.drawBegunRow.recurses == Tryz.prog.recurses 11) = true := by kernel_rfl
theorem n4 : (Rows.drawBegunRow.named == Tryz.prog.varsNamed 11) = true := by kernel_rfl
end Go.Proofs.YtoajocgfmbakjaaGreatDoor.drawBegun
