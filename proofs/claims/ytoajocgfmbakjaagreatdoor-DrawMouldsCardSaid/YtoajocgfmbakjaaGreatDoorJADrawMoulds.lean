/-
  DrawMoulds: closed facts of the program's text: what the function reaches.
-/
import Derived.Test.YtoajocgfmbakjaaGreatDoorRows
import Derived.JoinedOf
import Derived.KernelRfl
namespace Go.Proofs.YtoajocgfmbakjaaGreatDoor.drawMoulds
open Go
set_option maxRecDepth 100000
theorem n1 : (Rows.drawMouldsRow.inPlace == Tryz.prog.inPlace 3) = true := by kernel_rfl
theorem n2 : (Rows.drawMouldsRow.unfollowed == Tryz.prog.unfollowed 3) = true := by kernel_rfl
theorem n3 : (Rows.drawMouldsRow.recurses == Tryz.prog.recurses 3) = true := by kernel_rfl
theorem n4 : (Rows.drawMouldsRow.named == Tryz.prog.varsNamed 3) = true := by kernel_rfl
end Go.Proofs.YtoajocgfmbakjaaGreatDoor.drawMoulds
