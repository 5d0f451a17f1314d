/-
  DrawEither: closed facts of the program's text: what the function reaches.
-/
import Derived.Test.YtoajocgfmbakjaaGreatDoorRows
import Derived.JoinedOf
import Derived.KernelRfl
namespace Go.Proofs.YtoajocgfmbakjaaGreatDoor.drawEither
open Go
set_option maxRecDepth 100000
theorem n1 : (Rows.drawEitherRow.inPlace == Tryz.prog.inPlace 10) = true := by kernel_rfl
theorem n2 : (Rows.drawEitherRow.unfollowed == Tryz.prog.unfollowed 10) = true := by kernel_rfl
theorem n3 : (Rows.drawEitherRow.recurses == Tryz.prog.recurses 10) = true := by kernel_rfl
theorem n4 : (Rows.drawEitherRow.named == Tryz.prog.varsNamed 10) = true := by kernel_rfl
end Go.Proofs.YtoajocgfmbakjaaGreatDoor.drawEither
