/-
  SolidShape: closed facts of the program's text: what the function reaches.
-/
import Derived.Test.YtadkaplafaeebaaGreatDoorRows
import Derived.JoinedOf
import Derived.KernelRfl
namespace Go.Proofs.YtadkaplafaeebaaGreatDoor.solidShape
open Go
set_option maxRecDepth 100000
theorem n1 : (Rows.solidShapeRow.inPlace == Tryz.prog.inPlace 10) = true := by kernel_rfl
theorem n2 : (Rows.solidShapeRow.unfollowed == Tryz.prog.unfollowed 10) = true := by kernel_rfl
theorem n3 : (Rows.solidShapeRow.recurses == Tryz.prog.recurses 10) = true := by kernel_rfl
theorem n4 : (Rows.solidShapeRow.named == Tryz.prog.varsNamed 10) = true := by kernel_rfl
end Go.Proofs.YtadkaplafaeebaaGreatDoor.solidShape
