/-
  SolidBoxes: closed facts of the program's text: what the function reaches.
-/
import Derived.Test.YtadkaplafaeebaaGreatDoorRows
import Derived.JoinedOf
import Derived.KernelRfl
namespace Go.Proofs.YtadkaplafaeebaaGreatDoor.solidBoxes
open Go
set_option maxRecDepth 100000
theorem n1 : (Rows.solidBoxesRow.inPlace == Tryz.prog.inPlace 4) = true := by kernel_rfl
theorem n2 : (Rows.solidBoxesRow.unfollowed == Tryz.prog.unfollowed 4) = true := by kernel_rfl
theorem n3 : (Rows.solidBoxesRow.recurses == Tryz.prog.recurses 4) = true := by kernel_rfl
theorem n4 : (Rows.solidBoxesRow.named == Tryz.prog.varsNamed 4) = true := by kernel_rfl
end Go.Proofs.YtadkaplafaeebaaGreatDoor.solidBoxes
