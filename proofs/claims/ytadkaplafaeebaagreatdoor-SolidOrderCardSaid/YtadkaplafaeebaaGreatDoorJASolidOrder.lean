/-
  SolidOrder: closed facts of the program's text: what the function reaches.
-/
import Derived.Test.YtadkaplafaeebaaGreatDoorRows
import Derived.JoinedOf
import Derived.KernelRfl
namespace Go.Proofs.YtadkaplafaeebaaGreatDoor.solidOrder
open Go
set_option maxRecDepth 100000
theorem n1 : (Rows.solidOrderRow.inPlace == Tryz.prog.inPlace 12) = true := by kernel_rfl
theorem n2 : (Rows.solidOrderRow.unfollowed == Tryz.prog.unfollowed 12) = true := by kernel_rfl
theorem n3 : (Rows.solidOrderRow.recurses == Tryz.prog.recurses 12) = true := by kernel_rfl
theorem n4 : (Rows.solidOrderRow.named == Tryz.prog.varsNamed 12) = true := by kernel_rfl
end Go.Proofs.YtadkaplafaeebaaGreatDoor.solidOrder
