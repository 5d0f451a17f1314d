/-
  SolidFilled: closed facts of the program's text: what the function reaches.
-/
import Derived.Test.YtadkaplafaeebaaGreatDoorRows
import Derived.JoinedOf
import Derived.KernelRfl
namespace Go.Proofs.YtadkaplafaeebaaGreatDoor.solidFilled
open Go
set_option maxRecDepth 100000
theorem n1 : (Rows.solidFilledRow.inPlace == Tryz.prog.inPlace 19) = true := by kernel_rfl
theorem n2 : (Rows.solidFilledRow.unfollowed == Tryz.prog.unfollowed 19) = true := by kernel_rfl
theorem n3 : (Rows.solidFilledRow.recurses == Tryz.prog.recurses 19) = true := by kernel_rfl
theorem n4 : (Rows.solidFilledRow.named == Tryz.prog.varsNamed 19) = true := by kernel_rfl
end Go.Proofs.YtadkaplafaeebaaGreatDoor.solidFilled
