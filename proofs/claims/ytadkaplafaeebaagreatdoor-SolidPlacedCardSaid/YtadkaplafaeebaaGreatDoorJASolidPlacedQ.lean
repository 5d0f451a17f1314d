/-
  SolidPlaced: closed facts of the program's text: what the function reaches.
-/
import Derived.Test.YtadkaplafaeebaaGreatDoorRows
import Derived.JoinedOf
import Derived.KernelRfl
namespace Go.Proofs.YtadkaplafaeebaaGreatDoor.solidPlaced
open Go
set_option maxRecDepth 100000
theorem n1 : (Rows.solidPlacedRow.inPlace == Tryz.prog.inPlace 18) = true := by kernel_rfl
theorem n2 : (Rows.solidPlacedRow.unfollowed == Tryz.prog.unfollowed 18) = true := by kernel_rfl
theorem n3 : (Rows.solidPlacedRow.recurses == Tryz.prog.recurses 18) = true := by kernel_rfl
theorem n4 : (Rows.solidPlacedRow.named == Tryz.prog.varsNamed 18) = true := by kernel_rfl
end Go.Proofs.YtadkaplafaeebaaGreatDoor.solidPlaced
