/-
  SolidParts: closed facts of the program's text: what the function reaches.
-/
import Derived.Test.YtadkaplafaeebaaGreatDoorRows
import Derived.JoinedOf
import Derived.KernelRfl
namespace Go.Proofs.YtadkaplafaeebaaGreatDoor.solidParts
open Go
set_option maxRecDepth 100000
theorem n1 : (Rows.solidPartsRow.inPlace == Tryz.prog.inPlace 16) = true := by kernel_rfl
theorem n2 : (Rows.solidPartsRow.unfollowed == Tryz.prog.unfollowed 16) = true := by kernel_rfl
theorem n3 : (Rows.solidPartsRow.recurses == Tryz.prog.recurses 16) = true := by kernel_rfl
theorem n4 : (Rows.solidPartsRow.named == Tryz.prog.varsNamed 16) = true := by kernel_rfl
end Go.Proofs.YtadkaplafaeebaaGreatDoor.solidParts
