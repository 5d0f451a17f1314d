/-
  SolidSets: closed facts of the program's text: what the function reaches.
-/
import Derived.Test.YtadkaplafaeebaaGreatDoorRows
import Derived.JoinedOf
import Derived.KernelRfl
namespace Go.Proofs.YtadkaplafaeebaaGreatDoor.solidSets
open Go
set_option maxRecDepth 100000
theorem n1 : (Rows.solidSetsRow.inPlace == Tryz.prog.inPlace 3) = true := by kernel_rfl
theorem n2 : (Rows.solidSetsRow.unfollowed == Tryz.prog.unfollowed 3) = true := by kernel_rfl
theorem n3 : (Rows.solidSetsRow.recurses == Tryz.prog.recurses 3) = true := by kernel_rfl
theorem n4 : (Rows.solidSetsRow.named == Tryz.prog.varsNamed 3) = true := by kernel_rfl
end Go.Proofs.YtadkaplafaeebaaGreatDoor.solidSets
