/-
  SolidBoth: closed facts of the program's text: what the function reaches.
-/
import Derived.Test.YtadkaplafaeebaaGreatDoorRows
import Derived.JoinedOf
import Derived.KernelRfl
namespace Go.Proofs.YtadkaplafaeebaaGreatDoor.solidBoth
open Go
set_option maxRecDepth 100000
theorem n1 : (Rows.solidBothRow.inPlace == Tryz.prog.inPlace 13) = true := by kernel_rfl
theorem n2 : (Rows.solidBothRow.unfollowed == Tryz.prog.unfollowed 13) = true := by kernel_rfl
theorem n3 : (Rows.solidBothRow.recurses == Tryz.prog.recurses 13) = true := by kernel_rfl
theorem n4 : (Rows.solidBothRow.named == Tryz.prog.varsNamed 13) = true := by kernel_rfl
end Go.Proofs.YtadkaplafaeebaaGreatDoor.solidBoth
