/-
  SolidThen: closed facts of the program's text: what the function reaches.
-/
import Derived.Test.YtadkaplafaeebaaGreatDoorRows
import Derived.JoinedOf
import Derived.KernelRfl
namespace Go.Proofs.YtadkaplafaeebaaGreatDoor.solidThen
open Go
set_option maxRecDepth 100000
theorem n1 : (Rows.solidThenRow.inPlace == Tryz.prog.inPlace 6) = true := by kernel_rfl
theorem n2 : (Rows.solidThenRow.unfollowed == Tryz.prog.unfollowed 6) = true := by kernel_rfl
theorem n3 : (Rows.solidThenRow.recurses == Tryz.prog.recurses 6) = true := by kernel_rfl
theorem n4 : (Rows.solidThenRow.named == Tryz.prog.varsNamed 6) = true := by kernel_rfl
end Go.Proofs.YtadkaplafaeebaaGreatDoor.solidThen
