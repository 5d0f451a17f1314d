/-
  SolidMotions: closed facts of the program's text: what the function reaches.
-/
import Derived.Test.YtadkaplafaeebaaGreatDoorRows
import Derived.JoinedOf
import Derived.KernelRfl
namespace Go.Proofs.YtadkaplafaeebaaGreatDoor.solidMotions
open Go
set_option maxRecDepth 100000
theorem n1 : (Rows.solidMotionsRow.inPlace == Tryz.prog.inPlace 5) = true := by kernel_rfl
theorem n2 : (Rows.solidMotionsRow.unfollowed == Tryz.prog.unfollowed 5) = true := by kernel_rfl
theorem n3 : (Rows.solidMotionsRow.recurses == Tryz.prog.recurses 5) = true := by kernel_rfl
theorem n4 : (Rows.solidMotionsRow.named == Tryz.prog.varsNamed 5) = true := by kernel_rfl
end Go.Proofs.YtadkaplafaeebaaGreatDoor.solidMotions
