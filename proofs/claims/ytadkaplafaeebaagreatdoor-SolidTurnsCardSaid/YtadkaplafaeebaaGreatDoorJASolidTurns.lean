/-
  SolidTurns: closed facts of the program's text: what the function reaches.
-/
import Derived.Test.YtadkaplafaeebaaGreatDoorRows
import Derived.JoinedOf
import Derived.KernelRfl
namespace Go.Proofs.YtadkaplafaeebaaGreatDoor.solidTurns
open Go
set_option maxRecDepth 100000
theorem n1 : (Rows.solidTurnsRow.inPlace == Tryz.prog.inPlace 17) = true := by kernel_rfl
theorem n2 : (Rows.solidTurnsRow.unfollowed == Tryz.prog.unfollowed 17) = true := by kernel_rfl
theorem n3 : (Rows.solidTurnsRow.recurses == Tryz.prog.recurses 17) = true := by kernel_rfl
theorem n4 : (Rows.solidTurnsRow.named == Tryz.prog.varsNamed 17) = true := by kernel_rfl
end Go.Proofs.YtadkaplafaeebaaGreatDoor.solidTurns
