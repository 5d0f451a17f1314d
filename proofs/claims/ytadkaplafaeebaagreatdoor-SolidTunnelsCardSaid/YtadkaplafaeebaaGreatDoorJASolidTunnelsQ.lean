/-
  SolidTunnels: closed facts of the program's text: what the function reaches.
-/
import Derived.Test.YtadkaplafaeebaaGreatDoorRows
import Derived.JoinedOf
import Derived.KernelRfl
namespace Go.Proofs.YtadkaplafaeebaaGreatDoor.solidTunnels
open Go
set_option maxRecDepth 100000
theorem n1 : (Rows.solidTunnelsRow.inPlace == Tryz.prog.inPlace 15) = true := by kernel_rfl
theorem n2 : (Rows.solidTunnelsRow.unfollowed == Tryz.prog.unfollowed 15) = true := by kernel_rfl
theorem n3 : (Rows.solidTunnelsRow.recurses == Tryz.prog.recurses 15) = true := by kernel_rfl
theorem n4 : (Rows.solidTunnelsRow.named == Tryz.prog.varsNamed 15) = true := by kernel_rfl
end Go.Proofs.YtadkaplafaeebaaGreatDoor.solidTunnels
