/-
  SolidOrbits: closed facts of the program's text: what the function reaches.
-/
import Derived.Test.YtadkaplafaeebaaGreatDoorRows
import Derived.JoinedOf
import Derived.KernelRfl
namespace Go.Proofs.YtadkaplafaeebaaGreatDoor.solidOrbits
open Go
set_option maxRecDepth 100000
theorem n1 : (Rows.solidOrbitsRow.inPlace == Tryz.prog.inPlace 14) = true := by kernel_rfl
theorem n2 : (Rows.solidOrbitsRow.unfollowed == Tryz.prog.unfollowed 14) = true := by kernel_rfl
theorem n3 : (Rows.solidOrbitsRow.recurses == Tryz.prog.recurses 14) = true := by kernel_rfl
theorem n4 : (Rows.solidOrbitsRow.named == Tryz.prog.varsNamed 14) = true := by kernel_rfl
end Go.Proofs.YtadkaplafaeebaaGreatDoor.solidOrbits
