/-
  SolidFits: closed facts of the program's text: what the function reaches.
-/
import Derived.Test.YtadkaplafaeebaaGreatDoorRows
import Derived.JoinedOf
import Derived.KernelRfl
namespace Go.Proofs.YtadkaplafaeebaaGreatDoor.solidFits
open Go
set_option maxRecDepth 100000
theorem n1 : (Rows.solidFitsRow.inPlace == Tryz.prog.inPlace 7) = true := by kernel_rfl
theorem n2 : (Rows.solidFitsRow.unfollowed == Tryz.prog.unfollowed 7) = true := by kernel_rfl
theorem n3 : (Rows.solidFitsRow.recurses == Tryz.prog.recurses 7) = true := by kernel_rfl
theorem n4 : (Rows.solidFitsRow.named == Tryz.prog.varsNamed 7) = true := by kernel_rfl
end Go.Proofs.YtadkaplafaeebaaGreatDoor.solidFits
