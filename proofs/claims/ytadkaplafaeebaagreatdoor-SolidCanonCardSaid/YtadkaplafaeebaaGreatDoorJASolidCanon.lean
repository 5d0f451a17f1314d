/-
  SolidCanon: closed facts of the program's text: what the function reaches.
-/
import Derived.Test.YtadkaplafaeebaaGreatDoorRows
import Derived.JoinedOf
import Derived.KernelRfl
namespace Go.Proofs.YtadkaplafaeebaaGreatDoor.solidCanon
open Go
set_option maxRecDepth 100000
theorem n1 : (Rows.solidCanonRow.inPlace == Tryz.prog.inPlace 9) = true := by kernel_rfl
theorem n2 : (Rows.solidCanonRow.unfollowed == Tryz.prog.unfollowed 9) = true := by kernel_rfl
theorem n3 : (Rows.solidCanonRow.recurses == Tryz.prog.recurses 9) = true := by kernel_rfl
theorem n4 : (Rows.solidCanonRow.named == Tryz.prog.varsNamed 9) = true := by kernel_rfl
end Go.Proofs.YtadkaplafaeebaaGreatDoor.solidCanon
