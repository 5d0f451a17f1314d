/-
  SolidPlaces: closed facts of the program's text: what the function reaches.
-/
import Derived.Test.YtadkaplafaeebaaGreatDoorRows
import Derived.JoinedOf
import Derived.KernelRfl
namespace Go.Proofs.YtadkaplafaeebaaGreatDoor.solidPlaces
open Go
set_option maxRecDepth 100000
theorem n1 : (Rows.solidPlacesRow.inPlace == Tryz.prog.inPlace 8) = true := by kernel_rfl
theorem n2 : (Rows.solidPlacesRow.unfollowed == Tryz.prog.unfollowed 8) = true := by kernel_rfl
theorem n3 : (Rows.solidPlacesRow.recurses == Tryz.prog.recurses 8) = true := by kernel_rfl
theorem n4 : (Rows.solidPlacesRow.named == Tryz.prog.varsNamed 8) = true := by kernel_rfl
end Go.Proofs.YtadkaplafaeebaaGreatDoor.solidPlaces
