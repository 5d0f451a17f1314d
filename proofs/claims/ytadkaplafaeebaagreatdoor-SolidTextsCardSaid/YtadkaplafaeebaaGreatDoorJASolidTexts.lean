/-
  SolidTexts: closed facts of the program's text: what the function reaches.
-/
import Derived.Test.YtadkaplafaeebaaGreatDoorRows
import Derived.JoinedOf
import Derived.KernelRfl
namespace Go.Proofs.YtadkaplafaeebaaGreatDoor.solidTexts
open Go
set_option maxRecDepth 100000
theorem n1 : (Rows.solidTextsRow.inPlace == Tryz.prog.inPlace 11) = true := by kernel_rfl
theorem n2 : (Rows.solidTextsRow.unfollowed == Tryz.prog.unfollowed 11) = true := by kernel_rfl
theorem n3 : (Rows.solidTextsRow.recurses == Tryz.prog.recurses 11) = true := by kernel_rfl
theorem n4 : (Rows.solidTextsRow.named == Tryz.prog.varsNamed 11) = true := by kernel_rfl
end Go.Proofs.YtadkaplafaeebaaGreatDoor.solidTexts
