/-
  DrawRounds: closed facts of the program's text: what the function reaches.
-/
import Derived.Test.YtoajocgfmbakjaaGreatDoorRows
import Derived.JoinedOf
import Derived.KernelRfl
namespace Go.Proofs.YtoajocgfmbakjaaGreatDoor.drawRounds
open Go
set_option maxRecDepth 100000
theorem n1 : (Rows.drawRoundsRow.inPlace == Tryz.prog.inPlace 14) = true := by kernel_rfl
theorem n2 : (Rows.drawRoundsRow.unfollowed == Tryz.prog.unfollowed 14) = true := by kernel_rfl
theorem n3 : (Rows.drawRoundsRow.recurses == Tryz.prog.recurses 14) = true := by kernel_rfl
theorem n4 : (Rows.drawRoundsRow.named == Tryz.prog.varsNamed 14) = true := by kernel_rfl
end Go.Proofs.YtoajocgfmbakjaaGreatDoor.drawRounds
