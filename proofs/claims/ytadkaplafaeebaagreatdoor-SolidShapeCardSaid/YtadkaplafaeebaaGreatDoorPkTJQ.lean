/-
  The reference's Bounds.
-/
import Derived.Test.YtadkaplafaeebaaGreatDoorPkRBQ
import Derived.Test.YtadkaplafaeebaaGreatDoorPkTEQ
import Derived.Test.YtadkaplafaeebaaGreatDoorPkOQ
import Derived.Test.YtadkaplafaeebaaGreatDoorPkPQ
import Derived.Test.YtadkaplafaeebaaGreatDoorPkZQ
import Derived.Test.YtadkaplafaeebaaGreatDoorPkXBQ
import Derived.Test.YtadkaplafaeebaaGreatDoorPkTCQ
import Derived.Test.YtadkaplafaeebaaGreatDoorPkTHQ
import Derived.Test.YtadkaplafaeebaaGreatDoorPkCQ
set_option linter.unusedVariables false
set_option linter.unusedSimpArgs false
namespace Go.Proofs.YtadkaplafaeebaaGreatDoor
open Go Go.RowKit

def NewB (B : Nat) (v : Value) (W : World) : Prop := ∃ b, v = .pointer (some ⟨b, 0, none⟩) ∧ B ≤ b ∧ Box6 W b 0 0 0 0 0 0
theorem NewB.below {B : Nat} {v : Value} {W W' : World} (h : NewB B v W) (hb : Below W.heap.size W W') : NewB B v W' := by
  obtain ⟨g, h1, h2, h3⟩ := h
  exact ⟨g, h1, h2, blk_below h3 hb (blk_lt h3)⟩
end Go.Proofs.YtadkaplafaeebaaGreatDoor
/-
  Fits of a solid that has no cell, and of any solids.
-/
set_option linter.unusedVariables false
set_option linter.unusedSimpArgs false
namespace Go.Proofs.YtadkaplafaeebaaGreatDoor
open Go Go.RowKit Go.Shelf

attribute [local go_sem] Oper.semAt_some

end Go.Proofs.YtadkaplafaeebaaGreatDoor
/-
  Where the reference seeks a place, and where there can be one: mathematics.
-/
set_option linter.unusedVariables false
set_option linter.unusedSimpArgs false
namespace Go.Proofs.YtadkaplafaeebaaGreatDoor
open Go Go.RowKit

/-- Where the reference seeks: wherever no cell leaves the grid. -/
def room (g : Sol) (lo hi : Sol → Nat) : Nat := 9 - (hi g - lo g)
end Go.Proofs.YtadkaplafaeebaaGreatDoor
/-
  The reference's Fits.
-/
set_option linter.unusedVariables false
set_option linter.unusedSimpArgs false
namespace Go.Proofs.YtadkaplafaeebaaGreatDoor
open Go Go.RowKit

end Go.Proofs.YtadkaplafaeebaaGreatDoor
/-
  CheckFit, the program's and the reference's; the reference's Fits for any solids.
-/
set_option linter.unusedVariables false
set_option linter.unusedSimpArgs false
namespace Go.Proofs.YtadkaplafaeebaaGreatDoor
open Go Go.RowKit

end Go.Proofs.YtadkaplafaeebaaGreatDoor
/-
  The reference's Fits for any solids.
-/
set_option linter.unusedVariables false
set_option linter.unusedSimpArgs false
namespace Go.Proofs.YtadkaplafaeebaaGreatDoor
open Go Go.RowKit

end Go.Proofs.YtadkaplafaeebaaGreatDoor
/-
  The law of fits: its walk, the contracts of its callees given; the law for every two solids and every motion.
-/
set_option linter.unusedVariables false
set_option linter.unusedSimpArgs false
namespace Go.Proofs.YtadkaplafaeebaaGreatDoor
open Go Go.RowKit

end Go.Proofs.YtadkaplafaeebaaGreatDoor
