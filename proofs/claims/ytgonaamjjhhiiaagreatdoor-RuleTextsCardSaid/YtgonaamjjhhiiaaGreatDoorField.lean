/-
  The walk of the statement on sums and products, from what the functions that it calls return.
-/
import Derived.Test.YtgonaamjjhhiiaaGreatDoorCmp
import Derived.Test.YtgonaamjjhhiiaaGreatDoorWrite
set_option linter.unusedVariables false
set_option linter.unusedSimpArgs false
namespace Go.Proofs.YtgonaamjjhhiiaaGreatDoor
open Go Go.RowKit

/-- All that the examples' function owes: it returns true, where the library's table lies as laid. -/
def AliveOk : Prop := ∀ W : World, Pow10 W → Calls Tryz.prog 4 #[] W fun e w' => e = .returned (.bool true) ∧ Below W.heap.size W w'
theorem AliveOk.at {w : World} (h : AliveOk) (ht : Pow10 w) (W : World) (hb : Below w.heap.size w W) : Calls Tryz.prog 4 #[] W fun e w' => e = .returned (.bool true) ∧ Below W.heap.size W w' := h W (ht.below hb)

end Go.Proofs.YtgonaamjjhhiiaaGreatDoor
