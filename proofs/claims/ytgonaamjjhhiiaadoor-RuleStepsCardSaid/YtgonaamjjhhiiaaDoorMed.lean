/-
  The walk of the statement on neighbours, from what the functions that it calls return; and what they return.
-/
import Derived.Test.YtgonaamjjhhiiaaDoorInv
import Derived.Test.YtgonaamjjhhiiaaDoorMathC
import Derived.Test.YtgonaamjjhhiiaaDoorField
set_option linter.unusedVariables false
set_option linter.unusedSimpArgs false
namespace Go.Proofs.YtgonaamjjhhiiaaDoor
open Go Go.RowKit

/-- Which way the last test goes: the second fraction is none · is the first one · is not above the lower neighbour · is not below the upper one · lies between. -/
def MedWay (n d yn yd ck : Int) (l1 l2 : Bool) : Prop :=
  (ck != 0) = true ∨ ((ck != 0) = false ∧ yn = n ∧ yd = d) ∨ ((ck != 0) = false ∧ ((yn == n) = false ∨ (yn = n ∧ (yd == d) = false)) ∧ l1 = false) ∨
  ((ck != 0) = false ∧ ((yn == n) = false ∨ (yn = n ∧ (yd == d) = false)) ∧ l1 = true ∧ l2 = false) ∨ ((ck != 0) = false ∧ ((yn == n) = false ∨ (yn = n ∧ (yd == d) = false)) ∧ l1 = true ∧ l2 = true ∧ d < yd)

end Go.Proofs.YtgonaamjjhhiiaaDoor
