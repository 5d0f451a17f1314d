/-
  The walk of worst: by how much castings go beyond what is asked: the words.
-/
import Derived.Test.YtgonaamjjhhiiaaGreatDoorRule1
set_option linter.unusedVariables false
set_option linter.unusedSimpArgs false
namespace Go.Proofs.YtgonaamjjhhiiaaGreatDoor
open Go Go.RowKit

/-- By how much castings from a/b to c/d go beyond what is asked: the parts. -/
def worN (lo hi a b c d : Int) : Int := if (lo * b - a) * d - (c - hi * d) * b < 0 then c - hi * d else lo * b - a
def worD (lo hi a b c d : Int) : Int := if (lo * b - a) * d - (c - hi * d) * b < 0 then d else b

end Go.Proofs.YtgonaamjjhhiiaaGreatDoor
