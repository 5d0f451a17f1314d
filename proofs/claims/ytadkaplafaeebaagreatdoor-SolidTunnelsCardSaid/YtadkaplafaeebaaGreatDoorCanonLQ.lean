/-
  The law of canonical forms: its walk, the contracts of its callees given; the law for every two solids.
-/
import Derived.Test.YtadkaplafaeebaaGreatDoorPkWQ
import Derived.Test.YtadkaplafaeebaaGreatDoorPkTHQ
import Derived.Test.YtadkaplafaeebaaGreatDoorPkUCQ
set_option linter.unusedVariables false
set_option linter.unusedSimpArgs false
namespace Go.Proofs.YtadkaplafaeebaaGreatDoor
open Go Go.RowKit

theorem get_solAt {l : List Sol} {i : Nat} {f : Sol} (h : l[i]? = some f) : f = solAt l i := by
  obtain ⟨h1, h2⟩ := List.getElem?_eq_some_iff.1 h
  rw [solAt_get h1]
  exact h2.symm
end Go.Proofs.YtadkaplafaeebaaGreatDoor
