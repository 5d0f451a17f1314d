/-
  When a guarded operation is wanted.
-/
import Derived.Test.YtadkaplafaeebaaGreatDoorPkP
set_option linter.unusedVariables false
set_option linter.unusedSimpArgs false
namespace Go.Proofs.YtadkaplafaeebaaGreatDoor
open Go Go.RowKit

theorem wanted_at {ops : Array Oper} {o : Oper} {tmps : Array Value} {j t : Nat} {b : Bool} (hg : o.guard = some (j, b)) (hd : dstR ops j = some t) (h : tmps[t]? = some (.bool b)) : Region.wanted o (yielded ops tmps) = true := by
  unfold Region.wanted
  rw [hg]
  have e : yielded ops tmps j = some b := by
    unfold yielded
    rw [show (ops[j]?).bind (·.dst) = some t from hd]
    simp [h]
  simp [e]
end Go.Proofs.YtadkaplafaeebaaGreatDoor
