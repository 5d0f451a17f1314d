/-
  Twice at the chapter's example; the function of the examples returns true.
-/
import Derived.Test.YtgonaamjjhhiiaaGreatDoorAlive
import Derived.Test.YtgonaamjjhhiiaaGreatDoorTwice
set_option linter.unusedVariables false
set_option linter.unusedSimpArgs false
namespace Go.Proofs.YtgonaamjjhhiiaaGreatDoor
open Go Go.RowKit

theorem Twice_ex (w : World) : Calls Tryz.prog 18 #[.agg #[.int .i64 (1), .int .i64 (100), .int .i64 (1), .int .i64 (50)], .agg #[.int .i64 (1), .int .i64 (10), .int .i64 (1), .int .i64 (10)]] w fun e w' => e = .returned (.tuple #[.agg #[.int .i64 (109), .int .i64 (1000), .int .i64 (59), .int .i64 (500)], .int .i64 0]) ∧ Below w.heap.size w w' := by
  refine Twice_core 1 100 1 50 1 10 1 10 109 1000 59 500 0 0 w (by decide +kernel) (by decide +kernel) (fun W => ?_) (fun W => CheckRule_yes 109 1000 59 500 W (by decide +kernel))
  have h := lowestTwo_ok (tN 1 100 1 10) (100 * 10) (tN 1 50 1 10) (50 * 10) W (by decide +kernel) (by decide +kernel) (by decide +kernel) (by decide +kernel)
  rw [show lowN (tN 1 100 1 10) (100 * 10) = 109 by decide +kernel, show lowD (tN 1 100 1 10) (100 * 10) = 1000 by decide +kernel, show lowN (tN 1 50 1 10) (50 * 10) = 59 by decide +kernel, show lowD (tN 1 50 1 10) (50 * 10) = 500 by decide +kernel] at h
  exact h
theorem alive_ok : AliveOk := fun W h => alive_core W h Twice_ex
end Go.Proofs.YtgonaamjjhhiiaaGreatDoor
