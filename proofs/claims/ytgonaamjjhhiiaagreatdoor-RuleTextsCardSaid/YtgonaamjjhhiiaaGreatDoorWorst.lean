/-
  The walk of worst: by how much castings go beyond what is asked.
-/
import Derived.Test.YtgonaamjjhhiiaaGreatDoorWorst1
import Derived.Test.YtgonaamjjhhiiaaGreatDoorWorst2
set_option linter.unusedVariables false
set_option linter.unusedSimpArgs false
namespace Go.Proofs.YtgonaamjjhhiiaaGreatDoor
open Go Go.RowKit

theorem worst_any (lo hi a b c d : Int) (w : World) (h1 : 0 ≤ lo ∧ lo ≤ 1000000) (h2 : 0 ≤ hi ∧ hi ≤ 1000000) (h3 : 0 ≤ a ∧ a ≤ 2000000000) (h4 : 1 ≤ b ∧ b ≤ 1000) (h5 : 0 ≤ c ∧ c ≤ 2000000000) (h6 : 1 ≤ d ∧ d ≤ 1000) :
    Calls Tryz.prog 69 #[.agg #[.int .i64 (lo), .int .i64 (hi)], .agg #[.int .i64 (a), .int .i64 (b)], .agg #[.int .i64 (c), .int .i64 (d)]] w fun e w' => e = .returned (.agg #[.int .i64 (worN lo hi a b c d), .int .i64 (worD lo hi a b c d)]) ∧ Below w.heap.size w w' := by
  by_cases hk : (lo * b - a) * d - (c - hi * d) * b < 0
  · exact worst_hi lo hi a b c d w h1 h2 h3 h4 h5 h6 hk
  · exact worst_lo lo hi a b c d w h1 h2 h3 h4 h5 h6 hk
end Go.Proofs.YtgonaamjjhhiiaaGreatDoor
