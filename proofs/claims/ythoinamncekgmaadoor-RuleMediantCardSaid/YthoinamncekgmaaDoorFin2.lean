/-
  The walk of the statement on neighbours.
-/
import Derived.Test.YthoinamncekgmaaDoorAliveOk
import Derived.Test.YthoinamncekgmaaDoorMedV
set_option linter.unusedVariables false
namespace Go.Proofs.YthoinamncekgmaaDoor
open Go Go.RowKit
theorem med_walk (an ad bn bd : Int) (w : World) (h1 : W2 an ad) (h2 : W2 bn bd) (ht : Pow10 w) :
    Calls Tryd.prog 13 #[.agg #[.int .i64 (an), .int .i64 (ad)], .agg #[.int .i64 (bn), .int .i64 (bd)]] w fun e w' => e = .returned (.bool true) ∧ Below w.heap.size w w' := med_of alive_ok an ad bn bd w h1 h2 ht
end Go.Proofs.YthoinamncekgmaaDoor
