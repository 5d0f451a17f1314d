/-
  The walk of the statement RuleFracs.
-/
import Derived.Test.YthoinamncekgmaaDoorAliveOk
import Derived.Test.YthoinamncekgmaaDoorFracs
set_option linter.unusedVariables false
namespace Go.Proofs.YthoinamncekgmaaDoor
open Go Go.RowKit
theorem ruleFracs_walk (a0 b0 a1 b1 a2 a3 : Int) (w : World) (w0 : W2 a0 b0) (w1 : W2 a1 b1) (w2 : I64 a2) (w3 : I64 a3) (ht : Pow10 w) :
    Calls Tryd.prog 3 #[.agg #[.int .i64 (a0), .int .i64 (b0)], .agg #[.int .i64 (a1), .int .i64 (b1)], .int .i64 a2, .int .i64 a3] w fun e w' => e = .returned (.bool true) ∧ Below w.heap.size w w' := fracs_of alive_ok a0 b0 a1 b1 a2 a3 w w0 w1 w2 w3 ht
end Go.Proofs.YthoinamncekgmaaDoor
