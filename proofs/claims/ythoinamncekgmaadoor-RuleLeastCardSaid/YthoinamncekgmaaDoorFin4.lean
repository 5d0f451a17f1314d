/-
  The walk of the statement on the size with the least miss.
-/
import Derived.Test.YthoinamncekgmaaDoorAliveOk
import Derived.Test.YthoinamncekgmaaDoorLeastV
set_option linter.unusedVariables false
namespace Go.Proofs.YthoinamncekgmaaDoor
open Go Go.RowKit
theorem least_walk (ln ld mn md want size : Int) (w : World) (h1 : W2 ln ld) (h2 : W2 mn md) (h3 : I64 want) (h4 : I64 size) (ht : Pow10 w) :
    Calls Tryd.prog 17 #[.agg #[.int .i64 (ln), .int .i64 (ld), .int .i64 (mn), .int .i64 (md)], .int .i64 want, .int .i64 size] w fun e w' => e = .returned (.bool true) ∧ Below w.heap.size w w' := least_of alive_ok ln ld mn md want size w h1 h2 h3 h4 ht
end Go.Proofs.YthoinamncekgmaaDoor
