/-
  The law of congruence by fits, for any two solids.
-/
import Derived.Test.YtadkaplafaeebaaGreatDoorBothL
import Derived.Test.YtadkaplafaeebaaGreatDoorFitsE
import Derived.Test.YtadkaplafaeebaaGreatDoorPkV
set_option linter.unusedVariables false
set_option linter.unusedSimpArgs false
namespace Go.Proofs.YtadkaplafaeebaaGreatDoor
open Go Go.RowKit

theorem fits_form (f g : Sol) (hf : Fit f) (hg : Fit g) : ∃ a b c d : Int, ∀ W, Tab64 W → Calls Tryz.prog 54 #[sol f, sol g] W (RetB (.tuple #[.agg #[.int .i64 (a), .int .i64 (b), .int .i64 (c), .int .i64 (d)], .bool (fitB f g)]) W) := by
  obtain ⟨a, b, c, d, e⟩ := motE_form f g
  refine ⟨a, b, c, d, fun W hT => ?_⟩
  have h := fits_all f g W hf hg hT
  rw [e] at h
  exact h
theorem both_of (f g : Sol) (hf : Fit f) (hg : Fit g) (w : World) (hT : Tab64 w) :
    Calls Tryz.prog 13 #[sol f, sol g] w (RetB (.bool true) w) := by
  obtain ⟨a, b, c, d, H1⟩ := fits_form f g hf hg
  obtain ⟨a', b', c', d', H2⟩ := fits_form g f hg hf
  exact both_core f g (canonF f) (canonF g) a b c d a' b' c' d' (fitB f g) (fitB g f) (sameB f g) w hT (Lib.hid H1) (Lib.hid H2) (Lib.hid fun W h => same_any f g W hf hg h) (Lib.hid fun W h => canon_any f W hf h) (Lib.hid fun W h => canon_any g W hg h)
    (Lib.hid fun W h => carved_of ev_cav W h) (both_iff hf hg) rfl
end Go.Proofs.YtadkaplafaeebaaGreatDoor
