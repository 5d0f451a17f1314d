/-
  The law of order, for any four solids.
-/
import Derived.Test.YtadkaplafaeebaaGreatDoorOrderL
import Derived.Test.YtadkaplafaeebaaGreatDoorBothO
import Derived.Test.YtadkaplafaeebaaGreatDoorCount
set_option linter.unusedVariables false
set_option linter.unusedSimpArgs false
namespace Go.Proofs.YtadkaplafaeebaaGreatDoor
open Go Go.RowKit

theorem join_fit {f g : Sol} (hf : Fit f) (hg : Fit g) : Fit (joinF f g) := fun i => Nat.or_lt_two_pow (n := 64) (hf i) (hg i)
theorem less_fit {f g : Sol} (hf : Fit f) : Fit (lessF f g) := fun i => andN_lt (hf i)
theorem has_join (f g : Sol) (p : I3) : hasI (joinF f g) p = (hasI f p || hasI g p) := by
  unfold hasI hasC joinF
  rw [Nat.testBit_or]
  cases inG p.1 p.2.1 p.2.2 <;> simp
theorem has_less (f g : Sol) (p : I3) : hasI (lessF f g) p = (hasI f p && !hasI g p) := by
  unfold hasI hasC lessF
  rw [andN_bit]
  cases inG p.1 p.2.1 p.2.2 <;> simp
theorem order_of (f g h m : Sol) (hf : Fit f) (hg : Fit g) (hh : Fit h) (hm : Fit m) (w : World) (hT : Tab64 w) :
    Calls Tryz.prog 12 #[sol f, sol g, sol h, sol m] w (RetB (.bool true) w) := by
  have hl := less_fit (g := m) hg
  have hj := join_fit hf hm
  obtain ⟨a0, b0, c0, d0, H0⟩ := fits_form f f hf hf
  obtain ⟨a1, b1, c1, d1, H1⟩ := fits_form f g hf hg
  obtain ⟨a2, b2, c2, d2, H2⟩ := fits_form g h hg hh
  obtain ⟨a3, b3, c3, d3, H3⟩ := fits_form f h hf hh
  obtain ⟨a4, b4, c4, d4, H4⟩ := fits_form f (lessF g m) hf hl
  obtain ⟨a5, b5, c5, d5, H5⟩ := fits_form (joinF f m) g hj hg
  rw [(fitB_iff hf hf).2 (fit_self f)] at H0
  refine order_core f g h m (lessF g m) (joinF f m) a0 b0 c0 d0 a1 b1 c1 d1 a2 b2 c2 d2 a3 b3 c3 d3 a4 b4 c4 d4 a5 b5 c5 d5 (fitB f g) (fitB g h) (fitB f h) (fitB f (lessF g m)) (fitB (joinF f m) g) (numF f) (numF g) w hT
    (Lib.hid H0) (Lib.hid H1) (Lib.hid H2) (Lib.hid H3) (Lib.hid fun W => less_ok g m W hg hm) (Lib.hid H4) (Lib.hid fun W => join_ok f m W hf hm) (Lib.hid H5) (Lib.hid fun W => count_ok g W hg) (Lib.hid fun W => count_ok f W hf) (Lib.hid fun W h => carved_of ev_cav W h) ?_
  cases hx : fitB f g with
  | false => exact .inl rfl
  | true =>
    have P := (fitB_iff hf hg).1 hx
    refine .inr ⟨rfl, ?_, num_fit P, (fitB_iff hf hl).2 (fit_less (fun p hp => ?_) P), (fitB_iff hj hg).2 (fit_more (fun p hp => ?_) P)⟩
    · cases hy : fitB g h with
      | false => exact .inl rfl
      | true => exact .inr ⟨rfl, (fitB_iff hf hh).2 (fit_trans P ((fitB_iff hg hh).1 hy))⟩
    · rw [has_less, Bool.and_eq_true] at hp
      exact hp.1
    · rw [has_join, hp]
      rfl
end Go.Proofs.YtadkaplafaeebaaGreatDoor
