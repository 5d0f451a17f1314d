/-
  The law of turns, for every solid and two numbers.
-/
import Derived.Test.YtadkaplafaeebaaGreatDoorTurnsL
import Derived.Test.YtadkaplafaeebaaGreatDoorPkX
import Derived.Test.YtadkaplafaeebaaGreatDoorPkY
import Derived.Test.YtadkaplafaeebaaGreatDoorPkV
set_option linter.unusedVariables false
set_option linter.unusedSimpArgs false
namespace Go.Proofs.YtadkaplafaeebaaGreatDoor
open Go Go.RowKit

theorem eq_back {f g : Sol} (h : eqS f g = true) : eqS g f = true := by
  unfold eqS at h ⊢
  obtain ⟨h0, h1, h2, h3, h4, h5, h6, h7⟩ := of_decide_eq_true h
  exact decide_eq_true ⟨h0.symm, h1.symm, h2.symm, h3.symm, h4.symm, h5.symm, h6.symm, h7.symm⟩
theorem eq_self (f : Sol) : eqS f f = true := decide_eq_true ⟨rfl, rfl, rfl, rfl, rfl, rfl, rfl, rfl⟩
def turnsR (f : Sol) : Nat → Sol
  | 0 => f
  | k + 1 => turnedF (turnsR f k) 1
theorem turnsR_fit {f : Sol} (h : Fit f) : ∀ k, Fit (turnsR f k)
  | 0 => h
  | k + 1 => turnedF_fit _ _
theorem out_zero {f : Sol} (hf : Fit f) (he : emptyS f = false) : outB f 0 0 0 = false := by
  have h := boundN hf he
  have := h.x1
  have := h.y1
  have := h.z1
  exact decide_eq_false (by omega)
theorem mot_zero {t : Nat} (h : t < 24) : motB t 0 0 0 = true := by
  unfold motB
  rw [decide_eq_true (by omega)]
  rfl
theorem mot_out {t : Int} (h : ¬ (0 ≤ t ∧ t < 24)) : motB t 0 0 0 = false := by
  unfold motB
  rw [decide_eq_false h]
  rfl
theorem placed_zero (f : Sol) (hf : Fit f) {t : Nat} (ht : t < 24) : ∃ g, eqS (turnedF f t) g = true ∧ ∀ W, Tab64 W → Calls Tryz.prog 48 #[sol f, .agg #[.int .i64 ((t : Int)), .int .i64 (0), .int .i64 (0), .int .i64 (0)]] W (RetB (.tuple #[sol g, .int .i64 0]) W) := by
  cases he : emptyS (turnedF f t) with
  | true => exact ⟨turnedF f t, eq_self _, fun W hW => Placed_empty f t 0 0 0 W hf ht (by decide) hW he⟩
  | false => exact ⟨shiftS (turnedF f t) 0 0 0, eq_back (shift_zero _ (turnedF_fit f t)), fun W hW => Placed_in f t 0 0 0 W hf ht (by decide) hW he (out_zero (turnedF_fit f t) he)⟩
theorem turned_any (p : Sol) (hp : Fit p) (u : Int) : ∃ q e3, ∀ W, Tab64 W → Calls Tryz.prog 42 #[sol p, .int .i64 u] W (RetB (.tuple #[sol q, .int .i64 e3]) W) := by
  by_cases hu : 0 ≤ u ∧ u < 24
  · obtain ⟨n, rfl⟩ := Int.eq_ofNat_of_zero_le hu.1
    exact ⟨_, 0, fun W hW => Turned_yes p n W hp (by omega) hW⟩
  · exact ⟨_, 1, fun W _ => Turned_no p u W (decide_eq_false hu)⟩
theorem turn_zero {m : Nat} (h : m < 24) : turnI 0 m (0, 0, 0) = (0, 0, 0) :=
  (show ∀ k : Fin 24, turnI 0 k.1 (0, 0, 0) = (0, 0, 0) by decide +kernel) ⟨m, h⟩
theorem turns_of (f : Sol) (hf : Fit f) (t u : Int) (w : World) (hT : Tab64 w) :
    Calls Tryz.prog 17 #[sol f, .int .i64 t, .int .i64 u] w (RetB (.bool true) w) := by
  have HR : Hid (∀ k W, k < 4 → Tab64 W → Calls Tryz.prog 42 #[sol (turnsR f k), .int .i64 1] W (RetB (.tuple #[sol (turnsR f (k + 1)), .int .i64 0]) W)) := Lib.hid fun k W _ hW => Turned_yes (turnsR f k) 1 W (turnsR_fit hf k) (by omega) hW
  have HC : Hid (∀ W, Tab64 W → Calls Tryz.prog 20 #[] W (RetB (.bool true) W)) := Lib.hid fun W hW => carved_of ev_cav W hW
  by_cases ht : 0 ≤ t ∧ t < 24
  · obtain ⟨n, rfl⟩ := Int.eq_ofNat_of_zero_le ht.1
    have hn : n < 24 := by omega
    obtain ⟨g, hg, HP⟩ := placed_zero f hf hn
    by_cases hu : 0 ≤ u ∧ u < 24
    · obtain ⟨m, rfl⟩ := Int.eq_ofNat_of_zero_le hu.1
      have hm : m < 24 := by omega
      exact turns_core f (turnedF f n) g (turnedF (turnedF f n) m) (turnedF f (compT n m)) (turnsR f) n m (compT n m : Nat) 0 0 0 w hT
        (Lib.hid fun W hW => Turned_yes f n W hf hn hW) (Lib.hid HP) hg HR rfl (turned_four f hf)
        (Lib.hid fun W => then_in n m 0 0 0 0 0 0 0 0 0 0 0 0 (compT n m) W hn hm (by decide) (by decide) (comp_lt hn hm) (turn_zero hm) rfl rfl rfl (by decide) (comp_to hn hm))
        (Lib.hid fun W hW => Turned_yes (turnedF f n) m W (turnedF_fit f n) hm hW) HC
        (Lib.hid (.inr ⟨rfl, rfl, turned_two f hn hm, fun W hW => Turned_yes f (compT n m) W hf (comp_lt hn hm) hW⟩))
    · obtain ⟨q, e3, HU⟩ := turned_any (turnedF f n) (turnedF_fit f n) u
      exact turns_core f (turnedF f n) g q f (turnsR f) n u 0 0 1 e3 w hT
        (Lib.hid fun W hW => Turned_yes f n W hf hn hW) (Lib.hid HP) hg HR rfl (turned_four f hf)
        (Lib.hid fun W => then_no n 0 0 0 u 0 0 0 W (.inr ⟨mot_zero hn, mot_out hu⟩)) (Lib.hid HU) HC (Lib.hid (.inl rfl))
  · obtain ⟨q, e3, HU⟩ := turned_any (fun _ => 0) fit0 u
    exact turns_core f (fun _ => 0) (fun _ => 0) q f (turnsR f) t u 0 1 1 e3 w hT
      (Lib.hid fun W _ => Turned_no f t W (decide_eq_false ht)) (Lib.hid fun W _ => Placed_no f t 0 0 0 W (mot_out ht)) (eq_self _) HR rfl (turned_four f hf)
      (Lib.hid fun W => then_no t 0 0 0 u 0 0 0 W (.inl (mot_out ht))) (Lib.hid HU) HC (Lib.hid (.inl rfl))
end Go.Proofs.YtadkaplafaeebaaGreatDoor
