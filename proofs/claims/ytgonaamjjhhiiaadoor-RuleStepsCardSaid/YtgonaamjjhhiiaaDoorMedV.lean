/-
  The statement on neighbours: what the functions return there.
-/
import Derived.Test.YtgonaamjjhhiiaaDoorMed
set_option linter.unusedVariables false
set_option linter.unusedSimpArgs false
namespace Go.Proofs.YtgonaamjjhhiiaaDoor
open Go Go.RowKit

/-- The neighbours of a right fraction that is no whole number. -/
theorem nb_facts {n d a b : Int} (ha : okQ n d = true) (hd : ¬ d = 1) (b1 : 1 ≤ b) (b2 : b ≤ d - 1) (hdet : n * b - a * d = 1) (a1 : -1000000000 ≤ a) (a2 : a ≤ 1000000000) :
    okQ a b = true ∧ okQ (n - a) (d - b) = true ∧ (n - a) * b - a * (d - b) = 1 ∧ ltB a b n d = true ∧ ltB n d (n - a) (d - b) = true := by
  obtain ⟨h1, h2, h3, h4, h5⟩ := okQ_iff.1 ha
  have e2 : (n - a) * d - n * (d - b) = 1 := by rw [Int.sub_mul, Int.mul_sub]; omega
  have e3 : (n - a) * b - a * (d - b) = 1 := by rw [Int.sub_mul, Int.mul_sub]; omega
  have g1 : gc a b = 1 := by
    have u : gc a b ∣ 1 := by
      rw [← hdet]
      exact Int.dvd_sub (Int.dvd_mul_of_dvd_right (gc_dvd_r a b)) (Int.dvd_mul_of_dvd_left (gc_dvd_l a b))
    have := Int.le_of_dvd (by omega) u
    have := gc_pos (n := a) (d := b) (by omega)
    omega
  have g2 : gc (n - a) (d - b) = 1 := by
    have u : gc (n - a) (d - b) ∣ 1 := by
      rw [← e3]
      exact Int.dvd_sub (Int.dvd_mul_of_dvd_left (gc_dvd_l _ _)) (Int.dvd_mul_of_dvd_right (gc_dvd_r _ _))
    have := Int.le_of_dvd (by omega) u
    have := gc_pos (n := n - a) (d := d - b) (by omega)
    omega
  have hb := nb_bd (n := -n) (d := d) (b := d - b) (a := -(n - a)) (by omega) (by omega) (by omega) (by omega) (by omega) (by rw [Int.neg_mul, Int.mul_neg, Int.mul_comm d]; omega)
  refine ⟨okQ_iff.2 ⟨b1, by omega, a1, a2, g1⟩, okQ_iff.2 ⟨by omega, by omega, by omega, by omega, g2⟩, e3, ?_, ?_⟩
  · unfold ltB; rw [decide_eq_true_iff]; omega
  · unfold ltB; rw [decide_eq_true_iff]; omega

theorem inv_ex {n m : Int} (hm : 2 ≤ m) (k : Nat) : ∀ before rest cb c : Int, rest.toNat ≤ k → Inv n m before rest cb c → ∃ x, 1 ≤ x ∧ x ≤ m - 1 ∧ m ∣ n * x - 1 := by
  induction k with
  | zero =>
    intro before rest cb c h hI
    have := hI.rp
    obtain rfl : rest = 0 := by omega
    exact ⟨_, hI.last hm⟩
  | succ k ih =>
    intro before rest cb c h hI
    by_cases hr : rest = 0
    · subst hr
      exact ⟨_, hI.last hm⟩
    · have hn := hI.next hr
      have h1 := hn.rb
      have h2 := hn.rp
      exact ih _ _ _ _ (by omega) hn
/-- The lower neighbour, and that there is no other one. -/
theorem nb_ex {n d : Int} (ha : okQ n d = true) (hd : ¬ d = 1) : ∃ a b : Int, 1 ≤ b ∧ b ≤ d - 1 ∧ n * b - a * d = 1 ∧ -1000000000 ≤ a ∧ a ≤ 1000000000 := by
  obtain ⟨h1, h2, h3, h4, h5⟩ := okQ_iff.1 ha
  obtain ⟨b, b1, b2, a, hab⟩ := inv_ex (n := n) (m := d) (by omega) _ _ _ _ _ (Nat.le_refl _) (Inv.start (by omega) h5)
  have hb := nb_bd (n := n) (d := d) (b := b) (a := a) (by omega) h3 h4 b1 b2 hab
  exact ⟨a, b, b1, b2, by rw [Int.mul_comm a]; omega, hb.1, hb.2⟩
theorem nb_uniq {n d a b a' b' : Int} (ha : okQ n d = true) (b1 : 1 ≤ b) (b2 : b ≤ d - 1) (h : n * b - a * d = 1) (c1 : 1 ≤ b') (c2 : b' ≤ d - 1) (h' : n * b' - a' * d = 1) : a' = a ∧ b' = b := by
  obtain ⟨h1, h2, h3, h4, h5⟩ := okQ_iff.1 ha
  have e : d ∣ n * (b' - b) := ⟨a' - a, by rw [Int.mul_sub, Int.mul_sub, Int.mul_comm d, Int.mul_comm d]; omega⟩
  have e2 := dvd_of_dvd_mul e h5
  have e3 : b' = b := by
    obtain ⟨k, hk⟩ := e2
    rcases Int.lt_trichotomy k 0 with hh | hh | hh
    · have : d * k ≤ d * (-1) := Int.mul_le_mul_of_nonneg_left (by omega) (by omega)
      omega
    · rw [hh, Int.mul_zero] at hk; omega
    · have : d * 1 ≤ d * k := Int.mul_le_mul_of_nonneg_left (by omega) (by omega)
      omega
  subst e3
  refine ⟨?_, rfl⟩
  have : a' * d = a * d := by omega
  exact Int.eq_of_mul_eq_mul_right (by omega) this
def ckOf (n d : Int) : Int := if okQ n d = true then 0 else 1
theorem CheckFrac_any (n d : Int) (w : World) (h : W2 n d) : Calls Tryd.prog 63 #[.agg #[.int .i64 (n), .int .i64 (d)]] w fun e w' => e = .returned (.int .i64 (ckOf n d)) ∧ Below w.heap.size w w' := by
  unfold ckOf
  by_cases ha : okQ n d = true
  · rw [if_pos ha]; exact CheckFrac_ok n d w ha
  · rw [if_neg ha]; exact CheckFrac_bad n d w h (by simpa using ha)
theorem W2.of_ok {n d : Int} (h : okQ n d = true) : W2 n d := by
  obtain ⟨h1, h2, h3, h4, _⟩ := okQ_iff.1 h
  unfold W2 I64; omega

end Go.Proofs.YtgonaamjjhhiiaaDoor
