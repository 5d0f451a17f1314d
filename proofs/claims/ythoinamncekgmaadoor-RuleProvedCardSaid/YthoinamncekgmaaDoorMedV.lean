/-
  The statement on neighbours: what the functions return there.
-/
import Derived.Test.YthoinamncekgmaaDoorMed
set_option linter.unusedVariables false
set_option linter.unusedSimpArgs false
namespace Go.Proofs.YthoinamncekgmaaDoor
open Go Go.RowKit

/-- The neighbours of a right fraction that is no whole number. -/
theorem nb_facts {n d a b : Int} (ha : okQ n d = true) (hd : ¬ d = 1) (b1 : 1 ≤ b) (b2 : b ≤ d - 1) (hdet : n * b - a * d = 1) (a1 : -1000000000 ≤ a) (a2 : a ≤ 1000000000) :
    okQ a b = true ∧ okQ (n - a) (d - b) = true ∧ (n - a) * b - a * (d - b) = 1 ∧ ltB a b n d = true ∧ ltB n d (n - a) (d - b) = true := by
  obtain ⟨h1, h2, h3, h4, h5⟩ := okQ_iff.1 ha
  have e2 : (n - a) * d - n * (d - b) = 1 := by rw [Int.sub_mul, Int.mul_sub]; omega
  have e3 : (n - a) * b - a * (d - b) = 1 := by rw [Int.sub_mul, Int.mul_sub]; omega
  have g1 : gc a b = 1 := by
    have u : gc a b ∣ 1 := by
      rw [← hdet]
      exact Int.dvd_sub (Int.dvd_mul_of_dvd_right (gc_dvd_r a b)) (Int.dvd_mul_of_dvd_left (gc_dvd_l a b))
    have := Int.le_of_dvd (by omega) u
    have := gc_pos (n := a) (d := b) (by omega)
    omega
  have g2 : gc (n - a) (d - b) = 1 := by
    have u : gc (n - a) (d - b) ∣ 1 := by
      rw [← e3]
      exact Int.dvd_sub (Int.dvd_mul_of_dvd_left (gc_dvd_l _ _)) (Int.dvd_mul_of_dvd_right (gc_dvd_r _ _))
    have := Int.le_of_dvd (by omega) u
    have := gc_pos (n := n - a) (d := d - b) (by omega)
    omega
  have hb := nb_bd (n := -n) (d := d) (b := d - b) (a := -(n - a)) (by omega) (by omega) (by omega) (by omega) (by omega) (by rw [Int.neg_mul, Int.mul_neg, Int.mul_comm d]; omega)
  refine ⟨okQ_iff.2 ⟨b1, by omega, a1, a2, g1⟩, okQ_iff.2 ⟨by omega, by omega, by omega, by omega, g2⟩, e3, ?_, ?_⟩
  · unfold ltB; rw [decide_eq_true_iff]; omega
  · unfold ltB; rw [decide_eq_true_iff]; omega

theorem inv_ex {n m : Int} (hm : 2 ≤ m) (k : Nat) : ∀ before rest cb c : Int, rest.toNat ≤ k → Inv n m before rest cb c → ∃ x, 1 ≤ x ∧ x ≤ m - 1 ∧ m ∣ n * x - 1 := by
  induction k with
  | zero =>
    intro before rest cb c h hI
    have := hI.rp
    obtain rfl : rest = 0 := by omega
    exact ⟨_, hI.last hm⟩
  | succ k ih =>
    intro before rest cb c h hI
    by_cases hr : rest = 0
    · subst hr
      exact ⟨_, hI.last hm⟩
    · have hn := hI.next hr
      have h1 := hn.rb
      have h2 := hn.rp
      exact ih _ _ _ _ (by omega) hn
/-- The lower neighbour, and that there is no other one. -/
theorem nb_ex {n d : Int} (ha : okQ n d = true) (hd : ¬ d = 1) : ∃ a b : Int, 1 ≤ b ∧ b ≤ d - 1 ∧ n * b - a * d = 1 ∧ -1000000000 ≤ a ∧ a ≤ 1000000000 := by
  obtain ⟨h1, h2, h3, h4, h5⟩ := okQ_iff.1 ha
  obtain ⟨b, b1, b2, a, hab⟩ := inv_ex (n := n) (m := d) (by omega) _ _ _ _ _ (Nat.le_refl _) (Inv.start (by omega) h5)
  have hb := nb_bd (n := n) (d := d) (b := b) (a := a) (by omega) h3 h4 b1 b2 hab
  exact ⟨a, b, b1, b2, by rw [Int.mul_comm a]; omega, hb.1, hb.2⟩
theorem nb_uniq {n d a b a' b' : Int} (ha : okQ n d = true) (b1 : 1 ≤ b) (b2 : b ≤ d - 1) (h : n * b - a * d = 1) (c1 : 1 ≤ b') (c2 : b' ≤ d - 1) (h' : n * b' - a' * d = 1) : a' = a ∧ b' = b := by
  obtain ⟨h1, h2, h3, h4, h5⟩ := okQ_iff.1 ha
  have e : d ∣ n * (b' - b) := ⟨a' - a, by rw [Int.mul_sub, Int.mul_sub, Int.mul_comm d, Int.mul_comm d]; omega⟩
  have e2 := dvd_of_dvd_mul e h5
  have e3 : b' = b := by
    obtain ⟨k, hk⟩ := e2
    rcases Int.lt_trichotomy k 0 with hh | hh | hh
    · have : d * k ≤ d * (-1) := Int.mul_le_mul_of_nonneg_left (by omega) (by omega)
      omega
    · rw [hh, Int.mul_zero] at hk; omega
    · have : d * 1 ≤ d * k := Int.mul_le_mul_of_nonneg_left (by omega) (by omega)
      omega
  subst e3
  refine ⟨?_, rfl⟩
  have : a' * d = a * d := by omega
  exact Int.eq_of_mul_eq_mul_right (by omega) this
def ckOf (n d : Int) : Int := if okQ n d = true then 0 else 1
theorem CheckFrac_any (n d : Int) (w : World) (h : W2 n d) : Calls Tryd.prog 24 #[.agg #[.int .i64 (n), .int .i64 (d)]] w fun e w' => e = .returned (.int .i64 (ckOf n d)) ∧ Below w.heap.size w w' := by
  unfold ckOf
  by_cases ha : okQ n d = true
  · rw [if_pos ha]; exact CheckFrac_ok n d w ha
  · rw [if_neg ha]; exact CheckFrac_bad n d w h (by simpa using ha)
theorem W2.of_ok {n d : Int} (h : okQ n d = true) : W2 n d := by
  obtain ⟨h1, h2, h3, h4, _⟩ := okQ_iff.1 h
  unfold W2 I64; omega

theorem med_of (hl : AliveOk) (n d yn yd : Int) (w : World) (h1 : W2 n d) (h2 : W2 yn yd) (ht : Pow10 w) :
    Calls Tryd.prog 13 #[.agg #[.int .i64 (n), .int .i64 (d)], .agg #[.int .i64 (yn), .int .i64 (yd)]] w fun e w' => e = .returned (.bool true) ∧ Below w.heap.size w w' := by
  by_cases ha : okQ n d = true
  · by_cases hd : d = 1
    · subst hd
      exact med_err n 1 yn yd 13 w ht hl (by decide) (fun W => Neighbours_whole n W ha)
    · obtain ⟨k1, k2, k3, k4, k5⟩ := okQ_iff.1 ha
      obtain ⟨a, b, b1, b2, hab, a1, a2⟩ := nb_ex ha hd
      obtain ⟨o1, o2, hdet, l1, l2⟩ := nb_facts ha hd b1 b2 hab a1 a2
      obtain ⟨_, _, p3, p4, _⟩ := okQ_iff.1 o2
      refine med_core n d yn yd a b (n - a) (d - b) (ckOf yn yd) ((okQ a b && okQ yn yd) && ltB a b yn yd) ((okQ yn yd && okQ (n - a) (d - b)) && ltB yn yd (n - a) (d - b)) w ht hl (by omega) (by omega) (by omega) (by omega) (by omega) (by omega)
        (fun W => (Neighbours_ok n d W ha hd).mono fun e w' ⟨a', b', he, c1, c2, hab', _, _, hB⟩ => ?_) (fun W => ?_) (fun W => ?_) (fun W => CheckFrac_any yn yd W h2) (fun W => less_any a b yn yd W (W2.of_ok o1) h2) (fun W => less_any yn yd (n - a) (d - b) W h2 (W2.of_ok o2)) ?_
      · obtain ⟨rfl, rfl⟩ := nb_uniq ha b1 b2 hab c1 c2 hab'
        exact ⟨he, hB⟩
      · have h := less_any a b n d W (W2.of_ok o1) h1
        rw [o1, ha, l1] at h
        exact h
      · have h := less_any n d (n - a) (d - b) W h1 (W2.of_ok o2)
        rw [o2, ha, l2] at h
        exact h
      · by_cases hy : okQ yn yd = true
        · have hc : (ckOf yn yd != 0) = false := by rw [ckOf, if_pos hy]; rfl
          rw [hy, o1, o2]
          by_cases e1 : yn = n
          · by_cases e2 : yd = d
            · exact .inr (.inl ⟨hc, e1, e2⟩)
            · have hq : (yn == n) = false ∨ (yn = n ∧ (yd == d) = false) := .inr ⟨e1, by simpa using e2⟩
              cases q1 : ltB a b yn yd with
              | false => exact .inr (.inr (.inl ⟨hc, hq, rfl⟩))
              | true =>
                cases q2 : ltB yn yd (n - a) (d - b) with
                | false => exact .inr (.inr (.inr (.inl ⟨hc, hq, rfl, rfl⟩)))
                | true =>
                  have r1 : a * yd - yn * b < 0 := by unfold ltB at q1; exact of_decide_eq_true q1
                  have r2 : yn * (d - b) - (n - a) * yd < 0 := by unfold ltB at q2; exact of_decide_eq_true q2
                  have := between_den (by omega) (by omega) hdet (show a * yd < yn * b by omega) (show yn * (d - b) < (n - a) * yd by omega)
                  exact .inr (.inr (.inr (.inr ⟨hc, hq, rfl, rfl, by omega⟩)))
          · have hq : (yn == n) = false ∨ (yn = n ∧ (yd == d) = false) := .inl (by simpa using e1)
            cases q1 : ltB a b yn yd with
            | false => exact .inr (.inr (.inl ⟨hc, hq, rfl⟩))
            | true =>
              cases q2 : ltB yn yd (n - a) (d - b) with
              | false => exact .inr (.inr (.inr (.inl ⟨hc, hq, rfl, rfl⟩)))
              | true =>
                have r1 : a * yd - yn * b < 0 := by unfold ltB at q1; exact of_decide_eq_true q1
                have r2 : yn * (d - b) - (n - a) * yd < 0 := by unfold ltB at q2; exact of_decide_eq_true q2
                have := between_den (by omega) (by omega) hdet (show a * yd < yn * b by omega) (show yn * (d - b) < (n - a) * yd by omega)
                refine .inr (.inr (.inr (.inr ⟨hc, hq, rfl, rfl, ?_⟩)))
                rcases Int.lt_or_le d yd with hh | hh
                · exact hh
                · exact absurd (this.2 (by omega)) (by omega)
        · exact .inl (by rw [ckOf, if_neg hy]; rfl)
  · exact med_err n d yn yd 1 w ht hl (by decide) (fun W => Neighbours_arg n d W h1 (by simpa using ha))
end Go.Proofs.YthoinamncekgmaaDoor
