/-
  The two fractions on both sides, found by trying one Den after the other.
-/
import Derived.Test.YthoinamncekgmaaDoorMath
set_option linter.unusedVariables false
set_option linter.unusedSimpArgs false
namespace Go.Proofs.YthoinamncekgmaaDoor

theorem fl_le {n d p : Int} (hd : 1 ≤ d) : p ≤ n / d ↔ p * d ≤ n := Int.le_ediv_iff_mul_le (by omega)
theorem fl_mul {n d : Int} (hd : 1 ≤ d) : (n / d) * d ≤ n ∧ n - d < (n / d) * d := by
  have h1 : n % d + d * (n / d) = n := by first | exact Int.emod_add_mul_ediv n d | exact Int.emod_add_ediv n d
  have h2 := Int.emod_nonneg n (b := d) (by omega)
  have h3 := Int.emod_lt_of_pos n (b := d) (by omega)
  rw [Int.mul_comm] at h1
  omega
theorem Lo.start {n d : Int} (hd : 1 ≤ d) : Lo n d 1 (n / d) 1 := by
  refine ⟨by omega, by omega, by have := (fl_mul (n := n) hd).1; omega, fun p q h1 h2 h3 => ?_⟩
  obtain rfl : q = 1 := by omega
  have := (fl_le (n := n) (p := p) hd).2 (by omega)
  omega
theorem Lo.keep {n d m p q : Int} (hd : 1 ≤ d) (h : Lo n d m p q) (hk : (n * (m + 1)) / d * q ≤ p * (m + 1)) : Lo n d (m + 1) p q := by
  obtain ⟨h1, h2, h3, h4⟩ := h
  refine ⟨h1, by omega, h3, fun a b b1 b2 b3 => ?_⟩
  rcases Int.lt_or_le m b with hh | hh
  · obtain rfl : b = m + 1 := by omega
    have k1 := (fl_le (n := n * (m + 1)) (p := a) hd).2 (by omega)
    have k2 : a * q ≤ (n * (m + 1)) / d * q := Int.mul_le_mul_of_nonneg_right k1 (by omega)
    exact ⟨by omega, fun _ => by omega⟩
  · exact h4 a b b1 hh b3
theorem Lo.take {n d m p q : Int} (hd : 1 ≤ d) (h : Lo n d m p q) (hk : p * (m + 1) < (n * (m + 1)) / d * q) : Lo n d (m + 1) ((n * (m + 1)) / d) (m + 1) := by
  obtain ⟨h1, h2, h3, h4⟩ := h
  refine ⟨by omega, by omega, (fl_mul (n := n * (m + 1)) hd).1, fun a b b1 b2 b3 => ?_⟩
  rcases Int.lt_or_le m b with hh | hh
  · obtain rfl : b = m + 1 := by omega
    have k1 := (fl_le (n := n * (m + 1)) (p := a) hd).2 (by omega)
    exact ⟨Int.mul_le_mul_of_nonneg_right k1 (by omega), fun _ => by omega⟩
  · obtain ⟨k1, _⟩ := h4 a b b1 hh b3
    have k2 : a * q * (m + 1) ≤ p * b * (m + 1) := Int.mul_le_mul_of_nonneg_right k1 (by omega)
    have k3 : p * (m + 1) * b < (n * (m + 1)) / d * q * b := Int.mul_lt_mul_of_pos_right hk (by omega)
    generalize (n * (m + 1)) / d = f at *
    have e1 : a * q * (m + 1) = a * (m + 1) * q := by grind
    have e2 : p * b * (m + 1) = p * (m + 1) * b := by grind
    have e3 : f * q * b = f * b * q := by grind
    have k4 : a * (m + 1) * q < f * b * q := by omega
    have k5 := Int.lt_of_mul_lt_mul_right k4 (by omega)
    exact ⟨by omega, fun _ => by omega⟩
theorem Lo.small {n d m p q : Int} (ha : okQ n d = true) (h : Lo n d m p q) : q ≤ d ∧ -1000000001 ≤ p ∧ p ≤ 1000000000 := by
  obtain ⟨d1, d2, d3, d4, _⟩ := okQ_iff.1 ha
  obtain ⟨h1, h2, h3, h4⟩ := h
  have hq : q ≤ d := by
    rcases Int.lt_or_le m d with hh | hh
    · omega
    · have := h4 n d d1 hh (Int.le_refl _)
      exact this.2 (by omega)
  have f1 := fl_mul (n := n * q) d1
  have k1 := (h4 ((n * q) / d) q h1 h2 f1.1).1
  have k2 : (n * q) / d ≤ p := Int.le_of_mul_le_mul_right k1 (by omega)
  have k3 := (fl_le (n := n * q) (p := p) d1).2 h3
  have e : p = (n * q) / d := by omega
  rw [← e] at f1
  refine ⟨hq, ?_, ?_⟩
  · rcases Int.lt_or_le p (-1000000001) with hh | hh
    · have u1 : p * d ≤ -1000000002 * d := Int.mul_le_mul_of_nonneg_right (by omega) (by omega)
      have u2 : -1000000000 * q ≤ n * q := Int.mul_le_mul_of_nonneg_right d3 (by omega)
      omega
    · exact hh
  · rcases Int.lt_or_le 1000000000 p with hh | hh
    · have u1 : 1000000001 * d ≤ p * d := Int.mul_le_mul_of_nonneg_right (by omega) (by omega)
      have u2 : n * q ≤ 1000000000 * q := Int.mul_le_mul_of_nonneg_right d4 (by omega)
      omega
    · exact hh
theorem fl_bd {n d m q : Int} (ha : okQ n d = true) (hm : 1 ≤ m) (hm' : m ≤ 1000000) (hq : 1 ≤ q) (hqd : q ≤ d) : -2000000000000000 ≤ (n * m) / d * q ∧ (n * m) / d * q ≤ 2000000000000000 := by
  obtain ⟨d1, d2, d3, d4, _⟩ := okQ_iff.1 ha
  have f1 := fl_mul (n := n * m) d1
  have m1 := mul_bd (a := n) (b := m) (A := 1000000000) (B := 1000000) (by omega) (by omega) (by omega) (by omega)
  generalize (n * m) / d = f at *
  rcases Int.le_total 0 f with hf | hf
  · have u1 : f * q ≤ f * d := Int.mul_le_mul_of_nonneg_left hqd hf
    have u2 := Int.mul_nonneg hf (show 0 ≤ q by omega)
    omega
  · have u1 : f * d ≤ f * q := Int.mul_le_mul_of_nonpos_left hf hqd
    have u2 := Int.mul_nonpos_of_nonpos_of_nonneg hf (show 0 ≤ q by omega)
    omega

theorem hi_lo {n d m a b : Int} : Hi n d m a b ↔ Lo (-n) d m (-a) b := by
  unfold Hi Lo
  constructor
  · rintro ⟨h1, h2, h3, h4⟩
    refine ⟨h1, h2, by rw [Int.neg_mul, Int.neg_mul]; omega, fun p q q1 q2 q3 => ?_⟩
    rw [Int.neg_mul] at q3
    have := h4 (-p) q q1 q2 (by rw [Int.neg_mul]; omega)
    rw [Int.neg_mul] at this
    rw [Int.neg_mul]
    exact ⟨by omega, fun h => this.2 (by omega)⟩
  · rintro ⟨h1, h2, h3, h4⟩
    rw [Int.neg_mul, Int.neg_mul] at h3
    refine ⟨h1, h2, by omega, fun p q q1 q2 q3 => ?_⟩
    have := h4 (-p) q q1 q2 (by rw [Int.neg_mul, Int.neg_mul]; omega)
    rw [Int.neg_mul, Int.neg_mul] at this
    exact ⟨by omega, fun h => this.2 (by omega)⟩
theorem okQ_neg {n d : Int} (h : okQ n d = true) : okQ (-n) d = true := by
  obtain ⟨d1, d2, d3, d4, d5⟩ := okQ_iff.1 h
  exact okQ_iff.2 ⟨d1, d2, by omega, by omega, by unfold gc at *; rw [Int.neg_gcd]; exact d5⟩
theorem ce_neg (n d : Int) : (-n) / d = -(ceilQ n d) := by unfold ceilQ; omega
theorem Hi.start {n d : Int} (hd : 1 ≤ d) : Hi n d 1 (ceilQ n d) 1 := hi_lo.2 (by have := Lo.start (n := -n) hd; rw [ce_neg] at this; exact this)
theorem Hi.keep {n d m p q : Int} (hd : 1 ≤ d) (h : Hi n d m p q) (hk : p * (m + 1) ≤ ceilQ (n * (m + 1)) d * q) : Hi n d (m + 1) p q :=
  hi_lo.2 ((hi_lo.1 h).keep hd (by simp only [Int.neg_mul, ce_neg]; omega))
theorem Hi.take {n d m p q : Int} (hd : 1 ≤ d) (h : Hi n d m p q) (hk : ceilQ (n * (m + 1)) d * q < p * (m + 1)) : Hi n d (m + 1) (ceilQ (n * (m + 1)) d) (m + 1) := by
  have := (hi_lo.1 h).take hd (by simp only [Int.neg_mul, ce_neg]; omega)
  rw [Int.neg_mul, ce_neg] at this
  exact hi_lo.2 this
theorem Hi.small {n d m p q : Int} (ha : okQ n d = true) (h : Hi n d m p q) : q ≤ d ∧ -1000000001 ≤ p ∧ p ≤ 1000000001 := by
  have := (hi_lo.1 h).small (okQ_neg ha)
  omega
theorem ce_bd {n d m q : Int} (ha : okQ n d = true) (hm : 1 ≤ m) (hm' : m ≤ 1000000) (hq : 1 ≤ q) (hqd : q ≤ d) : -2000000000000000 ≤ ceilQ (n * m) d * q ∧ ceilQ (n * m) d * q ≤ 2000000000000000 := by
  have := fl_bd (okQ_neg ha) hm hm' hq hqd
  rw [Int.neg_mul, ce_neg, Int.neg_mul] at this
  omega
end Go.Proofs.YthoinamncekgmaaDoor
