/-
  Around and Nearest at given numbers: the two fractions on both sides are there and no other ones; nothing lies nearer.
-/
import Derived.Test.YthoinamncekgmaaDoorNearest
import Derived.Test.YthoinamncekgmaaDoorMedV
import Derived.Test.YthoinamncekgmaaDoorRefA
set_option linter.unusedVariables false
set_option linter.unusedSimpArgs false
namespace Go.Proofs.YthoinamncekgmaaDoor
open Go Go.RowKit

theorem srch_ex {ln ld hn hd m F : Int} (g : Rng ln ld hn hd m F) (k : Nat) : ∀ a b c e : Int, (2 * m - (b + e)).toNat ≤ k → Srch ln ld hn hd m F a b c e →
    ∃ a b c e, Srch ln ld hn hd m F a b c e ∧ (m < b + e ∨ (ln * (b + e) ≤ (a + c) * ld ∧ (a + c) * hd ≤ hn * (b + e))) := by
  induction k with
  | zero =>
    intro a b c e hk h
    have h1 := h.bm; have h2 := h.em; have h3 := g.m1
    exact ⟨a, b, c, e, h, .inl (by omega)⟩
  | succ k ih =>
    intro a b c e hk h
    by_cases h1 : m < b + e
    · exact ⟨a, b, c, e, h, .inl h1⟩
    · by_cases h2 : (a + c) * ld - ln * (b + e) < 0
      · obtain ⟨far, near, s, _, _, _, _, _, _, _, _, _, _, hS, hlt⟩ := h.lowStep g h2 (by omega)
        have := h.e1; have := h.b1
        exact ih _ _ _ _ (by omega) hS
      · by_cases h3 : 0 < (a + c) * hd - hn * (b + e)
        · obtain ⟨far, near, s, _, _, _, _, _, _, _, _, _, _, hS, hlt⟩ := h.highStep g h3 (by omega)
          have := h.e1; have := h.b1
          exact ih _ _ _ _ (by omega) hS
        · exact ⟨a, b, c, e, h, .inr ⟨by omega, by omega⟩⟩
theorem around_ex {n d m : Int} (ha : okQ n d = true) (hm : szB m = true) : ∃ a b c e, Ar n d m a b c e := by
  obtain ⟨m1, m2⟩ := szB_iff.1 hm
  rcases Int.lt_or_le m d with h | h
  · have g := Rng.of_one ha m1 h
    obtain ⟨a, b, c, e, hS, hor⟩ := srch_ex g _ _ _ _ _ (Nat.le_refl _) (Srch.start g)
    exact ⟨a, b, c, e, Ar.of_srch ha m1 h g hS hor⟩
  · exact ⟨n, d, n, d, Ar.self ha h⟩
theorem Ar.unique {n d m a b c e a' b' c' e' : Int} (h : Ar n d m a b c e) (k : Ar n d m a' b' c' e') : a' = a ∧ b' = b ∧ c' = c ∧ e' = e := by
  obtain ⟨h1, h2⟩ := k.lo.unique h.lo
  obtain ⟨h3, h4⟩ := k.hi.unique h.hi
  exact ⟨h1, h2, h3, h4⟩
theorem Around_at {n d m a b c f : Int} (ha : okQ n d = true) (hm : szB m = true) (h : Ar n d m a b c f) (w : World) :
    Calls Tryd.prog 45 #[.agg #[.int .i64 (n), .int .i64 (d)], .int .i64 m] w fun e w' => e = .returned (.tuple #[.agg #[.int .i64 (a), .int .i64 (b)], .agg #[.int .i64 (c), .int .i64 (f)], .int .i64 0]) ∧ Below w.heap.size w w' :=
  (Around_ok n d m w ha hm).mono fun e w' ⟨a', b', c', f', he, hk, hB⟩ => by
    obtain ⟨rfl, rfl, rfl, rfl⟩ := h.unique hk
    exact ⟨he, hB⟩
def neN (n d a b c f : Int) : Int := if nearHi n d a b c f then c else a
def neD (n d a b c f : Int) : Int := if nearHi n d a b c f then f else b
theorem Nearest_at {n d m a b c f : Int} (ha : okQ n d = true) (hm : szB m = true) (h : Ar n d m a b c f) (w : World) :
    Calls Tryd.prog 47 #[.agg #[.int .i64 (n), .int .i64 (d)], .int .i64 m] w fun e w' => e = .returned (.tuple #[.agg #[.int .i64 (neN n d a b c f), .int .i64 (neD n d a b c f)], .int .i64 0]) ∧ Below w.heap.size w w' :=
  (Nearest_ok n d m w ha hm).mono fun e w' ⟨a', b', c', f', he, hk, hB⟩ => by
    obtain ⟨rfl, rfl, rfl, rfl⟩ := h.unique hk
    refine ⟨?_, hB⟩
    rw [he]
    unfold neN neD
    cases nearHi n d a' b' c' f' <;> rfl

theorem Ar.ok {n d m a b c f : Int} (hm : szB m = true) (h : Ar n d m a b c f) : okQ a b = true ∧ okQ c f = true := by
  obtain ⟨m1, m2⟩ := szB_iff.1 hm
  obtain ⟨b1, b2, _, _⟩ := h.lo
  obtain ⟨f1, f2, _, _⟩ := h.hi
  obtain ⟨k1, k2, k3, k4⟩ := h.bd
  exact ⟨okQ_iff.2 ⟨b1, by omega, k1, k2, h.gc1⟩, okQ_iff.2 ⟨f1, by omega, k3, k4, h.gc2⟩⟩

/-- Nothing lies nearer: u is the distance of the nearest one from n/d, v that of another one, both times both Dens. -/
theorem near_least {n d m a b c f y z : Int} (hd : 1 ≤ d) (h : Ar n d m a b c f) (hz : 1 ≤ z) (hzm : z ≤ m) :
    max (n * neD n d a b c f - neN n d a b c f * d) (-(n * neD n d a b c f - neN n d a b c f * d)) * z ≤ max (n * z - y * d) (-(n * z - y * d)) * neD n d a b c f := by
  obtain ⟨b1, b2, b3, b4⟩ := h.lo
  obtain ⟨f1, f2, f3, f4⟩ := h.hi
  -- both distances are not below 0
  have lo0 : 0 ≤ n * b - a * d := by omega
  have hi0 : 0 ≤ c * d - n * f := by omega
  -- what lies below is not nearer than the lower one, what lies above not nearer than the upper one
  have below : y * d ≤ n * z → (n * b - a * d) * z ≤ (n * z - y * d) * b := fun hy => by
    have := (b4 y z hz hzm hy).1
    have e1 : (n * b - a * d) * z = n * b * z - a * z * d := by grind
    have e2 : (n * z - y * d) * b = n * b * z - y * b * d := by grind
    have : y * b * d ≤ a * z * d := Int.mul_le_mul_of_nonneg_right this (by omega)
    omega
  have above : n * z ≤ y * d → (c * d - n * f) * z ≤ (y * d - n * z) * f := fun hy => by
    have := (f4 y z hz hzm hy).1
    have e1 : (c * d - n * f) * z = c * z * d - n * f * z := by grind
    have e2 : (y * d - n * z) * f = y * f * d - n * f * z := by grind
    have : c * z * d ≤ y * f * d := Int.mul_le_mul_of_nonneg_right this (by omega)
    omega
  have hZ : nearZ n d a b c f = ((c * d - n * f) * b - (n * b - a * d) * f) * d := by unfold nearZ; grind
  unfold neN neD
  cases hh : nearHi n d a b c f with
  | true =>
    have hc : nearZ n d a b c f ≤ 0 := by
      unfold nearHi at hh
      have := of_decide_eq_true hh
      omega
    have hle : (c * d - n * f) * b ≤ (n * b - a * d) * f := by
      rcases Int.lt_or_le ((n * b - a * d) * f) ((c * d - n * f) * b) with q | q
      · have : 0 < nearZ n d a b c f := by rw [hZ]; exact Int.mul_pos (by omega) (by omega)
        omega
      · exact q
    simp only [if_true]
    rw [show max (n * f - c * d) (-(n * f - c * d)) = c * d - n * f by omega]
    rcases Int.le_total (y * d) (n * z) with hy | hy
    · rw [show max (n * z - y * d) (-(n * z - y * d)) = n * z - y * d by omega]
      have k1 := below hy
      have k2 : (c * d - n * f) * b * z ≤ (n * b - a * d) * f * z := Int.mul_le_mul_of_nonneg_right hle (by omega)
      have k3 : (n * b - a * d) * z * f ≤ (n * z - y * d) * b * f := Int.mul_le_mul_of_nonneg_right k1 (by omega)
      have e : (n * b - a * d) * f * z = (n * b - a * d) * z * f := by grind
      have k4 : (c * d - n * f) * z * b ≤ (n * z - y * d) * f * b := by
        have e1 : (c * d - n * f) * z * b = (c * d - n * f) * b * z := by grind
        have e2 : (n * z - y * d) * f * b = (n * z - y * d) * b * f := by grind
        omega
      exact Int.le_of_mul_le_mul_right k4 (by omega)
    · rw [show max (n * z - y * d) (-(n * z - y * d)) = y * d - n * z by omega]
      exact above hy
  | false =>
    have hc : 0 ≤ nearZ n d a b c f := by
      unfold nearHi at hh
      have := of_decide_eq_false hh
      omega
    have hle : (n * b - a * d) * f ≤ (c * d - n * f) * b := by
      rcases Int.lt_or_le ((c * d - n * f) * b) ((n * b - a * d) * f) with q | q
      · have : nearZ n d a b c f < 0 := by rw [hZ]; exact Int.mul_neg_of_neg_of_pos (by omega) (by omega)
        omega
      · exact q
    simp only [Bool.false_eq_true, if_false]
    rw [show max (n * b - a * d) (-(n * b - a * d)) = n * b - a * d by omega]
    rcases Int.le_total (y * d) (n * z) with hy | hy
    · rw [show max (n * z - y * d) (-(n * z - y * d)) = n * z - y * d by omega]
      exact below hy
    · rw [show max (n * z - y * d) (-(n * z - y * d)) = y * d - n * z by omega]
      have k1 := above hy
      have k2 : (n * b - a * d) * f * z ≤ (c * d - n * f) * b * z := Int.mul_le_mul_of_nonneg_right hle (by omega)
      have k3 : (c * d - n * f) * z * b ≤ (y * d - n * z) * f * b := Int.mul_le_mul_of_nonneg_right k1 (by omega)
      have k4 : (n * b - a * d) * z * f ≤ (y * d - n * z) * b * f := by
        have e1 : (n * b - a * d) * z * f = (n * b - a * d) * f * z := by grind
        have e2 : (y * d - n * z) * b * f = (y * d - n * z) * f * b := by grind
        have e3 : (c * d - n * f) * b * z = (c * d - n * f) * z * b := by grind
        omega
      exact Int.le_of_mul_le_mul_right k4 (by omega)

/-- The nearest one's distance is small. -/
theorem near_small {n d m a b c f : Int} (h : Ar n d m a b c f) (hd : 1 ≤ d) (hd' : d ≤ 1000000) :
    -1000000 ≤ n * neD n d a b c f - neN n d a b c f * d ∧ n * neD n d a b c f - neN n d a b c f * d ≤ 1000000 := by
  obtain ⟨b1, b2, b3, b4⟩ := h.lo
  obtain ⟨f1, f2, f3, f4⟩ := h.hi
  obtain ⟨k1, k2⟩ := h.dd
  have lo0 : 0 ≤ n * b - a * d := by omega
  have hi0 : 0 ≤ c * d - n * f := by omega
  have q1 : (n * b - a * d) * 1 ≤ (n * b - a * d) * f := Int.mul_le_mul_of_nonneg_left f1 lo0
  have q2 : (c * d - n * f) * 1 ≤ (c * d - n * f) * b := Int.mul_le_mul_of_nonneg_left b1 hi0
  unfold neN neD
  cases nearHi n d a b c f <;> simp only [Bool.false_eq_true, if_false, if_true] <;> omega
end Go.Proofs.YthoinamncekgmaaDoor
