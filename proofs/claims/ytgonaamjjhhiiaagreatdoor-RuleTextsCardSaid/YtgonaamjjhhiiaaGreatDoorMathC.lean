/-
  Plain facts: the simplest fraction is right; whole numbers in a range; ranges without one; what the search's end says.
-/
import Derived.Test.YtgonaamjjhhiiaaGreatDoorMathB
set_option linter.unusedSimpArgs false
set_option linter.unusedVariables false
namespace Go.Proofs.YtgonaamjjhhiiaaGreatDoor

theorem Simp.den_le {ln ld hn hd p q : Int} (hl : 1 ≤ ld) (hh : 1 ≤ hd) (hle : ln * hd ≤ hn * ld) (h : Simp ln ld hn hd p q) : q ≤ ld ∧ q ≤ hd :=
  ⟨(h.2.2.2 ln ld hl (Int.le_refl _) hle).1, (h.2.2.2 hn hd hh hle (Int.le_refl _)).1⟩
theorem Simp.gc {ln ld hn hd p q : Int} (h : Simp ln ld hn hd p q) : gc p q = 1 := by
  obtain ⟨h1, h2, h3, h4⟩ := h
  have g1 := gc_pos (n := p) (d := q) (by omega)
  have e1 := lowN_mul p q
  have e2 := lowD_mul p q
  have e3 := lowD_pos (n := p) h1
  have a1 : ln * lowD p q ≤ lowN p q * ld := by
    have : ln * lowD p q * Go.Proofs.YtgonaamjjhhiiaaGreatDoor.gc p q ≤ lowN p q * ld * Go.Proofs.YtgonaamjjhhiiaaGreatDoor.gc p q := by
      rw [Int.mul_assoc, e2, Int.mul_right_comm, e1]; exact h2
    exact Int.le_of_mul_le_mul_right this (by omega)
  have a2 : lowN p q * hd ≤ hn * lowD p q := by
    have : lowN p q * hd * Go.Proofs.YtgonaamjjhhiiaaGreatDoor.gc p q ≤ hn * lowD p q * Go.Proofs.YtgonaamjjhhiiaaGreatDoor.gc p q := by
      rw [Int.mul_right_comm, e1, Int.mul_assoc, e2]; exact h3
    exact Int.le_of_mul_le_mul_right this (by omega)
  have := (h4 _ _ e3 a1 a2).1
  rcases Int.lt_or_le 1 (Go.Proofs.YtgonaamjjhhiiaaGreatDoor.gc p q) with hh | hh
  · have : lowD p q * 2 ≤ lowD p q * Go.Proofs.YtgonaamjjhhiiaaGreatDoor.gc p q := Int.mul_le_mul_of_nonneg_left (by omega) (by omega)
    omega
  · omega
theorem le_of_frac {p q n d B : Int} (hq : 1 ≤ q) (hd : 1 ≤ d) (hqd : q ≤ d) (h : p * d ≤ n * q) (hn : n ≤ B) (hB : 0 ≤ B) : p ≤ B := by
  rcases Int.lt_or_le B p with hp | hp
  · have a1 : (B + 1) * d ≤ p * d := Int.mul_le_mul_of_nonneg_right (by omega) (by omega)
    have a2 : n * q ≤ B * q := Int.mul_le_mul_of_nonneg_right hn (by omega)
    have a3 : B * q ≤ B * d := Int.mul_le_mul_of_nonneg_left hqd hB
    rw [Int.add_mul] at a1
    omega
  · exact hp
theorem Simp.ok {ln ld hn hd p q : Int} (ha : okQ ln ld = true) (hb : okQ hn hd = true) (hle : ln * hd ≤ hn * ld) (h : Simp ln ld hn hd p q) : okQ p q = true := by
  obtain ⟨a1, a2, a3, a4, _⟩ := okQ_iff.1 ha
  obtain ⟨b1, b2, b3, b4, _⟩ := okQ_iff.1 hb
  have hd' := h.den_le a1 b1 hle
  have hg := h.gc
  obtain ⟨h1, h2, h3, _⟩ := h
  have u := le_of_frac h1 b1 hd'.2 h3 b4 (by omega)
  have v := le_of_frac (p := -p) (n := -ln) h1 a1 hd'.1 (by rw [Int.neg_mul, Int.neg_mul]; omega) (B := 1000000000) (by omega) (by omega)
  exact okQ_iff.2 ⟨h1, by omega, by omega, u, hg⟩

theorem Simp.whole {ln ld hn hd : Int} (hl : 1 ≤ ld) (hh : 1 ≤ hd) (h : ceilQ ln ld ≤ hn / hd) : Simp ln ld hn hd (max (ceilQ ln ld) (min (hn / hd) 0)) 1 := by
  have c1 : ceilQ ln ld ≤ max (ceilQ ln ld) (min (hn / hd) 0) := Int.le_max_left ..
  have c2 : max (ceilQ ln ld) (min (hn / hd) 0) ≤ hn / hd := by omega
  have d1 := (ceil_le hl).1 c1
  have d2 := (le_floor hh).1 c2
  refine ⟨by omega, by omega, by omega, fun p' q' hq' h1 h2 => ⟨hq', fun e => ?_⟩⟩
  subst e
  have e1 := (ceil_le hl).2 (by omega : ln ≤ p' * ld)
  have e2 := (le_floor hh).2 (by omega : p' * hd ≤ hn)
  omega

theorem Rng.of_no {ln ld hn hd m : Int} (ha : okQ ln ld = true) (hb : okQ hn hd = true) (hle : ln * hd ≤ hn * ld) (hno : hn / hd < ceilQ ln ld) (hm : 1 ≤ m) (hm' : m ≤ 1000000) : Rng ln ld hn hd m (ln / ld) := by
  obtain ⟨a1, a2, a3, a4, _⟩ := okQ_iff.1 ha
  obtain ⟨b1, b2, b3, b4, _⟩ := okQ_iff.1 hb
  have f1 := floor_le (n := ln) a1
  have f2 := lt_floor (n := ln) a1
  have fb := floor_bd (n := ln) (d := ld) (B := 1000000000) a1 (by omega) (by omega)
  have k1 : ln / ld * ld < ln := by
    rcases Int.lt_or_le (ln / ld * ld) ln with h | h
    · exact h
    · have e : ln = ln / ld * ld := by omega
      have c : ceilQ ln ld ≤ ln / ld := (ceil_le a1).2 h
      have : ln / ld ≤ hn / hd := (le_floor b1).2 (by
        have x : ln / ld * ld * hd ≤ hn * ld := by rw [← e]; exact hle
        rw [Int.mul_right_comm] at x
        exact Int.le_of_mul_le_mul_right x (by omega))
      omega
  have k2 : ceilQ ln ld ≤ ln / ld + 1 := (ceil_le a1).2 (by omega)
  have k3 : hn < (ln / ld + 1) * hd := by
    have x := lt_floor (n := hn) b1
    have : (hn / hd + 1) * hd ≤ (ln / ld + 1) * hd := Int.mul_le_mul_of_nonneg_right (by omega) (by omega)
    omega
  refine ⟨a1, a2, b1, b2, a3, a4, b3, b4, hm, hm', k1, k3, f2, ?_, fb.1, fb.2, hle⟩
  have x : ln / ld * ld * hd < ln * hd := Int.mul_lt_mul_of_pos_right k1 (by omega)
  have y : ln / ld * hd * ld < hn * ld := by rw [Int.mul_right_comm]; omega
  exact Int.lt_of_mul_lt_mul_right y (by omega)

theorem Rng.of_one {n d m : Int} (ha : okQ n d = true) (hm : 1 ≤ m) (hm' : m < d) : Rng n d n d m (n / d) := by
  obtain ⟨a1, a2, a3, a4, a5⟩ := okQ_iff.1 ha
  refine Rng.of_no ha ha (Int.le_refl _) ?_ hm (by omega)
  rcases Int.lt_or_le (n / d) (ceilQ n d) with h | h
  · exact h
  · have e1 := (ceil_le a1).1 h
    have e2 := floor_le (n := n) a1
    have hdv : d ∣ n := ⟨n / d, by rw [Int.mul_comm]; omega⟩
    have : d ∣ 1 := by
      have : d ∣ gc n d := Int.dvd_coe_gcd hdv (Int.dvd_refl d)
      rw [a5] at this; exact this
    have := Int.le_of_dvd (by omega) this
    omega

theorem Srch.simp {ln ld hn hd F a b c e : Int} (g : Rng ln ld hn hd 1000000 F) (h : Srch ln ld hn hd 1000000 F a b c e)
    (hor : 1000000 < b + e ∨ (ln * (b + e) ≤ (a + c) * ld ∧ (a + c) * hd ≤ hn * (b + e))) : Simp ln ld hn hd (a + c) (b + e) := by
  have hx := (h.far g).1
  have hb := between_den h.b1 h.e1 h.det (p := ln) (q := ld) h.lo (by omega)
  have := g.ld2
  rcases hor with h1 | ⟨h1, h2⟩
  · omega
  · exact Simp.of_det g.ld1 g.hd1 h.b1 h.e1 h.det h.lo h.hi h1 h2
theorem Srch.near {n d m F a b c e : Int} (ha : okQ n d = true) (hmd : m < d) (g : Rng n d n d m F) (h : Srch n d n d m F a b c e)
    (hor : m < b + e ∨ (n * (b + e) ≤ (a + c) * d ∧ (a + c) * d ≤ n * (b + e))) : m < b + e ∧ Lo n d m a b ∧ Hi n d m c e := by
  obtain ⟨a1, a2, a3, a4, a5⟩ := okQ_iff.1 ha
  have hm : m < b + e := by
    rcases hor with h1 | ⟨h1, h2⟩
    · exact h1
    · have e1 : d ∣ n * (b + e) := ⟨a + c, by rw [Int.mul_comm d]; omega⟩
      have e2 := dvd_of_dvd_mul e1 a5
      have := Int.le_of_dvd (by have := h.b1; have := h.e1; omega) e2
      omega
  exact ⟨hm, Lo.of_det a1 h.b1 h.e1 h.det h.lo h.hi h.bm hm, Hi.of_det a1 h.b1 h.e1 h.det h.lo h.hi h.em hm⟩
end Go.Proofs.YtgonaamjjhhiiaaGreatDoor
