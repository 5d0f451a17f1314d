/-
  Plain facts on whole numbers and fractions for the layer rule: greatest divisors, lowest terms, the tree of fractions, floor and ceil, the inverse of a number. Nothing of the program stands here.
-/
set_option linter.unusedSimpArgs false
set_option linter.unusedVariables false
namespace Go.Proofs.YtgonaamjjhhiiaaGreatDoor

theorem gcd_tmod (a b : Int) : Int.gcd b (a.tmod b) = Int.gcd a b := by
  have : a.tmod b = a + (-(a.tdiv b)) * b := by rw [Int.tmod_def, Int.neg_mul, Int.mul_comm]; omega
  rw [this, Int.gcd_comm a b]
  exact Int.gcd_add_mul_right_right ..

theorem tmod_lt (a : Int) {b : Int} (hb : b ≠ 0) : (a.tmod b).natAbs < b.natAbs := by
  rw [Int.natAbs_tmod]
  exact Nat.mod_lt _ (by omega)

/-- The greatest divisor of both, as a number. -/
def gc (n d : Int) : Int := (Int.gcd n d : Int)
theorem gc_nonneg (n d : Int) : 0 ≤ gc n d := by unfold gc; omega
theorem gc_pos {n d : Int} (h : d ≠ 0) : 1 ≤ gc n d := by
  unfold gc; have := Int.gcd_pos_of_ne_zero_right n h; omega
theorem gc_zero (n : Int) : gc n 0 = max n (-n) := by unfold gc; rw [Int.gcd_zero_right]; omega
theorem gc_zero_l (n : Int) : gc 0 n = max n (-n) := by unfold gc; rw [Int.gcd_zero_left]; omega
theorem gc_tmod (a b : Int) : gc b (a.tmod b) = gc a b := by unfold gc; rw [gcd_tmod]
theorem gc_dvd_l (n d : Int) : gc n d ∣ n := Int.gcd_dvd_left ..
theorem gc_dvd_r (n d : Int) : gc n d ∣ d := Int.gcd_dvd_right ..
theorem gc_le_r {n d : Int} (h : 1 ≤ d) : gc n d ≤ d := Int.le_of_dvd (by omega) (gc_dvd_r n d)

theorem tdiv_gc_l (n d : Int) : n.tdiv (gc n d) = n / gc n d := Int.tdiv_eq_ediv_of_dvd (gc_dvd_l n d)
theorem tdiv_gc_r (n d : Int) : d.tdiv (gc n d) = d / gc n d := Int.tdiv_eq_ediv_of_dvd (gc_dvd_r n d)

theorem gc_natAbs (n d : Int) : gc (max n (-n)) d = gc n d := by
  unfold gc
  rcases Int.le_total 0 n with h | h
  · rw [Int.max_eq_left (by omega)]
  · rw [Int.max_eq_right (by omega), Int.neg_gcd]

/-- A fraction is right. -/
def okQ (n d : Int) : Bool := decide (1 ≤ d ∧ d ≤ 1000000 ∧ -1000000000 ≤ n ∧ n ≤ 1000000000 ∧ gc n d = 1)
def ckQ (n d : Int) : Int := if okQ n d then 0 else 1

theorem okQ_iff {n d : Int} : okQ n d = true ↔ 1 ≤ d ∧ d ≤ 1000000 ∧ -1000000000 ≤ n ∧ n ≤ 1000000000 ∧ gc n d = 1 := by
  unfold okQ; exact decide_eq_true_iff

/-- In lowest terms the parts are not too great. -/
def lowN (n d : Int) : Int := n / gc n d
def lowD (n d : Int) : Int := d / gc n d
def lowOk (n d : Int) : Bool := decide (-1000000000 ≤ lowN n d ∧ lowN n d ≤ 1000000000 ∧ lowD n d ≤ 1000000)
theorem lowOk_iff {n d : Int} : lowOk n d = true ↔ -1000000000 ≤ lowN n d ∧ lowN n d ≤ 1000000000 ∧ lowD n d ≤ 1000000 := by
  unfold lowOk; exact decide_eq_true_iff
theorem lowN_mul (n d : Int) : lowN n d * gc n d = n := Int.ediv_mul_cancel (gc_dvd_l n d)
theorem lowD_mul (n d : Int) : lowD n d * gc n d = d := Int.ediv_mul_cancel (gc_dvd_r n d)
theorem lowD_pos {n d : Int} (h : 1 ≤ d) : 1 ≤ lowD n d := by
  have h1 := lowD_mul n d
  have h2 := gc_pos (n := n) (d := d) (by omega)
  rcases Int.lt_or_le 0 (lowD n d) with h3 | h3
  · omega
  · have : lowD n d * gc n d ≤ 0 := Int.mul_nonpos_of_nonpos_of_nonneg h3 (by omega)
    omega
theorem lowD_le {n d : Int} (h : 1 ≤ d) : lowD n d ≤ d := by
  unfold lowD
  exact Int.ediv_le_self _ (by omega)
theorem low_gc {n d : Int} (h : 1 ≤ d) : gc (lowN n d) (lowD n d) = 1 := by
  have hp : 0 < Int.gcd n d := Int.gcd_pos_of_ne_zero_right n (by omega)
  have := Int.gcd_ediv_gcd_ediv_gcd hp
  unfold gc lowN lowD
  unfold gc
  omega
theorem low_of_gc {n d : Int} (h : gc n d = 1) : lowN n d = n ∧ lowD n d = d := by
  unfold lowN lowD; rw [h]; simp
theorem okQ_low {n d : Int} (h : 1 ≤ d) : okQ (lowN n d) (lowD n d) = lowOk n d := by
  rw [Bool.eq_iff_iff, okQ_iff, lowOk_iff]
  have := lowD_pos (n := n) h
  have := low_gc (n := n) h
  omega

/-- Two fractions in lowest terms that are equal as numbers are the same. -/
theorem dvd_of_dvd_mul {k n m : Int} (h : k ∣ n * m) (hg : gc n k = 1) : k ∣ m := by
  have h1 : k ∣ m * n := by rw [Int.mul_comm]; exact h
  have h2 := Int.dvd_mul_gcd_iff_dvd_mul.2 h1
  rw [Int.gcd_comm k n] at h2
  unfold gc at hg
  rw [hg, Int.mul_one] at h2
  exact h2
theorem low_unique {a b c d : Int} (hb : 1 ≤ b) (hd : 1 ≤ d) (h1 : gc a b = 1) (h2 : gc c d = 1) (h : a * d = c * b) : a = c ∧ b = d := by
  have e1 : b ∣ d := by
    have : b ∣ a * d := ⟨c, by rw [h, Int.mul_comm]⟩
    exact dvd_of_dvd_mul this h1
  have e2 : d ∣ b := by
    have : d ∣ c * b := ⟨a, by rw [← h, Int.mul_comm]⟩
    exact dvd_of_dvd_mul this h2
  have e3 : b = d := by
    have := Int.le_of_dvd (by omega) e1
    have := Int.le_of_dvd (by omega) e2
    omega
  subst e3
  exact ⟨Int.eq_of_mul_eq_mul_right (by omega) h, rfl⟩

/-- Bounds of a product. -/
theorem mul_bd {a b A B : Int} (h1 : -A ≤ a) (h2 : a ≤ A) (h3 : -B ≤ b) (h4 : b ≤ B) : -(A * B) ≤ a * b ∧ a * b ≤ A * B := by
  have hA : 0 ≤ A := by omega
  have hB : 0 ≤ B := by omega
  have e : (a * b).natAbs ≤ (A * B).natAbs := by
    rw [Int.natAbs_mul, Int.natAbs_mul]
    exact Nat.mul_le_mul (by omega) (by omega)
  have : 0 ≤ A * B := Int.mul_nonneg hA hB
  omega
theorem sub_pos_mul {a b c : Int} (h : a < b) (hc : 0 < c) : a * c < b * c := Int.mul_lt_mul_of_pos_right h hc

/-- Between two neighbours of the tree all Dens are great. -/
theorem between_den {a b c d p q : Int} (hb : 1 ≤ b) (hd : 1 ≤ d) (hdet : c * b - a * d = 1) (h1 : a * q < p * b) (h2 : p * d < c * q) :
    b + d ≤ q ∧ (q = b + d → p = a + c) := by
  have e1 : q = b * (c * q - p * d) + d * (p * b - a * q) := by
    have : q * (c * b - a * d) = b * (c * q - p * d) + d * (p * b - a * q) := by
      simp only [Int.mul_sub, Int.mul_assoc, Int.mul_comm, Int.mul_left_comm]; omega
    rw [hdet, Int.mul_one] at this; exact this
  have e2 : p = a * (c * q - p * d) + c * (p * b - a * q) := by
    have : p * (c * b - a * d) = a * (c * q - p * d) + c * (p * b - a * q) := by
      simp only [Int.mul_sub, Int.mul_assoc, Int.mul_comm, Int.mul_left_comm]; omega
    rw [hdet, Int.mul_one] at this; exact this
  have u1 : 1 ≤ c * q - p * d := by omega
  have v1 : 1 ≤ p * b - a * q := by omega
  generalize c * q - p * d = u at e1 e2 u1
  generalize p * b - a * q = v at e1 e2 v1
  obtain ⟨u', rfl⟩ : ∃ u', u = u' + 1 := ⟨u - 1, by omega⟩
  obtain ⟨v', rfl⟩ : ∃ v', v = v' + 1 := ⟨v - 1, by omega⟩
  rw [Int.mul_add, Int.mul_add] at e1 e2
  have hu : 0 ≤ b * u' := Int.mul_nonneg (by omega) (by omega)
  have hv : 0 ≤ d * v' := Int.mul_nonneg (by omega) (by omega)
  refine ⟨by omega, fun hq => ?_⟩
  have hu0 : u' = 0 := by
    have : b * u' = 0 := by omega
    rcases Int.mul_eq_zero.1 this with h | h <;> omega
  have hv0 : v' = 0 := by
    have : d * v' = 0 := by omega
    rcases Int.mul_eq_zero.1 this with h | h <;> omega
  subst hu0 hv0
  omega

/-- The greatest fraction that is at most n/d with a Den of at most m, in lowest terms. -/
def Lo (n d m a b : Int) : Prop := 1 ≤ b ∧ b ≤ m ∧ a * d ≤ n * b ∧ ∀ p q, 1 ≤ q → q ≤ m → p * d ≤ n * q → p * b ≤ a * q ∧ (p * b = a * q → b ≤ q)
def Hi (n d m a b : Int) : Prop := 1 ≤ b ∧ b ≤ m ∧ n * b ≤ a * d ∧ ∀ p q, 1 ≤ q → q ≤ m → n * q ≤ p * d → a * q ≤ p * b ∧ (p * b = a * q → b ≤ q)
/-- The simplest fraction from ln/ld to hn/hd. -/
def Simp (ln ld hn hd p q : Int) : Prop := 1 ≤ q ∧ ln * q ≤ p * ld ∧ p * hd ≤ hn * q ∧ ∀ p' q', 1 ≤ q' → ln * q' ≤ p' * ld → p' * hd ≤ hn * q' → q ≤ q' ∧ (q = q' → p.natAbs ≤ p'.natAbs)

theorem Lo.unique {n d m a b a' b' : Int} (h : Lo n d m a b) (h' : Lo n d m a' b') : a = a' ∧ b = b' := by
  obtain ⟨b1, b2, b3, b4⟩ := h
  obtain ⟨c1, c2, c3, c4⟩ := h'
  obtain ⟨x1, x2⟩ := b4 a' b' c1 c2 c3
  obtain ⟨y1, y2⟩ := c4 a b b1 b2 b3
  have e : a' * b = a * b' := by omega
  have := x2 e
  have := y2 e.symm
  have eb : b = b' := by omega
  subst eb
  exact ⟨(Int.eq_of_mul_eq_mul_right (by omega) e).symm, rfl⟩
theorem Hi.unique {n d m a b a' b' : Int} (h : Hi n d m a b) (h' : Hi n d m a' b') : a = a' ∧ b = b' := by
  obtain ⟨b1, b2, b3, b4⟩ := h
  obtain ⟨c1, c2, c3, c4⟩ := h'
  obtain ⟨x1, x2⟩ := b4 a' b' c1 c2 c3
  obtain ⟨y1, y2⟩ := c4 a b b1 b2 b3
  have e : a' * b = a * b' := by omega
  have := x2 e
  have := y2 e.symm
  have eb : b = b' := by omega
  subst eb
  exact ⟨(Int.eq_of_mul_eq_mul_right (by omega) e).symm, rfl⟩
theorem Simp.unique {ln ld hn hd p q p' q' : Int} (hl : 1 ≤ ld) (hh : 1 ≤ hd) (h : Simp ln ld hn hd p q) (h' : Simp ln ld hn hd p' q') : p = p' ∧ q = q' := by
  obtain ⟨b1, b2, b3, b4⟩ := h
  obtain ⟨c1, c2, c3, c4⟩ := h'
  obtain ⟨x1, x2⟩ := b4 p' q' c1 c2 c3
  obtain ⟨y1, y2⟩ := c4 p q b1 b2 b3
  have eb : q = q' := by omega
  subst eb
  have e1 := x2 rfl
  have e2 := y2 rfl
  refine ⟨?_, rfl⟩
  rcases Int.lt_trichotomy p p' with h | h | h
  · -- p = -p' < 0
    have hp : p = -p' := by omega
    subst hp
    have hz1 : -p' * ld ≤ 0 := Int.mul_nonpos_of_nonpos_of_nonneg (by omega) (by omega)
    have hz2 : 0 ≤ p' * hd := Int.mul_nonneg (by omega) (by omega)
    have l0 : ln ≤ 0 := by
      rcases Int.lt_or_le 0 ln with h5 | h5
      · have : 0 < ln * q := Int.mul_pos h5 (by omega)
        omega
      · exact h5
    have h0 : 0 ≤ hn := by
      rcases Int.lt_or_le hn 0 with h5 | h5
      · have : hn * q < 0 := Int.mul_neg_of_neg_of_pos h5 (by omega)
        omega
      · exact h5
    obtain ⟨z1, z2⟩ := b4 0 1 (by omega) (by omega) (by omega)
    have := z2 (by omega)
    omega
  · exact h
  · have hp : p' = -p := by omega
    subst hp
    have hz1 : -p * ld ≤ 0 := Int.mul_nonpos_of_nonpos_of_nonneg (by omega) (by omega)
    have hz2 : 0 ≤ p * hd := Int.mul_nonneg (by omega) (by omega)
    have l0 : ln ≤ 0 := by
      rcases Int.lt_or_le 0 ln with h5 | h5
      · have : 0 < ln * q := Int.mul_pos h5 (by omega)
        omega
      · exact h5
    have h0 : 0 ≤ hn := by
      rcases Int.lt_or_le hn 0 with h5 | h5
      · have : hn * q < 0 := Int.mul_neg_of_neg_of_pos h5 (by omega)
        omega
      · exact h5
    obtain ⟨z1, z2⟩ := b4 0 1 (by omega) (by omega) (by omega)
    have := z2 (by omega)
    omega

/-- p/q < n/d ≤ .. : chains of fractions. -/
theorem lt_of_le_lt {p q n d c e : Int} (hq : 1 ≤ q) (hd : 1 ≤ d) (he : 1 ≤ e) (h1 : p * d ≤ n * q) (h2 : n * e < c * d) : p * e < c * q := by
  have a1 : p * d * e ≤ n * q * e := Int.mul_le_mul_of_nonneg_right h1 (by omega)
  have a2 : n * e * q < c * d * q := Int.mul_lt_mul_of_pos_right h2 (by omega)
  have a3 : p * e * d < c * q * d := by
    simp only [Int.mul_assoc, Int.mul_comm, Int.mul_left_comm] at a1 a2 ⊢; omega
  exact Int.lt_of_mul_lt_mul_right a3 (by omega)
theorem lt_of_lt_le {p q n d c e : Int} (hq : 1 ≤ q) (hd : 1 ≤ d) (he : 1 ≤ e) (h1 : p * d < n * q) (h2 : n * e ≤ c * d) : p * e < c * q := by
  have a1 : p * d * e < n * q * e := Int.mul_lt_mul_of_pos_right h1 (by omega)
  have a2 : n * e * q ≤ c * d * q := Int.mul_le_mul_of_nonneg_right h2 (by omega)
  have a3 : p * e * d < c * q * d := by
    simp only [Int.mul_assoc, Int.mul_comm, Int.mul_left_comm] at a1 a2 ⊢; omega
  exact Int.lt_of_mul_lt_mul_right a3 (by omega)
theorem le_of_le_le {p q n d c e : Int} (hq : 1 ≤ q) (hd : 1 ≤ d) (he : 1 ≤ e) (h1 : p * d ≤ n * q) (h2 : n * e ≤ c * d) : p * e ≤ c * q := by
  have a1 : p * d * e ≤ n * q * e := Int.mul_le_mul_of_nonneg_right h1 (by omega)
  have a2 : n * e * q ≤ c * d * q := Int.mul_le_mul_of_nonneg_right h2 (by omega)
  have a3 : p * e * d ≤ c * q * d := by
    simp only [Int.mul_assoc, Int.mul_comm, Int.mul_left_comm] at a1 a2 ⊢; omega
  exact Int.le_of_mul_le_mul_right a3 (by omega)

/-- What equals a fraction with neighbours' determinant has its Den as a divisor. -/
theorem den_dvd {a b c e p q : Int} (hb : 1 ≤ b) (hq : 1 ≤ q) (hdet : c * b - a * e = 1) (h : p * b = a * q) : b ≤ q := by
  have e1 : q = b * (c * q - p * e) := by
    have : q * (c * b - a * e) = b * (c * q) - (a * q) * e := by
      simp only [Int.mul_sub, Int.mul_assoc, Int.mul_comm, Int.mul_left_comm]
    rw [hdet, Int.mul_one, ← h] at this
    have x : b * (c * q - p * e) = b * (c * q) - p * b * e := by
      simp only [Int.mul_sub, Int.mul_assoc, Int.mul_comm, Int.mul_left_comm]
    omega
  exact Int.le_of_dvd (by omega) ⟨_, e1⟩
theorem den_dvd' {a b c e p q : Int} (he : 1 ≤ e) (hq : 1 ≤ q) (hdet : c * b - a * e = 1) (h : p * e = c * q) : e ≤ q := by
  have e1 : q = e * (p * b - a * q) := by
    have : q * (c * b - a * e) = (c * q) * b - e * (a * q) := by
      simp only [Int.mul_sub, Int.mul_assoc, Int.mul_comm, Int.mul_left_comm]
    rw [hdet, Int.mul_one, ← h] at this
    have x : e * (p * b - a * q) = p * e * b - e * (a * q) := by
      simp only [Int.mul_sub, Int.mul_assoc, Int.mul_comm, Int.mul_left_comm]
    omega
  exact Int.le_of_dvd (by omega) ⟨_, e1⟩

theorem Lo.of_det {n d m a b c e : Int} (hd : 1 ≤ d) (hb : 1 ≤ b) (he : 1 ≤ e) (hdet : c * b - a * e = 1) (h1 : a * d < n * b) (h2 : n * e < c * d) (hbm : b ≤ m) (hm : m < b + e) : Lo n d m a b := by
  refine ⟨hb, hbm, by omega, fun p q hq hqm hpq => ⟨?_, fun h => den_dvd hb hq hdet h⟩⟩
  rcases Int.lt_or_le (a * q) (p * b) with h | h
  · have := (between_den hb he hdet h (lt_of_le_lt hq hd he hpq h2)).1
    omega
  · exact h
theorem Hi.of_det {n d m a b c e : Int} (hd : 1 ≤ d) (hb : 1 ≤ b) (he : 1 ≤ e) (hdet : c * b - a * e = 1) (h1 : a * d < n * b) (h2 : n * e < c * d) (hem : e ≤ m) (hm : m < b + e) : Hi n d m c e := by
  refine ⟨he, hem, by omega, fun p q hq hqm hpq => ⟨?_, fun h => den_dvd' he hq hdet h⟩⟩
  rcases Int.lt_or_le (p * e) (c * q) with h | h
  · have := (between_den hb he hdet (lt_of_lt_le hb hd hq h1 hpq) h).1
    omega
  · exact h
theorem Lo.self {n d m : Int} (hd : 1 ≤ d) (hg : gc n d = 1) (hm : d ≤ m) : Lo n d m n d :=
  ⟨hd, hm, Int.le_refl _, fun p q hq _ h => ⟨h, fun h => Int.le_of_dvd (by omega) (dvd_of_dvd_mul ⟨p, by rw [← h, Int.mul_comm]⟩ hg)⟩⟩
theorem Hi.self {n d m : Int} (hd : 1 ≤ d) (hg : gc n d = 1) (hm : d ≤ m) : Hi n d m n d :=
  ⟨hd, hm, Int.le_refl _, fun p q hq _ h => ⟨h, fun h => Int.le_of_dvd (by omega) (dvd_of_dvd_mul ⟨p, by rw [← h, Int.mul_comm]⟩ hg)⟩⟩

/-- The simplest fraction is shown by its neighbours. -/
theorem Simp.of_det {ln ld hn hd a b c e : Int} (hl : 1 ≤ ld) (hh : 1 ≤ hd) (hb : 1 ≤ b) (he : 1 ≤ e) (hdet : c * b - a * e = 1) (h1 : a * ld < ln * b) (h2 : hn * e < c * hd)
    (h3 : ln * (b + e) ≤ (a + c) * ld) (h4 : (a + c) * hd ≤ hn * (b + e)) : Simp ln ld hn hd (a + c) (b + e) := by
  refine ⟨by omega, h3, h4, fun p q hq hlo hhi => ?_⟩
  have h := between_den hb he hdet (lt_of_lt_le hb hl hq h1 hlo) (lt_of_le_lt hq hh he hhi h2)
  refine ⟨h.1, fun e => ?_⟩
  rw [h.2 e.symm]
  exact Nat.le_refl _

/-- All steps towards a neighbour that leave the own side. -/
def stepsTo (far near most q0 q1 : Int) : Int := min ((far - 1) / near) ((most - q0) / q1)

theorem towards_low {p0 q0 p1 q1 n d m : Int} (h0 : 1 ≤ q0) (h1 : 1 ≤ q1) (hm : q0 ≤ m) (hfar : 1 ≤ n * q0 - p0 * d) (hnear : 1 ≤ p1 * d - n * q1) :
    0 ≤ stepsTo (n * q0 - p0 * d) (p1 * d - n * q1) m q0 q1 ∧
    (p0 + stepsTo (n * q0 - p0 * d) (p1 * d - n * q1) m q0 q1 * p1) * d < n * (q0 + stepsTo (n * q0 - p0 * d) (p1 * d - n * q1) m q0 q1 * q1) ∧
    q0 + stepsTo (n * q0 - p0 * d) (p1 * d - n * q1) m q0 q1 * q1 ≤ m ∧
    ((p0 + p1) * d < n * (q0 + q1) → q0 + q1 ≤ m → 1 ≤ stepsTo (n * q0 - p0 * d) (p1 * d - n * q1) m q0 q1) := by
  have hs : stepsTo (n * q0 - p0 * d) (p1 * d - n * q1) m q0 q1 = min ((n * q0 - p0 * d - 1) / (p1 * d - n * q1)) ((m - q0) / q1) := rfl
  generalize stepsTo (n * q0 - p0 * d) (p1 * d - n * q1) m q0 q1 = s at hs ⊢
  have l1 : s ≤ (n * q0 - p0 * d - 1) / (p1 * d - n * q1) := by omega
  have l2 : s ≤ (m - q0) / q1 := by omega
  have k1 : s * (p1 * d - n * q1) ≤ n * q0 - p0 * d - 1 := (Int.le_ediv_iff_mul_le (by omega)).1 l1
  have k2 : s * q1 ≤ m - q0 := (Int.le_ediv_iff_mul_le (by omega)).1 l2
  have p1' : 0 ≤ (n * q0 - p0 * d - 1) / (p1 * d - n * q1) := Int.ediv_nonneg (by omega) (by omega)
  have p2' : 0 ≤ (m - q0) / q1 := Int.ediv_nonneg (by omega) (by omega)
  refine ⟨by omega, ?_, by omega, fun hx hy => ?_⟩
  · simp only [Int.mul_add, Int.add_mul, Int.mul_sub, Int.mul_assoc, Int.mul_comm, Int.mul_left_comm] at k1 ⊢
    omega
  · have j1 : 1 ≤ (n * q0 - p0 * d - 1) / (p1 * d - n * q1) := (Int.le_ediv_iff_mul_le (by omega)).2 (by
      rw [Int.add_mul, Int.mul_add] at hx; omega)
    have j2 : 1 ≤ (m - q0) / q1 := (Int.le_ediv_iff_mul_le (by omega)).2 (by omega)
    omega

theorem towards_high {p0 q0 p1 q1 n d m : Int} (h0 : 1 ≤ q0) (h1 : 1 ≤ q1) (hm : q0 ≤ m) (hfar : 1 ≤ p0 * d - n * q0) (hnear : 1 ≤ n * q1 - p1 * d) :
    0 ≤ stepsTo (p0 * d - n * q0) (n * q1 - p1 * d) m q0 q1 ∧
    n * (q0 + stepsTo (p0 * d - n * q0) (n * q1 - p1 * d) m q0 q1 * q1) < (p0 + stepsTo (p0 * d - n * q0) (n * q1 - p1 * d) m q0 q1 * p1) * d ∧
    q0 + stepsTo (p0 * d - n * q0) (n * q1 - p1 * d) m q0 q1 * q1 ≤ m ∧
    (n * (q0 + q1) < (p0 + p1) * d → q0 + q1 ≤ m → 1 ≤ stepsTo (p0 * d - n * q0) (n * q1 - p1 * d) m q0 q1) := by
  have hs : stepsTo (p0 * d - n * q0) (n * q1 - p1 * d) m q0 q1 = min ((p0 * d - n * q0 - 1) / (n * q1 - p1 * d)) ((m - q0) / q1) := rfl
  generalize stepsTo (p0 * d - n * q0) (n * q1 - p1 * d) m q0 q1 = s at hs ⊢
  have l1 : s ≤ (p0 * d - n * q0 - 1) / (n * q1 - p1 * d) := by omega
  have l2 : s ≤ (m - q0) / q1 := by omega
  have k1 : s * (n * q1 - p1 * d) ≤ p0 * d - n * q0 - 1 := (Int.le_ediv_iff_mul_le (by omega)).1 l1
  have k2 : s * q1 ≤ m - q0 := (Int.le_ediv_iff_mul_le (by omega)).1 l2
  have p1' : 0 ≤ (p0 * d - n * q0 - 1) / (n * q1 - p1 * d) := Int.ediv_nonneg (by omega) (by omega)
  have p2' : 0 ≤ (m - q0) / q1 := Int.ediv_nonneg (by omega) (by omega)
  refine ⟨by omega, ?_, by omega, fun hx hy => ?_⟩
  · simp only [Int.mul_add, Int.add_mul, Int.mul_sub, Int.mul_assoc, Int.mul_comm, Int.mul_left_comm] at k1 ⊢
    omega
  · have j1 : 1 ≤ (p0 * d - n * q0 - 1) / (n * q1 - p1 * d) := (Int.le_ediv_iff_mul_le (by omega)).2 (by
      rw [Int.add_mul, Int.mul_add] at hx; omega)
    have j2 : 1 ≤ (m - q0) / q1 := (Int.le_ediv_iff_mul_le (by omega)).2 (by omega)
    omega

/-- Bounds of what the search reckons. -/
theorem bnd {F n d p q : Int} (hd : 1 ≤ d) (hd' : d ≤ 1000000) (hn : -1000000000 ≤ n) (hn' : n ≤ 1000000000) (h1 : F * d ≤ n) (h2 : n ≤ (F + 1) * d) (hq : 1 ≤ q) (hq' : q ≤ 2000000) (h3 : F * q ≤ p) (h4 : p ≤ (F + 1) * q) :
    -2000000000000 ≤ p * d - n * q ∧ p * d - n * q ≤ 2000000000000 ∧ -2000000000000000 ≤ n * q ∧ n * q ≤ 2000000000000000 ∧ -2002000000000000 ≤ p * d ∧ p * d ≤ 2002000000000000 ∧ -2002000000000000 ≤ p ∧ p ≤ 2002000000000000 := by
  have m1 := mul_bd (a := n) (b := q) (A := 1000000000) (B := 2000000) (by omega) (by omega) (by omega) (by omega)
  have m2 := mul_bd (a := d) (b := q) (A := 1000000) (B := 2000000) (by omega) (by omega) (by omega) (by omega)
  have e1 : F * q * d ≤ p * d := Int.mul_le_mul_of_nonneg_right h3 (by omega)
  have e2 : p * d ≤ (F + 1) * q * d := Int.mul_le_mul_of_nonneg_right h4 (by omega)
  have e3 : F * d * q ≤ n * q := Int.mul_le_mul_of_nonneg_right h1 (by omega)
  have e4 : n * q ≤ (F + 1) * d * q := Int.mul_le_mul_of_nonneg_right h2 (by omega)
  have e5 : p.natAbs ≤ (p * d).natAbs := by
    rw [Int.natAbs_mul]; exact Nat.le_mul_of_pos_right _ (by omega)
  simp only [Int.add_mul, Int.one_mul] at e2 e4
  have x1 : F * q * d = F * d * q := Int.mul_right_comm ..
  have x2 : q * d = d * q := Int.mul_comm ..
  omega

/-- What the search holds of its two neighbours. -/
structure Srch (ln ld hn hd m F a b c e : Int) : Prop where
  b1 : 1 ≤ b
  e1 : 1 ≤ e
  bm : b ≤ m
  em : e ≤ m
  det : c * b - a * e = 1
  lo : a * ld < ln * b
  hi : hn * e < c * hd
  fb : F * b ≤ a
  fe : c ≤ (F + 1) * e

theorem Srch.fb' {ln ld hn hd m F a b c e : Int} (h : Srch ln ld hn hd m F a b c e) : a ≤ (F + 1) * b := by
  have h1 : c * b ≤ (F + 1) * e * b := Int.mul_le_mul_of_nonneg_right h.fe (by have := h.b1; omega)
  have h2 := h.det
  have h3 : a * e ≤ (F + 1) * b * e := by
    rw [Int.mul_right_comm (F + 1)]; omega
  exact Int.le_of_mul_le_mul_right h3 (by have := h.e1; omega)
theorem Srch.fe' {ln ld hn hd m F a b c e : Int} (h : Srch ln ld hn hd m F a b c e) : F * e ≤ c := by
  have h1 : F * b * e ≤ a * e := Int.mul_le_mul_of_nonneg_right h.fb (by have := h.e1; omega)
  have h2 := h.det
  have h3 : F * e * b ≤ c * b := by
    rw [Int.mul_right_comm]; omega
  exact Int.le_of_mul_le_mul_right h3 (by have := h.b1; omega)

/-- A step at the lower side. -/
theorem Srch.low {ln ld hn hd m F a b c e s : Int} (h : Srch ln ld hn hd m F a b c e) (hs : 0 ≤ s) (h1 : (a + s * c) * ld < ln * (b + s * e)) (h2 : b + s * e ≤ m) : Srch ln ld hn hd m F (a + s * c) (b + s * e) c e := by
  have hse : 0 ≤ s * e := Int.mul_nonneg hs (by have := h.e1; omega)
  refine ⟨by have := h.b1; omega, h.e1, h2, h.em, ?_, h1, h.hi, ?_, h.fe⟩
  · have := h.det
    rw [Int.mul_add, Int.add_mul, show s * c * e = c * (s * e) from by rw [Int.mul_comm s c, Int.mul_assoc]]
    omega
  · have h3 : s * (F * e) ≤ s * c := Int.mul_le_mul_of_nonneg_left h.fe' hs
    have h4 := h.fb
    rw [Int.mul_add, show F * (s * e) = s * (F * e) from Int.mul_left_comm ..]
    omega
theorem Srch.high {ln ld hn hd m F a b c e s : Int} (h : Srch ln ld hn hd m F a b c e) (hs : 0 ≤ s) (h1 : hn * (e + s * b) < (c + s * a) * hd) (h2 : e + s * b ≤ m) : Srch ln ld hn hd m F a b (c + s * a) (e + s * b) := by
  have hse : 0 ≤ s * b := Int.mul_nonneg hs (by have := h.b1; omega)
  refine ⟨h.b1, by have := h.e1; omega, h.bm, h2, ?_, h.lo, h1, h.fb, ?_⟩
  · have := h.det
    rw [Int.add_mul, Int.mul_add, show a * (s * b) = s * a * b from by rw [Int.mul_comm s a, Int.mul_assoc]]
    omega
  · have h3 : s * a ≤ s * ((F + 1) * b) := Int.mul_le_mul_of_nonneg_left h.fb' hs
    have h4 := h.fe
    rw [Int.mul_add, show (F + 1) * (s * b) = s * ((F + 1) * b) from Int.mul_left_comm ..]
    omega
theorem Srch.mid {ln ld hn hd m F a b c e : Int} (h : Srch ln ld hn hd m F a b c e) : F * (b + e) ≤ a + c ∧ a + c ≤ (F + 1) * (b + e) := by
  have h1 := h.fb; have h2 := h.fe; have h3 := h.fb'; have h4 := h.fe'
  rw [Int.mul_add, Int.mul_add]
  omega

/-! ### floor and ceil -/
theorem floor_code {n d : Int} (hd : 1 ≤ d) : (if n.tmod d < 0 then n.tdiv d - 1 else n.tdiv d) = n / d := by
  have h1 := Int.tmod_add_mul_tdiv n d
  have h2 := Int.emod_add_mul_ediv n d
  have h3 := Int.emod_nonneg n (b := d) (by omega)
  have h4 := Int.emod_lt_of_pos n (b := d) (by omega)
  have h5 := Int.natAbs_tmod n d
  have h6 : n.natAbs % d.natAbs < d.natAbs := Nat.mod_lt _ (by omega)
  have key : ∀ x y : Int, -d < y → y < d → y + d * x = n → (y < 0 → x - 1 = n / d) ∧ (0 ≤ y → x = n / d) := by
    intro x y hy hy' he
    constructor
    · intro h
      have hz : d * (x - 1 - n / d) = n % d - y - d := by rw [Int.mul_sub, Int.mul_sub]; omega
      have : x - 1 - n / d = 0 := by
        rcases Int.lt_trichotomy (x - 1 - n / d) 0 with hh | hh | hh
        · have : d * (x - 1 - n / d) ≤ d * (-1) := Int.mul_le_mul_of_nonneg_left (by omega) (by omega)
          omega
        · exact hh
        · have : d * 1 ≤ d * (x - 1 - n / d) := Int.mul_le_mul_of_nonneg_left (by omega) (by omega)
          omega
      omega
    · intro h
      have hz : d * (x - n / d) = n % d - y := by rw [Int.mul_sub]; omega
      have : x - n / d = 0 := by
        rcases Int.lt_trichotomy (x - n / d) 0 with hh | hh | hh
        · have : d * (x - n / d) ≤ d * (-1) := Int.mul_le_mul_of_nonneg_left (by omega) (by omega)
          omega
        · exact hh
        · have : d * 1 ≤ d * (x - n / d) := Int.mul_le_mul_of_nonneg_left (by omega) (by omega)
          omega
      omega
  obtain ⟨k1, k2⟩ := key (n.tdiv d) (n.tmod d) (by omega) (by omega) h1
  split
  · rename_i h; exact k1 h
  · rename_i h; exact k2 (by omega)
theorem floor_ref {n d : Int} (hd : 1 ≤ d) : (if n < n.tdiv d * d then n.tdiv d - 1 else n.tdiv d) = n / d := by
  rw [← floor_code hd]
  have h1 := Int.tmod_add_mul_tdiv n d
  rw [Int.mul_comm] at h1
  split <;> split <;> omega
def ceilQ (n d : Int) : Int := -((-n) / d)
theorem ceil_ref {n d : Int} (hd : 1 ≤ d) : (if n.tdiv d * d < n then n.tdiv d + 1 else n.tdiv d) = ceilQ n d := by
  unfold ceilQ
  rw [← floor_ref (n := -n) hd, Int.neg_tdiv]
  have : -n.tdiv d * d = -(n.tdiv d * d) := Int.neg_mul ..
  rw [this]
  split <;> split <;> omega
theorem floor_le {n d : Int} (hd : 1 ≤ d) : n / d * d ≤ n := by have := (Int.le_ediv_iff_mul_le (a := n / d) (b := n) (c := d) (by omega)).1 (Int.le_refl _); exact this
theorem lt_floor {n d : Int} (hd : 1 ≤ d) : n < (n / d + 1) * d := Int.lt_mul_of_ediv_lt (by omega) (by omega)
theorem le_floor {n d p : Int} (hd : 1 ≤ d) : p ≤ n / d ↔ p * d ≤ n := Int.le_ediv_iff_mul_le (by omega)
theorem ceil_le {n d p : Int} (hd : 1 ≤ d) : ceilQ n d ≤ p ↔ n ≤ p * d := by
  unfold ceilQ
  have := @le_floor (-n) d (-p) hd
  rw [Int.neg_mul] at this
  omega
theorem floor_bd {n d B : Int} (hd : 1 ≤ d) (h1 : -B ≤ n) (h2 : n ≤ B) : -B ≤ n / d ∧ n / d ≤ B := by
  have hB : 0 ≤ B := by omega
  refine ⟨(le_floor hd).2 ?_, ?_⟩
  · rw [Int.neg_mul]
    have : B * 1 ≤ B * d := Int.mul_le_mul_of_nonneg_left hd hB
    omega
  · rcases Int.lt_or_le B (n / d) with h | h
    · have h3 : (B + 1) * d ≤ n := (le_floor hd).1 (by omega)
      have h4 : (B + 1) * 1 ≤ (B + 1) * d := Int.mul_le_mul_of_nonneg_left hd (by omega)
      omega
    · exact h
theorem ceil_bd {n d B : Int} (hd : 1 ≤ d) (h1 : -B ≤ n) (h2 : n ≤ B) : -B ≤ ceilQ n d ∧ ceilQ n d ≤ B := by
  unfold ceilQ
  have := floor_bd (n := -n) (d := d) (B := B) hd (by omega) (by omega)
  omega

/-! ### the number by which n times it is 1 more than a multiple of m -/
structure Inv (n m before rest cb c : Int) : Prop where
  bp : 1 ≤ before
  rp : 0 ≤ rest
  rb : rest < before
  bm : before ≤ m
  gc1 : gc before rest = 1
  d1 : m ∣ cb * n - before
  d2 : m ∣ c * n - rest
  sg : (0 ≤ c ∧ cb ≤ 0 ∧ c * before - cb * rest = m) ∨ (c ≤ 0 ∧ 0 ≤ cb ∧ cb * rest - c * before = m)
  cb1 : -m ≤ cb
  cb2 : cb ≤ m

theorem Inv.c_bd {n m before rest cb c : Int} (h : Inv n m before rest cb c) : -m ≤ c ∧ c ≤ m := by
  have h1 := h.bp; have h2 := h.rp; have h3 := h.bm
  rcases h.sg with ⟨a, b, e⟩ | ⟨a, b, e⟩
  · have x1 : cb * rest ≤ 0 := Int.mul_nonpos_of_nonpos_of_nonneg b h2
    have x2 : c * 1 ≤ c * before := Int.mul_le_mul_of_nonneg_left h1 a
    omega
  · have x1 : 0 ≤ cb * rest := Int.mul_nonneg b h2
    have x2 : c * before ≤ c * 1 := Int.mul_le_mul_of_nonpos_left a h1
    omega
theorem Inv.start {n m : Int} (hm : 2 ≤ m) (hg : gc n m = 1) : Inv n m m (n % m) 0 1 := by
  have h1 := Int.emod_nonneg n (b := m) (by omega)
  have h2 := Int.emod_lt_of_pos n (b := m) (by omega)
  refine ⟨by omega, h1, h2, by omega, ?_, ⟨-1, by omega⟩, ⟨n / m, ?_⟩, .inl ⟨by omega, by omega, by omega⟩, by omega, by omega⟩
  · unfold gc at hg ⊢
    rw [Int.gcd_comm] at hg
    rw [← hg]
    have : n % m = n + (-(n / m)) * m := by
      have := Int.emod_add_mul_ediv n m
      rw [Int.neg_mul, Int.mul_comm]; omega
    rw [this, Int.gcd_add_mul_right_right]
  · have := Int.emod_add_mul_ediv n m
    omega
theorem Inv.next {n m before rest cb c : Int} (h : Inv n m before rest cb c) (hr : rest ≠ 0) : Inv n m rest (before - before / rest * rest) c (cb - before / rest * c) := by
  have h1 := h.bp; have h2 := h.rp; have h3 := h.bm; have h4 := h.rb
  have e1 := Int.emod_add_mul_ediv before rest
  have e2 := Int.emod_nonneg before (b := rest) hr
  have e3 := Int.emod_lt_of_pos before (b := rest) (by omega)
  have e4 : before - before / rest * rest = before % rest := by rw [Int.mul_comm]; omega
  have hc := h.c_bd
  refine ⟨by omega, by omega, by omega, by omega, ?_, h.d2, ?_, ?_, hc.1, hc.2⟩
  · have := h.gc1
    unfold gc at this ⊢
    rw [show before - before / rest * rest = before + (-(before / rest)) * rest from by rw [Int.neg_mul]; omega, Int.gcd_add_mul_right_right, Int.gcd_comm]
    exact this
  · obtain ⟨u, hu⟩ := h.d1
    obtain ⟨v, hv⟩ := h.d2
    refine ⟨u - before / rest * v, ?_⟩
    have x1 : before / rest * (c * n - rest) = before / rest * (m * v) := by rw [hv]
    simp only [Int.mul_add, Int.add_mul, Int.mul_sub, Int.sub_mul, Int.mul_assoc, Int.mul_comm, Int.mul_left_comm] at x1 hu ⊢
    omega
  · have ht : 0 ≤ before / rest := Int.ediv_nonneg (by omega) h2
    rcases h.sg with ⟨a, b, e⟩ | ⟨a, b, e⟩
    · have x1 : 0 ≤ before / rest * c := Int.mul_nonneg ht a
      refine .inr ⟨by omega, a, ?_⟩
      simp only [Int.mul_add, Int.add_mul, Int.mul_sub, Int.sub_mul, Int.mul_assoc, Int.mul_comm, Int.mul_left_comm] at e ⊢
      omega
    · have x1 : before / rest * c ≤ 0 := Int.mul_nonpos_of_nonneg_of_nonpos ht a
      refine .inl ⟨by omega, a, ?_⟩
      simp only [Int.mul_add, Int.add_mul, Int.mul_sub, Int.sub_mul, Int.mul_assoc, Int.mul_comm, Int.mul_left_comm] at e ⊢
      omega
/-- What the last round has. -/
theorem Inv.last {n m before cb c : Int} (hm : 2 ≤ m) (h : Inv n m before 0 cb c) : 1 ≤ (cb + m) % m ∧ (cb + m) % m ≤ m - 1 ∧ m ∣ n * ((cb + m) % m) - 1 := by
  have h1 := h.bp
  have hb : before = 1 := by have := h.gc1; rw [gc_zero] at this; omega
  subst hb
  have e1 := Int.emod_nonneg (cb + m) (b := m) (by omega)
  have e2 := Int.emod_lt_of_pos (cb + m) (b := m) (by omega)
  have hd : m ∣ n * ((cb + m) % m) - 1 := by
    obtain ⟨u, hu⟩ := h.d1
    have e3 := Int.emod_add_mul_ediv (cb + m) m
    refine ⟨u + n - n * ((cb + m) / m), ?_⟩
    have x1 : n * ((cb + m) % m + m * ((cb + m) / m)) = n * (cb + m) := by rw [e3]
    simp only [Int.mul_add, Int.add_mul, Int.mul_sub, Int.sub_mul, Int.mul_assoc, Int.mul_comm, Int.mul_left_comm] at x1 hu ⊢
    omega
  refine ⟨?_, by omega, hd⟩
  rcases Int.lt_or_le 0 ((cb + m) % m) with hh | hh
  · omega
  · have hz : (cb + m) % m = 0 := by omega
    rw [hz] at hd
    obtain ⟨u, hu⟩ := hd
    rw [Int.mul_zero] at hu
    have : m ∣ 1 := ⟨-u, by rw [Int.mul_neg]; omega⟩
    have := Int.le_of_dvd (by omega) this
    omega
theorem wrapmod {n m : Int} (hm : 1 ≤ m) : (n.tmod m + m) % m = n % m := by
  rw [Int.add_emod_right]
  have h1 := Int.tmod_add_mul_tdiv n m
  have : n % m = (n.tmod m + m * n.tdiv m) % m := by rw [h1]
  rw [this, Int.add_mul_emod_self_left]
end Go.Proofs.YtgonaamjjhhiiaaGreatDoor
