/-
  Plain mathematics of terms and convergents: from the back and from the front; how they lie about the fraction; nothing with as small a Den is nearer.
-/
import Derived.Test.YtgonaamjjhhiiaaDoorMathD
set_option linter.unusedVariables false
namespace Go.Proofs.YtgonaamjjhhiiaaDoor

/-- The fraction with some terms, from the back. -/
def vb : List Int → Int × Int
  | [] => (1, 0)
  | t :: ts => (t * (vb ts).1 + (vb ts).2, (vb ts).1)
/-- The fractions that the first terms make, from the front. -/
def cvF : List Int → Int → Int → Int → Int → List (Int × Int)
  | [], _, _, _, _ => []
  | t :: ts, a, b, c, d => (t * c + a, t * d + b) :: cvF ts c d (t * c + a) (t * d + b)
def cv (p q : Int) : List (Int × Int) := cvF (tl p q) 0 1 1 0

theorem cvF_len (ts : List Int) : ∀ a b c d : Int, (cvF ts a b c d).length = ts.length := by
  induction ts with
  | nil => intro a b c d; rfl
  | cons t ts ih => intro a b c d; simp [cvF, ih]
theorem cv_len (p q : Int) : (cv p q).length = (tl p q).length := cvF_len _ _ _ _ _

theorem cvF_vb (i : Nat) : ∀ (ts : List Int) (a b c d : Int), i < ts.length → (cvF ts a b c d)[i]? = some (c * (vb (ts.take (i + 1))).1 + a * (vb (ts.take (i + 1))).2, d * (vb (ts.take (i + 1))).1 + b * (vb (ts.take (i + 1))).2) := by
  induction i with
  | zero =>
    intro ts a b c d h
    cases ts with
    | nil => simp at h
    | cons t ts => simp [cvF, vb, Int.mul_comm]
  | succ i ih =>
    intro ts a b c d h
    cases ts with
    | nil => simp at h
    | cons t ts =>
      have := ih ts c d (t * c + a) (t * d + b) (by simpa using h)
      simp only [cvF, List.getElem?_cons_succ, List.take_succ_cons, vb]
      rw [this]
      congr 1
      generalize (vb (ts.take (i + 1))).1 = N
      generalize (vb (ts.take (i + 1))).2 = D
      refine Prod.ext ?_ ?_
      · show (t * c + a) * N + c * D = c * (t * N + D) + a * N
        grind
      · show (t * d + b) * N + d * D = d * (t * N + D) + b * N
        grind
theorem cv_vb {p q : Int} {i : Nat} (h : i < (tl p q).length) : (cv p q)[i]? = some (vb ((tl p q).take (i + 1))) := by
  unfold cv
  rw [cvF_vb i _ 0 1 1 0 h]
  congr 1
  refine Prod.ext ?_ ?_ <;> simp

theorem gc_emod {p q : Int} : gc q (p % q) = gc p q := by
  unfold gc
  congr 1
  conv => rhs; rw [← Int.emod_add_mul_ediv p q, Int.gcd_comm]
  simp
theorem vb_tl (k : Nat) : ∀ {p q : Int}, q.toNat ≤ k → 1 ≤ q → gc p q = 1 → vb (tl p q) = (p, q) := by
  induction k with
  | zero => intro p q h h1; omega
  | succ k ih =>
    intro p q h h1 hg
    have m1 := Int.emod_lt_of_pos p (b := q) (by omega)
    have m2 := Int.emod_nonneg p (b := q) (by omega)
    have m3 := Int.emod_add_mul_ediv p q
    rw [tl_pos (by omega)]
    by_cases hr : p % q = 0
    · have e1 : gc q (p % q) = q := by rw [hr, gc_zero]; omega
      rw [gc_emod, hg] at e1
      rw [hr, tl_zero (Int.le_refl _)]
      subst e1
      simp [vb]
    · have h2 := ih (p := q) (q := p % q) (by omega) (by omega) (by rw [gc_emod]; exact hg)
      simp only [vb, h2]
      rw [Int.mul_comm]
      refine Prod.ext ?_ ?_
      · show q * (p / q) + p % q = p
        omega
      · rfl

def sg (i : Nat) : Int := if i % 2 = 0 then 1 else -1
theorem sg_succ (i : Nat) : sg (i + 1) = -sg i := by
  unfold sg
  rcases Nat.mod_two_eq_zero_or_one i with h | h
  · rw [if_pos h, if_neg (by omega : ¬ (i + 1) % 2 = 0)]
  · rw [if_neg (by omega : ¬ i % 2 = 0), if_pos (by omega : (i + 1) % 2 = 0)]; rfl
theorem sg_or (i : Nat) : sg i = 1 ∨ sg i = -1 := by
  unfold sg
  split
  · exact .inl rfl
  · exact .inr rfl

/-- Ahead of the term i: a/b is left, P1/Q1 the last convergent, P0/Q0 the one before. -/
structure St (p q : Int) (i : Nat) (a b P0 Q0 P1 Q1 : Int) : Prop where
  hp : p = a * P1 + b * P0
  hq : q = a * Q1 + b * Q0
  det : P1 * Q0 - P0 * Q1 = sg i
  b0 : 0 ≤ b
  hQ : (i = 0 ∧ Q0 = 1 ∧ Q1 = 0) ∨ (1 ≤ i ∧ b < a ∧ 1 ≤ Q1 ∧ 0 ≤ Q0 ∧ Q0 ≤ Q1)

theorem St.start {p q : Int} (h : 1 ≤ q) : St p q 0 p q 0 1 1 0 := ⟨by omega, by omega, rfl, by omega, .inl ⟨rfl, rfl, rfl⟩⟩
theorem St.next {p q : Int} {i : Nat} {a b P0 Q0 P1 Q1 : Int} (h : St p q i a b P0 Q0 P1 Q1) (hb : 0 < b) : St p q (i + 1) b (a % b) P1 Q1 (a / b * P1 + P0) (a / b * Q1 + Q0) := by
  have m1 := Int.emod_lt_of_pos a hb
  have m2 := Int.emod_nonneg a (b := b) (by omega)
  have m3 := Int.emod_add_mul_ediv a b
  obtain ⟨hp, hq, det, b0, hQ⟩ := h
  generalize a / b = t at *
  generalize a % b = r at *
  refine ⟨?_, ?_, ?_, m2, .inr ⟨by omega, m1, ?_⟩⟩
  · rw [hp]; subst m3; grind
  · rw [hq]; subst m3; grind
  · rw [sg_succ, ← det]; grind
  · rcases hQ with ⟨_, rfl, rfl⟩ | ⟨_, h1, h2, h3, h4⟩
    · omega
    · have ht : 1 ≤ t := by
        rcases Int.lt_or_le t 1 with hh | hh
        · have : b * t ≤ 0 := Int.mul_nonpos_of_nonneg_of_nonpos (by omega) (by omega)
          omega
        · exact hh
      have := Int.mul_le_mul_of_nonneg_right ht (show 0 ≤ Q1 by omega)
      omega

theorem tl_one {a b : Int} (hb : 0 < b) : 1 < (tl a b).length ↔ a % b ≠ 0 := by
  have m2 := Int.emod_nonneg a (b := b) (by omega)
  rw [tl_pos hb]
  constructor
  · intro h h0
    rw [h0, tl_zero (Int.le_refl _)] at h
    simp at h
  · intro h
    rw [tl_pos (n := b) (d := a % b) (by omega)]
    simp

theorem cvF_at {p q : Int} (i : Nat) : ∀ (n : Nat) (a b P0 Q0 P1 Q1 : Int), St p q n a b P0 Q0 P1 Q1 → i < (tl a b).length → ∃ a' b' P0' Q0' P1' Q1', St p q (n + i) a' b' P0' Q0' P1' Q1' ∧ 0 < b' ∧
    (cvF (tl a b) P0 Q0 P1 Q1)[i]? = some (a' / b' * P1' + P0', a' / b' * Q1' + Q0') ∧ (1 ≤ i → (cvF (tl a b) P0 Q0 P1 Q1)[i - 1]? = some (P1', Q1')) ∧ (i + 1 < (tl a b).length ↔ a' % b' ≠ 0) ∧ (i = 0 → P1' = P1 ∧ Q1' = Q1) := by
  induction i with
  | zero =>
    intro n a b P0 Q0 P1 Q1 h hi
    have hb : 0 < b := by
      rcases Int.lt_or_le 0 b with hh | hh
      · exact hh
      · rw [tl_zero hh] at hi; simp at hi
    refine ⟨a, b, P0, Q0, P1, Q1, h, hb, ?_, fun h => absurd h (by omega), by rw [Nat.zero_add]; exact tl_one hb, fun _ => ⟨rfl, rfl⟩⟩
    rw [tl_pos hb]
    rfl
  | succ i ih =>
    intro n a b P0 Q0 P1 Q1 h hi
    have hb : 0 < b := by
      rcases Int.lt_or_le 0 b with hh | hh
      · exact hh
      · rw [tl_zero hh] at hi; simp at hi
    rw [tl_pos hb] at hi ⊢
    obtain ⟨a', b', P0', Q0', P1', Q1', k1, k2, k3, k4, k5, k6⟩ := ih (n + 1) b (a % b) P1 Q1 _ _ (h.next hb) (by simpa using hi)
    refine ⟨a', b', P0', Q0', P1', Q1', by rw [show n + (i + 1) = n + 1 + i by omega]; exact k1, k2, k3, fun _ => ?_, by simpa using k5, fun h => by omega⟩
    cases i with
    | zero =>
      obtain ⟨rfl, rfl⟩ := k6 rfl
      rfl
    | succ i => exact k4 (by omega)

/-- How the convergents lie about the fraction. -/
theorem cv_at {p q : Int} (h1 : 1 ≤ q) (i : Nat) (hi : i + 1 < (tl p q).length) : ∃ P Q r b P1 Q1 : Int, (cv p q)[i]? = some (P, Q) ∧ (1 ≤ i → (cv p q)[i - 1]? = some (P1, Q1) ∧ 1 ≤ Q1 ∧ p * Q1 - P1 * q = -(sg i * b)) ∧
    p * Q - P * q = sg i * r ∧ 1 ≤ r ∧ r < b ∧ 1 ≤ Q ∧ 0 ≤ Q1 ∧ Q1 ≤ Q ∧ Q < q ∧ b ≤ q ∧ p = b * P + r * P1 ∧ q = b * Q + r * Q1 ∧ P1 * Q - P * Q1 = sg i := by
  obtain ⟨a, b, P0, Q0, P1, Q1, k1, k2, k3, k4, k5, _⟩ := cvF_at (p := p) (q := q) i 0 p q 0 1 1 0 (St.start h1) (by omega)
  rw [Nat.zero_add] at k1
  have k := k1.next k2
  have hr : 0 < a % b := by
    have := k5.1 hi
    have := Int.emod_nonneg a (b := b) (by omega)
    omega
  have m1 := Int.emod_lt_of_pos a k2
  generalize hP : a / b * P1 + P0 = P at *
  generalize hQ : a / b * Q1 + Q0 = Q at *
  generalize a % b = r at *
  obtain ⟨e1, e2, e3, _, e5⟩ := k
  have f : 1 ≤ Q ∧ 0 ≤ Q1 ∧ Q1 ≤ Q := by
    rcases e5 with ⟨h, _⟩ | ⟨_, _, h1, h2, h3⟩
    · omega
    · exact ⟨h1, h2, h3⟩
  have e3' : P1 * Q - P * Q1 = sg i := by rw [sg_succ] at e3; omega
  have g1 : 2 * Q ≤ b * Q := Int.mul_le_mul_of_nonneg_right (by omega) (by omega)
  have g2 : 0 ≤ r * Q1 := Int.mul_nonneg (by omega) f.2.1
  have g3 : b * 1 ≤ b * Q := Int.mul_le_mul_of_nonneg_left f.1 (by omega)
  refine ⟨P, Q, r, b, P1, Q1, k3, fun h => ⟨k4 h, ?_, ?_⟩, ?_, by omega, m1, f.1, f.2.1, f.2.2, by omega, by omega, e1, e2, e3'⟩
  · rcases k1.hQ with ⟨h0, _⟩ | ⟨_, _, hq1, _⟩
    · omega
    · exact hq1
  · rw [← e3', e1, e2]; grind
  · rw [← e3', e1, e2]; grind

/-- Nothing with as small a Den is nearer. -/
theorem cv_best {p q P Q P1 Q1 r b s N D : Int} (hs : s = 1 ∨ s = -1) (e1 : p = b * P + r * P1) (e2 : q = b * Q + r * Q1) (e3 : P1 * Q - P * Q1 = s) (h1 : 1 ≤ r) (h2 : r < b) (h3 : 1 ≤ Q) (h4 : 1 ≤ Q1) (h5 : Q1 ≤ Q) (hD : 1 ≤ D) (hD' : D ≤ Q) :
    r ≤ max (p * D - N * q) (-(p * D - N * q)) := by
  obtain ⟨u, hu⟩ : ∃ u, u = s * (P1 * D - N * Q1) := ⟨_, rfl⟩
  obtain ⟨v, hv⟩ : ∃ v, v = s * (N * Q - P * D) := ⟨_, rfl⟩
  have ss : s * s = 1 := by rcases hs with rfl | rfl <;> rfl
  have d1 : u * Q + v * Q1 = D := by
    have : u * Q + v * Q1 = s * (P1 * Q - P * Q1) * D := by rw [hu, hv]; grind
    rw [this, e3, ss, Int.one_mul]
  have d2 : p * D - N * q = s * (r * u - b * v) := by
    have : s * (r * u - b * v) = (s * s) * (r * (P1 * D - N * Q1) - b * (N * Q - P * D)) := by rw [hu, hv]; grind
    rw [this, ss, e1, e2]; grind
  have key : r ≤ r * u - b * v ∨ r ≤ -(r * u - b * v) := by
    rcases Int.lt_trichotomy v 0 with hv0 | hv0 | hv0
    · left
      have hu1 : 1 ≤ u := by
        rcases Int.lt_or_le u 1 with hh | hh
        · have a1 : u * Q ≤ 0 := Int.mul_nonpos_of_nonpos_of_nonneg (by omega) (by omega)
          have a2 : v * Q1 < 0 := Int.mul_neg_of_neg_of_pos hv0 (by omega)
          omega
        · exact hh
      have a1 : r * 1 ≤ r * u := Int.mul_le_mul_of_nonneg_left hu1 (by omega)
      have a2 : b * v ≤ 0 := Int.mul_nonpos_of_nonneg_of_nonpos (by omega) (by omega)
      omega
    · left
      subst hv0
      have hu1 : 1 ≤ u := by
        rcases Int.lt_or_le u 1 with hh | hh
        · have a1 : u * Q ≤ 0 := Int.mul_nonpos_of_nonpos_of_nonneg (by omega) (by omega)
          omega
        · exact hh
      have a1 : r * 1 ≤ r * u := Int.mul_le_mul_of_nonneg_left hu1 (by omega)
      omega
    · right
      have hu0 : u ≤ 0 := by
        rcases Int.lt_or_le 0 u with hh | hh
        · have a1 : 1 * Q ≤ u * Q := Int.mul_le_mul_of_nonneg_right (by omega) (by omega)
          have a2 : 1 * Q1 ≤ v * Q1 := Int.mul_le_mul_of_nonneg_right (by omega) (by omega)
          omega
        · exact hh
      have a1 : r * u ≤ 0 := Int.mul_nonpos_of_nonneg_of_nonpos (by omega) hu0
      have a2 : b * 1 ≤ b * v := Int.mul_le_mul_of_nonneg_left (by omega) (by omega)
      omega
  rcases hs with rfl | rfl
  · rw [d2]; omega
  · rw [d2]; omega

/-- Whether the Dens on the way from the back are small enough. -/
def vok : List Int → Bool
  | [] => true
  | _ :: ts => vok ts && decide ((vb ts).1 ≤ 1000000)
def posL (l : List Int) : Prop := ∀ t ∈ l, 1 ≤ t
theorem vb_pos (l : List Int) (h : posL l) : 1 ≤ (vb l).1 ∧ 0 ≤ (vb l).2 ∧ (vb l).2 ≤ (vb l).1 := by
  induction l with
  | nil => simp [vb]
  | cons t l ih =>
    obtain ⟨h1, h2, h3⟩ := ih fun x hx => h x (List.mem_cons_of_mem _ hx)
    have ht := h t (List.mem_cons_self ..)
    have := Int.mul_le_mul_of_nonneg_right ht (show 0 ≤ (vb l).1 by omega)
    simp only [vb]
    omega
theorem vok_of (l : List Int) (h : posL l) (hm : (vb l).1 ≤ 1000000) : vok l = true := by
  induction l with
  | nil => rfl
  | cons t l ih =>
    have hl : posL l := fun x hx => h x (List.mem_cons_of_mem _ hx)
    have hp := vb_pos (t :: l) h
    have h2 : (vb l).1 ≤ 1000000 := by simp only [vb] at hp hm; omega
    simp only [vok, ih hl h2, Bool.true_and, decide_eq_true_eq]
    exact h2
theorem tlF_posL (k : Nat) : ∀ {p q : Int}, q.toNat ≤ k → q < p → posL (tl p q) := by
  induction k with
  | zero => intro p q h h1; rw [tl_zero (by omega)]; intro t ht; simp at ht
  | succ k ih =>
    intro p q h h1
    rcases Int.lt_or_le 0 q with hq | hq
    · have m1 := Int.emod_lt_of_pos p hq
      rw [tl_pos hq]
      intro t ht
      rcases List.mem_cons.1 ht with rfl | ht
      · exact (Int.le_ediv_iff_mul_le hq).2 (by omega)
      · exact ih (p := q) (q := p % q) (by omega) m1 t ht
    · rw [tl_zero hq]; intro t ht; simp at ht
theorem posL_take {l : List Int} (h : posL l) (n : Nat) : posL (l.take n) := fun t ht => h t (List.mem_of_mem_take ht)
end Go.Proofs.YtgonaamjjhhiiaaDoor
