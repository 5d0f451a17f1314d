/-
  Plain mathematics of the terms of a fraction, and of sums and products that are taken back.
-/
import Derived.Test.YtgonaamjjhhiiaaGreatDoorMath
set_option linter.unusedVariables false
namespace Go.Proofs.YtgonaamjjhhiiaaGreatDoor

/-- The first k terms of n/d. -/
def tlF : Nat → Int → Int → List Int
  | 0, _, _ => []
  | k + 1, n, d => if 0 < d then n / d :: tlF k d (n % d) else []
/-- The terms of n/d. -/
def tl (n d : Int) : List Int := tlF d.toNat n d
theorem tlF_more (k : Nat) : ∀ (m : Nat) (n d : Int), d.toNat ≤ k → k ≤ m → tlF m n d = tlF k n d := by
  induction k with
  | zero =>
    intro m n d h _
    have hd : ¬ 0 < d := by omega
    cases m with
    | zero => rfl
    | succ m => simp [tlF, hd]
  | succ k ih =>
    intro m n d h hm
    cases m with
    | zero => omega
    | succ m =>
      by_cases hd : 0 < d
      · have h1 := Int.emod_lt_of_pos n hd
        have h2 := Int.emod_nonneg n (b := d) (by omega)
        simp only [tlF, hd, if_true]
        rw [ih m d (n % d) (by omega) (by omega)]
      · simp [tlF, hd]
theorem tl_pos {n d : Int} (h : 0 < d) : tl n d = n / d :: tl d (n % d) := by
  have h1 := Int.emod_lt_of_pos n h
  have h2 := Int.emod_nonneg n (b := d) (by omega)
  obtain ⟨k, hk⟩ : ∃ k, d.toNat = k + 1 := ⟨d.toNat - 1, by omega⟩
  unfold tl
  rw [hk]
  simp only [tlF, h, if_true]
  rw [tlF_more (n % d).toNat k d (n % d) (Nat.le_refl _) (by omega)]
theorem tl_zero {n d : Int} (h : d ≤ 0) : tl n d = [] := by
  unfold tl
  rw [show d.toNat = 0 by omega]
  rfl
theorem tl_len (k : Nat) : ∀ n d : Int, d.toNat ≤ k → (tl n d).length ≤ d.toNat := by
  induction k with
  | zero => intro n d h; rw [tl_zero (by omega)]; simp
  | succ k ih =>
    intro n d h
    by_cases hd : 0 < d
    · have h1 := Int.emod_lt_of_pos n hd
      have h2 := Int.emod_nonneg n (b := d) (by omega)
      have := ih d (n % d) (by omega)
      rw [tl_pos hd]; simp; omega
    · rw [tl_zero (by omega)]; simp
theorem tl_ex : tl 355 113 = [3, 7, 16] := by
  rw [tl_pos (by decide), tl_pos (by decide), tl_pos (by decide), tl_zero (by decide)]; rfl

theorem low_eq {a b n d : Int} (hb : 1 ≤ b) (hd : 1 ≤ d) (hg : gc n d = 1) (h : a * d = n * b) : lowN a b = n ∧ lowD a b = d := by
  have g1 := lowN_mul a b
  have g2 := lowD_mul a b
  have gp := gc_pos (n := a) (d := b) (by omega)
  refine low_unique (lowD_pos hb) hd (low_gc hb) hg ?_
  have : (lowN a b * d) * gc a b = (n * lowD a b) * gc a b := by grind
  exact Int.eq_of_mul_eq_mul_right (by omega) this
theorem lowOk_eq {a b n d : Int} (hb : 1 ≤ b) (ho : okQ n d = true) (h : a * d = n * b) : lowN a b = n ∧ lowD a b = d ∧ lowOk a b = true := by
  obtain ⟨h1, h2, h3, h4, h5⟩ := okQ_iff.1 ho
  obtain ⟨e1, e2⟩ := low_eq hb h1 h5 h
  exact ⟨e1, e2, lowOk_iff.2 (by rw [e1, e2]; omega)⟩
/-- A sum less what was added. -/
theorem sub_add {an ad bn bd : Int} (ha : okQ an ad = true) (hb : okQ bn bd = true) :
    lowN (lowN (an * bd + bn * ad) (ad * bd) * bd - bn * lowD (an * bd + bn * ad) (ad * bd)) (lowD (an * bd + bn * ad) (ad * bd) * bd) = an ∧
    lowD (lowN (an * bd + bn * ad) (ad * bd) * bd - bn * lowD (an * bd + bn * ad) (ad * bd)) (lowD (an * bd + bn * ad) (ad * bd) * bd) = ad ∧
    lowOk (lowN (an * bd + bn * ad) (ad * bd) * bd - bn * lowD (an * bd + bn * ad) (ad * bd)) (lowD (an * bd + bn * ad) (ad * bd) * bd) = true := by
  obtain ⟨a1, a2, a3, a4, a5⟩ := okQ_iff.1 ha
  obtain ⟨b1, b2, b3, b4, b5⟩ := okQ_iff.1 hb
  have hp : 1 ≤ ad * bd := Int.mul_pos (by omega) (by omega)
  have g1 := lowN_mul (an * bd + bn * ad) (ad * bd)
  have g2 := lowD_mul (an * bd + bn * ad) (ad * bd)
  have gp := gc_pos (n := an * bd + bn * ad) (d := ad * bd) (by omega)
  have hq := lowD_pos (n := an * bd + bn * ad) hp
  generalize lowN (an * bd + bn * ad) (ad * bd) = p at *
  generalize lowD (an * bd + bn * ad) (ad * bd) = q at *
  generalize gc (an * bd + bn * ad) (ad * bd) = g at *
  have hqb : 1 ≤ q * bd := Int.mul_pos (by omega) (by omega)
  refine lowOk_eq hqb ha ?_
  have : ((p * bd - bn * q) * ad) * g = (an * (q * bd)) * g := by grind
  exact Int.eq_of_mul_eq_mul_right (by omega) this
/-- A product divided by what was a factor above 0. -/
theorem div_mul_pos {an ad bn bd : Int} (ha : okQ an ad = true) (hb : okQ bn bd = true) (hs : 0 < bn) :
    lowN (lowN (an * bn) (ad * bd) * bd) (bn * lowD (an * bn) (ad * bd)) = an ∧
    lowD (lowN (an * bn) (ad * bd) * bd) (bn * lowD (an * bn) (ad * bd)) = ad ∧
    lowOk (lowN (an * bn) (ad * bd) * bd) (bn * lowD (an * bn) (ad * bd)) = true := by
  obtain ⟨a1, a2, a3, a4, a5⟩ := okQ_iff.1 ha
  obtain ⟨b1, b2, b3, b4, b5⟩ := okQ_iff.1 hb
  have hp : 1 ≤ ad * bd := Int.mul_pos (by omega) (by omega)
  have g1 := lowN_mul (an * bn) (ad * bd)
  have g2 := lowD_mul (an * bn) (ad * bd)
  have gp := gc_pos (n := an * bn) (d := ad * bd) (by omega)
  have hq := lowD_pos (n := an * bn) hp
  generalize lowN (an * bn) (ad * bd) = p at *
  generalize lowD (an * bn) (ad * bd) = q at *
  generalize gc (an * bn) (ad * bd) = g at *
  have hqb : 1 ≤ bn * q := Int.mul_pos (by omega) (by omega)
  refine lowOk_eq hqb ha ?_
  have : ((p * bd) * ad) * g = (an * (bn * q)) * g := by grind
  exact Int.eq_of_mul_eq_mul_right (by omega) this
theorem div_mul_neg {an ad bn bd : Int} (ha : okQ an ad = true) (hb : okQ bn bd = true) (hs : bn < 0) :
    lowN (-lowN (an * bn) (ad * bd) * bd) (-bn * lowD (an * bn) (ad * bd)) = an ∧
    lowD (-lowN (an * bn) (ad * bd) * bd) (-bn * lowD (an * bn) (ad * bd)) = ad ∧
    lowOk (-lowN (an * bn) (ad * bd) * bd) (-bn * lowD (an * bn) (ad * bd)) = true := by
  obtain ⟨a1, a2, a3, a4, a5⟩ := okQ_iff.1 ha
  obtain ⟨b1, b2, b3, b4, b5⟩ := okQ_iff.1 hb
  have hp : 1 ≤ ad * bd := Int.mul_pos (by omega) (by omega)
  have g1 := lowN_mul (an * bn) (ad * bd)
  have g2 := lowD_mul (an * bn) (ad * bd)
  have gp := gc_pos (n := an * bn) (d := ad * bd) (by omega)
  have hq := lowD_pos (n := an * bn) hp
  generalize lowN (an * bn) (ad * bd) = p at *
  generalize lowD (an * bn) (ad * bd) = q at *
  generalize gc (an * bn) (ad * bd) = g at *
  have hqb : 1 ≤ -bn * q := Int.mul_pos (by omega) (by omega)
  refine lowOk_eq hqb ha ?_
  have : ((-p * bd) * ad) * g = (an * (-bn * q)) * g := by grind
  exact Int.eq_of_mul_eq_mul_right (by omega) this
end Go.Proofs.YtgonaamjjhhiiaaGreatDoor
