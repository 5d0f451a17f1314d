/-
  The terms of a fraction are terms, and make the fraction again.
-/
import Derived.Test.YtgonaamjjhhiiaaDoorFromT
import Derived.Test.YtgonaamjjhhiiaaDoorTermN
set_option linter.unusedVariables false
namespace Go.Proofs.YtgonaamjjhhiiaaDoor

def gF : Nat → Int
  | 0 => 1
  | 1 => 2
  | k + 2 => gF (k + 1) + gF k
theorem tl_gF (k : Nat) : ∀ p q : Int, 0 < q → k + 1 ≤ (tl p q).length → gF k ≤ q ∧ (1 ≤ k → gF (k - 1) ≤ p % q) := by
  induction k with
  | zero => intro p q h _; exact ⟨by unfold gF; omega, fun h => absurd h (by omega)⟩
  | succ k ih =>
    intro p q h hl
    have m1 := Int.emod_lt_of_pos p h
    have m2 := Int.emod_nonneg p (b := q) (by omega)
    rw [tl_pos h] at hl
    have hr : 0 < p % q := by
      rcases Int.lt_or_le 0 (p % q) with hh | hh
      · exact hh
      · rw [tl_zero hh] at hl; simp at hl
    obtain ⟨h1, h2⟩ := ih q (p % q) hr (by simpa using hl)
    refine ⟨?_, fun _ => h1⟩
    cases k with
    | zero => unfold gF at *; omega
    | succ k =>
      have h3 := h2 (by omega)
      have h4 := Int.emod_add_mul_ediv q (p % q)
      have h5 : 1 ≤ q / (p % q) := (Int.le_ediv_iff_mul_le hr).2 (by omega)
      have h6 := Int.mul_le_mul_of_nonneg_left h5 (show 0 ≤ p % q by omega)
      show gF (k + 1) + gF k ≤ q
      rw [Nat.add_sub_cancel] at h3
      omega
theorem tl_len40 {p q : Int} (h1 : 0 < q) (h2 : q ≤ 1000000) : (tl p q).length ≤ 40 := by
  rcases Nat.lt_or_ge (tl p q).length 41 with h | h
  · omega
  · have := (tl_gF 40 p q h1 (by omega)).1
    have e : gF 40 = 267914296 := by decide +kernel
    omega

theorem tl_le (k : Nat) : ∀ p q : Int, q.toNat ≤ k → 0 ≤ p → p ≤ 1000000 → q ≤ 1000000 → ∀ t ∈ tl p q, t ≤ 1000000 := by
  induction k with
  | zero => intro p q h _ _ _ t ht; rw [tl_zero (by omega)] at ht; simp at ht
  | succ k ih =>
    intro p q h hp hp' hq t ht
    rcases Int.lt_or_le 0 q with hq0 | hq0
    · have m1 := Int.emod_lt_of_pos p hq0
      have m2 := Int.emod_nonneg p (b := q) (by omega)
      rw [tl_pos hq0] at ht
      rcases List.mem_cons.1 ht with rfl | ht
      · have := Int.ediv_le_self q hp; omega
      · exact ih q (p % q) (by omega) (by omega) hq (by omega) t ht
    · rw [tl_zero hq0] at ht; simp at ht
theorem tl_last (k : Nat) : ∀ p q : Int, q.toNat ≤ k → 0 < q → q < p → ∃ t, (tl p q).getLast? = some t ∧ 2 ≤ t := by
  induction k with
  | zero => intro p q h h1; omega
  | succ k ih =>
    intro p q h hq hpq
    have m1 := Int.emod_lt_of_pos p hq
    have m2 := Int.emod_nonneg p (b := q) (by omega)
    have m3 := Int.emod_add_mul_ediv p q
    rw [tl_pos hq]
    by_cases hr : p % q = 0
    · refine ⟨p / q, by rw [hr, tl_zero (Int.le_refl _)]; rfl, ?_⟩
      rcases Int.lt_or_le (p / q) 2 with hh | hh
      · have : q * (p / q) ≤ q * 1 := Int.mul_le_mul_of_nonneg_left (by omega) (by omega)
        omega
      · exact hh
    · obtain ⟨t, h1, h2⟩ := ih q (p % q) (by omega) (by omega) m1
      refine ⟨t, ?_, h2⟩
      rw [tl_pos (n := q) (d := p % q) (by omega)] at h1 ⊢
      rw [List.getLast?_cons_cons]
      exact h1

theorem tl_nonempty {p q : Int} (h : 0 < q) : 1 ≤ (tl p q).length := by rw [tl_pos h]; simp
theorem okTP_tl {p q : Int} (ha : okQ p q = true) : okTP (tl p q) := by
  obtain ⟨h1, h2, h3, h4, _⟩ := okQ_iff.1 ha
  have m1 := Int.emod_lt_of_pos p (b := q) (by omega)
  have m2 := Int.emod_nonneg p (b := q) (by omega)
  have fb := floor_bd (n := p) (d := q) (B := 1000000000) (by omega) (by omega) (by omega)
  refine ⟨tl_nonempty (by omega), tl_len40 (by omega) h2, fun j hj => ?_, ?_⟩
  · rw [tl_pos (by omega)] at hj ⊢
    cases j with
    | zero => unfold termB; simp only [List.getD_cons_zero]; exact ⟨by omega, by omega, fun h => absurd h (Nat.lt_irrefl _)⟩
    | succ j =>
      have hj' : j < (tl q (p % q)).length := by simpa using hj
      have hm : (tl q (p % q)).getD j 0 ∈ tl q (p % q) := by
        rw [List.getD_eq_getElem?_getD, List.getElem?_eq_getElem hj']
        exact List.getElem_mem hj'
      have k1 := tlF_posL (p % q).toNat (Nat.le_refl _) m1 _ hm
      have k2 := tl_le (p % q).toNat q (p % q) (Nat.le_refl _) (by omega) h2 (by omega) _ hm
      unfold termB
      simp only [List.getD_cons_succ]
      omega
  · by_cases hr : p % q = 0
    · left; rw [tl_pos (by omega), hr, tl_zero (Int.le_refl _)]; rfl
    · right
      obtain ⟨t, k1, k2⟩ := tl_last (p % q).toNat q (p % q) (Nat.le_refl _) (by omega) m1
      rw [tl_pos (n := p) (by omega)]
      rw [tl_pos (n := q) (d := p % q) (by omega)] at k1 ⊢
      rw [List.getD_eq_getElem?_getD, ← List.getLast?_eq_getElem?, List.getLast?_cons_cons, k1]
      exact k2
theorem vok_tl {p q : Int} (ha : okQ p q = true) : vok (tl p q) = true := by
  obtain ⟨h1, h2, h3, h4, h5⟩ := okQ_iff.1 ha
  have m1 := Int.emod_lt_of_pos p (b := q) (by omega)
  have hv := vb_tl q.toNat (Nat.le_refl _) h1 h5
  rw [tl_pos (by omega)] at hv ⊢
  have hq : (vb (tl q (p % q))).1 = q := congrArg Prod.snd hv
  have hp := tlF_posL (p % q).toNat (Nat.le_refl _) m1
  simp only [vok, Bool.and_eq_true, decide_eq_true_eq]
  exact ⟨vok_of _ hp (by omega), by omega⟩
theorem ft_tl {p q : Int} (ha : okQ p q = true) : ftN (tl p q) = p ∧ ftD (tl p q) = q ∧ ftE (tl p q) = 0 := by
  obtain ⟨h1, h2, h3, h4, h5⟩ := okQ_iff.1 ha
  obtain ⟨e1, e2, e3⟩ := ft_made (okT_yes (okTP_tl ha)) (vok_tl ha)
  rw [vb_tl q.toNat (Nat.le_refl _) h1 h5] at e1 e2 e3
  have hl : lowOk p q = true := by rw [← okQ_low h1]; obtain ⟨l1, l2⟩ := low_of_gc h5; rw [l1, l2]; exact ha
  obtain ⟨l1, l2⟩ := low_of_gc h5
  rw [e1, e2, e3]
  unfold madeN madeD madeE
  rw [if_pos hl, if_pos hl, if_pos hl, l1, l2]
  exact ⟨rfl, rfl, rfl⟩
theorem cv_last {p q : Int} (ha : okQ p q = true) : (cv p q)[(tl p q).length - 1]? = some (p, q) := by
  obtain ⟨h1, h2, h3, h4, h5⟩ := okQ_iff.1 ha
  have hn := tl_nonempty (p := p) (q := q) (by omega)
  rw [cv_vb (by omega), show (tl p q).length - 1 + 1 = (tl p q).length by omega, List.take_length, vb_tl q.toNat (Nat.le_refl _) h1 h5]
end Go.Proofs.YtgonaamjjhhiiaaDoor
