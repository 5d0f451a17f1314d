/-
  The sizes that serve: a first and a last one, or none; no other answer.
-/
import Derived.Test.YtgonaamjjhhiiaaDoorSizes
set_option linter.unusedVariables false
set_option linter.unusedSimpArgs false
namespace Go.Proofs.YtgonaamjjhhiiaaDoor
open Go Go.RowKit

theorem first_one (p : Int → Bool) (k : Nat) : (∀ n : Int, 1 ≤ n → n ≤ k → p n = false) ∨ ∃ r : Int, 1 ≤ r ∧ r ≤ k ∧ p r = true ∧ ∀ n, 1 ≤ n → n < r → p n = false := by
  induction k with
  | zero => left; intro n h1 h2; omega
  | succ k ih =>
    rcases ih with h | ⟨r, h1, h2, h3, h4⟩
    · cases hp : p ((k : Int) + 1) with
      | true => right; exact ⟨(k : Int) + 1, by omega, by omega, hp, fun n n1 n2 => h n n1 (by omega)⟩
      | false =>
        left; intro n n1 n2
        rcases Int.lt_or_le n ((k : Int) + 1) with hh | hh
        · exact h n n1 (by omega)
        · rw [show n = (k : Int) + 1 by omega]; exact hp
    · right; exact ⟨r, h1, by omega, h3, h4⟩
theorem sizes_exists {ln ld mn md : Int} (lo hi : Int) (hl : ln ≤ ld) (hm : mn ≤ md) : ∃ L M ok, SizesIs ln ld mn md lo hi L M ok := by
  have fL : ∃ L : Int, 1 ≤ L ∧ L ≤ 1000001 ∧ (∀ n, 1 ≤ n → n < L → pLo mn md lo n = false) ∧ (L < 1000001 → pLo mn md lo L = true) := by
    rcases first_one (pLo mn md lo) 1000000 with h | ⟨r, h1, h2, h3, h4⟩
    · exact ⟨1000001, by omega, by omega, fun n n1 n2 => h n n1 (by omega), fun hh => by omega⟩
    · exact ⟨r, h1, by omega, h4, fun _ => h3⟩
  have fR : ∃ R : Int, 1 ≤ R ∧ R ≤ 1000001 ∧ (∀ n, 1 ≤ n → n < R → pHi ln ld hi n = false) ∧ (R < 1000001 → pHi ln ld hi R = true) := by
    rcases first_one (pHi ln ld hi) 1000000 with h | ⟨r, h1, h2, h3, h4⟩
    · exact ⟨1000001, by omega, by omega, fun n n1 n2 => h n n1 (by omega), fun hh => by omega⟩
    · exact ⟨r, h1, by omega, h4, fun _ => h3⟩
  obtain ⟨L, a1, a2, a3, a4⟩ := fL
  obtain ⟨R, b1, b2, b3, b4⟩ := fR
  have hs := fun n n1 n2 => sizes_math (lo := lo) (hi := hi) hl hm a1 a2 a3 a4 b1 b2 b3 b4 n n1 n2
  by_cases h : L ≤ R - 1
  · exact ⟨L, R - 1, true, .inl ⟨rfl, a1, h, by omega, hs⟩⟩
  · refine ⟨0, 0, false, .inr ⟨rfl, rfl, rfl, fun n n1 n2 hn => ?_⟩⟩
    have := (hs n n1 n2).1 hn
    omega
theorem SizesIs.unique {ln ld mn md lo hi L M L' M' : Int} {ok ok' : Bool} (h : SizesIs ln ld mn md lo hi L M ok) (k : SizesIs ln ld mn md lo hi L' M' ok') : L' = L ∧ M' = M ∧ ok' = ok := by
  rcases h with ⟨rfl, h1, h2, h3, h4⟩ | ⟨rfl, rfl, rfl, h4⟩ <;> rcases k with ⟨rfl, k1, k2, k3, k4⟩ | ⟨rfl, rfl, rfl, k4⟩
  · have a := (k4 L (by omega) (by omega)).1 ((h4 L (by omega) (by omega)).2 (by omega))
    have b := (k4 M (by omega) (by omega)).1 ((h4 M (by omega) (by omega)).2 (by omega))
    have c := (h4 L' (by omega) (by omega)).1 ((k4 L' (by omega) (by omega)).2 (by omega))
    have d := (h4 M' (by omega) (by omega)).1 ((k4 M' (by omega) (by omega)).2 (by omega))
    refine ⟨by omega, by omega, rfl⟩
  · exact absurd ((h4 L (by omega) (by omega)).2 (by omega)) (k4 L (by omega) (by omega))
  · exact absurd ((k4 L' (by omega) (by omega)).2 (by omega)) (h4 L' (by omega) (by omega))
  · exact ⟨rfl, rfl, rfl⟩

def servesB (ln ld mn md lo hi n : Int) : Bool := decide (lo * md ≤ n * (md - mn) ∧ n * (ld - ln) ≤ hi * ld)
theorem servesB_iff {ln ld mn md lo hi n : Int} : servesB ln ld mn md lo hi n = true ↔ Serves ln ld mn md lo hi n := by unfold servesB Serves; exact decide_eq_true_iff
theorem servesB_no {ln ld mn md lo hi n : Int} (h : ¬ Serves ln ld mn md lo hi n) : servesB ln ld mn md lo hi n = false := by
  cases hb : servesB ln ld mn md lo hi n with
  | false => rfl
  | true => exact absurd (servesB_iff.1 hb) h
end Go.Proofs.YtgonaamjjhhiiaaDoor
