/-
  That the miss first falls and then rises.
-/
import Derived.Test.YtgonaamjjhhiiaaGreatDoorWorst0
set_option linter.unusedVariables false
set_option linter.unusedSimpArgs false
namespace Go.Proofs.YtgonaamjjhhiiaaGreatDoor
open Go Go.RowKit

/-- The miss of a size: the parts. -/
def misN (ln ld mn md want s : Int) : Int := worN want want (s * (md - mn)) md (s * (ld - ln)) ld
def misD (ln ld mn md want s : Int) : Int := worD want want (s * (md - mn)) md (s * (ld - ln)) ld
/-- The closure of Best. -/
def pB (ln ld mn md want n : Int) : Bool := decide (misN ln ld mn md want n * misD ln ld mn md want (n + 1) - misN ln ld mn md want (n + 1) * misD ln ld mn md want n ≤ 0)

/-- The miss over the product of both Dens. -/
def misM (ln ld mn md want s : Int) : Int := if want * (ld * md) - s * ((md - mn) * ld) < s * ((ld - ln) * md) - want * (ld * md) then s * ((ld - ln) * md) - want * (ld * md) else want * (ld * md) - s * ((md - mn) * ld)

theorem le_mul_iff {a b c : Int} (hc : 1 ≤ c) : a * c ≤ b * c ↔ a ≤ b := ⟨fun h => Int.le_of_mul_le_mul_right h (by omega), fun h => Int.mul_le_mul_of_nonneg_right h (by omega)⟩

theorem mis_parts {ln ld mn md want s : Int} (hl : 1 ≤ ld) (hm : 1 ≤ md) : (misN ln ld mn md want s = s * (ld - ln) - want * ld ∧ misD ln ld mn md want s = ld ∧ misM ln ld mn md want s = (s * (ld - ln) - want * ld) * md) ∨
    (misN ln ld mn md want s = want * md - s * (md - mn) ∧ misD ln ld mn md want s = md ∧ misM ln ld mn md want s = (want * md - s * (md - mn)) * ld) := by
  have e1 : (want * md - s * (md - mn)) * ld = want * (ld * md) - s * ((md - mn) * ld) := by
    rw [Int.sub_mul, Int.mul_assoc, Int.mul_comm md ld, Int.mul_assoc]
  have e2 : (s * (ld - ln) - want * ld) * md = s * ((ld - ln) * md) - want * (ld * md) := by
    rw [Int.sub_mul, Int.mul_assoc, Int.mul_assoc]
  unfold misN misD misM worN worD
  rw [e1, e2]
  by_cases hk : want * (ld * md) - s * ((md - mn) * ld) - (s * ((ld - ln) * md) - want * (ld * md)) < 0
  · left
    rw [if_pos hk, if_pos hk, if_pos (by omega)]
    exact ⟨rfl, rfl, rfl⟩
  · right
    rw [if_neg hk, if_neg hk, if_neg (by omega)]
    exact ⟨rfl, rfl, rfl⟩

/-- Two misses are compared as over the product of both Dens. -/
theorem mis_le {ln ld mn md want s t : Int} (hl : 1 ≤ ld) (hm : 1 ≤ md) : misN ln ld mn md want s * misD ln ld mn md want t ≤ misN ln ld mn md want t * misD ln ld mn md want s ↔ misM ln ld mn md want s ≤ misM ln ld mn md want t := by
  rcases mis_parts (ln := ln) (mn := mn) (want := want) (s := s) hl hm with ⟨a1, a2, a3⟩ | ⟨a1, a2, a3⟩ <;> rcases mis_parts (ln := ln) (mn := mn) (want := want) (s := t) hl hm with ⟨b1, b2, b3⟩ | ⟨b1, b2, b3⟩ <;> rw [a1, a2, a3, b1, b2, b3]
  · rw [le_mul_iff hl, le_mul_iff hm]
  · rw [le_mul_iff hm, le_mul_iff hl]

theorem pB_iff {ln ld mn md want n : Int} (hl : 1 ≤ ld) (hm : 1 ≤ md) : pB ln ld mn md want n = true ↔ misM ln ld mn md want n ≤ misM ln ld mn md want (n + 1) := by
  unfold pB
  rw [decide_eq_true_iff, ← mis_le hl hm]
  omega

theorem misM_rises {ln ld mn md want n m : Int} (hl : 1 ≤ ld) (hm : 1 ≤ md) (h1 : ln ≤ ld) (h2 : mn ≤ md) (hnm : n ≤ m) (hp : misM ln ld mn md want n ≤ misM ln ld mn md want (n + 1)) : misM ln ld mn md want m ≤ misM ln ld mn md want (m + 1) := by
  unfold misM at hp ⊢
  have ha : 0 ≤ (ld - ln) * md := Int.mul_nonneg (by omega) (by omega)
  have hb : 0 ≤ (md - mn) * ld := Int.mul_nonneg (by omega) (by omega)
  generalize (ld - ln) * md = α at *
  generalize (md - mn) * ld = β at *
  generalize want * (ld * md) = v at *
  have k1 : n * α ≤ m * α := Int.mul_le_mul_of_nonneg_right hnm ha
  have k2 : n * β ≤ m * β := Int.mul_le_mul_of_nonneg_right hnm hb
  rw [Int.add_mul, Int.add_mul, Int.one_mul, Int.one_mul] at hp ⊢
  split at hp <;> split at hp <;> split <;> split <;> omega

theorem pB_mono {ln ld mn md want : Int} (hl : 1 ≤ ld) (hm : 1 ≤ md) (h1 : ln ≤ ld) (h2 : mn ≤ md) (n m : Int) (hnm : n ≤ m) (hp : pB ln ld mn md want n = true) : pB ln ld mn md want m = true := by
  rw [pB_iff hl hm] at hp ⊢
  exact misM_rises hl hm h1 h2 hnm hp

theorem misD_bd {ln ld mn md want s : Int} (hl : 1 ≤ ld) (hm : 1 ≤ md) (hl' : ld ≤ 1000) (hm' : md ≤ 1000) : 1 ≤ misD ln ld mn md want s ∧ misD ln ld mn md want s ≤ 1000 := by
  rcases mis_parts (ln := ln) (mn := mn) (want := want) (s := s) hl hm with ⟨a1, a2, a3⟩ | ⟨a1, a2, a3⟩ <;> rw [a2] <;> omega
end Go.Proofs.YtgonaamjjhhiiaaGreatDoor
