/-
  Ascending lists of solids into which solids are put: mathematics.
-/
import Derived.Test.YtadkaplafaeebaaGreatDoorPkXQ
import Derived.Test.YtadkaplafaeebaaGreatDoorPkZQ
import Derived.Test.YtadkaplafaeebaaGreatDoorPkGQ
import Derived.Test.YtadkaplafaeebaaGreatDoorPkCQ
import Derived.Test.YtadkaplafaeebaaGreatDoorPkRQ
import Derived.Test.YtadkaplafaeebaaGreatDoorPkMQ
set_option linter.unusedVariables false
set_option linter.unusedSimpArgs false
namespace Go.Proofs.YtadkaplafaeebaaGreatDoor
open Go Go.RowKit

end Go.Proofs.YtadkaplafaeebaaGreatDoor
/-
  What fits into what, told by places; counted; congruent solids.
-/
set_option linter.unusedVariables false
set_option linter.unusedSimpArgs false
set_option maxRecDepth 100000
namespace Go.Proofs.YtadkaplafaeebaaGreatDoor
open Go Go.RowKit

theorem has_meet (f g : Sol) (p : I3) : hasI (meetF f g) p = (hasI f p && hasI g p) := by
  unfold hasI hasC meetF
  rw [Nat.testBit_and]
  cases inG p.1 p.2.1 p.2.2 <;> simp
theorem meet_fit {f g : Sol} (hf : Fit f) : Fit (meetF f g) := fun i => Nat.lt_of_le_of_lt Nat.and_le_left (hf i)
theorem in_iff {f g : Sol} (hf : Fit f) : inB f g = true ↔ ∀ p, hasI f p = true → hasI g p = true := by
  unfold inB
  constructor
  · intro h p hp
    have := has_congr h p
    rw [has_meet, hp] at this
    simpa using this
  · intro h
    refine has_ext (meet_fit hf) hf fun p => ?_
    rw [has_meet, Bool.and_eq_true]
    exact ⟨fun h => h.1, fun hp => ⟨hp, h p hp⟩⟩
theorem has_high {f : Sol} (hf : Fit f) {p : I3} (h : hasI f p = true) : p.1 < highX f ∧ p.2.1 < highY f ∧ p.2.2 < highZ f := by
  obtain ⟨a, b, c, ⟨h1, h2, h3⟩, rfl, h4⟩ := (hasI_iff f p).1 h
  obtain ⟨w1, w2, w3, w4, w5, w6⟩ := within hf h1 h2 h3 h4
  simp only
  omega
theorem has_at_high {f : Sol} (hf : Fit f) (he : emptyS f = false) : (∃ p, hasI f p = true ∧ p.1 = (highX f : Int) - 1) ∧ (∃ p, hasI f p = true ∧ p.2.1 = (highY f : Int) - 1) ∧ (∃ p, hasI f p = true ∧ p.2.2 = (highZ f : Int) - 1) := by
  have bn := boundN hf he
  have := bn.x0
  have := bn.x1
  have := bn.y0
  have := bn.y1
  have := bn.z0
  have := bn.z1
  obtain ⟨y1, z1, a1, a2, a3⟩ := at_highX hf he
  obtain ⟨x3, z3, c1, c2, c3⟩ := at_highY hf he
  obtain ⟨x5, y5, e1, e2, e3⟩ := at_highZ hf he
  exact ⟨⟨_, (hasI_iff f _).2 ⟨_, _, _, ⟨by omega, a1, a2⟩, rfl, a3⟩, by simp only; omega⟩, ⟨_, (hasI_iff f _).2 ⟨_, _, _, ⟨c1, by omega, c2⟩, rfl, c3⟩, by simp only; omega⟩, ⟨_, (hasI_iff f _).2 ⟨_, _, _, ⟨e1, e2, by omega⟩, rfl, e3⟩, by simp only; omega⟩⟩
theorem cells_asc (f : Sol) : (cellsL f).Pairwise fun a b => a.1 < b.1 := by
  unfold cellsL restL
  refine List.pairwise_flatMap.2 ⟨fun k hk => ?_, ?_⟩
  · have hk2 := List.mem_range'_1.1 hk
    unfold planeL
    refine List.pairwise_map.2 ?_
    have h1 : (bitsOf 64 (f k)).Pairwise (· < ·) := by unfold bitsOf; exact List.pairwise_lt_range.filter _
    refine h1.imp_of_mem fun {a b} ha hb hab => ?_
    have hb2 : b < 64 := by unfold bitsOf at hb; exact List.mem_range.1 (List.mem_filter.1 hb).1
    rw [ci_val (by omega) (by omega), ci_val (by omega) hb2]
    omega
  · have h1 : (List.range' 0 (8 - 0)).Pairwise (· < ·) := List.pairwise_lt_range'
    refine h1.imp_of_mem fun {a b} ha hb hab x hx y hy => ?_
    have ha2 := List.mem_range'_1.1 ha
    have hb2 := List.mem_range'_1.1 hb
    unfold planeL bitsOf at hx hy
    obtain ⟨i, hi, rfl⟩ := List.mem_map.1 hx
    obtain ⟨j, hj, rfl⟩ := List.mem_map.1 hy
    have hi2 := List.mem_range.1 (List.mem_filter.1 hi).1
    have hj2 := List.mem_range.1 (List.mem_filter.1 hj).1
    rw [ci_val (by omega) hi2, ci_val (by omega) hj2]
    omega
def numF (f : Sol) : Nat := (cellsL f).length
theorem mem_cellI (f : Sol) (c : Cl) : c ∈ cellsL f ↔ hasI f (toI c) = true := by rw [mem_cells, has_cell]
end Go.Proofs.YtadkaplafaeebaaGreatDoor
/-
  The images of a solid, their number, their least one, their symmetries.
-/
set_option linter.unusedVariables false
set_option linter.unusedSimpArgs false
set_option maxRecDepth 100000
namespace Go.Proofs.YtadkaplafaeebaaGreatDoor
open Go Go.RowKit Go.Sort

end Go.Proofs.YtadkaplafaeebaaGreatDoor
/-
  The images of a solid as a strictly ascending list, and as the reference puts them together.
-/
set_option linter.unusedVariables false
set_option linter.unusedSimpArgs false
namespace Go.Proofs.YtadkaplafaeebaaGreatDoor
open Go Go.RowKit Go.Shelf

end Go.Proofs.YtadkaplafaeebaaGreatDoor
