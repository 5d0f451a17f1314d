/-
  The reference's Turned.
-/
import Derived.Test.YtadkaplafaeebaaGreatDoorPkRAQ
import Derived.Test.YtadkaplafaeebaaGreatDoorPkFQ
import Derived.Test.YtadkaplafaeebaaGreatDoorPkYMQ
import Derived.Deep.Cut
set_option linter.unusedVariables false
set_option linter.unusedSimpArgs false
namespace Go.Proofs.YtadkaplafaeebaaGreatDoor
open Go Go.RowKit Go.Shelf

theorem flatC_get : ∀ (l : List Cl) (i j : Nat) (c : Cl) (u : Value), l[i]? = some c → (celL c)[j]? = some u → (flatC l)[3 * i + j]? = some u
  | [], i, j, c, u, h, _ => by simp at h
  | a :: l, 0, j, c, u, h, hu => by
    have e : a = c := by simpa using h
    subst e
    have hj : j < 3 := by
      rcases Nat.lt_or_ge j 3 with h | h
      · exact h
      · rw [List.getElem?_eq_none (by simpa [celL] using h)] at hu
        cases hu
    show (celL a ++ flatC l)[3 * 0 + j]? = some u
    rw [List.getElem?_append_left (by simp [celL]; omega), show 3 * 0 + j = j by omega]
    exact hu
  | a :: l, i + 1, j, c, u, h, hu => by
    show (celL a ++ flatC l)[3 * (i + 1) + j]? = some u
    rw [List.getElem?_append_right (by simp [celL]; omega), show 3 * (i + 1) + j - (celL a).length = 3 * i + j by simp [celL]; omega]
    exact flatC_get l i j c u (by simpa using h) hu
theorem cell_same {W W' : World} {g : Nat} (h : W'.heap[g]? = W.heap[g]?) (k : Nat) : W'.cell? ⟨g, k, none⟩ = W.cell? ⟨g, k, none⟩ := by
  simp only [World.cell?, h]
theorem heap_put8 (W : World) {B g : Nat} (f : Sol) (h : g ≠ B) : (put8 W B f).heap[g]? = W.heap[g]? :=
  ((Below.heap_setCell _ ⟨B, 7, none⟩ _ g h).trans ((Below.heap_setCell _ ⟨B, 6, none⟩ _ g h).trans ((Below.heap_setCell _ ⟨B, 5, none⟩ _ g h).trans ((Below.heap_setCell _ ⟨B, 4, none⟩ _ g h).trans ((Below.heap_setCell _ ⟨B, 3, none⟩ _ g h).trans ((Below.heap_setCell _ ⟨B, 2, none⟩ _ g h).trans ((Below.heap_setCell _ ⟨B, 1, none⟩ _ g h).trans (Below.heap_setCell _ ⟨B, 0, none⟩ _ g h))))))))
/-- A row of cells that a callee has laid: what its slice points to. -/
theorem rowC_at {W : World} {b d : Nat} {v : Value} {l : List Cl} (h : W.ownsRow b 26 3 v l.length (flatC l)) (hd : d < W.heap.size) (hdb : d < b) :
    ∃ p cap g, v = .slice p l.length cap ∧ (0 < l.length → p = some ⟨g, 0, none⟩) ∧ g < W.heap.size ∧ (g = d ∨ b ≤ g) ∧ ∀ k c, l[k]? = some c → W.cell? ⟨g, k * 3, none⟩ = some (.int .i64 (cX c : Nat)) ∧ W.cell? ⟨g, k * 3 + 1, none⟩ = some (.int .i64 (cY c : Nat)) ∧ W.cell? ⟨g, k * 3 + 2, none⟩ = some (.int .i64 (cZ c : Nat)) := by
  rcases h.2 with ⟨e1, e2⟩ | ⟨g, cap, cur, e1, e0, e3, _⟩
  · refine ⟨none, 0, d, by rw [e1, e2], fun h => by omega, hd, .inl rfl, fun k c hk => ?_⟩
    have : k < l.length := (List.getElem?_eq_some_iff.1 hk).1
    omega
  · refine ⟨some ⟨g, 0, none⟩, cap, g, e1, fun _ => rfl, (Array.getElem?_eq_some_iff.1 e3).1, .inr (h.lt g (by rw [e1]; rfl)).1, fun k c hk => ?_⟩
    have key : ∀ j u, (celL c)[j]? = some u → W.cell? ⟨g, k * 3 + j, none⟩ = some u := fun j u hu => by
      have h1 := h.cells (g := g) (by rw [e1]; rfl) (3 * k + j) _ (flatC_get l k j c u hk hu)
      rw [addr_add, Nat.mul_comm 3 k] at h1
      exact h1
    exact ⟨key 0 _ rfl, key 1 _ rfl, key 2 _ rfl⟩
end Go.Proofs.YtadkaplafaeebaaGreatDoor
/-
  The reference's short, motion, Moved.
-/
set_option linter.unusedVariables false
set_option linter.unusedSimpArgs false
namespace Go.Proofs.YtadkaplafaeebaaGreatDoor
open Go Go.RowKit Go.Shelf

end Go.Proofs.YtadkaplafaeebaaGreatDoor
/-
  The reference's Mirrored, motion, Placed; turns that are none.
-/
set_option linter.unusedVariables false
set_option linter.unusedSimpArgs false
namespace Go.Proofs.YtadkaplafaeebaaGreatDoor
open Go Go.RowKit Go.Shelf

end Go.Proofs.YtadkaplafaeebaaGreatDoor
/-
  The reference's motion and Placed.
-/
set_option linter.unusedVariables false
set_option linter.unusedSimpArgs false
namespace Go.Proofs.YtadkaplafaeebaaGreatDoor
open Go Go.RowKit Go.Shelf

end Go.Proofs.YtadkaplafaeebaaGreatDoor
