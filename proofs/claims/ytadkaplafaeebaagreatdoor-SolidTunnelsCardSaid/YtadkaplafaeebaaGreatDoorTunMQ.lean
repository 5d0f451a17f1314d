/-
  The law of tunnels: solids that are moved, turned and mirrored have the same numbers; .
-/
import Derived.Test.YtadkaplafaeebaaGreatDoorPkUBQ
import Derived.Test.YtadkaplafaeebaaGreatDoorPkUFQ
import Derived.Test.YtadkaplafaeebaaGreatDoorPkTJQ
import Derived.Test.YtadkaplafaeebaaGreatDoorPkYMQ
import Derived.Test.YtadkaplafaeebaaGreatDoorCountQ
set_option linter.unusedVariables false
set_option linter.unusedSimpArgs false
namespace Go.Proofs.YtadkaplafaeebaaGreatDoor
open Go Go.RowKit Go.Shelf

theorem mir_eq {a : Nat} (ha : a < 3) (p : I3) : mirJ 7 a p = mirI a p := by
  unfold mirJ mirI
  rcases (show a = 0 ∨ a = 1 ∨ a = 2 by omega) with rfl | rfl | rfl <;> rfl
theorem mv_mir (f : Sol) {a : Nat} (ha : a < 3) : Mv (mirJ 7 a) f (mirF f a) := fun p => by
  by_cases h : In7 p
  · have h' : In7 (mirJ 7 a p) := by rw [mir_eq ha]; exact mirI_in7 a h
    rw [hasI_in h', hasI_in h, mirF, has_solOf, Bool.eq_iff_iff, decide_eq_true_eq, List.mem_map]
    constructor
    · rintro ⟨c, hc, e⟩
      have e2 := congrArg toI e
      unfold mirC at e2
      rw [toI_ofI (mirI_in7 a (toI_in7 c)), toI_ofI h', ← mir_eq ha] at e2
      have e3 := congrArg (mirJ 7 a) e2
      rw [mir_mir, mir_mir] at e3
      rw [← e3, ← hasI_in (toI_in7 c), has_cell]
      exact (mem_cells _ _).1 hc
    · intro hh
      refine ⟨ofI p, (mem_cells _ _).2 hh, ?_⟩
      unfold mirC
      rw [toI_ofI h, mir_eq ha]
  · have h' : ¬ In7 (mirJ 7 a p) := fun hh => h (by
      have := mirI_in7 a hh
      rw [← mir_eq ha, mir_mir] at this
      exact this)
    rw [hasI_out h, hasI_out h']
theorem mv_turn (f : Sol) {t : Nat} (ht : t < 24) : Mv (turnI 7 t) f (turnedF f t) := fun p => by
  rw [has_turn' ht, (rig_turn ht).pq]
theorem mv_shift {f : Sol} (hf : Fit f) {x y z : Int} (ho : outB f x y z = false) : Mv (fun p => plus p (x, y, z)) f (shiftS f x y z) := fun p => by
  rw [Bool.eq_iff_iff, has_shift hf ho]
  constructor
  · rintro ⟨c, hc, e⟩
    rw [← plus_inj e]
    exact hc
  · exact fun h => ⟨p, h, rfl⟩
/-- Two solids with the same numbers. -/
def Kin (f g : Sol) : Prop := Fit g ∧ numF g = numF f ∧ (partsF g).length = (partsF f).length ∧ (cavF g).length = (cavF f).length ∧ eulF g = eulF f ∧ skinF g = skinF f
theorem Kin.refl {f : Sol} (h : Fit f) : Kin f f := ⟨h, rfl, rfl, rfl, rfl, rfl⟩
theorem Kin.trans {f g k : Sol} (h : Kin f g) (h' : Kin g k) : Kin f k :=
  ⟨h'.1, h'.2.1.trans h.2.1, h'.2.2.1.trans h.2.2.1, h'.2.2.2.1.trans h.2.2.2.1, h'.2.2.2.2.1.trans h.2.2.2.2.1, h'.2.2.2.2.2.trans h.2.2.2.2.2⟩
theorem kin_mv {f g : Sol} (hf : Fit f) (hg : Fit g) {φ ψ D E : I3 → I3} (R : Rig φ ψ D E) (h : Mv φ f g) : Kin f g :=
  ⟨hg, (num_mv R h).symm, (parts_mv hf hg R h).symm, (cav_mv hf hg R h).symm, (eul_mv R h).symm, (skin_mv R h).symm⟩
theorem kin_turn {f : Sol} (hf : Fit f) {t : Nat} (ht : t < 24) : Kin f (turnedF f t) := kin_mv hf (turnedF_fit f t) (rig_turn ht) (mv_turn f ht)
theorem kin_mir {f : Sol} (hf : Fit f) {a : Nat} (ha : a < 3) : Kin f (mirF f a) := kin_mv hf (solOf_fit _) (rig_mir a) (mv_mir f ha)
theorem kin_shift {f : Sol} (hf : Fit f) {x y z : Int} (ho : outB f x y z = false) : Kin f (shiftS f x y z) := kin_mv hf (shiftF_fit hf _ _ _ 8) (rig_move (x, y, z)) (mv_shift hf ho)
theorem kin_moved (f : Sol) (hf : Fit f) (x y z : Int) : ∃ r e, (e = 0 → Kin f r) ∧ (∀ W : World, Calls Tryz.prog 44 #[sol f, .int .i64 x, .int .i64 y, .int .i64 z] W (RetB (.tuple #[sol r, .int .i64 e]) W)) := by
  cases he : emptyS f with
  | true => exact ⟨f, 0, fun _ => Kin.refl hf, fun W => moved_empty f x y z W he⟩
  | false =>
    cases ho : outB f x y z with
    | false => exact ⟨shiftS f x y z, 0, fun _ => kin_shift hf ho, fun W => moved_in f x y z W hf he ho⟩
    | true => exact ⟨fun _ => 0, 20, fun h => absurd h (by decide), fun W => moved_out f x y z W hf he ho⟩
theorem kin_placed (f : Sol) (hf : Fit f) (t x y z : Int) : ∃ p e, (e = 0 → Kin f p) ∧
    (∀ W : World, Tab64 W → Calls Tryz.prog 48 #[sol f, .agg #[.int .i64 (t), .int .i64 (x), .int .i64 (y), .int .i64 (z)]] W (RetB (.tuple #[sol p, .int .i64 e]) W)) := by
  cases hm : motB t x y z with
  | false => exact ⟨fun _ => 0, 1, fun h => absurd h (by decide), fun W _ => Placed_no f t x y z W hm⟩
  | true =>
    unfold motB at hm
    rw [Bool.and_eq_true] at hm
    have ht := of_decide_eq_true hm.1
    obtain ⟨n, rfl⟩ := Int.eq_ofNat_of_zero_le ht.1
    obtain ⟨r1, e, h0, h1⟩ := kin_moved (turnedF f n) (turnedF_fit f n) x y z
    exact ⟨r1, e, fun h => (kin_turn hf (by omega)).trans (h0 h), fun W hT => Placed_of f r1 n x y z e W hf (by omega) hm.2 hT h1⟩
theorem kin_mirrored (f : Sol) (hf : Fit f) (a : Int) : ∃ p e, (e = 0 → Kin f p) ∧
    (∀ W : World, Tab64 W → Calls Tryz.prog 46 #[sol f, .int .i64 a] W (RetB (.tuple #[sol p, .int .i64 e]) W)) := by
  by_cases h : a < 0 ∨ 2 < a
  · exact ⟨fun _ => 0, 1, fun h => absurd h (by decide), fun W _ => Mirrored_no f a W h⟩
  · rcases (show a = 0 ∨ a = 1 ∨ a = 2 by omega) with rfl | rfl | rfl
    · exact ⟨mirF f 0, 0, fun _ => kin_mir hf (by decide), fun W hT => Mirrored_0 f W hf hT⟩
    · exact ⟨mirF f 1, 0, fun _ => kin_mir hf (by decide), fun W hT => Mirrored_1 f W hf hT⟩
    · exact ⟨mirF f 2, 0, fun _ => kin_mir hf (by decide), fun W hT => Mirrored_2 f W hf hT⟩
end Go.Proofs.YtadkaplafaeebaaGreatDoor
