/-
  The law of motions, for every solid, turn, axis, move and motion.
-/
import Derived.Test.YtadkaplafaeebaaGreatDoorMotL
import Derived.Test.YtadkaplafaeebaaGreatDoorPkRB
import Derived.Test.YtadkaplafaeebaaGreatDoorMovedO
import Derived.Test.YtadkaplafaeebaaGreatDoorMirNo
import Derived.Test.YtadkaplafaeebaaGreatDoorPkV
set_option linter.unusedVariables false
set_option linter.unusedSimpArgs false
namespace Go.Proofs.YtadkaplafaeebaaGreatDoor
open Go Go.RowKit

theorem ofI_toI (c : Cl) : ofI (toI c) = c := Fin.ext (by
  rw [ofI_val (toI_in7 c)]
  unfold toI cX cY cZ
  simp only
  omega)
theorem cells_of_empty {f : Sol} (hf : Fit f) (h : emptyS f = true) : cellsL f = [] := by
  refine List.eq_nil_iff_forall_not_mem.2 fun c hc => ?_
  have := (mem_cellI f c).1 hc
  rw [(empty_has hf).1 h] at this
  cases this
theorem inM_iff (v : I3) (c : Cl) : inM v c = true ↔ In7 (plus (toI c) v) := by
  unfold inM inG In7 movP
  exact decide_eq_true_iff
theorem all_in {f : Sol} (hf : Fit f) (he : emptyS f = false) (v : I3) : outB f v.1 v.2.1 v.2.2 = false ↔ ∀ c ∈ cellsL f, inM v c = true := by
  rw [out_has hf he]
  constructor
  · exact fun h c hc => (inM_iff v c).2 (h _ ((mem_cellI f c).1 hc))
  · intro h p hp
    have h7 := has_in7 hp
    have := (inM_iff v (ofI p)).1 (h (ofI p) ((mem_cellI f _).2 (by rw [toI_ofI h7]; exact hp)))
    rwa [toI_ofI h7] at this
theorem mov_eq {f : Sol} (hf : Fit f) {x y z : Int} (ho : outB f x y z = false) (hall : ∀ c ∈ cellsL f, inM (x, y, z) c = true) : eqS (shiftS f x y z) (solOf ((cellsL f).map (movC (x, y, z)))) = true :=
  eq_has (shiftF_fit hf _ _ _ 8) (solOf_fit _) fun d => by
    rw [has_solOf, ← has_cell, Bool.eq_iff_iff, decide_eq_true_eq, List.mem_map, has_shift hf ho]
    constructor
    · rintro ⟨p, hp, e⟩
      have h7 := has_in7 hp
      refine ⟨ofI p, (mem_cellI f _).2 (by rw [toI_ofI h7]; exact hp), ?_⟩
      unfold movC movP
      rw [toI_ofI h7, e, ofI_toI]
    · rintro ⟨c, hc, rfl⟩
      refine ⟨toI c, (mem_cellI f c).1 hc, ?_⟩
      exact (toI_ofI ((inM_iff _ c).1 (hall c hc))).symm
theorem len_pos {f : Sol} (hf : Fit f) (he : emptyS f = false) : 0 < (cellsL f).length := List.length_pos_iff.2 (cellsL_ne hf he)
theorem moved_pair (f : Sol) (hf : Fit f) (x y z : Int) : ∃ r1 r2 e, eqS r1 r2 = true ∧
    (∀ W : World, Calls Tryz.prog 44 #[sol f, .int .i64 x, .int .i64 y, .int .i64 z] W (RetB (.tuple #[sol r1, .int .i64 e]) W)) ∧
    (∀ W : World, Calls Tryz.prog 45 #[sol f, .int .i64 x, .int .i64 y, .int .i64 z] W (RetB (.tuple #[sol r2, .int .i64 e]) W)) := by
  cases he : emptyS f with
  | true => exact ⟨f, fun _ => 0, 0, he, fun W => moved_empty f x y z W he, fun W => rMoved_empty f x y z W hf (by rw [cells_of_empty hf he]; rfl)⟩
  | false =>
    have hL := len_pos hf he
    cases ho : outB f x y z with
    | false =>
      have hall := (all_in hf he (x, y, z)).1 ho
      obtain ⟨x0, x1, y0, y1, z0, z1⟩ := boundN hf he
      have of := out_facts ho
      refine ⟨shiftS f x y z, solOf ((cellsL f).map (movC (x, y, z))), 0, mov_eq hf ho hall, fun W => moved_in f x y z W hf he ho, fun W => ?_⟩
      refine (rMoved_loop f x y z W hf (decide_eq_true (by omega)) (decide_eq_true (by omega)) (decide_eq_true (by omega)) hL).mono fun e w' ⟨h, hb⟩ => ?_
      rcases h with ⟨h, _⟩ | ⟨_, c, hc, hn⟩
      · exact ⟨h, hb⟩
      · rw [hall c hc] at hn
        cases hn
    | true =>
      refine ⟨fun _ => 0, fun _ => 0, 20, by decide, fun W => moved_out f x y z W hf he ho, fun W => ?_⟩
      cases hm : mvB x y z with
      | false => exact rMoved_short f x y z W hf hm hL
      | true =>
        rw [mvB_sh, Bool.and_eq_true, Bool.and_eq_true] at hm
        refine (rMoved_loop f x y z W hf hm.1 hm.2.1 hm.2.2 hL).mono fun e w' ⟨h, hb⟩ => ?_
        rcases h with ⟨_, hall⟩ | ⟨h, _⟩
        · have := (all_in hf he (x, y, z)).2 hall
          rw [show outB f (x, y, z).1 (x, y, z).2.1 (x, y, z).2.2 = true from ho] at this
          cases this
        · exact ⟨h, hb⟩
theorem turned_pair (f : Sol) (hf : Fit f) (t : Int) : ∃ r e, (∀ W : World, Tab64 W → Calls Tryz.prog 42 #[sol f, .int .i64 t] W (RetB (.tuple #[sol r, .int .i64 e]) W)) ∧
    (∀ W : World, Calls Tryz.prog 43 #[sol f, .int .i64 t] W (RetB (.tuple #[sol r, .int .i64 e]) W)) := by
  by_cases h : 0 ≤ t ∧ t < 24
  · obtain ⟨n, rfl⟩ := Int.eq_ofNat_of_zero_le h.1
    exact ⟨_, 0, fun W hT => Turned_yes f n W hf (by omega) hT, fun W => rTurned_yes f n W hf (by omega)⟩
  · exact ⟨_, 1, fun W _ => Turned_no f t W (decide_eq_false h), fun W => rTurned_no f t W (by omega)⟩
theorem mirrored_pair (f : Sol) (hf : Fit f) (a : Int) : ∃ r e, (∀ W : World, Tab64 W → Calls Tryz.prog 46 #[sol f, .int .i64 a] W (RetB (.tuple #[sol r, .int .i64 e]) W)) ∧
    (∀ W : World, Calls Tryz.prog 47 #[sol f, .int .i64 a] W (RetB (.tuple #[sol r, .int .i64 e]) W)) := by
  rcases (show a = 0 ∨ a = 1 ∨ a = 2 ∨ (a < 0 ∨ 2 < a) by omega) with rfl | rfl | rfl | h
  · exact ⟨_, 0, fun W hT => Mirrored_0 f W hf hT, fun W => rMirrored_0 f W hf⟩
  · exact ⟨_, 0, fun W hT => Mirrored_1 f W hf hT, fun W => rMirrored_1 f W hf⟩
  · exact ⟨_, 0, fun W hT => Mirrored_2 f W hf hT, fun W => rMirrored_2 f W hf⟩
  · exact ⟨_, 1, fun W _ => Mirrored_no f a W h, fun W => rMirrored_no f a W h⟩
theorem placed_pair (f : Sol) (hf : Fit f) (t x y z : Int) : ∃ r1 r2 e, eqS r1 r2 = true ∧
    (∀ W : World, Tab64 W → Calls Tryz.prog 48 #[sol f, .agg #[.int .i64 (t), .int .i64 (x), .int .i64 (y), .int .i64 (z)]] W (RetB (.tuple #[sol r1, .int .i64 e]) W)) ∧
    (∀ W : World, Calls Tryz.prog 49 #[sol f, .agg #[.int .i64 (t), .int .i64 (x), .int .i64 (y), .int .i64 (z)]] W (RetB (.tuple #[sol r2, .int .i64 e]) W)) := by
  cases hm : motB t x y z with
  | false => exact ⟨fun _ => 0, fun _ => 0, 1, by decide, fun W _ => Placed_no f t x y z W hm, fun W => rPlaced_no f t x y z W hm⟩
  | true =>
    unfold motB at hm
    rw [Bool.and_eq_true] at hm
    have ht := of_decide_eq_true hm.1
    obtain ⟨n, rfl⟩ := Int.eq_ofNat_of_zero_le ht.1
    obtain ⟨r1, r2, e, h, h1, h2⟩ := moved_pair (turnedF f n) (turnedF_fit f n) x y z
    exact ⟨r1, r2, e, h, fun W hT => Placed_of f r1 n x y z e W hf (by omega) hm.2 hT h1, fun W => rPlaced_of f r2 n x y z e W hf (by omega) hm.2 h2⟩
theorem eq_refl' (f : Sol) : eqS f f = true := decide_eq_true ⟨rfl, rfl, rfl, rfl, rfl, rfl, rfl, rfl⟩
theorem motions_of (f : Sol) (hf : Fit f) (turn axis x y z t u v s : Int) (w : World) (hT : Tab64 w) :
    Calls Tryz.prog 5 #[sol f, .int .i64 turn, .int .i64 axis, .int .i64 x, .int .i64 y, .int .i64 z, .agg #[.int .i64 (t), .int .i64 (u), .int .i64 (v), .int .i64 (s)]] w (RetB (.bool true) w) := by
  obtain ⟨a, ea, A1, A2⟩ := turned_pair f hf turn
  obtain ⟨c1, c2, ec, hc, C1, C2⟩ := moved_pair f hf x y z
  obtain ⟨m, em, M1, M2⟩ := mirrored_pair f hf axis
  obtain ⟨p1, p2, ep, hp, P1, P2⟩ := placed_pair f hf t u v s
  exact motions_core f a a c1 c2 m m p1 p2 turn axis x y z t u v s ea ec em ep w hT (Lib.hid A1) (Lib.hid A2) (Lib.hid C1) (Lib.hid C2) (Lib.hid M1) (Lib.hid M2) (Lib.hid P1) (Lib.hid P2) (Lib.hid fun W h => carved_of ev_cav W h) (eq_refl' a) hc (eq_refl' m) hp
end Go.Proofs.YtadkaplafaeebaaGreatDoor
