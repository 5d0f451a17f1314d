/-
  The reference's Around and Nearest; the statement on both at every input.
-/
import Derived.Test.YthoinamncekgmaaDoorBrakW
import Derived.Test.YthoinamncekgmaaDoorNearV
import Derived.Test.YthoinamncekgmaaDoorField
import Derived.Test.YthoinamncekgmaaDoorTwice
set_option linter.unusedVariables false
set_option linter.unusedSimpArgs false
namespace Go.Proofs.YthoinamncekgmaaDoor
open Go Go.RowKit

theorem rAround_frac (n d m : Int) (w : World) (ha : okQ n d = false) :
    Calls Tryd.prog 46 #[.agg #[.int .i64 (n), .int .i64 (d)], .int .i64 m] w fun e w' => e = .returned (.tuple #[.agg #[.int .i64 (0), .int .i64 (0)], .agg #[.int .i64 (0), .int .i64 (0)], .int .i64 1]) ∧ Below w.heap.size w w' := by
  have hk := fun (W : World) => rCheck_any n d W
  rw [if_neg (by rw [ha]; exact Bool.false_ne_true)] at hk
  have HK := hide0 hk
  clear hk ha
  go_enter Tryd.func46, Tryd.ntmps46
  go_wp2_with fail
  (refine (HK.out _).mono ?_; rintro e w1 ⟨rfl, hb1⟩; obtain ⟨hc1, hf1⟩ := bcell hb1; have hB1 : Below w.heap.size w w1 := up hb1 (by go_grown); have hz1 := hb1.size; (try simp at hz1); (try have hz1_w_p1 : w.heap.size < w1.heap.size + 1 := (by omega)); (try have hz1_w_p2 : w.heap.size < w1.heap.size + 1 + 1 := (by omega)); (try have hz1_w_p3 : w.heap.size < w1.heap.size + 1 + 1 + 1 := (by omega)); (try have hz1_w_0 : w.heap.size < w1.heap.size := (by omega)); (try have hz1_w_1 : w.heap.size + 1 < w1.heap.size := (by omega)); (try have hz1_w_2 : w.heap.size + 1 + 1 < w1.heap.size := (by omega)); (try have hz1_w_3 : w.heap.size + 1 + 1 + 1 < w1.heap.size := (by omega)); (try have hz1_w_4 : w.heap.size + 1 + 1 + 1 + 1 < w1.heap.size := (by omega)); (try have hz1_w_5 : w.heap.size + 1 + 1 + 1 + 1 + 1 < w1.heap.size := (by omega)); (try have hz1_w_6 : w.heap.size + 1 + 1 + 1 + 1 + 1 + 1 < w1.heap.size := (by omega)); have r1_1_0 : w1.cell? ⟨w.heap.size + 1, 0, none⟩ = some (.int .i64 0) := (by go_cell); have r1_1_1 : w1.cell? ⟨w.heap.size + 1, 1, none⟩ = some (.int .i64 0) := (by go_cell); have r1_2_0 : w1.cell? ⟨w.heap.size + 1 + 1, 0, none⟩ = some (.int .i64 0) := (by go_cell); have r1_2_1 : w1.cell? ⟨w.heap.size + 1 + 1, 1, none⟩ = some (.int .i64 0) := (by go_cell))
  go_wp2
  refine bodyPost_ret (res_qqe Tryd.results46 rfl rfl (by repeat' (first | (with_reducible assumption) | (with_reducible refine cellD ?_) | (with_reducible refine cell_same ?_; repeat' (first | exact ⟨_, by with_reducible assumption⟩ | with_reducible refine cell_exD ?_ | with_reducible refine cell_ex ?_)) | (with_reducible refine cell_other ?_ (by dsimp only; omega)))) (by repeat' (first | (with_reducible assumption) | (with_reducible refine cellD ?_) | (with_reducible refine cell_same ?_; repeat' (first | exact ⟨_, by with_reducible assumption⟩ | with_reducible refine cell_exD ?_ | with_reducible refine cell_ex ?_)) | (with_reducible refine cell_other ?_ (by dsimp only; omega)))) (by repeat' (first | (with_reducible assumption) | (with_reducible refine cellD ?_) | (with_reducible refine cell_same ?_; repeat' (first | exact ⟨_, by with_reducible assumption⟩ | with_reducible refine cell_exD ?_ | with_reducible refine cell_ex ?_)) | (with_reducible refine cell_other ?_ (by dsimp only; omega)))) (by repeat' (first | (with_reducible assumption) | (with_reducible refine cellD ?_) | (with_reducible refine cell_same ?_; repeat' (first | exact ⟨_, by with_reducible assumption⟩ | with_reducible refine cell_exD ?_ | with_reducible refine cell_ex ?_)) | (with_reducible refine cell_other ?_ (by dsimp only; omega))))) rfl ⟨rfl, ?_⟩; repeat' (first | (with_reducible exact Below.refl _ _) | (with_reducible assumption) | (with_reducible refine Below.alloc ?_ ?_ _) | (with_reducible refine Below.drew ?_) | (with_reducible refine below_drewN ?_ _) | (with_reducible refine Below.setCell ?_ ?_ _) | go_size)
theorem rAround_most (n d m : Int) (w : World) (ha : okQ n d = true) (hm : szB m = false) :
    Calls Tryd.prog 46 #[.agg #[.int .i64 (n), .int .i64 (d)], .int .i64 m] w fun e w' => e = .returned (.tuple #[.agg #[.int .i64 (0), .int .i64 (0)], .agg #[.int .i64 (0), .int .i64 (0)], .int .i64 1]) ∧ Below w.heap.size w w' := by
  have hk := fun (W : World) => rCheck_any n d W
  rw [if_pos ha] at hk
  have HK := hide0 hk
  have hw := fun (W : World) => within_any m 1 1000000 W
  rw [show inB m 1 1000000 = false by rw [← hm, Bool.eq_iff_iff, inB_iff, szB_iff]] at hw
  have HW := hide0 hw
  clear hk ha hw hm
  go_enter Tryd.func46, Tryd.ntmps46
  go_wp2_with fail
  (refine (HK.out _).mono ?_; rintro e w1 ⟨rfl, hb1⟩; obtain ⟨hc1, hf1⟩ := bcell hb1; have hB1 : Below w.heap.size w w1 := up hb1 (by go_grown); have hz1 := hb1.size; (try simp at hz1); (try have hz1_w_p1 : w.heap.size < w1.heap.size + 1 := (by omega)); (try have hz1_w_p2 : w.heap.size < w1.heap.size + 1 + 1 := (by omega)); (try have hz1_w_p3 : w.heap.size < w1.heap.size + 1 + 1 + 1 := (by omega)); (try have hz1_w_0 : w.heap.size < w1.heap.size := (by omega)); (try have hz1_w_1 : w.heap.size + 1 < w1.heap.size := (by omega)); (try have hz1_w_2 : w.heap.size + 1 + 1 < w1.heap.size := (by omega)); (try have hz1_w_3 : w.heap.size + 1 + 1 + 1 < w1.heap.size := (by omega)); (try have hz1_w_4 : w.heap.size + 1 + 1 + 1 + 1 < w1.heap.size := (by omega)); (try have hz1_w_5 : w.heap.size + 1 + 1 + 1 + 1 + 1 < w1.heap.size := (by omega)); (try have hz1_w_6 : w.heap.size + 1 + 1 + 1 + 1 + 1 + 1 < w1.heap.size := (by omega)); have r1_1_0 : w1.cell? ⟨w.heap.size + 1, 0, none⟩ = some (.int .i64 0) := (by go_cell); have r1_1_1 : w1.cell? ⟨w.heap.size + 1, 1, none⟩ = some (.int .i64 0) := (by go_cell); have r1_2_0 : w1.cell? ⟨w.heap.size + 1 + 1, 0, none⟩ = some (.int .i64 0) := (by go_cell); have r1_2_1 : w1.cell? ⟨w.heap.size + 1 + 1, 1, none⟩ = some (.int .i64 0) := (by go_cell))
  go_wp2_with fail
  refine (HW.out _).mono ?_
  rintro e w' ⟨rfl, hw⟩
  replace hw := hw.symm
  subst hw
  go_wp2
  refine bodyPost_ret (res_qqe Tryd.results46 rfl rfl (by repeat' (first | (with_reducible assumption) | (with_reducible refine cellD ?_) | (with_reducible refine cell_same ?_; repeat' (first | exact ⟨_, by with_reducible assumption⟩ | with_reducible refine cell_exD ?_ | with_reducible refine cell_ex ?_)) | (with_reducible refine cell_other ?_ (by dsimp only; omega)))) (by repeat' (first | (with_reducible assumption) | (with_reducible refine cellD ?_) | (with_reducible refine cell_same ?_; repeat' (first | exact ⟨_, by with_reducible assumption⟩ | with_reducible refine cell_exD ?_ | with_reducible refine cell_ex ?_)) | (with_reducible refine cell_other ?_ (by dsimp only; omega)))) (by repeat' (first | (with_reducible assumption) | (with_reducible refine cellD ?_) | (with_reducible refine cell_same ?_; repeat' (first | exact ⟨_, by with_reducible assumption⟩ | with_reducible refine cell_exD ?_ | with_reducible refine cell_ex ?_)) | (with_reducible refine cell_other ?_ (by dsimp only; omega)))) (by repeat' (first | (with_reducible assumption) | (with_reducible refine cellD ?_) | (with_reducible refine cell_same ?_; repeat' (first | exact ⟨_, by with_reducible assumption⟩ | with_reducible refine cell_exD ?_ | with_reducible refine cell_ex ?_)) | (with_reducible refine cell_other ?_ (by dsimp only; omega))))) rfl ⟨rfl, ?_⟩; repeat' (first | (with_reducible exact Below.refl _ _) | (with_reducible assumption) | (with_reducible refine Below.alloc ?_ ?_ _) | (with_reducible refine Below.drew ?_) | (with_reducible refine below_drewN ?_ _) | (with_reducible refine Below.setCell ?_ ?_ _) | go_size)
set_option maxHeartbeats 2000000 in
theorem rAround_ok (n d m a b c f : Int) (w : World) (ha : okQ n d = true) (hm : szB m = true) (hL : Lo n d m a b) (hH : Hi n d m c f) :
    Calls Tryd.prog 46 #[.agg #[.int .i64 (n), .int .i64 (d)], .int .i64 m] w fun e w' => e = .returned (.tuple #[.agg #[.int .i64 (a), .int .i64 (b)], .agg #[.int .i64 (c), .int .i64 (f)], .int .i64 0]) ∧ Below w.heap.size w w' := by
  have hk := fun (W : World) => rCheck_any n d W
  rw [if_pos ha] at hk
  have HK := hide0 hk
  have hw := fun (W : World) => within_any m 1 1000000 W
  rw [show inB m 1 1000000 = true by rw [← hm, Bool.eq_iff_iff, inB_iff, szB_iff]] at hw
  have HW := hide0 hw
  have HB := hide0 fun (W : World) => bracket_ok n d m a b c f W ha hm hL hH
  clear hk ha hL hH hm hw
  go_enter Tryd.func46, Tryd.ntmps46
  go_wp2_with fail
  (refine (HK.out _).mono ?_; rintro e w1 ⟨rfl, hb1⟩; obtain ⟨hc1, hf1⟩ := bcell hb1; have hB1 : Below w.heap.size w w1 := up hb1 (by go_grown); have hz1 := hb1.size; (try simp at hz1); (try have hz1_w_p1 : w.heap.size < w1.heap.size + 1 := (by omega)); (try have hz1_w_p2 : w.heap.size < w1.heap.size + 1 + 1 := (by omega)); (try have hz1_w_p3 : w.heap.size < w1.heap.size + 1 + 1 + 1 := (by omega)); (try have hz1_w_0 : w.heap.size < w1.heap.size := (by omega)); (try have hz1_w_1 : w.heap.size + 1 < w1.heap.size := (by omega)); (try have hz1_w_2 : w.heap.size + 1 + 1 < w1.heap.size := (by omega)); (try have hz1_w_3 : w.heap.size + 1 + 1 + 1 < w1.heap.size := (by omega)); (try have hz1_w_4 : w.heap.size + 1 + 1 + 1 + 1 < w1.heap.size := (by omega)); (try have hz1_w_5 : w.heap.size + 1 + 1 + 1 + 1 + 1 < w1.heap.size := (by omega)); (try have hz1_w_6 : w.heap.size + 1 + 1 + 1 + 1 + 1 + 1 < w1.heap.size := (by omega)); have r1_1_0 : w1.cell? ⟨w.heap.size + 1, 0, none⟩ = some (.int .i64 0) := (by go_cell); have r1_1_1 : w1.cell? ⟨w.heap.size + 1, 1, none⟩ = some (.int .i64 0) := (by go_cell); have r1_2_0 : w1.cell? ⟨w.heap.size + 1 + 1, 0, none⟩ = some (.int .i64 0) := (by go_cell); have r1_2_1 : w1.cell? ⟨w.heap.size + 1 + 1, 1, none⟩ = some (.int .i64 0) := (by go_cell))
  go_wp2_with fail
  refine (HW.out _).mono ?_
  rintro e w' ⟨rfl, hw⟩
  replace hw := hw.symm
  subst hw
  go_wp2_with fail
  (refine (HB.out _).mono ?_; rintro e w2 ⟨rfl, hb2⟩; obtain ⟨hc2, hf2⟩ := bcell hb2; have hB2 : Below w.heap.size w w2 := up hb2 (by go_grown); have hz2 := hb2.size; (try simp at hz2); (try have hz2_w_p1 : w.heap.size < w2.heap.size + 1 := (by omega)); (try have hz2_w_p2 : w.heap.size < w2.heap.size + 1 + 1 := (by omega)); (try have hz2_w_p3 : w.heap.size < w2.heap.size + 1 + 1 + 1 := (by omega)); (try have hz2_w1_p1 : w1.heap.size < w2.heap.size + 1 := (by omega)); (try have hz2_w1_p2 : w1.heap.size < w2.heap.size + 1 + 1 := (by omega)); (try have hz2_w1_p3 : w1.heap.size < w2.heap.size + 1 + 1 + 1 := (by omega)); (try have hz2_w_0 : w.heap.size < w2.heap.size := (by omega)); (try have hz2_w_1 : w.heap.size + 1 < w2.heap.size := (by omega)); (try have hz2_w_2 : w.heap.size + 1 + 1 < w2.heap.size := (by omega)); (try have hz2_w_3 : w.heap.size + 1 + 1 + 1 < w2.heap.size := (by omega)); (try have hz2_w_4 : w.heap.size + 1 + 1 + 1 + 1 < w2.heap.size := (by omega)); (try have hz2_w_5 : w.heap.size + 1 + 1 + 1 + 1 + 1 < w2.heap.size := (by omega)); (try have hz2_w_6 : w.heap.size + 1 + 1 + 1 + 1 + 1 + 1 < w2.heap.size := (by omega)); (try have hz2_w1_0 : w1.heap.size < w2.heap.size := (by omega)); (try have hz2_w1_1 : w1.heap.size + 1 < w2.heap.size := (by omega)); (try have hz2_w1_2 : w1.heap.size + 1 + 1 < w2.heap.size := (by omega)); (try have hz2_w1_3 : w1.heap.size + 1 + 1 + 1 < w2.heap.size := (by omega)); have r2_1_0 : w2.cell? ⟨w.heap.size + 1, 0, none⟩ = some (.int .i64 0) := (by go_cell); have r2_1_1 : w2.cell? ⟨w.heap.size + 1, 1, none⟩ = some (.int .i64 0) := (by go_cell); have r2_2_0 : w2.cell? ⟨w.heap.size + 1 + 1, 0, none⟩ = some (.int .i64 0) := (by go_cell); have r2_2_1 : w2.cell? ⟨w.heap.size + 1 + 1, 1, none⟩ = some (.int .i64 0) := (by go_cell))
  go_wp2_with fail
  go_region_held3 (fun w' => w'.cell? ⟨w2.heap.size, 0, none⟩ = some (.int .i64 a) ∧ w'.cell? ⟨w2.heap.size, 1, none⟩ = some (.int .i64 b) ∧ w'.cell? ⟨w2.heap.size + 1, 0, none⟩ = some (.int .i64 c) ∧ w'.cell? ⟨w2.heap.size + 1, 1, none⟩ = some (.int .i64 f))
    (first | (go_simp; done) | go_keep) (fail)
  go_wp2
  refine bodyPost_ret (res_qqe Tryd.results46 rfl rfl (by go_cell) (by go_cell) (by go_cell) (by go_cell)) rfl ⟨rfl, ?_⟩
  repeat' (first | (with_reducible exact Below.refl _ _) | (with_reducible assumption) | (with_reducible refine Below.alloc ?_ ?_ _) | (with_reducible refine Below.drew ?_) | (with_reducible refine below_drewN ?_ _) | (with_reducible refine Below.setCell ?_ ?_ _) | go_size)

theorem rNearest_bad (n d m : Int) (w : World) (h : ∀ W, Calls Tryd.prog 46 #[.agg #[.int .i64 (n), .int .i64 (d)], .int .i64 m] W fun e w' => e = .returned (.tuple #[.agg #[.int .i64 (0), .int .i64 (0)], .agg #[.int .i64 (0), .int .i64 (0)], .int .i64 1]) ∧ Below W.heap.size W w') :
    Calls Tryd.prog 48 #[.agg #[.int .i64 (n), .int .i64 (d)], .int .i64 m] w fun e w' => e = .returned (.tuple #[.agg #[.int .i64 (0), .int .i64 (0)], .int .i64 1]) ∧ Below w.heap.size w w' := by
  have H := hide0 h
  clear h
  go_enter Tryd.func48, Tryd.ntmps48
  go_wp2_with fail
  (refine (H.out _).mono ?_; rintro e w1 ⟨rfl, hb1⟩; obtain ⟨hc1, hf1⟩ := bcell hb1; have hB1 : Below w.heap.size w w1 := up hb1 (by go_grown); have hz1 := hb1.size; (try simp at hz1); (try have hz1_w_p1 : w.heap.size < w1.heap.size + 1 := (by omega)); (try have hz1_w_p2 : w.heap.size < w1.heap.size + 1 + 1 := (by omega)); (try have hz1_w_p3 : w.heap.size < w1.heap.size + 1 + 1 + 1 := (by omega)); (try have hz1_w_0 : w.heap.size < w1.heap.size := (by omega)); (try have hz1_w_1 : w.heap.size + 1 < w1.heap.size := (by omega)); (try have hz1_w_2 : w.heap.size + 1 + 1 < w1.heap.size := (by omega)); (try have hz1_w_3 : w.heap.size + 1 + 1 + 1 < w1.heap.size := (by omega)); (try have hz1_w_4 : w.heap.size + 1 + 1 + 1 + 1 < w1.heap.size := (by omega)); (try have hz1_w_5 : w.heap.size + 1 + 1 + 1 + 1 + 1 < w1.heap.size := (by omega)); (try have hz1_w_6 : w.heap.size + 1 + 1 + 1 + 1 + 1 + 1 < w1.heap.size := (by omega)); have r1_1_0 : w1.cell? ⟨w.heap.size + 1, 0, none⟩ = some (.int .i64 0) := (by go_cell); have r1_1_1 : w1.cell? ⟨w.heap.size + 1, 1, none⟩ = some (.int .i64 0) := (by go_cell))
  go_wp2
  refine bodyPost_ret (res_qe Tryd.results48 rfl (by go_cell) (by go_cell)) rfl ⟨rfl, by go_grown⟩

/-- Which of the two is the nearest. -/
def RnWay (lo hi b f : Int) (far : Bool) : Prop := (far = false ∧ lo < hi) ∨ (far = false ∧ lo = hi ∧ b ≤ f) ∨ (far = true ∧ hi < lo) ∨ (far = true ∧ lo = hi ∧ f < b)
def RnCut1 (W : World) (v : Int) (s9 : Value) (wx : World) : Prop := s9 = .int .i64 v ∧ Below W.heap.size W wx
set_option maxHeartbeats 4000000 in
theorem rNearest_core (n d m a b c f x y : Int) (far : Bool) (w : World)
    (hA : ∀ W, Calls Tryd.prog 46 #[.agg #[.int .i64 (n), .int .i64 (d)], .int .i64 m] W fun e w' => e = .returned (.tuple #[.agg #[.int .i64 (a), .int .i64 (b)], .agg #[.int .i64 (c), .int .i64 (f)], .int .i64 0]) ∧ Below W.heap.size W w')
    (h1 : ∀ W, Calls Tryd.prog 80 #[.agg #[.int .i64 (n), .int .i64 (d)], .agg #[.int .i64 (a), .int .i64 (b)]] W fun e w' => e = .returned (.int .i64 x) ∧ Below W.heap.size W w')
    (h2 : ∀ W, Calls Tryd.prog 80 #[.agg #[.int .i64 (c), .int .i64 (f)], .agg #[.int .i64 (n), .int .i64 (d)]] W fun e w' => e = .returned (.int .i64 y) ∧ Below W.heap.size W w')
    (v1 : -4000000000000000000 ≤ x * f ∧ x * f ≤ 4000000000000000000) (v2 : -4000000000000000000 ≤ y * b ∧ y * b ≤ 4000000000000000000) (hw : RnWay (x * f) (y * b) b f far) :
    Calls Tryd.prog 48 #[.agg #[.int .i64 (n), .int .i64 (d)], .int .i64 m] w fun e w' => e = .returned (.tuple #[.agg #[.int .i64 (if far = true then c else a), .int .i64 (if far = true then f else b)], .int .i64 0]) ∧ Below w.heap.size w w' := by
  have HA := hide0 hA
  have H1 := hide0 h1
  have H2 := hide0 h2
  have HW := hide0 hw
  have e1 : IntKind.i64.wrap (x * f) = x * f := IntWalk.i64_in _ (by omega)
  have e2 : IntKind.i64.wrap (y * b) = y * b := IntWalk.i64_in _ (by omega)
  have E1 := hide0 e1
  have E2 := hide0 e2
  clear hA h1 h2 hw e1 e2 v1 v2
  go_enter Tryd.func48, Tryd.ntmps48
  go_wp2_with fail
  (refine (HA.out _).mono ?_; rintro e w1 ⟨rfl, hb1⟩; obtain ⟨hc1, hf1⟩ := bcell hb1; have hB1 : Below w.heap.size w w1 := up hb1 (by go_grown); have hz1 := hb1.size; (try simp at hz1); (try have hz1_w_p1 : w.heap.size < w1.heap.size + 1 := (by omega)); (try have hz1_w_p2 : w.heap.size < w1.heap.size + 1 + 1 := (by omega)); (try have hz1_w_p3 : w.heap.size < w1.heap.size + 1 + 1 + 1 := (by omega)); (try have hz1_w_0 : w.heap.size < w1.heap.size := (by omega)); (try have hz1_w_1 : w.heap.size + 1 < w1.heap.size := (by omega)); (try have hz1_w_2 : w.heap.size + 1 + 1 < w1.heap.size := (by omega)); (try have hz1_w_3 : w.heap.size + 1 + 1 + 1 < w1.heap.size := (by omega)); (try have hz1_w_4 : w.heap.size + 1 + 1 + 1 + 1 < w1.heap.size := (by omega)); (try have hz1_w_5 : w.heap.size + 1 + 1 + 1 + 1 + 1 < w1.heap.size := (by omega)); (try have hz1_w_6 : w.heap.size + 1 + 1 + 1 + 1 + 1 + 1 < w1.heap.size := (by omega)); have r1_1_0 : w1.cell? ⟨w.heap.size + 1, 0, none⟩ = some (.int .i64 0) := (by go_cell); have r1_1_1 : w1.cell? ⟨w.heap.size + 1, 1, none⟩ = some (.int .i64 0) := (by go_cell))
  go_wp2_with fail
  have e1 := E1.out
  go_region_held3 (fun w' => w'.cell? ⟨w.heap.size, 0, none⟩ = some (.int .i64 n) ∧ w'.cell? ⟨w.heap.size, 1, none⟩ = some (.int .i64 d) ∧ w'.cell? ⟨w1.heap.size, 0, none⟩ = some (.int .i64 a) ∧ w'.cell? ⟨w1.heap.size, 1, none⟩ = some (.int .i64 b) ∧ w'.cell? ⟨w1.heap.size + 1, 0, none⟩ = some (.int .i64 c) ∧ w'.cell? ⟨w1.heap.size + 1, 1, none⟩ = some (.int .i64 f))
    (first | (go_simp; done) | go_keep)
    (first | ((go_at_call 80; (with_reducible refine (H1.out _).mono ?_); rintro e w2 ⟨rfl, hb2⟩; (try replace hb2 := below_undrew hb2); obtain ⟨hc2, hf2⟩ := bcell hb2; have hB2 : Below w.heap.size w w2 := up hb2 (by first | (go_grown; done) | (repeat' (first | (with_reducible exact Below.refl _ _) | (with_reducible assumption) | (with_reducible refine Below.alloc ?_ ?_ _) | (with_reducible refine Below.drew ?_) | (with_reducible refine below_drewN ?_ _) | (with_reducible refine Below.setCell ?_ ?_ _) | go_size); done)); have hz2 := hb2.size; (try simp at hz2); (try have hz2_w_p1 : w.heap.size < w2.heap.size + 1 := (by omega)); (try have hz2_w_p2 : w.heap.size < w2.heap.size + 1 + 1 := (by omega)); (try have hz2_w_p3 : w.heap.size < w2.heap.size + 1 + 1 + 1 := (by omega)); (try have hz2_w1_p1 : w1.heap.size < w2.heap.size + 1 := (by omega)); (try have hz2_w1_p2 : w1.heap.size < w2.heap.size + 1 + 1 := (by omega)); (try have hz2_w1_p3 : w1.heap.size < w2.heap.size + 1 + 1 + 1 := (by omega)); (try have hz2_w_0 : w.heap.size < w2.heap.size := (by omega)); (try have hz2_w_1 : w.heap.size + 1 < w2.heap.size := (by omega)); (try have hz2_w_2 : w.heap.size + 1 + 1 < w2.heap.size := (by omega)); (try have hz2_w_3 : w.heap.size + 1 + 1 + 1 < w2.heap.size := (by omega)); (try have hz2_w_4 : w.heap.size + 1 + 1 + 1 + 1 < w2.heap.size := (by omega)); (try have hz2_w_5 : w.heap.size + 1 + 1 + 1 + 1 + 1 < w2.heap.size := (by omega)); (try have hz2_w_6 : w.heap.size + 1 + 1 + 1 + 1 + 1 + 1 < w2.heap.size := (by omega)); (try have hz2_w1_0 : w1.heap.size < w2.heap.size := (by omega)); (try have hz2_w1_1 : w1.heap.size + 1 < w2.heap.size := (by omega)); (try have hz2_w1_2 : w1.heap.size + 1 + 1 < w2.heap.size := (by omega)); (try have hz2_w1_3 : w1.heap.size + 1 + 1 + 1 < w2.heap.size := (by omega))); have hE2 : Below w.heap.size w w2 := up hb2 (by repeat' (first | (with_reducible exact Below.refl _ _) | (with_reducible assumption) | (with_reducible refine Below.alloc ?_ ?_ _) | (with_reducible refine Below.drew ?_) | (with_reducible refine below_drewN ?_ _) | (with_reducible refine Below.setCell ?_ ?_ _) | go_size))))
  have q3 : w2.cell? ⟨w.heap.size + 1, 0, none⟩ = some (.int .i64 0) := by go_cell
  have q4 : w2.cell? ⟨w.heap.size + 1, 1, none⟩ = some (.int .i64 0) := by go_cell
  clear e1
  go_wp2_with fail
  have e2 := E2.out
  go_region_held3 (fun w' => w'.cell? ⟨w.heap.size, 0, none⟩ = some (.int .i64 n) ∧ w'.cell? ⟨w.heap.size, 1, none⟩ = some (.int .i64 d) ∧ w'.cell? ⟨w1.heap.size, 0, none⟩ = some (.int .i64 a) ∧ w'.cell? ⟨w1.heap.size, 1, none⟩ = some (.int .i64 b) ∧ w'.cell? ⟨w1.heap.size + 1, 0, none⟩ = some (.int .i64 c) ∧ w'.cell? ⟨w1.heap.size + 1, 1, none⟩ = some (.int .i64 f))
    (first | (go_simp; done) | assumption | go_keep)
    (first | ((go_at_call 80; (with_reducible refine (H2.out _).mono ?_); rintro e w3 ⟨rfl, hb3⟩; (try replace hb3 := below_undrew hb3); obtain ⟨hc3, hf3⟩ := bcell hb3; have hB3 : Below w.heap.size w w3 := up hb3 (by first | (go_grown; done) | (repeat' (first | (with_reducible exact Below.refl _ _) | (with_reducible assumption) | (with_reducible refine Below.alloc ?_ ?_ _) | (with_reducible refine Below.drew ?_) | (with_reducible refine below_drewN ?_ _) | (with_reducible refine Below.setCell ?_ ?_ _) | go_size); done)); have hz3 := hb3.size; (try simp at hz3); (try have hz3_w_p1 : w.heap.size < w3.heap.size + 1 := (by omega)); (try have hz3_w_p2 : w.heap.size < w3.heap.size + 1 + 1 := (by omega)); (try have hz3_w_p3 : w.heap.size < w3.heap.size + 1 + 1 + 1 := (by omega)); (try have hz3_w1_p1 : w1.heap.size < w3.heap.size + 1 := (by omega)); (try have hz3_w1_p2 : w1.heap.size < w3.heap.size + 1 + 1 := (by omega)); (try have hz3_w1_p3 : w1.heap.size < w3.heap.size + 1 + 1 + 1 := (by omega)); (try have hz3_w2_p1 : w2.heap.size < w3.heap.size + 1 := (by omega)); (try have hz3_w2_p2 : w2.heap.size < w3.heap.size + 1 + 1 := (by omega)); (try have hz3_w2_p3 : w2.heap.size < w3.heap.size + 1 + 1 + 1 := (by omega)); (try have hz3_w_0 : w.heap.size < w3.heap.size := (by omega)); (try have hz3_w_1 : w.heap.size + 1 < w3.heap.size := (by omega)); (try have hz3_w_2 : w.heap.size + 1 + 1 < w3.heap.size := (by omega)); (try have hz3_w_3 : w.heap.size + 1 + 1 + 1 < w3.heap.size := (by omega)); (try have hz3_w_4 : w.heap.size + 1 + 1 + 1 + 1 < w3.heap.size := (by omega)); (try have hz3_w_5 : w.heap.size + 1 + 1 + 1 + 1 + 1 < w3.heap.size := (by omega)); (try have hz3_w_6 : w.heap.size + 1 + 1 + 1 + 1 + 1 + 1 < w3.heap.size := (by omega)); (try have hz3_w1_0 : w1.heap.size < w3.heap.size := (by omega)); (try have hz3_w1_1 : w1.heap.size + 1 < w3.heap.size := (by omega)); (try have hz3_w1_2 : w1.heap.size + 1 + 1 < w3.heap.size := (by omega)); (try have hz3_w1_3 : w1.heap.size + 1 + 1 + 1 < w3.heap.size := (by omega)); (try have hz3_w2_0 : w2.heap.size < w3.heap.size := (by omega)); (try have hz3_w2_1 : w2.heap.size + 1 < w3.heap.size := (by omega)); (try have hz3_w2_2 : w2.heap.size + 1 + 1 < w3.heap.size := (by omega)); (try have hz3_w2_3 : w2.heap.size + 1 + 1 + 1 < w3.heap.size := (by omega))); have hE3 : Below w.heap.size w w3 := up hb3 (by repeat' (first | (with_reducible exact Below.refl _ _) | (with_reducible assumption) | (with_reducible refine Below.alloc ?_ ?_ _) | (with_reducible refine Below.drew ?_) | (with_reducible refine below_drewN ?_ _) | (with_reducible refine Below.setCell ?_ ?_ _) | go_size))))
  have q5 : w3.cell? ⟨w.heap.size + 1, 0, none⟩ = some (.int .i64 0) := by go_cell
  have q6 : w3.cell? ⟨w.heap.size + 1, 1, none⟩ = some (.int .i64 0) := by go_cell
  clear e2 E1 E2
  generalize x * f = u at *
  generalize y * b = v at *
  rcases HW.out with ⟨rfl, h⟩ | ⟨rfl, rfl, h⟩ | ⟨rfl, h⟩ | ⟨rfl, rfl, h⟩
  · clear HW
    go_wp2
    all_goals first | (exfalso; omega) | skip
    all_goals refine bodyPost_ret (res_qe Tryd.results48 rfl (by go_cell) (by go_cell)) rfl ⟨rfl, ?_⟩
    all_goals (first | go_grown | repeat' (first | (with_reducible exact Below.refl _ _) | (with_reducible assumption) | (with_reducible refine Below.alloc ?_ ?_ _) | (with_reducible refine Below.drew ?_) | (with_reducible refine below_drewN ?_ _) | (with_reducible refine Below.setCell ?_ ?_ _) | go_size))
  · clear HW
    go_wp2
    all_goals first | (exfalso; omega) | skip
    all_goals refine bodyPost_ret (res_qe Tryd.results48 rfl (by go_cell) (by go_cell)) rfl ⟨rfl, ?_⟩
    all_goals (first | go_grown | repeat' (first | (with_reducible exact Below.refl _ _) | (with_reducible assumption) | (with_reducible refine Below.alloc ?_ ?_ _) | (with_reducible refine Below.drew ?_) | (with_reducible refine below_drewN ?_ _) | (with_reducible refine Below.setCell ?_ ?_ _) | go_size))
  · have hne : (u == v) = false := by rw [beq_eq_false_iff_ne]; omega
    clear HW
    go_wp2
    all_goals first | (exfalso; omega) | skip
    all_goals refine bodyPost_ret (res_qe Tryd.results48 rfl (by go_cell) (by go_cell)) rfl ⟨rfl, ?_⟩
    all_goals (first | go_grown | repeat' (first | (with_reducible exact Below.refl _ _) | (with_reducible assumption) | (with_reducible refine Below.alloc ?_ ?_ _) | (with_reducible refine Below.drew ?_) | (with_reducible refine below_drewN ?_ _) | (with_reducible refine Below.setCell ?_ ?_ _) | go_size))
  · clear HW
    go_wp2
    all_goals first | (exfalso; omega) | skip
    all_goals refine bodyPost_ret (res_qe Tryd.results48 rfl (by go_cell) (by go_cell)) rfl ⟨rfl, ?_⟩
    all_goals (first | go_grown | repeat' (first | (with_reducible exact Below.refl _ _) | (with_reducible assumption) | (with_reducible refine Below.alloc ?_ ?_ _) | (with_reducible refine Below.drew ?_) | (with_reducible refine below_drewN ?_ _) | (with_reducible refine Below.setCell ?_ ?_ _) | go_size))

theorem rNearest_at {n d m a b c f : Int} (ha : okQ n d = true) (hm : szB m = true) (h : Ar n d m a b c f) (w : World) :
    Calls Tryd.prog 48 #[.agg #[.int .i64 (n), .int .i64 (d)], .int .i64 m] w fun e w' => e = .returned (.tuple #[.agg #[.int .i64 (neN n d a b c f), .int .i64 (neD n d a b c f)], .int .i64 0]) ∧ Below w.heap.size w w' := by
  obtain ⟨m1, m2⟩ := szB_iff.1 hm
  obtain ⟨oa, oc⟩ := h.ok hm
  obtain ⟨b1, b2, b3, b4⟩ := id h.lo
  obtain ⟨f1, f2, f3, f4⟩ := id h.hi
  obtain ⟨x1, x2, x3, x4, _⟩ := okQ_iff.1 ha
  obtain ⟨k1, k2⟩ := h.dd
  obtain ⟨a1, a2, a3, a4, _⟩ := okQ_iff.1 oa
  obtain ⟨c1, c2, c3, c4, _⟩ := okQ_iff.1 oc
  have v1 := mul_bd (a := n) (b := b) (A := 1000000000) (B := 1000000) (by omega) (by omega) (by omega) (by omega)
  have v2 := mul_bd (a := a) (b := d) (A := 1000000000) (B := 1000000) (by omega) (by omega) (by omega) (by omega)
  have v3 := mul_bd (a := c) (b := d) (A := 1000000000) (B := 1000000) (by omega) (by omega) (by omega) (by omega)
  have v4 := mul_bd (a := n) (b := f) (A := 1000000000) (B := 1000000) (by omega) (by omega) (by omega) (by omega)
  have p1 := Int.mul_nonneg (show 0 ≤ n * b - a * d by omega) (show 0 ≤ f by omega)
  have p2 := Int.mul_nonneg (show 0 ≤ c * d - n * f by omega) (show 0 ≤ b by omega)
  have hZ : nearZ n d a b c f = ((c * d - n * f) * b - (n * b - a * d) * f) * d := by unfold nearZ; grind
  have hway : RnWay ((n * b - a * d) * f) ((c * d - n * f) * b) b f (nearHi n d a b c f) := by
    unfold RnWay nearHi
    rw [hZ]
    generalize (n * b - a * d) * f = u at *
    generalize (c * d - n * f) * b = v at *
    rcases Int.lt_trichotomy u v with hh | hh | hh
    · left
      have : 0 < (v - u) * d := Int.mul_pos (by omega) (by omega)
      exact ⟨decide_eq_false (by omega), hh⟩
    · subst hh
      rw [Int.sub_self, Int.zero_mul]
      rcases Int.lt_or_le f b with hb | hb
      · right; right; right; exact ⟨decide_eq_true (by omega), rfl, hb⟩
      · right; left; exact ⟨decide_eq_false (by omega), rfl, hb⟩
    · right; right; left
      have : (v - u) * d < 0 := Int.mul_neg_of_neg_of_pos (by omega) (by omega)
      exact ⟨decide_eq_true (by omega), hh⟩
  exact rNearest_core n d m a b c f (n * b - a * d) (c * d - n * f) (nearHi n d a b c f) w (fun W => rAround_ok n d m a b c f W ha hm h.lo h.hi)
    (fun W => More_any n d a b W (by omega) (by omega) (by omega) (by omega)) (fun W => More_any c f n d W (by omega) (by omega) (by omega) (by omega)) (by omega) (by omega) hway

set_option maxRecDepth 100000 in
set_option maxHeartbeats 4000000 in
theorem around_core (n d m a b c f e p q g : Int) (w : World) (ht : Pow10 w) (hl : AliveOk)
    (hA : ∀ W, Calls Tryd.prog 45 #[.agg #[.int .i64 (n), .int .i64 (d)], .int .i64 m] W fun e' w' => e' = .returned (.tuple #[.agg #[.int .i64 (a), .int .i64 (b)], .agg #[.int .i64 (c), .int .i64 (f)], .int .i64 e]) ∧ Below W.heap.size W w')
    (hA' : ∀ W, Calls Tryd.prog 46 #[.agg #[.int .i64 (n), .int .i64 (d)], .int .i64 m] W fun e' w' => e' = .returned (.tuple #[.agg #[.int .i64 (a), .int .i64 (b)], .agg #[.int .i64 (c), .int .i64 (f)], .int .i64 e]) ∧ Below W.heap.size W w')
    (hN : ∀ W, Calls Tryd.prog 47 #[.agg #[.int .i64 (n), .int .i64 (d)], .int .i64 m] W fun e' w' => e' = .returned (.tuple #[.agg #[.int .i64 (p), .int .i64 (q)], .int .i64 g]) ∧ Below W.heap.size W w')
    (hN' : ∀ W, Calls Tryd.prog 48 #[.agg #[.int .i64 (n), .int .i64 (d)], .int .i64 m] W fun e' w' => e' = .returned (.tuple #[.agg #[.int .i64 (p), .int .i64 (q)], .int .i64 g]) ∧ Below W.heap.size W w') :
    Calls Tryd.prog 7 #[.agg #[.int .i64 (n), .int .i64 (d)], .int .i64 m] w fun e w' => e = .returned (.bool true) ∧ Below w.heap.size w w' := by
  have HA := Lib.hid hA
  have HA' := Lib.hid hA'
  have HN := Lib.hid hN
  have HN' := Lib.hid hN'
  have HL := Lib.hid (hl.at ht)
  clear hA hA' hN hN' hl ht
  go_enter Tryd.func7, Tryd.ntmps7
  go_wp2_with fail
  (refine (HA.out _).mono ?_; rintro e w1 ⟨rfl, hb1⟩; obtain ⟨hc1, hf1⟩ := bcell hb1; have hB1 : Below w.heap.size w w1 := up hb1 (by go_grown); have hz1 := hb1.size; (try simp at hz1); (try have hz1_w_p1 : w.heap.size < w1.heap.size + 1 := (by omega)); (try have hz1_w_p2 : w.heap.size < w1.heap.size + 1 + 1 := (by omega)); (try have hz1_w_p3 : w.heap.size < w1.heap.size + 1 + 1 + 1 := (by omega)); (try have hz1_w_0 : w.heap.size < w1.heap.size := (by omega)); (try have hz1_w_1 : w.heap.size + 1 < w1.heap.size := (by omega)); (try have hz1_w_2 : w.heap.size + 1 + 1 < w1.heap.size := (by omega)); (try have hz1_w_3 : w.heap.size + 1 + 1 + 1 < w1.heap.size := (by omega)); (try have hz1_w_4 : w.heap.size + 1 + 1 + 1 + 1 < w1.heap.size := (by omega)); (try have hz1_w_5 : w.heap.size + 1 + 1 + 1 + 1 + 1 < w1.heap.size := (by omega)); (try have hz1_w_6 : w.heap.size + 1 + 1 + 1 + 1 + 1 + 1 < w1.heap.size := (by omega)))
  go_wp2_with fail
  (refine (HA'.out _).mono ?_; rintro e w2 ⟨rfl, hb2⟩; obtain ⟨hc2, hf2⟩ := bcell hb2; have hB2 : Below w.heap.size w w2 := up hb2 (by go_grown); have hz2 := hb2.size; (try simp at hz2); (try have hz2_w_p1 : w.heap.size < w2.heap.size + 1 := (by omega)); (try have hz2_w_p2 : w.heap.size < w2.heap.size + 1 + 1 := (by omega)); (try have hz2_w_p3 : w.heap.size < w2.heap.size + 1 + 1 + 1 := (by omega)); (try have hz2_w1_p1 : w1.heap.size < w2.heap.size + 1 := (by omega)); (try have hz2_w1_p2 : w1.heap.size < w2.heap.size + 1 + 1 := (by omega)); (try have hz2_w1_p3 : w1.heap.size < w2.heap.size + 1 + 1 + 1 := (by omega)); (try have hz2_w_0 : w.heap.size < w2.heap.size := (by omega)); (try have hz2_w_1 : w.heap.size + 1 < w2.heap.size := (by omega)); (try have hz2_w_2 : w.heap.size + 1 + 1 < w2.heap.size := (by omega)); (try have hz2_w_3 : w.heap.size + 1 + 1 + 1 < w2.heap.size := (by omega)); (try have hz2_w_4 : w.heap.size + 1 + 1 + 1 + 1 < w2.heap.size := (by omega)); (try have hz2_w_5 : w.heap.size + 1 + 1 + 1 + 1 + 1 < w2.heap.size := (by omega)); (try have hz2_w_6 : w.heap.size + 1 + 1 + 1 + 1 + 1 + 1 < w2.heap.size := (by omega)); (try have hz2_w1_0 : w1.heap.size < w2.heap.size := (by omega)); (try have hz2_w1_1 : w1.heap.size + 1 < w2.heap.size := (by omega)); (try have hz2_w1_2 : w1.heap.size + 1 + 1 < w2.heap.size := (by omega)); (try have hz2_w1_3 : w1.heap.size + 1 + 1 + 1 < w2.heap.size := (by omega)))
  go_wp2_with fail
  (refine (HN.out _).mono ?_; rintro e w3 ⟨rfl, hb3⟩; obtain ⟨hc3, hf3⟩ := bcell hb3; have hB3 : Below w.heap.size w w3 := up hb3 (by go_grown); have hz3 := hb3.size; (try simp at hz3); (try have hz3_w_p1 : w.heap.size < w3.heap.size + 1 := (by omega)); (try have hz3_w_p2 : w.heap.size < w3.heap.size + 1 + 1 := (by omega)); (try have hz3_w_p3 : w.heap.size < w3.heap.size + 1 + 1 + 1 := (by omega)); (try have hz3_w1_p1 : w1.heap.size < w3.heap.size + 1 := (by omega)); (try have hz3_w1_p2 : w1.heap.size < w3.heap.size + 1 + 1 := (by omega)); (try have hz3_w1_p3 : w1.heap.size < w3.heap.size + 1 + 1 + 1 := (by omega)); (try have hz3_w2_p1 : w2.heap.size < w3.heap.size + 1 := (by omega)); (try have hz3_w2_p2 : w2.heap.size < w3.heap.size + 1 + 1 := (by omega)); (try have hz3_w2_p3 : w2.heap.size < w3.heap.size + 1 + 1 + 1 := (by omega)); (try have hz3_w_0 : w.heap.size < w3.heap.size := (by omega)); (try have hz3_w_1 : w.heap.size + 1 < w3.heap.size := (by omega)); (try have hz3_w_2 : w.heap.size + 1 + 1 < w3.heap.size := (by omega)); (try have hz3_w_3 : w.heap.size + 1 + 1 + 1 < w3.heap.size := (by omega)); (try have hz3_w_4 : w.heap.size + 1 + 1 + 1 + 1 < w3.heap.size := (by omega)); (try have hz3_w_5 : w.heap.size + 1 + 1 + 1 + 1 + 1 < w3.heap.size := (by omega)); (try have hz3_w_6 : w.heap.size + 1 + 1 + 1 + 1 + 1 + 1 < w3.heap.size := (by omega)); (try have hz3_w1_0 : w1.heap.size < w3.heap.size := (by omega)); (try have hz3_w1_1 : w1.heap.size + 1 < w3.heap.size := (by omega)); (try have hz3_w1_2 : w1.heap.size + 1 + 1 < w3.heap.size := (by omega)); (try have hz3_w1_3 : w1.heap.size + 1 + 1 + 1 < w3.heap.size := (by omega)); (try have hz3_w2_0 : w2.heap.size < w3.heap.size := (by omega)); (try have hz3_w2_1 : w2.heap.size + 1 < w3.heap.size := (by omega)); (try have hz3_w2_2 : w2.heap.size + 1 + 1 < w3.heap.size := (by omega)); (try have hz3_w2_3 : w2.heap.size + 1 + 1 + 1 < w3.heap.size := (by omega)))
  go_wp2_with fail
  (refine (HN'.out _).mono ?_; rintro e w4 ⟨rfl, hb4⟩; obtain ⟨hc4, hf4⟩ := bcell hb4; have hB4 : Below w.heap.size w w4 := up hb4 (by go_grown); have hz4 := hb4.size; (try simp at hz4); (try have hz4_w_p1 : w.heap.size < w4.heap.size + 1 := (by omega)); (try have hz4_w_p2 : w.heap.size < w4.heap.size + 1 + 1 := (by omega)); (try have hz4_w_p3 : w.heap.size < w4.heap.size + 1 + 1 + 1 := (by omega)); (try have hz4_w1_p1 : w1.heap.size < w4.heap.size + 1 := (by omega)); (try have hz4_w1_p2 : w1.heap.size < w4.heap.size + 1 + 1 := (by omega)); (try have hz4_w1_p3 : w1.heap.size < w4.heap.size + 1 + 1 + 1 := (by omega)); (try have hz4_w2_p1 : w2.heap.size < w4.heap.size + 1 := (by omega)); (try have hz4_w2_p2 : w2.heap.size < w4.heap.size + 1 + 1 := (by omega)); (try have hz4_w2_p3 : w2.heap.size < w4.heap.size + 1 + 1 + 1 := (by omega)); (try have hz4_w3_p1 : w3.heap.size < w4.heap.size + 1 := (by omega)); (try have hz4_w3_p2 : w3.heap.size < w4.heap.size + 1 + 1 := (by omega)); (try have hz4_w3_p3 : w3.heap.size < w4.heap.size + 1 + 1 + 1 := (by omega)); (try have hz4_w_0 : w.heap.size < w4.heap.size := (by omega)); (try have hz4_w_1 : w.heap.size + 1 < w4.heap.size := (by omega)); (try have hz4_w_2 : w.heap.size + 1 + 1 < w4.heap.size := (by omega)); (try have hz4_w_3 : w.heap.size + 1 + 1 + 1 < w4.heap.size := (by omega)); (try have hz4_w_4 : w.heap.size + 1 + 1 + 1 + 1 < w4.heap.size := (by omega)); (try have hz4_w_5 : w.heap.size + 1 + 1 + 1 + 1 + 1 < w4.heap.size := (by omega)); (try have hz4_w_6 : w.heap.size + 1 + 1 + 1 + 1 + 1 + 1 < w4.heap.size := (by omega)); (try have hz4_w1_0 : w1.heap.size < w4.heap.size := (by omega)); (try have hz4_w1_1 : w1.heap.size + 1 < w4.heap.size := (by omega)); (try have hz4_w1_2 : w1.heap.size + 1 + 1 < w4.heap.size := (by omega)); (try have hz4_w1_3 : w1.heap.size + 1 + 1 + 1 < w4.heap.size := (by omega)); (try have hz4_w2_0 : w2.heap.size < w4.heap.size := (by omega)); (try have hz4_w2_1 : w2.heap.size + 1 < w4.heap.size := (by omega)); (try have hz4_w2_2 : w2.heap.size + 1 + 1 < w4.heap.size := (by omega)); (try have hz4_w2_3 : w2.heap.size + 1 + 1 + 1 < w4.heap.size := (by omega)); (try have hz4_w3_0 : w3.heap.size < w4.heap.size := (by omega)); (try have hz4_w3_1 : w3.heap.size + 1 < w4.heap.size := (by omega)); (try have hz4_w3_2 : w3.heap.size + 1 + 1 < w4.heap.size := (by omega)); (try have hz4_w3_3 : w3.heap.size + 1 + 1 + 1 < w4.heap.size := (by omega)))
  go_wp2_with fail
  (refine (HL.out _ (by go_grown)).mono ?_; rintro e w5 ⟨rfl, hb5⟩; obtain ⟨hc5, hf5⟩ := bcell hb5; have hB5 : Below w.heap.size w w5 := up hb5 (by go_grown); have hz5 := hb5.size; (try simp at hz5); (try have hz5_w_p1 : w.heap.size < w5.heap.size + 1 := (by omega)); (try have hz5_w_p2 : w.heap.size < w5.heap.size + 1 + 1 := (by omega)); (try have hz5_w_p3 : w.heap.size < w5.heap.size + 1 + 1 + 1 := (by omega)); (try have hz5_w1_p1 : w1.heap.size < w5.heap.size + 1 := (by omega)); (try have hz5_w1_p2 : w1.heap.size < w5.heap.size + 1 + 1 := (by omega)); (try have hz5_w1_p3 : w1.heap.size < w5.heap.size + 1 + 1 + 1 := (by omega)); (try have hz5_w2_p1 : w2.heap.size < w5.heap.size + 1 := (by omega)); (try have hz5_w2_p2 : w2.heap.size < w5.heap.size + 1 + 1 := (by omega)); (try have hz5_w2_p3 : w2.heap.size < w5.heap.size + 1 + 1 + 1 := (by omega)); (try have hz5_w3_p1 : w3.heap.size < w5.heap.size + 1 := (by omega)); (try have hz5_w3_p2 : w3.heap.size < w5.heap.size + 1 + 1 := (by omega)); (try have hz5_w3_p3 : w3.heap.size < w5.heap.size + 1 + 1 + 1 := (by omega)); (try have hz5_w4_p1 : w4.heap.size < w5.heap.size + 1 := (by omega)); (try have hz5_w4_p2 : w4.heap.size < w5.heap.size + 1 + 1 := (by omega)); (try have hz5_w4_p3 : w4.heap.size < w5.heap.size + 1 + 1 + 1 := (by omega)); (try have hz5_w_0 : w.heap.size < w5.heap.size := (by omega)); (try have hz5_w_1 : w.heap.size + 1 < w5.heap.size := (by omega)); (try have hz5_w_2 : w.heap.size + 1 + 1 < w5.heap.size := (by omega)); (try have hz5_w_3 : w.heap.size + 1 + 1 + 1 < w5.heap.size := (by omega)); (try have hz5_w_4 : w.heap.size + 1 + 1 + 1 + 1 < w5.heap.size := (by omega)); (try have hz5_w_5 : w.heap.size + 1 + 1 + 1 + 1 + 1 < w5.heap.size := (by omega)); (try have hz5_w_6 : w.heap.size + 1 + 1 + 1 + 1 + 1 + 1 < w5.heap.size := (by omega)); (try have hz5_w1_0 : w1.heap.size < w5.heap.size := (by omega)); (try have hz5_w1_1 : w1.heap.size + 1 < w5.heap.size := (by omega)); (try have hz5_w1_2 : w1.heap.size + 1 + 1 < w5.heap.size := (by omega)); (try have hz5_w1_3 : w1.heap.size + 1 + 1 + 1 < w5.heap.size := (by omega)); (try have hz5_w2_0 : w2.heap.size < w5.heap.size := (by omega)); (try have hz5_w2_1 : w2.heap.size + 1 < w5.heap.size := (by omega)); (try have hz5_w2_2 : w2.heap.size + 1 + 1 < w5.heap.size := (by omega)); (try have hz5_w2_3 : w2.heap.size + 1 + 1 + 1 < w5.heap.size := (by omega)); (try have hz5_w3_0 : w3.heap.size < w5.heap.size := (by omega)); (try have hz5_w3_1 : w3.heap.size + 1 < w5.heap.size := (by omega)); (try have hz5_w3_2 : w3.heap.size + 1 + 1 < w5.heap.size := (by omega)); (try have hz5_w3_3 : w3.heap.size + 1 + 1 + 1 < w5.heap.size := (by omega)); (try have hz5_w4_0 : w4.heap.size < w5.heap.size := (by omega)); (try have hz5_w4_1 : w4.heap.size + 1 < w5.heap.size := (by omega)); (try have hz5_w4_2 : w4.heap.size + 1 + 1 < w5.heap.size := (by omega)); (try have hz5_w4_3 : w4.heap.size + 1 + 1 + 1 < w5.heap.size := (by omega)))
  go_wp2
  go_returns
  exact ⟨rfl, by go_grown⟩

theorem around_of (hl : AliveOk) (n d m : Int) (w : World) (h1 : W2 n d) (_ : I64 m) (ht : Pow10 w) :
    Calls Tryd.prog 7 #[.agg #[.int .i64 (n), .int .i64 (d)], .int .i64 m] w fun e w' => e = .returned (.bool true) ∧ Below w.heap.size w w' := by
  cases ha : okQ n d with
  | false => exact around_core n d m 0 0 0 0 1 0 0 1 w ht hl (fun W => Around_frac n d m W h1 ha) (fun W => rAround_frac n d m W ha) (fun W => Nearest_bad n d m W fun W => Around_frac n d m W h1 ha) (fun W => rNearest_bad n d m W fun W => rAround_frac n d m W ha)
  | true =>
    cases hz : szB m with
    | false => exact around_core n d m 0 0 0 0 1 0 0 1 w ht hl (fun W => Around_most n d m W ha hz) (fun W => rAround_most n d m W ha hz) (fun W => Nearest_bad n d m W fun W => Around_most n d m W ha hz) (fun W => rNearest_bad n d m W fun W => rAround_most n d m W ha hz)
    | true =>
      obtain ⟨a, b, c, f, hA⟩ := around_ex ha hz
      exact around_core n d m a b c f 0 _ _ 0 w ht hl (fun W => Around_at ha hz hA W) (fun W => rAround_ok n d m a b c f W ha hz hA.lo hA.hi) (fun W => Nearest_at ha hz hA W) (fun W => rNearest_at ha hz hA W)
end Go.Proofs.YthoinamncekgmaaDoor
