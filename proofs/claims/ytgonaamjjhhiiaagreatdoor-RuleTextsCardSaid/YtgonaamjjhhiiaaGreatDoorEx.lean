/-
  What the functions of package rule return at the chapter's examples; the two helpers of the statements that take no fraction.
-/
import Derived.Test.YtgonaamjjhhiiaaGreatDoorSimple
import Derived.Test.YtgonaamjjhhiiaaGreatDoorInv
import Derived.Test.YtgonaamjjhhiiaaGreatDoorNearest
import Derived.Test.YtgonaamjjhhiiaaGreatDoorBest
import Derived.Test.YtgonaamjjhhiiaaGreatDoorAdd
import Derived.Test.YtgonaamjjhhiiaaGreatDoorWrite
set_option linter.unusedVariables false
set_option linter.unusedSimpArgs false
namespace Go.Proofs.YtgonaamjjhhiiaaGreatDoor
open Go Go.RowKit

theorem f_any (n d : Int) (w : World) : Calls Tryz.prog 11 #[.int .i64 n, .int .i64 d] w fun e w' => e = .returned (.agg #[.int .i64 (n), .int .i64 (d)]) ∧ Below w.heap.size w w' := by
  go_enter Tryz.func11, Tryz.ntmps11
  go_wp2
  go_returns
  exact ⟨rfl, by go_grown⟩
theorem res_r4 {fn : Func} {t : Tmp} (h : fn.results = #[.cell t 43]) {tmps : Array Value} {w : World} {b : Nat} {x0 x1 x2 x3 : Value} (ht : tmps[t]?.getD undef = .pointer (some ⟨b, 0, none⟩)) (h0 : w.cell? ⟨b, 0, none⟩ = some x0) (h1 : w.cell? ⟨b, 1, none⟩ = some x1) (h2 : w.cell? ⟨b, 2, none⟩ = some x2) (h3 : w.cell? ⟨b, 3, none⟩ = some x3) :
    (results fn tmps).run Tryz.prog w = .ok (.agg #[x0, x1, x2, x3]) w := by
  simp [results, h, ht, go_sem, h0, h1, h2, h3]
theorem tin_any (w : World) : Calls Tryz.prog 16 #[] w fun e w' => e = .returned (.agg #[.int .i64 (1), .int .i64 (100), .int .i64 (1), .int .i64 (50)]) ∧ Below w.heap.size w w' := by
  go_enter Tryz.func16, Tryz.ntmps16
  go_wp2_with fail
  (refine (f_any 1 100 _).mono ?_; rintro e w1 ⟨rfl, hb1⟩; obtain ⟨hc1, hf1⟩ := bcell hb1; have hB1 : Below w.heap.size w w1 := up hb1 (by go_grown); have hz1 := hb1.size; (try simp at hz1); (try have hz1_w_p1 : w.heap.size < w1.heap.size + 1 := (by omega)); (try have hz1_w_p2 : w.heap.size < w1.heap.size + 1 + 1 := (by omega)); (try have hz1_w_p3 : w.heap.size < w1.heap.size + 1 + 1 + 1 := (by omega)); (try have hz1_w_0 : w.heap.size < w1.heap.size := (by omega)); (try have hz1_w_1 : w.heap.size + 1 < w1.heap.size := (by omega)); (try have hz1_w_2 : w.heap.size + 1 + 1 < w1.heap.size := (by omega)); (try have hz1_w_3 : w.heap.size + 1 + 1 + 1 < w1.heap.size := (by omega)); (try have hz1_w_4 : w.heap.size + 1 + 1 + 1 + 1 < w1.heap.size := (by omega)); (try have hz1_w_5 : w.heap.size + 1 + 1 + 1 + 1 + 1 < w1.heap.size := (by omega)); (try have hz1_w_6 : w.heap.size + 1 + 1 + 1 + 1 + 1 + 1 < w1.heap.size := (by omega)); have r1_0_0 : w1.cell? ⟨w.heap.size, 0, none⟩ = some (.int .i64 0) := (by go_cell); have r1_0_1 : w1.cell? ⟨w.heap.size, 1, none⟩ = some (.int .i64 0) := (by go_cell); have r1_0_2 : w1.cell? ⟨w.heap.size, 2, none⟩ = some (.int .i64 0) := (by go_cell); have r1_0_3 : w1.cell? ⟨w.heap.size, 3, none⟩ = some (.int .i64 0) := (by go_cell))
  go_wp2_with fail
  (refine (f_any 1 50 _).mono ?_; rintro e w2 ⟨rfl, hb2⟩; obtain ⟨hc2, hf2⟩ := bcell hb2; have hB2 : Below w.heap.size w w2 := up hb2 (by go_grown); have hz2 := hb2.size; (try simp at hz2); (try have hz2_w_p1 : w.heap.size < w2.heap.size + 1 := (by omega)); (try have hz2_w_p2 : w.heap.size < w2.heap.size + 1 + 1 := (by omega)); (try have hz2_w_p3 : w.heap.size < w2.heap.size + 1 + 1 + 1 := (by omega)); (try have hz2_w1_p1 : w1.heap.size < w2.heap.size + 1 := (by omega)); (try have hz2_w1_p2 : w1.heap.size < w2.heap.size + 1 + 1 := (by omega)); (try have hz2_w1_p3 : w1.heap.size < w2.heap.size + 1 + 1 + 1 := (by omega)); (try have hz2_w_0 : w.heap.size < w2.heap.size := (by omega)); (try have hz2_w_1 : w.heap.size + 1 < w2.heap.size := (by omega)); (try have hz2_w_2 : w.heap.size + 1 + 1 < w2.heap.size := (by omega)); (try have hz2_w_3 : w.heap.size + 1 + 1 + 1 < w2.heap.size := (by omega)); (try have hz2_w_4 : w.heap.size + 1 + 1 + 1 + 1 < w2.heap.size := (by omega)); (try have hz2_w_5 : w.heap.size + 1 + 1 + 1 + 1 + 1 < w2.heap.size := (by omega)); (try have hz2_w_6 : w.heap.size + 1 + 1 + 1 + 1 + 1 + 1 < w2.heap.size := (by omega)); (try have hz2_w1_0 : w1.heap.size < w2.heap.size := (by omega)); (try have hz2_w1_1 : w1.heap.size + 1 < w2.heap.size := (by omega)); (try have hz2_w1_2 : w1.heap.size + 1 + 1 < w2.heap.size := (by omega)); (try have hz2_w1_3 : w1.heap.size + 1 + 1 + 1 < w2.heap.size := (by omega)); have r2_0_0 : w2.cell? ⟨w.heap.size, 0, none⟩ = some (.int .i64 0) := (by go_cell); have r2_0_1 : w2.cell? ⟨w.heap.size, 1, none⟩ = some (.int .i64 0) := (by go_cell); have r2_0_2 : w2.cell? ⟨w.heap.size, 2, none⟩ = some (.int .i64 0) := (by go_cell); have r2_0_3 : w2.cell? ⟨w.heap.size, 3, none⟩ = some (.int .i64 0) := (by go_cell))
  go_wp2
  refine bodyPost_ret (res_r4 Tryz.results16 rfl (by repeat' (first | (with_reducible assumption) | (with_reducible refine cellD ?_) | (with_reducible refine cell_same ?_; repeat' (first | exact ⟨_, by with_reducible assumption⟩ | with_reducible refine cell_exD ?_ | with_reducible refine cell_ex ?_)) | (with_reducible refine cell_other ?_ (by dsimp only; omega)))) (by repeat' (first | (with_reducible assumption) | (with_reducible refine cellD ?_) | (with_reducible refine cell_same ?_; repeat' (first | exact ⟨_, by with_reducible assumption⟩ | with_reducible refine cell_exD ?_ | with_reducible refine cell_ex ?_)) | (with_reducible refine cell_other ?_ (by dsimp only; omega)))) (by repeat' (first | (with_reducible assumption) | (with_reducible refine cellD ?_) | (with_reducible refine cell_same ?_; repeat' (first | exact ⟨_, by with_reducible assumption⟩ | with_reducible refine cell_exD ?_ | with_reducible refine cell_ex ?_)) | (with_reducible refine cell_other ?_ (by dsimp only; omega)))) (by repeat' (first | (with_reducible assumption) | (with_reducible refine cellD ?_) | (with_reducible refine cell_same ?_; repeat' (first | exact ⟨_, by with_reducible assumption⟩ | with_reducible refine cell_exD ?_ | with_reducible refine cell_ex ?_)) | (with_reducible refine cell_other ?_ (by dsimp only; omega))))) rfl ⟨rfl, ?_⟩
  repeat' (first | (with_reducible exact Below.refl _ _) | (with_reducible assumption) | (with_reducible refine Below.alloc ?_ ?_ _) | (with_reducible refine Below.drew ?_) | (with_reducible refine below_drewN ?_ _) | (with_reducible refine Below.setCell ?_ ?_ _) | go_size)

theorem Of_ex (w : World) : Calls Tryz.prog 9 #[.int .i64 (-6), .int .i64 4] w fun e w' => e = .returned (.tuple #[.agg #[.int .i64 (-3), .int .i64 (2)], .int .i64 0]) ∧ Below w.heap.size w w' := by
  have h := Of_ok (-6) 4 w (by decide +kernel) (by decide +kernel)
  rw [show lowN (-6) 4 = -3 by decide +kernel, show lowD (-6) 4 = 2 by decide +kernel] at h
  exact h
theorem simp_ex : Simp 31 100 8 25 5 16 := Simp.of_det (a := 4) (b := 13) (c := 1) (e := 3) (by decide) (by decide) (by decide) (by decide) (by decide) (by decide) (by decide) (by decide) (by decide)
theorem Simplest_ex (w : World) : Calls Tryz.prog 10 #[.agg #[.int .i64 (31), .int .i64 (100)], .agg #[.int .i64 (8), .int .i64 (25)]] w fun e w' => e = .returned (.tuple #[.agg #[.int .i64 (5), .int .i64 (16)], .int .i64 0]) ∧ Below w.heap.size w w' :=
  (Simplest_ok 31 100 8 25 w (by decide +kernel) (by decide +kernel) (by decide)).mono fun e w' ⟨p, q, he, hs, hb⟩ => by
    obtain ⟨rfl, rfl⟩ := Simp.unique (by decide) (by decide) hs simp_ex
    exact ⟨he, hb⟩
theorem Neighbours_ex (w : World) : Calls Tryz.prog 12 #[.agg #[.int .i64 (5), .int .i64 (16)]] w fun e w' => e = .returned (.tuple #[.agg #[.int .i64 (4), .int .i64 (13)], .agg #[.int .i64 (1), .int .i64 (3)], .int .i64 0]) ∧ Below w.heap.size w w' :=
  (Neighbours_ok 5 16 w (by decide +kernel) (by decide)).mono fun e w' ⟨a, b, he, h1, h2, h3, h4, h5, hb⟩ => by
    obtain rfl : b = 13 := by omega
    obtain rfl : a = 4 := by omega
    exact ⟨he, hb⟩
theorem lo_ex : Lo 314159 100000 200 333 106 := Lo.of_det (c := 355) (e := 113) (by decide) (by decide) (by decide) (by decide) (by decide) (by decide) (by decide) (by decide)
theorem hi_ex : Hi 314159 100000 200 355 113 := Hi.of_det (a := 333) (b := 106) (by decide) (by decide) (by decide) (by decide) (by decide) (by decide) (by decide) (by decide)
theorem near_ex : nearHi 314159 100000 333 106 355 113 = true := by decide +kernel
theorem Nearest_ex (w : World) : Calls Tryz.prog 13 #[.agg #[.int .i64 (314159), .int .i64 (100000)], .int .i64 200] w fun e w' => e = .returned (.tuple #[.agg #[.int .i64 (355), .int .i64 (113)], .int .i64 0]) ∧ Below w.heap.size w w' :=
  (Nearest_ok 314159 100000 200 w (by decide +kernel) (by decide)).mono fun e w' ⟨a, b, c, f, he, h, hb⟩ => by
    obtain ⟨rfl, rfl⟩ := h.lo.unique lo_ex
    obtain ⟨rfl, rfl⟩ := h.hi.unique hi_ex
    rw [near_ex] at he
    exact ⟨he, hb⟩
theorem sizes_ex {L M : Int} {ok : Bool} (h : SizesIs 1 100 1 50 975 1000 L M ok) : L = 995 ∧ M = 1010 ∧ ok = true := by
  unfold SizesIs Serves at h
  rcases h with ⟨rfl, h1, h2, h3, h4⟩ | ⟨rfl, h1, h2, h4⟩
  · have a := (h4 995 (by decide) (by decide)).1 (by decide)
    have b := (h4 1010 (by decide) (by decide)).1 (by decide)
    have c := (h4 L (by omega) (by omega)).2 (by omega)
    have d := (h4 M (by omega) (by omega)).2 (by omega)
    refine ⟨by omega, by omega, rfl⟩
  · exact absurd (by decide) (h4 995 (by decide) (by decide))
theorem Sizes_ex (w : World) : Calls Tryz.prog 15 #[.agg #[.int .i64 (1), .int .i64 (100), .int .i64 (1), .int .i64 (50)], .int .i64 975, .int .i64 1000] w fun e w' => e = .returned (.tuple #[.int .i64 995, .int .i64 1010, .bool true, .int .i64 0]) ∧ Below w.heap.size w w' :=
  (Sizes_ok 1 100 1 50 975 1000 w (by decide +kernel) (by decide) (by decide) (by decide)).mono fun e w' ⟨L, M, ok, he, h, hb⟩ => by
    obtain ⟨rfl, rfl, rfl⟩ := sizes_ex h
    exact ⟨he, hb⟩
theorem best_ex {r : Int} (h : BestIs 1 100 1 50 1000 r) : r = 1015 := by
  obtain ⟨h1, h2, h3, h4⟩ := h
  have e1 : pB 1 100 1 50 1000 1015 = true := by decide +kernel
  have e2 : pB 1 100 1 50 1000 1014 = false := by decide +kernel
  rcases Int.lt_trichotomy r 1015 with h | h | h
  · have := pB_mono (by decide) (by decide) (by decide) (by decide) r 1014 (by omega) (h4 (by omega))
    rw [e2] at this; cases this
  · exact h
  · have := h3 1015 (by omega) h
    rw [e1] at this; cases this
theorem Best_ex (w : World) : Calls Tryz.prog 17 #[.agg #[.int .i64 (1), .int .i64 (100), .int .i64 (1), .int .i64 (50)], .int .i64 1000] w fun e w' => e = .returned (.tuple #[.int .i64 1015, .int .i64 0]) ∧ Below w.heap.size w w' :=
  (Best_ok 1 100 1 50 1000 w (by decide +kernel) (by decide)).mono fun e w' ⟨r, he, h, hb⟩ => by
    obtain rfl := best_ex h
    exact ⟨he, hb⟩
theorem Add_ex (w : World) : Calls Tryz.prog 19 #[.agg #[.int .i64 (1), .int .i64 (6)], .agg #[.int .i64 (1), .int .i64 (3)]] w fun e w' => e = .returned (.tuple #[.agg #[.int .i64 (1), .int .i64 (2)], .int .i64 0]) ∧ Below w.heap.size w w' := by
  have h := Add_ok 1 6 1 3 w (by decide +kernel) (by decide +kernel) (by decide +kernel)
  rw [show lowN (1 * 3 + 1 * 6) (6 * 3) = 1 by decide +kernel, show lowD (1 * 3 + 1 * 6) (6 * 3) = 2 by decide +kernel] at h
  exact h
theorem Write_ex (w : World) (ht : Pow10 w) : Calls Tryz.prog 5 #[.agg #[.int .i64 (-3), .int .i64 (2)]] w fun e w' => e = .returned (.tuple #[.string ⟨#[45, 51, 47, 50]⟩, .int .i64 0]) ∧ Below w.heap.size w w' := by
  have h := Write_two (-3) 2 w (by decide +kernel) (by decide) ht
  rw [show Lib.itoa (-3) ++ [47] ++ Lib.itoa 2 = [45, 51, 47, 50] by decide +kernel] at h
  exact h
end Go.Proofs.YtgonaamjjhhiiaaGreatDoor
