/-
  Walks of Around and of Nearest.
-/
import Derived.Test.YtgonaamjjhhiiaaGreatDoorSearch
import Derived.Test.YtgonaamjjhhiiaaGreatDoorMathC
import Derived.Test.YtgonaamjjhhiiaaGreatDoorRule2
set_option linter.unusedVariables false
set_option linter.unusedSimpArgs false
namespace Go.Proofs.YtgonaamjjhhiiaaGreatDoor
open Go Go.RowKit

/-- What Around's two are. -/
structure Ar (n d m a b c e : Int) : Prop where
  lo : Lo n d m a b
  hi : Hi n d m c e
  bd : -1000000000 ≤ a ∧ a ≤ 1000000000 ∧ -1000000000 ≤ c ∧ c ≤ 1000000000
  gc1 : gc a b = 1
  gc2 : gc c e = 1
  dd : (n * b - a * d) * e ≤ d ∧ (c * d - n * e) * b ≤ d

def AroundPost (n d m : Int) (w : World) (e : Ending) (w' : World) : Prop := ∃ a b c f, e = .returned (.tuple #[.agg #[.int .i64 (a), .int .i64 (b)], .agg #[.int .i64 (c), .int .i64 (f)], .int .i64 0]) ∧ Ar n d m a b c f ∧ Below w.heap.size w w'

theorem Ar.self {n d m : Int} (ha : okQ n d = true) (hm : d ≤ m) : Ar n d m n d n d := by
  obtain ⟨a1, a2, a3, a4, a5⟩ := okQ_iff.1 ha
  exact ⟨Lo.self a1 a5 hm, Hi.self a1 a5 hm, by omega, a5, a5, by simp; omega⟩

theorem gc_of_det {a b x y : Int} (h : x * b - a * y = 1) : gc a b = 1 := by
  have h1 : gc a b ∣ 1 := by
    have d1 : gc a b ∣ x * b := Int.dvd_trans (gc_dvd_r a b) (Int.dvd_mul_left ..)
    have d2 : gc a b ∣ a * y := Int.dvd_trans (gc_dvd_l a b) (Int.dvd_mul_right ..)
    rw [← h]; exact Int.dvd_sub d1 d2
  have h2 := Int.le_of_dvd (by omega) h1
  have h3 := gc_nonneg a b
  rcases Int.lt_or_le 0 (gc a b) with h4 | h4
  · omega
  · have : gc a b = 0 := by omega
    rw [this] at h1
    have := Int.zero_dvd.1 h1
    omega

theorem Ar.of_srch {n d m F a b c e : Int} (ha : okQ n d = true) (hm : 1 ≤ m) (hmd : m < d) (g : Rng n d n d m F) (h : Srch n d n d m F a b c e)
    (hor : m < b + e ∨ (n * (b + e) ≤ (a + c) * d ∧ (a + c) * d ≤ n * (b + e))) : Ar n d m a b c e := by
  obtain ⟨a1, a2, a3, a4, a5⟩ := okQ_iff.1 ha
  obtain ⟨k1, k2, k3⟩ := h.near ha hmd g hor
  have b1 := h.b1; have e1 := h.e1; have bm := h.bm; have em := h.em
  have hdet := h.det
  have u1 := le_of_frac (p := a) (q := b) (n := n) (d := d) (B := 1000000000) b1 a1 (by omega) (by have := h.lo; omega) a4 (by omega)
  have u2 := le_of_frac (p := -c) (q := e) (n := -n) (d := d) (B := 1000000000) e1 a1 (by omega) (by have := h.hi; rw [Int.neg_mul, Int.neg_mul]; omega) (by omega) (by omega)
  have q1 : (c * d - n * e) * b + (n * b - a * d) * e = d := by
    have : (c * d - n * e) * b + (n * b - a * d) * e = d * (c * b - a * e) := by
      simp only [Int.mul_sub, Int.sub_mul, Int.mul_assoc, Int.mul_comm, Int.mul_left_comm]; omega
    rw [this, hdet]; omega
  have q2 : 0 ≤ (c * d - n * e) * b := Int.mul_nonneg (by have := h.hi; omega) (by omega)
  have q3 : 0 ≤ (n * b - a * d) * e := Int.mul_nonneg (by have := h.lo; omega) (by omega)
  -- floor and ceil bound the other sides
  have v1 : -1000000000 ≤ a := by
    have hF := g.F1
    rcases Int.lt_or_le a (-1000000000) with hlt | hge
    · exfalso
      -- (a + 1) / b would still be at most n / d
      have x1 : (a + 1) * d ≤ n * b := by
        have y1 : (-1000000000) * b ≤ n * b := Int.mul_le_mul_of_nonneg_right a3 (by omega)
        have y2 : (a + 1) * d ≤ (-1000000000) * d := Int.mul_le_mul_of_nonneg_right (by omega) (by omega)
        omega
      have := (k2.2.2.2 (a + 1) b b1 bm x1).1
      rw [Int.add_mul] at this
      omega
    · exact hge
  have v2 : c ≤ 1000000000 := by
    rcases Int.lt_or_le 1000000000 c with hlt | hge
    · exfalso
      have x1 : n * e ≤ (c - 1) * d := by
        have y1 : n * e ≤ 1000000000 * e := Int.mul_le_mul_of_nonneg_right a4 (by omega)
        have y2 : 1000000000 * d ≤ (c - 1) * d := Int.mul_le_mul_of_nonneg_right (by omega) (by omega)
        omega
      have := (k3.2.2.2 (c - 1) e e1 em x1).1
      rw [Int.sub_mul] at this
      omega
    · exact hge
  refine ⟨k2, k3, by omega, gc_of_det hdet, gc_of_det (x := -a) (y := -b) (by rw [Int.mul_neg, Int.neg_mul, Int.mul_comm c b, Int.mul_comm] at *; simp only [Int.mul_comm] at hdet ⊢; omega), by omega⟩

theorem Around_frac (n d m : Int) (w : World) (hw : W2 n d) (ha : okQ n d = false) :
    Calls Tryz.prog 35 #[.agg #[.int .i64 (n), .int .i64 (d)], .int .i64 m] w fun e w' => e = .returned (.tuple #[.agg #[.int .i64 (0), .int .i64 (0)], .agg #[.int .i64 (0), .int .i64 (0)], .int .i64 1]) ∧ Below w.heap.size w w' := by
  have HA := Lib.hid ha
  have HW := Lib.hid hw
  clear ha hw
  go_enter Tryz.func35, Tryz.ntmps35
  go_wp2_with (go_at_call 21; refine (check1_bad1 _ _ n d _ (by simp [go_sem]) (by simp [go_sem]) HA.out HW.out).mono ?_; rintro e w1 ⟨rfl, hb1⟩; obtain ⟨hc1, hf1⟩ := bcell hb1; have hB1 : Below w.heap.size w w1 := up hb1 (by go_grown); have hz1 := hb1.size; (try simp at hz1); (try have hz1_w_p1 : w.heap.size < w1.heap.size + 1 := (by omega)); (try have hz1_w_p2 : w.heap.size < w1.heap.size + 1 + 1 := (by omega)); (try have hz1_w_p3 : w.heap.size < w1.heap.size + 1 + 1 + 1 := (by omega)); (try have hz1_w_0 : w.heap.size < w1.heap.size := (by omega)); (try have hz1_w_1 : w.heap.size + 1 < w1.heap.size := (by omega)); (try have hz1_w_2 : w.heap.size + 1 + 1 < w1.heap.size := (by omega)); (try have hz1_w_3 : w.heap.size + 1 + 1 + 1 < w1.heap.size := (by omega)); (try have hz1_w_4 : w.heap.size + 1 + 1 + 1 + 1 < w1.heap.size := (by omega)); (try have hz1_w_5 : w.heap.size + 1 + 1 + 1 + 1 + 1 < w1.heap.size := (by omega)); (try have hz1_w_6 : w.heap.size + 1 + 1 + 1 + 1 + 1 + 1 < w1.heap.size := (by omega)); have r1_1_0 : w1.cell? ⟨w.heap.size + 1, 0, none⟩ = some (.int .i64 0) := (by go_cell); have r1_1_1 : w1.cell? ⟨w.heap.size + 1, 1, none⟩ = some (.int .i64 0) := (by go_cell); have r1_2_0 : w1.cell? ⟨w.heap.size + 1 + 1, 0, none⟩ = some (.int .i64 0) := (by go_cell); have r1_2_1 : w1.cell? ⟨w.heap.size + 1 + 1, 1, none⟩ = some (.int .i64 0) := (by go_cell))
  refine bodyPost_ret (res_qqe Tryz.results35 rfl rfl (by go_cell) (by go_cell) (by go_cell) (by go_cell)) rfl ⟨rfl, by go_grown⟩
theorem Around_most (n d m : Int) (w : World) (ha : okQ n d = true) (hm : szB m = false) :
    Calls Tryz.prog 35 #[.agg #[.int .i64 (n), .int .i64 (d)], .int .i64 m] w fun e w' => e = .returned (.tuple #[.agg #[.int .i64 (0), .int .i64 (0)], .agg #[.int .i64 (0), .int .i64 (0)], .int .i64 1]) ∧ Below w.heap.size w w' := by
  have HA := Lib.hid ha
  clear ha
  rcases szB_no hm with h1 | h1 <;>
  · clear hm
    go_enter Tryz.func35, Tryz.ntmps35
    go_wp2_with (go_at_call 21; refine (check1_ok _ _ n d _ (by simp [go_sem]) (by simp [go_sem]) HA.out).mono ?_; rintro e w1 ⟨rfl, hb1⟩; obtain ⟨hc1, hf1⟩ := bcell hb1; have hB1 : Below w.heap.size w w1 := up hb1 (by go_grown); have hz1 := hb1.size; (try simp at hz1); (try have hz1_w_p1 : w.heap.size < w1.heap.size + 1 := (by omega)); (try have hz1_w_p2 : w.heap.size < w1.heap.size + 1 + 1 := (by omega)); (try have hz1_w_p3 : w.heap.size < w1.heap.size + 1 + 1 + 1 := (by omega)); (try have hz1_w_0 : w.heap.size < w1.heap.size := (by omega)); (try have hz1_w_1 : w.heap.size + 1 < w1.heap.size := (by omega)); (try have hz1_w_2 : w.heap.size + 1 + 1 < w1.heap.size := (by omega)); (try have hz1_w_3 : w.heap.size + 1 + 1 + 1 < w1.heap.size := (by omega)); (try have hz1_w_4 : w.heap.size + 1 + 1 + 1 + 1 < w1.heap.size := (by omega)); (try have hz1_w_5 : w.heap.size + 1 + 1 + 1 + 1 + 1 < w1.heap.size := (by omega)); (try have hz1_w_6 : w.heap.size + 1 + 1 + 1 + 1 + 1 + 1 < w1.heap.size := (by omega)); have r1_1_0 : w1.cell? ⟨w.heap.size + 1, 0, none⟩ = some (.int .i64 0) := (by go_cell); have r1_1_1 : w1.cell? ⟨w.heap.size + 1, 1, none⟩ = some (.int .i64 0) := (by go_cell); have r1_2_0 : w1.cell? ⟨w.heap.size + 1 + 1, 0, none⟩ = some (.int .i64 0) := (by go_cell); have r1_2_1 : w1.cell? ⟨w.heap.size + 1 + 1, 1, none⟩ = some (.int .i64 0) := (by go_cell))
    all_goals first | (exfalso; omega) | (refine bodyPost_ret (res_qqe Tryz.results35 rfl rfl (by go_cell) (by go_cell) (by go_cell) (by go_cell)) rfl ⟨rfl, by go_grown⟩)
set_option maxHeartbeats 1000000 in
theorem Around_same (n d m : Int) (w : World) (ha : okQ n d = true) (hm : szB m = true) (hmd : d ≤ m) :
    Calls Tryz.prog 35 #[.agg #[.int .i64 (n), .int .i64 (d)], .int .i64 m] w (AroundPost n d m w) := by
  have HAR := Lib.hid (Ar.self ha hmd)
  obtain ⟨m1, m2⟩ := szB_iff.1 hm
  have HA := Lib.hid ha
  clear ha hm
  go_enter Tryz.func35, Tryz.ntmps35
  go_wp2_with (go_at_call 21; refine (check1_ok _ _ n d _ (by simp [go_sem]) (by simp [go_sem]) HA.out).mono ?_; rintro e w1 ⟨rfl, hb1⟩; obtain ⟨hc1, hf1⟩ := bcell hb1; have hB1 : Below w.heap.size w w1 := up hb1 (by go_grown); have hz1 := hb1.size; (try simp at hz1); (try have hz1_w_p1 : w.heap.size < w1.heap.size + 1 := (by omega)); (try have hz1_w_p2 : w.heap.size < w1.heap.size + 1 + 1 := (by omega)); (try have hz1_w_p3 : w.heap.size < w1.heap.size + 1 + 1 + 1 := (by omega)); (try have hz1_w_0 : w.heap.size < w1.heap.size := (by omega)); (try have hz1_w_1 : w.heap.size + 1 < w1.heap.size := (by omega)); (try have hz1_w_2 : w.heap.size + 1 + 1 < w1.heap.size := (by omega)); (try have hz1_w_3 : w.heap.size + 1 + 1 + 1 < w1.heap.size := (by omega)); (try have hz1_w_4 : w.heap.size + 1 + 1 + 1 + 1 < w1.heap.size := (by omega)); (try have hz1_w_5 : w.heap.size + 1 + 1 + 1 + 1 + 1 < w1.heap.size := (by omega)); (try have hz1_w_6 : w.heap.size + 1 + 1 + 1 + 1 + 1 + 1 < w1.heap.size := (by omega)); have r1_1_0 : w1.cell? ⟨w.heap.size + 1, 0, none⟩ = some (.int .i64 0) := (by go_cell); have r1_1_1 : w1.cell? ⟨w.heap.size + 1, 1, none⟩ = some (.int .i64 0) := (by go_cell); have r1_2_0 : w1.cell? ⟨w.heap.size + 1 + 1, 0, none⟩ = some (.int .i64 0) := (by go_cell); have r1_2_1 : w1.cell? ⟨w.heap.size + 1 + 1, 1, none⟩ = some (.int .i64 0) := (by go_cell))
  all_goals first | (exfalso; omega) | skip
  go_region_held3 (fun w' => w'.cell? ⟨w.heap.size, 0, none⟩ = some (.int .i64 n) ∧ w'.cell? ⟨w.heap.size, 1, none⟩ = some (.int .i64 d))
    (first | (go_simp; done) | go_keep) (fail)
  go_wp2
  refine bodyPost_ret (res_qqe Tryz.results35 rfl rfl (by go_cell) (by go_cell) (by go_cell) (by go_cell)) rfl ⟨n, d, n, d, rfl, HAR.out, ?_⟩
  repeat' (first | (with_reducible exact Below.refl _ _) | (with_reducible assumption) | (with_reducible refine Below.alloc ?_ ?_ _) | (with_reducible refine Below.drew ?_) | (with_reducible refine below_drewN ?_ _) | (with_reducible refine Below.setCell ?_ ?_ _) | go_size)
set_option maxHeartbeats 2000000 in
theorem Around_near (n d m : Int) (w : World) (ha : okQ n d = true) (hm : szB m = true) (hmd : m < d) :
    Calls Tryz.prog 35 #[.agg #[.int .i64 (n), .int .i64 (d)], .int .i64 m] w (AroundPost n d m w) := by
  obtain ⟨m1, m2⟩ := szB_iff.1 hm
  have g := Rng.of_one ha m1 hmd
  have HA := Lib.hid ha
  clear ha hm
  go_enter Tryz.func35, Tryz.ntmps35
  go_wp2_with (go_at_call 21; refine (check1_ok _ _ n d _ (by simp [go_sem]) (by simp [go_sem]) HA.out).mono ?_; rintro e w1 ⟨rfl, hb1⟩; obtain ⟨hc1, hf1⟩ := bcell hb1; have hB1 : Below w.heap.size w w1 := up hb1 (by go_grown); have hz1 := hb1.size; (try simp at hz1); (try have hz1_w_p1 : w.heap.size < w1.heap.size + 1 := (by omega)); (try have hz1_w_p2 : w.heap.size < w1.heap.size + 1 + 1 := (by omega)); (try have hz1_w_p3 : w.heap.size < w1.heap.size + 1 + 1 + 1 := (by omega)); (try have hz1_w_0 : w.heap.size < w1.heap.size := (by omega)); (try have hz1_w_1 : w.heap.size + 1 < w1.heap.size := (by omega)); (try have hz1_w_2 : w.heap.size + 1 + 1 < w1.heap.size := (by omega)); (try have hz1_w_3 : w.heap.size + 1 + 1 + 1 < w1.heap.size := (by omega)); (try have hz1_w_4 : w.heap.size + 1 + 1 + 1 + 1 < w1.heap.size := (by omega)); (try have hz1_w_5 : w.heap.size + 1 + 1 + 1 + 1 + 1 < w1.heap.size := (by omega)); (try have hz1_w_6 : w.heap.size + 1 + 1 + 1 + 1 + 1 + 1 < w1.heap.size := (by omega)); have r1_1_0 : w1.cell? ⟨w.heap.size + 1, 0, none⟩ = some (.int .i64 0) := (by go_cell); have r1_1_1 : w1.cell? ⟨w.heap.size + 1, 1, none⟩ = some (.int .i64 0) := (by go_cell); have r1_2_0 : w1.cell? ⟨w.heap.size + 1 + 1, 0, none⟩ = some (.int .i64 0) := (by go_cell); have r1_2_1 : w1.cell? ⟨w.heap.size + 1 + 1, 1, none⟩ = some (.int .i64 0) := (by go_cell))
  all_goals first | (exfalso; omega) | skip
  refine (search_any n d n d m (n / d) _ (Lib.hid rfl) g).mono ?_
  rintro e w4 ⟨a, b, c, f, rfl, hS, hor, hb4⟩
  have HAR := Lib.hid (Ar.of_srch HA.out m1 hmd g hS hor)
  clear hS hor
  obtain ⟨hc4, hf4⟩ := bcell hb4
  have hB4 : Below w.heap.size w w4 := up hb4 (by go_grown)
  have hz4 := hb4.size
  (try simp at hz4)
  have u0 : w.heap.size < w4.heap.size := by omega
  have u1 : w.heap.size + 1 < w4.heap.size := by omega
  have u2 : w.heap.size + 1 + 1 < w4.heap.size := by omega
  have r4_1_0 : w4.cell? ⟨w.heap.size + 1, 0, none⟩ = some (.int .i64 0) := (by go_cell)
  have r4_1_1 : w4.cell? ⟨w.heap.size + 1, 1, none⟩ = some (.int .i64 0) := (by go_cell)
  have r4_2_0 : w4.cell? ⟨w.heap.size + 1 + 1, 0, none⟩ = some (.int .i64 0) := (by go_cell)
  have r4_2_1 : w4.cell? ⟨w.heap.size + 1 + 1, 1, none⟩ = some (.int .i64 0) := (by go_cell)
  go_wp2
  go_region_held3 (fun w' => w'.cell? ⟨w4.heap.size, 0, none⟩ = some (.int .i64 a) ∧ w'.cell? ⟨w4.heap.size, 1, none⟩ = some (.int .i64 b) ∧ w'.cell? ⟨w4.heap.size + 1, 0, none⟩ = some (.int .i64 c) ∧ w'.cell? ⟨w4.heap.size + 1, 1, none⟩ = some (.int .i64 f))
    (first | (go_simp; done) | go_keep) (fail)
  go_wp2
  refine bodyPost_ret (res_qqe Tryz.results35 rfl rfl (by go_cell) (by go_cell) (by go_cell) (by go_cell)) rfl ⟨a, b, c, f, rfl, HAR.out, ?_⟩
  repeat' (first | (with_reducible exact Below.refl _ _) | (with_reducible assumption) | (with_reducible refine Below.alloc ?_ ?_ _) | (with_reducible refine Below.drew ?_) | (with_reducible refine below_drewN ?_ _) | (with_reducible refine Below.setCell ?_ ?_ _) | go_size)
theorem Around_ok (n d m : Int) (w : World) (ha : okQ n d = true) (hm : szB m = true) :
    Calls Tryz.prog 35 #[.agg #[.int .i64 (n), .int .i64 (d)], .int .i64 m] w (AroundPost n d m w) := by
  rcases Int.lt_or_le m d with h | h
  · exact Around_near n d m w ha hm h
  · exact Around_same n d m w ha hm h
end Go.Proofs.YtgonaamjjhhiiaaGreatDoor
