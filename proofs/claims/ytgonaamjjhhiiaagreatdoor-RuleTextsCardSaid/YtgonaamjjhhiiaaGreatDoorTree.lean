/-
  Walks of the tree of fractions: towards, search, the simplest fraction of a range, neighbours, the nearest fractions.
-/
import Derived.Test.YtgonaamjjhhiiaaGreatDoorOps
import Derived.Deep.DeepCutAuto
set_option linter.unusedVariables false
set_option linter.unusedSimpArgs false
namespace Go.Proofs.YtgonaamjjhhiiaaGreatDoor
open Go Go.RowKit

theorem gap_z (an ad bn bd z : Int) (w : World) (hz : Hid (an * bd - bn * ad = z)) (h : Hid ((-4000000000000000000 ≤ an * bd ∧ an * bd ≤ 4000000000000000000) ∧ -4000000000000000000 ≤ bn * ad ∧ bn * ad ≤ 4000000000000000000)) :
    Calls Tryz.prog 29 #[.agg #[.int .i64 (an), .int .i64 (ad)], .agg #[.int .i64 (bn), .int .i64 (bd)]] w fun e w' => e = .returned (.int .i64 z) ∧ w' = (w.alloc (.cells #[.int .i64 (an), .int .i64 (ad)] 62)).alloc (.cells #[.int .i64 (bn), .int .i64 (bd)] 62) := by
  rw [← hz.out]
  exact gap_exact an ad bn bd w h.out.1.1 h.out.1.2 h.out.2.1 h.out.2.2

set_option maxHeartbeats 1000000 in
theorem towards_a (p0 q0 p1 q1 n d m far near s : Int) (w : World) (h0 : 1 ≤ q0) (h0' : q0 ≤ 2000000) (h1 : 1 ≤ q1) (h1' : q1 ≤ 2000000) (hm : q0 ≤ m) (hm' : m ≤ 1000000)
    (e1 : n * q0 - p0 * d = far) (b1 : Hid ((-4000000000000000000 ≤ n * q0 ∧ n * q0 ≤ 4000000000000000000) ∧ -4000000000000000000 ≤ p0 * d ∧ p0 * d ≤ 4000000000000000000))
    (e2 : p1 * d - n * q1 = near) (b2 : Hid ((-4000000000000000000 ≤ p1 * d ∧ p1 * d ≤ 4000000000000000000) ∧ -4000000000000000000 ≤ n * q1 ∧ n * q1 ≤ 4000000000000000000))
    (hfar : 1 ≤ far) (hfar' : far ≤ 4000000000000000000) (hnear : 1 ≤ near) (hnear' : near ≤ 4000000000000000000) (hs : stepsTo far near m q0 q1 = s)
    (c1 : -4000000000000000000 ≤ s * p1) (c2 : s * p1 ≤ 4000000000000000000) (c3 : -4000000000000000000 ≤ s * q1) (c4 : s * q1 ≤ 4000000000000000000)
    (c5 : -4000000000000000000 ≤ p0 + s * p1) (c6 : p0 + s * p1 ≤ 4000000000000000000) :
    Calls Tryz.prog 63 #[.agg #[.int .i64 (p0), .int .i64 (q0)], .agg #[.int .i64 (p1), .int .i64 (q1)], .agg #[.int .i64 (n), .int .i64 (d)], .int .i64 m] w fun e w' => e = .returned (.agg #[.int .i64 (p0 + s * p1), .int .i64 (q0 + s * q1)]) ∧ Below w.heap.size w w' := by
  have E1 := Lib.hid e1
  have E2 := Lib.hid e2
  have HS := Lib.hid hs
  clear e1 e2 hs
  have hne1 : ¬ near = 0 := by omega
  have hne2 : ¬ q1 = 0 := by omega
  have f0 : 0 ≤ far - 1 := by omega
  have f1 : 0 ≤ m - q0 := by omega
  have g1 : IntKind.i64.wrap (far - 1) = far - 1 := IntWalk.i64_in _ (by omega)
  have g2 : IntKind.i64.wrap (m - q0) = m - q0 := IntWalk.i64_in _ (by omega)
  have d1 : (far - 1).tdiv near = (far - 1) / near := Int.tdiv_eq_ediv_of_nonneg f0
  have d2 : (m - q0).tdiv q1 = (m - q0) / q1 := Int.tdiv_eq_ediv_of_nonneg f1
  have n1 := Int.ediv_nonneg f0 (b := near) (by omega)
  have n2 := Int.ediv_nonneg f1 (b := q1) (by omega)
  have l1 := Int.ediv_le_self (b := near) f0
  have l2 := Int.ediv_le_self (b := q1) f1
  have g3 : IntKind.i64.wrap ((far - 1) / near) = (far - 1) / near := IntWalk.i64_in _ (by omega)
  have g4 : IntKind.i64.wrap ((m - q0) / q1) = (m - q0) / q1 := IntWalk.i64_in _ (by omega)
  have hmin : (if (m - q0) / q1 < (far - 1) / near then (m - q0) / q1 else (far - 1) / near) = s := by
    have := HS.out
    unfold stepsTo at this
    rw [← this]
    split <;> omega
  have HMIN := Lib.hid hmin
  clear hmin
  go_enter Tryz.func63, Tryz.ntmps63
  go_wp2_with fail
  go_region_held3 (fun w' => w'.cell? ⟨w.heap.size, 0, none⟩ = some (.int .i64 p0) ∧ w'.cell? ⟨w.heap.size, 1, none⟩ = some (.int .i64 q0) ∧ w'.cell? ⟨w.heap.size + 1, 0, none⟩ = some (.int .i64 p1) ∧ w'.cell? ⟨w.heap.size + 1, 1, none⟩ = some (.int .i64 q1) ∧ w'.cell? ⟨w.heap.size + 1 + 1, 0, none⟩ = some (.int .i64 n) ∧ w'.cell? ⟨w.heap.size + 1 + 1, 1, none⟩ = some (.int .i64 d))
    (first | (go_simp; done) | go_keep)
    (first | (go_at_call 29; (with_reducible refine (gap_z n d p0 q0 far _ E1 b1).mono ?_); rintro e w1 ⟨rfl, rfl⟩) | (go_at_call 29; (with_reducible refine (gap_z p1 q1 n d near _ E2 b2).mono ?_); rintro e w1 ⟨rfl, rfl⟩))
  go_wp2
  go_quiet (fail)
  rw [HMIN.out]
  clear g1 g2 g3 g4 d1 d2 n1 n2 l1 l2
  go_wp2
  refine bodyPost_ret (res_r Tryz.results63 rfl (by go_cell) (by go_cell)) rfl ⟨rfl, ?_⟩; repeat' (first | (with_reducible exact Below.refl _ _) | (with_reducible assumption) | (with_reducible refine Below.alloc ?_ ?_ _) | (with_reducible refine Below.drew ?_) | (with_reducible refine below_drewN ?_ _) | (with_reducible refine Below.setCell ?_ ?_ _) | go_size)

set_option maxHeartbeats 1000000 in
/-- The same from the other side: both numbers are below 0, and are turned. -/
theorem towards_b (p0 q0 p1 q1 n d m far near s : Int) (w : World) (h0 : 1 ≤ q0) (h0' : q0 ≤ 2000000) (h1 : 1 ≤ q1) (h1' : q1 ≤ 2000000) (hm : q0 ≤ m) (hm' : m ≤ 1000000)
    (e1 : n * q0 - p0 * d = -far) (b1 : Hid ((-4000000000000000000 ≤ n * q0 ∧ n * q0 ≤ 4000000000000000000) ∧ -4000000000000000000 ≤ p0 * d ∧ p0 * d ≤ 4000000000000000000))
    (e2 : p1 * d - n * q1 = -near) (b2 : Hid ((-4000000000000000000 ≤ p1 * d ∧ p1 * d ≤ 4000000000000000000) ∧ -4000000000000000000 ≤ n * q1 ∧ n * q1 ≤ 4000000000000000000))
    (hfar : 1 ≤ far) (hfar' : far ≤ 4000000000000000000) (hnear : 1 ≤ near) (hnear' : near ≤ 4000000000000000000) (hs : stepsTo far near m q0 q1 = s)
    (c1 : -4000000000000000000 ≤ s * p1) (c2 : s * p1 ≤ 4000000000000000000) (c3 : -4000000000000000000 ≤ s * q1) (c4 : s * q1 ≤ 4000000000000000000)
    (c5 : -4000000000000000000 ≤ p0 + s * p1) (c6 : p0 + s * p1 ≤ 4000000000000000000) :
    Calls Tryz.prog 63 #[.agg #[.int .i64 (p0), .int .i64 (q0)], .agg #[.int .i64 (p1), .int .i64 (q1)], .agg #[.int .i64 (n), .int .i64 (d)], .int .i64 m] w fun e w' => e = .returned (.agg #[.int .i64 (p0 + s * p1), .int .i64 (q0 + s * q1)]) ∧ Below w.heap.size w w' := by
  have E1 := Lib.hid e1
  have E2 := Lib.hid e2
  have HS := Lib.hid hs
  clear e1 e2 hs
  have hne1 : ¬ near = 0 := by omega
  have hf2 : -far < 0 := by omega
  have nn1 := Int.neg_neg far
  have nn2 := Int.neg_neg near
  have NN1 := Lib.hid nn1
  have NN2 := Lib.hid nn2
  clear nn1 nn2
  have hne2 : ¬ q1 = 0 := by omega
  have f0 : 0 ≤ far - 1 := by omega
  have f1 : 0 ≤ m - q0 := by omega
  have g1 : IntKind.i64.wrap (far - 1) = far - 1 := IntWalk.i64_in _ (by omega)
  have g2 : IntKind.i64.wrap (m - q0) = m - q0 := IntWalk.i64_in _ (by omega)
  have d1 : (far - 1).tdiv near = (far - 1) / near := Int.tdiv_eq_ediv_of_nonneg f0
  have d2 : (m - q0).tdiv q1 = (m - q0) / q1 := Int.tdiv_eq_ediv_of_nonneg f1
  have n1 := Int.ediv_nonneg f0 (b := near) (by omega)
  have n2 := Int.ediv_nonneg f1 (b := q1) (by omega)
  have l1 := Int.ediv_le_self (b := near) f0
  have l2 := Int.ediv_le_self (b := q1) f1
  have g3 : IntKind.i64.wrap ((far - 1) / near) = (far - 1) / near := IntWalk.i64_in _ (by omega)
  have g4 : IntKind.i64.wrap ((m - q0) / q1) = (m - q0) / q1 := IntWalk.i64_in _ (by omega)
  have hmin : (if (m - q0) / q1 < (far - 1) / near then (m - q0) / q1 else (far - 1) / near) = s := by
    have := HS.out
    unfold stepsTo at this
    rw [← this]
    split <;> omega
  have HMIN := Lib.hid hmin
  clear hmin
  go_enter Tryz.func63, Tryz.ntmps63
  go_wp2_with fail
  go_region_held3 (fun w' => w'.cell? ⟨w.heap.size, 0, none⟩ = some (.int .i64 p0) ∧ w'.cell? ⟨w.heap.size, 1, none⟩ = some (.int .i64 q0) ∧ w'.cell? ⟨w.heap.size + 1, 0, none⟩ = some (.int .i64 p1) ∧ w'.cell? ⟨w.heap.size + 1, 1, none⟩ = some (.int .i64 q1) ∧ w'.cell? ⟨w.heap.size + 1 + 1, 0, none⟩ = some (.int .i64 n) ∧ w'.cell? ⟨w.heap.size + 1 + 1, 1, none⟩ = some (.int .i64 d))
    (first | (go_simp; done) | go_keep)
    (first | (go_at_call 29; (with_reducible refine (gap_z n d p0 q0 (-far) _ E1 b1).mono ?_); rintro e w1 ⟨rfl, rfl⟩) | (go_at_call 29; (with_reducible refine (gap_z p1 q1 n d (-near) _ E2 b2).mono ?_); rintro e w1 ⟨rfl, rfl⟩))
  go_wp2
  go_quiet (fail)
  rw [HMIN.out]
  clear g1 g2 g3 g4 d1 d2 n1 n2 l1 l2
  go_wp2
  refine bodyPost_ret (res_r Tryz.results63 rfl (by go_cell) (by go_cell)) rfl ⟨rfl, ?_⟩; repeat' (first | (with_reducible exact Below.refl _ _) | (with_reducible assumption) | (with_reducible refine Below.alloc ?_ ?_ _) | (with_reducible refine Below.drew ?_) | (with_reducible refine below_drewN ?_ _) | (with_reducible refine Below.setCell ?_ ?_ _) | go_size)

end Go.Proofs.YtgonaamjjhhiiaaGreatDoor
