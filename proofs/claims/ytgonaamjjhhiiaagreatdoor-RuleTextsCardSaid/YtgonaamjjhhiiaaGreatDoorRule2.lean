/-
  Walks of lowestTwo, of the checks of rules and sizes.
-/
import Derived.Test.YtgonaamjjhhiiaaGreatDoorCmp
set_option linter.unusedVariables false
set_option linter.unusedSimpArgs false
namespace Go.Proofs.YtgonaamjjhhiiaaGreatDoor
open Go Go.RowKit

theorem cellD {W : World} {a : Addr} {v : Value} (h : W.cell? a = some v) : W.drew.cell? a = some v := h
theorem cell_ex {W : World} {p q : Addr} {v : Value} (h : ∃ x, W.cell? p = some x) : ∃ x, (W.setCell q v).cell? p = some x := by
  obtain ⟨x, hx⟩ := h
  by_cases e : q = p
  · subst e; exact ⟨v, World.cell?_setCell_same W _ v hx⟩
  · exact ⟨x, (World.cell?_setCell_other W _ _ v e).trans hx⟩
theorem cell_other {W : World} {p q : Addr} {v x : Value} (h : W.cell? q = some x) (hne : p.block ≠ q.block ∨ p.off ≠ q.off) : (W.setCell p v).cell? q = some x :=
  (World.cell?_setCell_other W p q v (by rintro rfl; rcases hne with h | h <;> exact h rfl)).trans h
theorem cell_exD {W : World} {p : Addr} (h : ∃ x, W.cell? p = some x) : ∃ x, W.drew.cell? p = some x := h
theorem cell_same {W : World} {p : Addr} {v : Value} (h : ∃ x, W.cell? p = some x) : (W.setCell p v).cell? p = some v := by
  obtain ⟨x, hx⟩ := h
  exact World.cell?_setCell_same W _ v hx

set_option maxHeartbeats 1000000 in
theorem lowestTwo_bad1 (an ad bn bd : Int) (w : World) (ha : 1 ≤ ad ∧ ad ≤ 4000000000000000000 ∧ -4000000000000000000 ≤ an ∧ an ≤ 4000000000000000000) (hb : 1 ≤ bd ∧ bd ≤ 4000000000000000000 ∧ -4000000000000000000 ≤ bn ∧ bn ≤ 4000000000000000000) (hk1 : lowOk an ad = false) :
    Calls Tryz.prog 48 #[.agg #[.int .i64 (an), .int .i64 (ad)], .agg #[.int .i64 (bn), .int .i64 (bd)]] w fun e w' => e = .returned (.tuple #[.agg #[.int .i64 (0), .int .i64 (0)], .agg #[.int .i64 (0), .int .i64 (0)], .int .i64 10]) ∧ Below w.heap.size w w' := by
  obtain ⟨a1, a2, a3, a4⟩ := ha
  obtain ⟨d1, d2, d3, d4⟩ := hb
  have HK1 := Lib.hid hk1
  clear hk1
  go_enter Tryz.func48, Tryz.ntmps48
  go_wp2_with (go_at_call 28; refine (lowest_bad an ad _ a1 a2 a3 a4 HK1.out).mono ?_; rintro e w1 ⟨rfl, hb1⟩; obtain ⟨hc1, hf1⟩ := bcell hb1; have hB1 : Below w.heap.size w w1 := up hb1 (by go_grown); have hz1 := hb1.size; (try simp at hz1); (try have hz1_w_p1 : w.heap.size < w1.heap.size + 1 := (by omega)); (try have hz1_w_p2 : w.heap.size < w1.heap.size + 1 + 1 := (by omega)); (try have hz1_w_p3 : w.heap.size < w1.heap.size + 1 + 1 + 1 := (by omega)); (try have hz1_w_0 : w.heap.size < w1.heap.size := (by omega)); (try have hz1_w_1 : w.heap.size + 1 < w1.heap.size := (by omega)); (try have hz1_w_2 : w.heap.size + 1 + 1 < w1.heap.size := (by omega)); (try have hz1_w_3 : w.heap.size + 1 + 1 + 1 < w1.heap.size := (by omega)); (try have hz1_w_4 : w.heap.size + 1 + 1 + 1 + 1 < w1.heap.size := (by omega)); (try have hz1_w_5 : w.heap.size + 1 + 1 + 1 + 1 + 1 < w1.heap.size := (by omega)); (try have hz1_w_6 : w.heap.size + 1 + 1 + 1 + 1 + 1 + 1 < w1.heap.size := (by omega)); have r1_2_0 : w1.cell? ⟨w.heap.size + 1 + 1, 0, none⟩ = some (.int .i64 0) := (by go_cell); have r1_2_1 : w1.cell? ⟨w.heap.size + 1 + 1, 1, none⟩ = some (.int .i64 0) := (by go_cell); have r1_3_0 : w1.cell? ⟨w.heap.size + 1 + 1 + 1, 0, none⟩ = some (.int .i64 0) := (by go_cell); have r1_3_1 : w1.cell? ⟨w.heap.size + 1 + 1 + 1, 1, none⟩ = some (.int .i64 0) := (by go_cell))
  refine bodyPost_ret (res_qqe Tryz.results48 rfl rfl (by go_cell) (by go_cell) (by go_cell) (by go_cell)) rfl ⟨rfl, by go_grown⟩
set_option maxHeartbeats 1000000 in
theorem lowestTwo_bad2 (an ad bn bd : Int) (w : World) (ha : 1 ≤ ad ∧ ad ≤ 4000000000000000000 ∧ -4000000000000000000 ≤ an ∧ an ≤ 4000000000000000000) (hb : 1 ≤ bd ∧ bd ≤ 4000000000000000000 ∧ -4000000000000000000 ≤ bn ∧ bn ≤ 4000000000000000000) (hk1 : lowOk an ad = true) (hk2 : lowOk bn bd = false) :
    Calls Tryz.prog 48 #[.agg #[.int .i64 (an), .int .i64 (ad)], .agg #[.int .i64 (bn), .int .i64 (bd)]] w fun e w' => e = .returned (.tuple #[.agg #[.int .i64 (0), .int .i64 (0)], .agg #[.int .i64 (0), .int .i64 (0)], .int .i64 10]) ∧ Below w.heap.size w w' := by
  obtain ⟨a1, a2, a3, a4⟩ := ha
  obtain ⟨d1, d2, d3, d4⟩ := hb
  have HK1 := Lib.hid hk1
  clear hk1
  have HK2 := Lib.hid hk2
  clear hk2
  have h1 := Lib.hid (fun (W : World) => lowest_ok an ad W a1 a2 a3 a4 HK1.out)
  have h2 := Lib.hid (fun (W : World) => lowest_bad bn bd W d1 d2 d3 d4 HK2.out)
  go_enter Tryz.func48, Tryz.ntmps48
  go_wp2_with fail
  (refine (h1.out _).mono ?_; rintro e w1 ⟨rfl, hb1⟩; obtain ⟨hc1, hf1⟩ := bcell hb1; have hB1 : Below w.heap.size w w1 := up hb1 (by go_grown); have hz1 := hb1.size; (try simp at hz1); (try have hz1_w_p1 : w.heap.size < w1.heap.size + 1 := (by omega)); (try have hz1_w_p2 : w.heap.size < w1.heap.size + 1 + 1 := (by omega)); (try have hz1_w_p3 : w.heap.size < w1.heap.size + 1 + 1 + 1 := (by omega)); (try have hz1_w_0 : w.heap.size < w1.heap.size := (by omega)); (try have hz1_w_1 : w.heap.size + 1 < w1.heap.size := (by omega)); (try have hz1_w_2 : w.heap.size + 1 + 1 < w1.heap.size := (by omega)); (try have hz1_w_3 : w.heap.size + 1 + 1 + 1 < w1.heap.size := (by omega)); (try have hz1_w_4 : w.heap.size + 1 + 1 + 1 + 1 < w1.heap.size := (by omega)); (try have hz1_w_5 : w.heap.size + 1 + 1 + 1 + 1 + 1 < w1.heap.size := (by omega)); (try have hz1_w_6 : w.heap.size + 1 + 1 + 1 + 1 + 1 + 1 < w1.heap.size := (by omega)); have r1_2_0 : w1.cell? ⟨w.heap.size + 1 + 1, 0, none⟩ = some (.int .i64 0) := (by go_cell); have r1_2_1 : w1.cell? ⟨w.heap.size + 1 + 1, 1, none⟩ = some (.int .i64 0) := (by go_cell); have r1_3_0 : w1.cell? ⟨w.heap.size + 1 + 1 + 1, 0, none⟩ = some (.int .i64 0) := (by go_cell); have r1_3_1 : w1.cell? ⟨w.heap.size + 1 + 1 + 1, 1, none⟩ = some (.int .i64 0) := (by go_cell))
  go_wp2_with fail
  (refine (h2.out _).mono ?_; rintro e w2 ⟨rfl, hb2⟩; obtain ⟨hc2, hf2⟩ := bcell hb2; have hB2 : Below w.heap.size w w2 := up hb2 (by go_grown); have hz2 := hb2.size; (try simp at hz2); (try have hz2_w_p1 : w.heap.size < w2.heap.size + 1 := (by omega)); (try have hz2_w_p2 : w.heap.size < w2.heap.size + 1 + 1 := (by omega)); (try have hz2_w_p3 : w.heap.size < w2.heap.size + 1 + 1 + 1 := (by omega)); (try have hz2_w1_p1 : w1.heap.size < w2.heap.size + 1 := (by omega)); (try have hz2_w1_p2 : w1.heap.size < w2.heap.size + 1 + 1 := (by omega)); (try have hz2_w1_p3 : w1.heap.size < w2.heap.size + 1 + 1 + 1 := (by omega)); (try have hz2_w_0 : w.heap.size < w2.heap.size := (by omega)); (try have hz2_w_1 : w.heap.size + 1 < w2.heap.size := (by omega)); (try have hz2_w_2 : w.heap.size + 1 + 1 < w2.heap.size := (by omega)); (try have hz2_w_3 : w.heap.size + 1 + 1 + 1 < w2.heap.size := (by omega)); (try have hz2_w_4 : w.heap.size + 1 + 1 + 1 + 1 < w2.heap.size := (by omega)); (try have hz2_w_5 : w.heap.size + 1 + 1 + 1 + 1 + 1 < w2.heap.size := (by omega)); (try have hz2_w_6 : w.heap.size + 1 + 1 + 1 + 1 + 1 + 1 < w2.heap.size := (by omega)); (try have hz2_w1_0 : w1.heap.size < w2.heap.size := (by omega)); (try have hz2_w1_1 : w1.heap.size + 1 < w2.heap.size := (by omega)); (try have hz2_w1_2 : w1.heap.size + 1 + 1 < w2.heap.size := (by omega)); (try have hz2_w1_3 : w1.heap.size + 1 + 1 + 1 < w2.heap.size := (by omega)); have r2_3_0 : w2.cell? ⟨w.heap.size + 1 + 1 + 1, 0, none⟩ = some (.int .i64 0) := (by go_cell); have r2_3_1 : w2.cell? ⟨w.heap.size + 1 + 1 + 1, 1, none⟩ = some (.int .i64 0) := (by go_cell))
  have q0 : w2.cell? ⟨w.heap.size + 1 + 1, 0, none⟩ = some (.int .i64 (lowN an ad)) := by go_cell
  have q1 : w2.cell? ⟨w.heap.size + 1 + 1, 1, none⟩ = some (.int .i64 (lowD an ad)) := by go_cell
  go_wp2
  refine bodyPost_ret (res_qqe Tryz.results48 rfl rfl (by go_cell) (by go_cell) (by go_cell) (by go_cell)) rfl ⟨rfl, by go_grown⟩
set_option maxHeartbeats 1000000 in
theorem lowestTwo_ok (an ad bn bd : Int) (w : World) (ha : 1 ≤ ad ∧ ad ≤ 4000000000000000000 ∧ -4000000000000000000 ≤ an ∧ an ≤ 4000000000000000000) (hb : 1 ≤ bd ∧ bd ≤ 4000000000000000000 ∧ -4000000000000000000 ≤ bn ∧ bn ≤ 4000000000000000000) (hk1 : lowOk an ad = true) (hk2 : lowOk bn bd = true) :
    Calls Tryz.prog 48 #[.agg #[.int .i64 (an), .int .i64 (ad)], .agg #[.int .i64 (bn), .int .i64 (bd)]] w fun e w' => e = .returned (.tuple #[.agg #[.int .i64 (lowN an ad), .int .i64 (lowD an ad)], .agg #[.int .i64 (lowN bn bd), .int .i64 (lowD bn bd)], .int .i64 0]) ∧ Below w.heap.size w w' := by
  obtain ⟨a1, a2, a3, a4⟩ := ha
  obtain ⟨d1, d2, d3, d4⟩ := hb
  have HK1 := Lib.hid hk1
  clear hk1
  have HK2 := Lib.hid hk2
  clear hk2
  have h1 := Lib.hid (fun (W : World) => lowest_ok an ad W a1 a2 a3 a4 HK1.out)
  have h2 := Lib.hid (fun (W : World) => lowest_ok bn bd W d1 d2 d3 d4 HK2.out)
  go_enter Tryz.func48, Tryz.ntmps48
  go_wp2_with fail
  (refine (h1.out _).mono ?_; rintro e w1 ⟨rfl, hb1⟩; obtain ⟨hc1, hf1⟩ := bcell hb1; have hB1 : Below w.heap.size w w1 := up hb1 (by go_grown); have hz1 := hb1.size; (try simp at hz1); (try have hz1_w_p1 : w.heap.size < w1.heap.size + 1 := (by omega)); (try have hz1_w_p2 : w.heap.size < w1.heap.size + 1 + 1 := (by omega)); (try have hz1_w_p3 : w.heap.size < w1.heap.size + 1 + 1 + 1 := (by omega)); (try have hz1_w_0 : w.heap.size < w1.heap.size := (by omega)); (try have hz1_w_1 : w.heap.size + 1 < w1.heap.size := (by omega)); (try have hz1_w_2 : w.heap.size + 1 + 1 < w1.heap.size := (by omega)); (try have hz1_w_3 : w.heap.size + 1 + 1 + 1 < w1.heap.size := (by omega)); (try have hz1_w_4 : w.heap.size + 1 + 1 + 1 + 1 < w1.heap.size := (by omega)); (try have hz1_w_5 : w.heap.size + 1 + 1 + 1 + 1 + 1 < w1.heap.size := (by omega)); (try have hz1_w_6 : w.heap.size + 1 + 1 + 1 + 1 + 1 + 1 < w1.heap.size := (by omega)); have r1_2_0 : w1.cell? ⟨w.heap.size + 1 + 1, 0, none⟩ = some (.int .i64 0) := (by go_cell); have r1_2_1 : w1.cell? ⟨w.heap.size + 1 + 1, 1, none⟩ = some (.int .i64 0) := (by go_cell); have r1_3_0 : w1.cell? ⟨w.heap.size + 1 + 1 + 1, 0, none⟩ = some (.int .i64 0) := (by go_cell); have r1_3_1 : w1.cell? ⟨w.heap.size + 1 + 1 + 1, 1, none⟩ = some (.int .i64 0) := (by go_cell))
  go_wp2_with fail
  (refine (h2.out _).mono ?_; rintro e w2 ⟨rfl, hb2⟩; obtain ⟨hc2, hf2⟩ := bcell hb2; have hB2 : Below w.heap.size w w2 := up hb2 (by go_grown); have hz2 := hb2.size; (try simp at hz2); (try have hz2_w_p1 : w.heap.size < w2.heap.size + 1 := (by omega)); (try have hz2_w_p2 : w.heap.size < w2.heap.size + 1 + 1 := (by omega)); (try have hz2_w_p3 : w.heap.size < w2.heap.size + 1 + 1 + 1 := (by omega)); (try have hz2_w1_p1 : w1.heap.size < w2.heap.size + 1 := (by omega)); (try have hz2_w1_p2 : w1.heap.size < w2.heap.size + 1 + 1 := (by omega)); (try have hz2_w1_p3 : w1.heap.size < w2.heap.size + 1 + 1 + 1 := (by omega)); (try have hz2_w_0 : w.heap.size < w2.heap.size := (by omega)); (try have hz2_w_1 : w.heap.size + 1 < w2.heap.size := (by omega)); (try have hz2_w_2 : w.heap.size + 1 + 1 < w2.heap.size := (by omega)); (try have hz2_w_3 : w.heap.size + 1 + 1 + 1 < w2.heap.size := (by omega)); (try have hz2_w_4 : w.heap.size + 1 + 1 + 1 + 1 < w2.heap.size := (by omega)); (try have hz2_w_5 : w.heap.size + 1 + 1 + 1 + 1 + 1 < w2.heap.size := (by omega)); (try have hz2_w_6 : w.heap.size + 1 + 1 + 1 + 1 + 1 + 1 < w2.heap.size := (by omega)); (try have hz2_w1_0 : w1.heap.size < w2.heap.size := (by omega)); (try have hz2_w1_1 : w1.heap.size + 1 < w2.heap.size := (by omega)); (try have hz2_w1_2 : w1.heap.size + 1 + 1 < w2.heap.size := (by omega)); (try have hz2_w1_3 : w1.heap.size + 1 + 1 + 1 < w2.heap.size := (by omega)); have r2_3_0 : w2.cell? ⟨w.heap.size + 1 + 1 + 1, 0, none⟩ = some (.int .i64 0) := (by go_cell); have r2_3_1 : w2.cell? ⟨w.heap.size + 1 + 1 + 1, 1, none⟩ = some (.int .i64 0) := (by go_cell))
  have q0 : w2.cell? ⟨w.heap.size + 1 + 1, 0, none⟩ = some (.int .i64 (lowN an ad)) := by go_cell
  have q1 : w2.cell? ⟨w.heap.size + 1 + 1, 1, none⟩ = some (.int .i64 (lowD an ad)) := by go_cell
  go_wp2
  go_region
  go_wp2
  refine bodyPost_ret (res_qqe Tryz.results48 rfl rfl (by repeat' (first | (with_reducible assumption) | (with_reducible refine cellD ?_) | (with_reducible refine cell_same ?_; repeat' (first | exact ⟨_, by with_reducible assumption⟩ | with_reducible refine cell_exD ?_ | with_reducible refine cell_ex ?_)) | (with_reducible refine cell_other ?_ (by dsimp only; omega)))) (by repeat' (first | (with_reducible assumption) | (with_reducible refine cellD ?_) | (with_reducible refine cell_same ?_; repeat' (first | exact ⟨_, by with_reducible assumption⟩ | with_reducible refine cell_exD ?_ | with_reducible refine cell_ex ?_)) | (with_reducible refine cell_other ?_ (by dsimp only; omega)))) (by repeat' (first | (with_reducible assumption) | (with_reducible refine cellD ?_) | (with_reducible refine cell_same ?_; repeat' (first | exact ⟨_, by with_reducible assumption⟩ | with_reducible refine cell_exD ?_ | with_reducible refine cell_ex ?_)) | (with_reducible refine cell_other ?_ (by dsimp only; omega)))) (by repeat' (first | (with_reducible assumption) | (with_reducible refine cellD ?_) | (with_reducible refine cell_same ?_; repeat' (first | exact ⟨_, by with_reducible assumption⟩ | with_reducible refine cell_exD ?_ | with_reducible refine cell_ex ?_)) | (with_reducible refine cell_other ?_ (by dsimp only; omega))))) rfl ⟨rfl, ?_⟩; repeat' (first | (with_reducible exact Below.refl _ _) | (with_reducible assumption) | (with_reducible refine Below.alloc ?_ ?_ _) | (with_reducible refine Below.drew ?_) | (with_reducible refine below_drewN ?_ _) | (with_reducible refine Below.setCell ?_ ?_ _) | go_size)

/-- Is it a size? -/
def szB (n : Int) : Bool := decide (1 ≤ n ∧ n ≤ 1000000)
theorem szB_iff {n : Int} : szB n = true ↔ 1 ≤ n ∧ n ≤ 1000000 := by unfold szB; exact decide_eq_true_iff
theorem szB_no {n : Int} (h : szB n = false) : n < 1 ∨ 1000000 < n := by
  have : ¬ szB n = true := by rw [h]; exact Bool.false_ne_true
  rw [szB_iff] at this; omega
theorem isSize1_ok (b cap : Nat) (n : Int) (w : World) (c1 : w.cell? ⟨b, 0, none⟩ = some (.int .i64 n)) (h : szB n = true) :
    Calls Tryz.prog 66 #[.slice (some ⟨b, 0, none⟩) 1 cap] w fun e w' => e = .returned (.bool true) ∧ w = w' := by
  obtain ⟨h1, h2⟩ := szB_iff.1 h
  clear h
  go_enter Tryz.func66, Tryz.ntmps66
  go_wp2
  refine wp_loop_rounds 2 ?_
  rw [rounds_succ]
  go_wp2
  all_goals first | (exfalso; omega) | skip
  rw [rounds_succ]
  go_wp2
  go_returns
  exact ⟨rfl, rfl⟩
theorem isSize1_bad (b cap : Nat) (n : Int) (w : World) (c1 : w.cell? ⟨b, 0, none⟩ = some (.int .i64 n)) (h : szB n = false) :
    Calls Tryz.prog 66 #[.slice (some ⟨b, 0, none⟩) 1 cap] w fun e w' => e = .returned (.bool false) ∧ w = w' := by
  rcases szB_no h with h1 | h1 <;>
  · clear h
    go_enter Tryz.func66, Tryz.ntmps66
    go_wp2
    refine wp_loop_rounds 2 ?_
    rw [rounds_succ]
    go_wp2
    all_goals first | (exfalso; omega) | (go_returns; exact ⟨rfl, rfl⟩)
theorem isSize2_ok (b cap : Nat) (n m : Int) (w : World) (c1 : w.cell? ⟨b, 0, none⟩ = some (.int .i64 n)) (c2 : w.cell? ⟨b, 1, none⟩ = some (.int .i64 m)) (h : szB n = true) (k : szB m = true) :
    Calls Tryz.prog 66 #[.slice (some ⟨b, 0, none⟩) 2 cap] w fun e w' => e = .returned (.bool true) ∧ w = w' := by
  obtain ⟨h1, h2⟩ := szB_iff.1 h
  obtain ⟨k1, k2⟩ := szB_iff.1 k
  clear h k
  go_enter Tryz.func66, Tryz.ntmps66
  go_wp2
  refine wp_loop_rounds 3 ?_
  rw [rounds_succ]
  go_wp2
  all_goals first | (exfalso; omega) | skip
  rw [rounds_succ]
  go_wp2
  all_goals first | (exfalso; omega) | skip
  rw [rounds_succ]
  go_wp2
  go_returns
  exact ⟨rfl, rfl⟩
theorem isSize2_bad1 (b cap : Nat) (n m : Int) (w : World) (c1 : w.cell? ⟨b, 0, none⟩ = some (.int .i64 n)) (c2 : w.cell? ⟨b, 1, none⟩ = some (.int .i64 m)) (h : szB n = false) :
    Calls Tryz.prog 66 #[.slice (some ⟨b, 0, none⟩) 2 cap] w fun e w' => e = .returned (.bool false) ∧ w = w' := by
  rcases szB_no h with h1 | h1 <;>
  · clear h
    go_enter Tryz.func66, Tryz.ntmps66
    go_wp2
    refine wp_loop_rounds 2 ?_
    rw [rounds_succ]
    go_wp2
    all_goals first | (exfalso; omega) | (go_returns; exact ⟨rfl, rfl⟩)
theorem isSize2_bad2 (b cap : Nat) (n m : Int) (w : World) (c1 : w.cell? ⟨b, 0, none⟩ = some (.int .i64 n)) (c2 : w.cell? ⟨b, 1, none⟩ = some (.int .i64 m)) (h : szB n = true) (k : szB m = false) :
    Calls Tryz.prog 66 #[.slice (some ⟨b, 0, none⟩) 2 cap] w fun e w' => e = .returned (.bool false) ∧ w = w' := by
  obtain ⟨h1, h2⟩ := szB_iff.1 h
  rcases szB_no k with k1 | k1 <;>
  · clear h k
    go_enter Tryz.func66, Tryz.ntmps66
    go_wp2
    refine wp_loop_rounds 3 ?_
    rw [rounds_succ]
    go_wp2
    all_goals first | (exfalso; omega) | skip
    rw [rounds_succ]
    go_wp2
    all_goals first | (exfalso; omega) | (go_returns; exact ⟨rfl, rfl⟩)

/-- Is a rule as said? -/
def ruB (ln ld mn md : Int) : Bool := decide (ld ≤ 1000 ∧ md ≤ 1000 ∧ 0 ≤ ln ∧ ln * md - mn * ld ≤ 0 ∧ mn * 4 - 1 * md ≤ 0)
theorem ruB_iff {ln ld mn md : Int} : ruB ln ld mn md = true ↔ ld ≤ 1000 ∧ md ≤ 1000 ∧ 0 ≤ ln ∧ ln * md - mn * ld ≤ 0 ∧ mn * 4 - 1 * md ≤ 0 := by unfold ruB; exact decide_eq_true_iff
def okR (ln ld mn md : Int) : Bool := (okQ ln ld && okQ mn md) && ruB ln ld mn md
theorem CheckRule_frac (ln ld mn md : Int) (w : World) (hwa : W2 ln ld) (hwb : W2 mn md) (hk : (okQ ln ld && okQ mn md) = false) :
    Calls Tryz.prog 50 #[.agg #[.int .i64 (ln), .int .i64 (ld), .int .i64 (mn), .int .i64 (md)]] w fun e w' => e = .returned (.int .i64 1) ∧ Below w.heap.size w w' := by
  have HA := Lib.hid hwa
  have HB := Lib.hid hwb
  have HK := Lib.hid hk
  clear hwa hwb hk
  go_enter Tryz.func50, Tryz.ntmps50
  go_wp2_with (go_at_call 21; refine (check2_bad _ _ ln ld mn md _ (by simp [go_sem]) (by simp [go_sem]) (by simp [go_sem]) (by simp [go_sem]) HA.out HB.out HK.out).mono ?_; rintro e w1 ⟨rfl, hb1⟩; obtain ⟨hc1, hf1⟩ := bcell hb1; have hB1 : Below w.heap.size w w1 := up hb1 (by go_grown); have hz1 := hb1.size; (try simp at hz1); (try have hz1_w_p1 : w.heap.size < w1.heap.size + 1 := (by omega)); (try have hz1_w_p2 : w.heap.size < w1.heap.size + 1 + 1 := (by omega)); (try have hz1_w_p3 : w.heap.size < w1.heap.size + 1 + 1 + 1 := (by omega)); (try have hz1_w_0 : w.heap.size < w1.heap.size := (by omega)); (try have hz1_w_1 : w.heap.size + 1 < w1.heap.size := (by omega)); (try have hz1_w_2 : w.heap.size + 1 + 1 < w1.heap.size := (by omega)); (try have hz1_w_3 : w.heap.size + 1 + 1 + 1 < w1.heap.size := (by omega)); (try have hz1_w_4 : w.heap.size + 1 + 1 + 1 + 1 < w1.heap.size := (by omega)); (try have hz1_w_5 : w.heap.size + 1 + 1 + 1 + 1 + 1 < w1.heap.size := (by omega)); (try have hz1_w_6 : w.heap.size + 1 + 1 + 1 + 1 + 1 + 1 < w1.heap.size := (by omega)))
  go_returns
  exact ⟨rfl, by go_grown⟩
set_option maxHeartbeats 2000000 in
theorem CheckRule_ok (ln ld mn md : Int) (w : World) (ha : okQ ln ld = true) (hb : okQ mn md = true) (hr : ruB ln ld mn md = true) :
    Calls Tryz.prog 50 #[.agg #[.int .i64 (ln), .int .i64 (ld), .int .i64 (mn), .int .i64 (md)]] w fun e w' => e = .returned (.int .i64 0) ∧ Below w.heap.size w w' := by
  obtain ⟨r1, r2, r3, r4, r5⟩ := ruB_iff.1 hr
  obtain ⟨b1, b2, b3, b4⟩ := cmp_bd ha hb
  obtain ⟨d1, d2, d3, d4, _⟩ := okQ_iff.1 hb
  have HA := Lib.hid ha
  have HB := Lib.hid hb
  clear ha hb hr
  have h1 := Lib.hid (fun (W : World) => gap_any ln ld mn md W b1.out b2.out b3.out b4.out)
  have h2 := Lib.hid (fun (W : World) => gap_any mn md 1 4 W (by omega) (by omega) (by omega) (by omega))
  go_enter Tryz.func50, Tryz.ntmps50
  go_wp2_with (go_at_call 21; refine (check2_ok _ _ ln ld mn md _ (by simp [go_sem]) (by simp [go_sem]) (by simp [go_sem]) (by simp [go_sem]) HA.out HB.out).mono ?_; rintro e w1 ⟨rfl, hb1⟩; obtain ⟨hc1, hf1⟩ := bcell hb1; have hB1 : Below w.heap.size w w1 := up hb1 (by go_grown); have hz1 := hb1.size; (try simp at hz1); (try have hz1_w_p1 : w.heap.size < w1.heap.size + 1 := (by omega)); (try have hz1_w_p2 : w.heap.size < w1.heap.size + 1 + 1 := (by omega)); (try have hz1_w_p3 : w.heap.size < w1.heap.size + 1 + 1 + 1 := (by omega)); (try have hz1_w_0 : w.heap.size < w1.heap.size := (by omega)); (try have hz1_w_1 : w.heap.size + 1 < w1.heap.size := (by omega)); (try have hz1_w_2 : w.heap.size + 1 + 1 < w1.heap.size := (by omega)); (try have hz1_w_3 : w.heap.size + 1 + 1 + 1 < w1.heap.size := (by omega)); (try have hz1_w_4 : w.heap.size + 1 + 1 + 1 + 1 < w1.heap.size := (by omega)); (try have hz1_w_5 : w.heap.size + 1 + 1 + 1 + 1 + 1 < w1.heap.size := (by omega)); (try have hz1_w_6 : w.heap.size + 1 + 1 + 1 + 1 + 1 + 1 < w1.heap.size := (by omega)))
  (refine (h1.out _).mono ?_; rintro e w2 ⟨rfl, hb2⟩; obtain ⟨hc2, hf2⟩ := bcell hb2; have hB2 : Below w.heap.size w w2 := up hb2 (by go_grown); have hz2 := hb2.size; (try simp at hz2); (try have hz2_w_p1 : w.heap.size < w2.heap.size + 1 := (by omega)); (try have hz2_w_p2 : w.heap.size < w2.heap.size + 1 + 1 := (by omega)); (try have hz2_w_p3 : w.heap.size < w2.heap.size + 1 + 1 + 1 := (by omega)); (try have hz2_w1_p1 : w1.heap.size < w2.heap.size + 1 := (by omega)); (try have hz2_w1_p2 : w1.heap.size < w2.heap.size + 1 + 1 := (by omega)); (try have hz2_w1_p3 : w1.heap.size < w2.heap.size + 1 + 1 + 1 := (by omega)); (try have hz2_w_0 : w.heap.size < w2.heap.size := (by omega)); (try have hz2_w_1 : w.heap.size + 1 < w2.heap.size := (by omega)); (try have hz2_w_2 : w.heap.size + 1 + 1 < w2.heap.size := (by omega)); (try have hz2_w_3 : w.heap.size + 1 + 1 + 1 < w2.heap.size := (by omega)); (try have hz2_w_4 : w.heap.size + 1 + 1 + 1 + 1 < w2.heap.size := (by omega)); (try have hz2_w_5 : w.heap.size + 1 + 1 + 1 + 1 + 1 < w2.heap.size := (by omega)); (try have hz2_w_6 : w.heap.size + 1 + 1 + 1 + 1 + 1 + 1 < w2.heap.size := (by omega)); (try have hz2_w1_0 : w1.heap.size < w2.heap.size := (by omega)); (try have hz2_w1_1 : w1.heap.size + 1 < w2.heap.size := (by omega)); (try have hz2_w1_2 : w1.heap.size + 1 + 1 < w2.heap.size := (by omega)); (try have hz2_w1_3 : w1.heap.size + 1 + 1 + 1 < w2.heap.size := (by omega)))
  go_wp2_with fail
  (refine (h2.out _).mono ?_; rintro e w3 ⟨rfl, hb3⟩; obtain ⟨hc3, hf3⟩ := bcell hb3; have hB3 : Below w.heap.size w w3 := up hb3 (by go_grown); have hz3 := hb3.size; (try simp at hz3); (try have hz3_w_p1 : w.heap.size < w3.heap.size + 1 := (by omega)); (try have hz3_w_p2 : w.heap.size < w3.heap.size + 1 + 1 := (by omega)); (try have hz3_w_p3 : w.heap.size < w3.heap.size + 1 + 1 + 1 := (by omega)); (try have hz3_w1_p1 : w1.heap.size < w3.heap.size + 1 := (by omega)); (try have hz3_w1_p2 : w1.heap.size < w3.heap.size + 1 + 1 := (by omega)); (try have hz3_w1_p3 : w1.heap.size < w3.heap.size + 1 + 1 + 1 := (by omega)); (try have hz3_w2_p1 : w2.heap.size < w3.heap.size + 1 := (by omega)); (try have hz3_w2_p2 : w2.heap.size < w3.heap.size + 1 + 1 := (by omega)); (try have hz3_w2_p3 : w2.heap.size < w3.heap.size + 1 + 1 + 1 := (by omega)); (try have hz3_w_0 : w.heap.size < w3.heap.size := (by omega)); (try have hz3_w_1 : w.heap.size + 1 < w3.heap.size := (by omega)); (try have hz3_w_2 : w.heap.size + 1 + 1 < w3.heap.size := (by omega)); (try have hz3_w_3 : w.heap.size + 1 + 1 + 1 < w3.heap.size := (by omega)); (try have hz3_w_4 : w.heap.size + 1 + 1 + 1 + 1 < w3.heap.size := (by omega)); (try have hz3_w_5 : w.heap.size + 1 + 1 + 1 + 1 + 1 < w3.heap.size := (by omega)); (try have hz3_w_6 : w.heap.size + 1 + 1 + 1 + 1 + 1 + 1 < w3.heap.size := (by omega)); (try have hz3_w1_0 : w1.heap.size < w3.heap.size := (by omega)); (try have hz3_w1_1 : w1.heap.size + 1 < w3.heap.size := (by omega)); (try have hz3_w1_2 : w1.heap.size + 1 + 1 < w3.heap.size := (by omega)); (try have hz3_w1_3 : w1.heap.size + 1 + 1 + 1 < w3.heap.size := (by omega)); (try have hz3_w2_0 : w2.heap.size < w3.heap.size := (by omega)); (try have hz3_w2_1 : w2.heap.size + 1 < w3.heap.size := (by omega)); (try have hz3_w2_2 : w2.heap.size + 1 + 1 < w3.heap.size := (by omega)); (try have hz3_w2_3 : w2.heap.size + 1 + 1 + 1 < w3.heap.size := (by omega)))
  go_wp2_with fail
  go_returns
  exact ⟨rfl, by go_grown⟩
end Go.Proofs.YtgonaamjjhhiiaaGreatDoor
