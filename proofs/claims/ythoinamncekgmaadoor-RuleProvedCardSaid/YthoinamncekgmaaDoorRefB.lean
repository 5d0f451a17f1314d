/-
  Walks of the reference's sums, differences and products; quotients of both.
-/
import Derived.Test.YthoinamncekgmaaDoorRefA
set_option linter.unusedVariables false
set_option linter.unusedSimpArgs false
namespace Go.Proofs.YthoinamncekgmaaDoor
open Go Go.RowKit

set_option maxHeartbeats 1000000 in
theorem rAdd_any (an ad bn bd : Int) (w : World) :
    Calls Tryd.prog 32 #[.agg #[.int .i64 (an), .int .i64 (ad)], .agg #[.int .i64 (bn), .int .i64 (bd)]] w fun e w' => e = .returned (.tuple #[.agg #[.int .i64 (addN an ad bn bd), .int .i64 (addD an ad bn bd)], .int .i64 (addE an ad bn bd)]) ∧ Below w.heap.size w w' := by
  have hb := fun (W : World) => rboth_any an ad bn bd W
  by_cases h : bothB an ad bn bd = true
  · obtain ⟨ha, hb'⟩ := bothB_iff.1 h
    obtain ⟨HM, HN, HD, q1, q2, q3, q4⟩ := ops_bd ha hb'
    obtain ⟨p1, p2, p3, p4⟩ := ops_bd2 ha hb'
    have hm := hide0 fun (W : World) => made_any (an * bd + bn * ad) (ad * bd) W q1.out q2.out q3.out q4.out
    rw [if_pos h] at hb
    have HB := hide0 hb
    have en := hide0 (show addN an ad bn bd = madeN (an * bd + bn * ad) (ad * bd) by rw [addN, if_pos h])
    have ed := hide0 (show addD an ad bn bd = madeD (an * bd + bn * ad) (ad * bd) by rw [addD, if_pos h])
    have ee := hide0 (show addE an ad bn bd = madeE (an * bd + bn * ad) (ad * bd) by rw [addE, if_pos h])
    rw [en.out, ed.out, ee.out]
    have g1 := HM.1.out; have g2 := HM.2.out; have g3 := HN.1.out; have g4 := HN.2.out; have g5 := HD.1.out; have g6 := HD.2.out; have g7 := p2.1.out; have g8 := p2.2.out; have g9 := q3.out; have g10 := q4.out; have g11 := p1.1.out; have g12 := p1.2.out
    clear h ha hb' hb en ed ee HM HN HD q1 q2 q3 q4 p1 p2 p3 p4
    go_enter Tryd.func32, Tryd.ntmps32
    go_wp2_with fail
    (refine (HB.out _).mono ?_; rintro e w1 ⟨rfl, hb1⟩; obtain ⟨hc1, hf1⟩ := bcell hb1; have hB1 : Below w.heap.size w w1 := up hb1 (by go_grown); have hz1 := hb1.size; (try simp at hz1); (try have hz1_w_p1 : w.heap.size < w1.heap.size + 1 := (by omega)); (try have hz1_w_p2 : w.heap.size < w1.heap.size + 1 + 1 := (by omega)); (try have hz1_w_p3 : w.heap.size < w1.heap.size + 1 + 1 + 1 := (by omega)); (try have hz1_w_0 : w.heap.size < w1.heap.size := (by omega)); (try have hz1_w_1 : w.heap.size + 1 < w1.heap.size := (by omega)); (try have hz1_w_2 : w.heap.size + 1 + 1 < w1.heap.size := (by omega)); (try have hz1_w_3 : w.heap.size + 1 + 1 + 1 < w1.heap.size := (by omega)); (try have hz1_w_4 : w.heap.size + 1 + 1 + 1 + 1 < w1.heap.size := (by omega)); (try have hz1_w_5 : w.heap.size + 1 + 1 + 1 + 1 + 1 < w1.heap.size := (by omega)); (try have hz1_w_6 : w.heap.size + 1 + 1 + 1 + 1 + 1 + 1 < w1.heap.size := (by omega)); have r1_2_0 : w1.cell? ⟨w.heap.size + 1 + 1, 0, none⟩ = some (.int .i64 0) := (by go_cell); have r1_2_1 : w1.cell? ⟨w.heap.size + 1 + 1, 1, none⟩ = some (.int .i64 0) := (by go_cell))
    go_wp2_with fail
    (refine (hm.out _).mono ?_; rintro e w2 ⟨rfl, hb2⟩; obtain ⟨hc2, hf2⟩ := bcell hb2; have hB2 : Below w.heap.size w w2 := up hb2 (by go_grown); have hz2 := hb2.size; (try simp at hz2); (try have hz2_w_p1 : w.heap.size < w2.heap.size + 1 := (by omega)); (try have hz2_w_p2 : w.heap.size < w2.heap.size + 1 + 1 := (by omega)); (try have hz2_w_p3 : w.heap.size < w2.heap.size + 1 + 1 + 1 := (by omega)); (try have hz2_w1_p1 : w1.heap.size < w2.heap.size + 1 := (by omega)); (try have hz2_w1_p2 : w1.heap.size < w2.heap.size + 1 + 1 := (by omega)); (try have hz2_w1_p3 : w1.heap.size < w2.heap.size + 1 + 1 + 1 := (by omega)); (try have hz2_w_0 : w.heap.size < w2.heap.size := (by omega)); (try have hz2_w_1 : w.heap.size + 1 < w2.heap.size := (by omega)); (try have hz2_w_2 : w.heap.size + 1 + 1 < w2.heap.size := (by omega)); (try have hz2_w_3 : w.heap.size + 1 + 1 + 1 < w2.heap.size := (by omega)); (try have hz2_w_4 : w.heap.size + 1 + 1 + 1 + 1 < w2.heap.size := (by omega)); (try have hz2_w_5 : w.heap.size + 1 + 1 + 1 + 1 + 1 < w2.heap.size := (by omega)); (try have hz2_w_6 : w.heap.size + 1 + 1 + 1 + 1 + 1 + 1 < w2.heap.size := (by omega)); (try have hz2_w1_0 : w1.heap.size < w2.heap.size := (by omega)); (try have hz2_w1_1 : w1.heap.size + 1 < w2.heap.size := (by omega)); (try have hz2_w1_2 : w1.heap.size + 1 + 1 < w2.heap.size := (by omega)); (try have hz2_w1_3 : w1.heap.size + 1 + 1 + 1 < w2.heap.size := (by omega)); have r2_2_0 : w2.cell? ⟨w.heap.size + 1 + 1, 0, none⟩ = some (.int .i64 0) := (by go_cell); have r2_2_1 : w2.cell? ⟨w.heap.size + 1 + 1, 1, none⟩ = some (.int .i64 0) := (by go_cell))
    go_wp2
    refine bodyPost_ret (res_qe Tryd.results32 rfl (by repeat' (first | (with_reducible assumption) | (with_reducible refine cellD ?_) | (with_reducible refine cell_same ?_; repeat' (first | exact ⟨_, by with_reducible assumption⟩ | with_reducible refine cell_exD ?_ | with_reducible refine cell_ex ?_)) | (with_reducible refine cell_other ?_ (by dsimp only; omega)))) (by repeat' (first | (with_reducible assumption) | (with_reducible refine cellD ?_) | (with_reducible refine cell_same ?_; repeat' (first | exact ⟨_, by with_reducible assumption⟩ | with_reducible refine cell_exD ?_ | with_reducible refine cell_ex ?_)) | (with_reducible refine cell_other ?_ (by dsimp only; omega))))) rfl ⟨rfl, ?_⟩; repeat' (first | (with_reducible exact Below.refl _ _) | (with_reducible assumption) | (with_reducible refine Below.alloc ?_ ?_ _) | (with_reducible refine Below.drew ?_) | (with_reducible refine below_drewN ?_ _) | (with_reducible refine Below.setCell ?_ ?_ _) | go_size)
  · rw [if_neg h] at hb
    have HB := hide0 hb
    have en := hide0 (show addN an ad bn bd = 0 by rw [addN, if_neg h])
    have ed := hide0 (show addD an ad bn bd = 0 by rw [addD, if_neg h])
    have ee := hide0 (show addE an ad bn bd = 1 by rw [addE, if_neg h])
    rw [en.out, ed.out, ee.out]
    clear h hb en ed ee
    go_enter Tryd.func32, Tryd.ntmps32
    go_wp2_with fail
    (refine (HB.out _).mono ?_; rintro e w1 ⟨rfl, hb1⟩; obtain ⟨hc1, hf1⟩ := bcell hb1; have hB1 : Below w.heap.size w w1 := up hb1 (by go_grown); have hz1 := hb1.size; (try simp at hz1); (try have hz1_w_p1 : w.heap.size < w1.heap.size + 1 := (by omega)); (try have hz1_w_p2 : w.heap.size < w1.heap.size + 1 + 1 := (by omega)); (try have hz1_w_p3 : w.heap.size < w1.heap.size + 1 + 1 + 1 := (by omega)); (try have hz1_w_0 : w.heap.size < w1.heap.size := (by omega)); (try have hz1_w_1 : w.heap.size + 1 < w1.heap.size := (by omega)); (try have hz1_w_2 : w.heap.size + 1 + 1 < w1.heap.size := (by omega)); (try have hz1_w_3 : w.heap.size + 1 + 1 + 1 < w1.heap.size := (by omega)); (try have hz1_w_4 : w.heap.size + 1 + 1 + 1 + 1 < w1.heap.size := (by omega)); (try have hz1_w_5 : w.heap.size + 1 + 1 + 1 + 1 + 1 < w1.heap.size := (by omega)); (try have hz1_w_6 : w.heap.size + 1 + 1 + 1 + 1 + 1 + 1 < w1.heap.size := (by omega)); have r1_2_0 : w1.cell? ⟨w.heap.size + 1 + 1, 0, none⟩ = some (.int .i64 0) := (by go_cell); have r1_2_1 : w1.cell? ⟨w.heap.size + 1 + 1, 1, none⟩ = some (.int .i64 0) := (by go_cell))
    go_wp2
    refine bodyPost_ret (res_qe Tryd.results32 rfl (by repeat' (first | (with_reducible assumption) | (with_reducible refine cellD ?_) | (with_reducible refine cell_same ?_; repeat' (first | exact ⟨_, by with_reducible assumption⟩ | with_reducible refine cell_exD ?_ | with_reducible refine cell_ex ?_)) | (with_reducible refine cell_other ?_ (by dsimp only; omega)))) (by repeat' (first | (with_reducible assumption) | (with_reducible refine cellD ?_) | (with_reducible refine cell_same ?_; repeat' (first | exact ⟨_, by with_reducible assumption⟩ | with_reducible refine cell_exD ?_ | with_reducible refine cell_ex ?_)) | (with_reducible refine cell_other ?_ (by dsimp only; omega))))) rfl ⟨rfl, ?_⟩; repeat' (first | (with_reducible exact Below.refl _ _) | (with_reducible assumption) | (with_reducible refine Below.alloc ?_ ?_ _) | (with_reducible refine Below.drew ?_) | (with_reducible refine below_drewN ?_ _) | (with_reducible refine Below.setCell ?_ ?_ _) | go_size)

set_option maxHeartbeats 1000000 in
theorem rSub_any (an ad bn bd : Int) (w : World) :
    Calls Tryd.prog 34 #[.agg #[.int .i64 (an), .int .i64 (ad)], .agg #[.int .i64 (bn), .int .i64 (bd)]] w fun e w' => e = .returned (.tuple #[.agg #[.int .i64 (subN an ad bn bd), .int .i64 (subD an ad bn bd)], .int .i64 (subE an ad bn bd)]) ∧ Below w.heap.size w w' := by
  have hb := fun (W : World) => rboth_any an ad bn bd W
  by_cases h : bothB an ad bn bd = true
  · obtain ⟨ha, hb'⟩ := bothB_iff.1 h
    obtain ⟨HM, HN, HD, q1, q2, q3, q4⟩ := ops_bd ha hb'
    obtain ⟨p1, p2, p3, p4⟩ := ops_bd2 ha hb'
    have hm := hide0 fun (W : World) => made_any (an * bd - bn * ad) (ad * bd) W q1.out q2.out p1.1.out p1.2.out
    rw [if_pos h] at hb
    have HB := hide0 hb
    have en := hide0 (show subN an ad bn bd = madeN (an * bd - bn * ad) (ad * bd) by rw [subN, if_pos h])
    have ed := hide0 (show subD an ad bn bd = madeD (an * bd - bn * ad) (ad * bd) by rw [subD, if_pos h])
    have ee := hide0 (show subE an ad bn bd = madeE (an * bd - bn * ad) (ad * bd) by rw [subE, if_pos h])
    rw [en.out, ed.out, ee.out]
    have g1 := HM.1.out; have g2 := HM.2.out; have g3 := HN.1.out; have g4 := HN.2.out; have g5 := HD.1.out; have g6 := HD.2.out; have g7 := p2.1.out; have g8 := p2.2.out; have g9 := q3.out; have g10 := q4.out; have g11 := p1.1.out; have g12 := p1.2.out
    clear h ha hb' hb en ed ee HM HN HD q1 q2 q3 q4 p1 p2 p3 p4
    go_enter Tryd.func34, Tryd.ntmps34
    go_wp2_with fail
    (refine (HB.out _).mono ?_; rintro e w1 ⟨rfl, hb1⟩; obtain ⟨hc1, hf1⟩ := bcell hb1; have hB1 : Below w.heap.size w w1 := up hb1 (by go_grown); have hz1 := hb1.size; (try simp at hz1); (try have hz1_w_p1 : w.heap.size < w1.heap.size + 1 := (by omega)); (try have hz1_w_p2 : w.heap.size < w1.heap.size + 1 + 1 := (by omega)); (try have hz1_w_p3 : w.heap.size < w1.heap.size + 1 + 1 + 1 := (by omega)); (try have hz1_w_0 : w.heap.size < w1.heap.size := (by omega)); (try have hz1_w_1 : w.heap.size + 1 < w1.heap.size := (by omega)); (try have hz1_w_2 : w.heap.size + 1 + 1 < w1.heap.size := (by omega)); (try have hz1_w_3 : w.heap.size + 1 + 1 + 1 < w1.heap.size := (by omega)); (try have hz1_w_4 : w.heap.size + 1 + 1 + 1 + 1 < w1.heap.size := (by omega)); (try have hz1_w_5 : w.heap.size + 1 + 1 + 1 + 1 + 1 < w1.heap.size := (by omega)); (try have hz1_w_6 : w.heap.size + 1 + 1 + 1 + 1 + 1 + 1 < w1.heap.size := (by omega)); have r1_2_0 : w1.cell? ⟨w.heap.size + 1 + 1, 0, none⟩ = some (.int .i64 0) := (by go_cell); have r1_2_1 : w1.cell? ⟨w.heap.size + 1 + 1, 1, none⟩ = some (.int .i64 0) := (by go_cell))
    go_wp2_with fail
    (refine (hm.out _).mono ?_; rintro e w2 ⟨rfl, hb2⟩; obtain ⟨hc2, hf2⟩ := bcell hb2; have hB2 : Below w.heap.size w w2 := up hb2 (by go_grown); have hz2 := hb2.size; (try simp at hz2); (try have hz2_w_p1 : w.heap.size < w2.heap.size + 1 := (by omega)); (try have hz2_w_p2 : w.heap.size < w2.heap.size + 1 + 1 := (by omega)); (try have hz2_w_p3 : w.heap.size < w2.heap.size + 1 + 1 + 1 := (by omega)); (try have hz2_w1_p1 : w1.heap.size < w2.heap.size + 1 := (by omega)); (try have hz2_w1_p2 : w1.heap.size < w2.heap.size + 1 + 1 := (by omega)); (try have hz2_w1_p3 : w1.heap.size < w2.heap.size + 1 + 1 + 1 := (by omega)); (try have hz2_w_0 : w.heap.size < w2.heap.size := (by omega)); (try have hz2_w_1 : w.heap.size + 1 < w2.heap.size := (by omega)); (try have hz2_w_2 : w.heap.size + 1 + 1 < w2.heap.size := (by omega)); (try have hz2_w_3 : w.heap.size + 1 + 1 + 1 < w2.heap.size := (by omega)); (try have hz2_w_4 : w.heap.size + 1 + 1 + 1 + 1 < w2.heap.size := (by omega)); (try have hz2_w_5 : w.heap.size + 1 + 1 + 1 + 1 + 1 < w2.heap.size := (by omega)); (try have hz2_w_6 : w.heap.size + 1 + 1 + 1 + 1 + 1 + 1 < w2.heap.size := (by omega)); (try have hz2_w1_0 : w1.heap.size < w2.heap.size := (by omega)); (try have hz2_w1_1 : w1.heap.size + 1 < w2.heap.size := (by omega)); (try have hz2_w1_2 : w1.heap.size + 1 + 1 < w2.heap.size := (by omega)); (try have hz2_w1_3 : w1.heap.size + 1 + 1 + 1 < w2.heap.size := (by omega)); have r2_2_0 : w2.cell? ⟨w.heap.size + 1 + 1, 0, none⟩ = some (.int .i64 0) := (by go_cell); have r2_2_1 : w2.cell? ⟨w.heap.size + 1 + 1, 1, none⟩ = some (.int .i64 0) := (by go_cell))
    go_wp2
    refine bodyPost_ret (res_qe Tryd.results34 rfl (by repeat' (first | (with_reducible assumption) | (with_reducible refine cellD ?_) | (with_reducible refine cell_same ?_; repeat' (first | exact ⟨_, by with_reducible assumption⟩ | with_reducible refine cell_exD ?_ | with_reducible refine cell_ex ?_)) | (with_reducible refine cell_other ?_ (by dsimp only; omega)))) (by repeat' (first | (with_reducible assumption) | (with_reducible refine cellD ?_) | (with_reducible refine cell_same ?_; repeat' (first | exact ⟨_, by with_reducible assumption⟩ | with_reducible refine cell_exD ?_ | with_reducible refine cell_ex ?_)) | (with_reducible refine cell_other ?_ (by dsimp only; omega))))) rfl ⟨rfl, ?_⟩; repeat' (first | (with_reducible exact Below.refl _ _) | (with_reducible assumption) | (with_reducible refine Below.alloc ?_ ?_ _) | (with_reducible refine Below.drew ?_) | (with_reducible refine below_drewN ?_ _) | (with_reducible refine Below.setCell ?_ ?_ _) | go_size)
  · rw [if_neg h] at hb
    have HB := hide0 hb
    have en := hide0 (show subN an ad bn bd = 0 by rw [subN, if_neg h])
    have ed := hide0 (show subD an ad bn bd = 0 by rw [subD, if_neg h])
    have ee := hide0 (show subE an ad bn bd = 1 by rw [subE, if_neg h])
    rw [en.out, ed.out, ee.out]
    clear h hb en ed ee
    go_enter Tryd.func34, Tryd.ntmps34
    go_wp2_with fail
    (refine (HB.out _).mono ?_; rintro e w1 ⟨rfl, hb1⟩; obtain ⟨hc1, hf1⟩ := bcell hb1; have hB1 : Below w.heap.size w w1 := up hb1 (by go_grown); have hz1 := hb1.size; (try simp at hz1); (try have hz1_w_p1 : w.heap.size < w1.heap.size + 1 := (by omega)); (try have hz1_w_p2 : w.heap.size < w1.heap.size + 1 + 1 := (by omega)); (try have hz1_w_p3 : w.heap.size < w1.heap.size + 1 + 1 + 1 := (by omega)); (try have hz1_w_0 : w.heap.size < w1.heap.size := (by omega)); (try have hz1_w_1 : w.heap.size + 1 < w1.heap.size := (by omega)); (try have hz1_w_2 : w.heap.size + 1 + 1 < w1.heap.size := (by omega)); (try have hz1_w_3 : w.heap.size + 1 + 1 + 1 < w1.heap.size := (by omega)); (try have hz1_w_4 : w.heap.size + 1 + 1 + 1 + 1 < w1.heap.size := (by omega)); (try have hz1_w_5 : w.heap.size + 1 + 1 + 1 + 1 + 1 < w1.heap.size := (by omega)); (try have hz1_w_6 : w.heap.size + 1 + 1 + 1 + 1 + 1 + 1 < w1.heap.size := (by omega)); have r1_2_0 : w1.cell? ⟨w.heap.size + 1 + 1, 0, none⟩ = some (.int .i64 0) := (by go_cell); have r1_2_1 : w1.cell? ⟨w.heap.size + 1 + 1, 1, none⟩ = some (.int .i64 0) := (by go_cell))
    go_wp2
    refine bodyPost_ret (res_qe Tryd.results34 rfl (by repeat' (first | (with_reducible assumption) | (with_reducible refine cellD ?_) | (with_reducible refine cell_same ?_; repeat' (first | exact ⟨_, by with_reducible assumption⟩ | with_reducible refine cell_exD ?_ | with_reducible refine cell_ex ?_)) | (with_reducible refine cell_other ?_ (by dsimp only; omega)))) (by repeat' (first | (with_reducible assumption) | (with_reducible refine cellD ?_) | (with_reducible refine cell_same ?_; repeat' (first | exact ⟨_, by with_reducible assumption⟩ | with_reducible refine cell_exD ?_ | with_reducible refine cell_ex ?_)) | (with_reducible refine cell_other ?_ (by dsimp only; omega))))) rfl ⟨rfl, ?_⟩; repeat' (first | (with_reducible exact Below.refl _ _) | (with_reducible assumption) | (with_reducible refine Below.alloc ?_ ?_ _) | (with_reducible refine Below.drew ?_) | (with_reducible refine below_drewN ?_ _) | (with_reducible refine Below.setCell ?_ ?_ _) | go_size)

set_option maxHeartbeats 1000000 in
theorem rMul_any (an ad bn bd : Int) (w : World) :
    Calls Tryd.prog 36 #[.agg #[.int .i64 (an), .int .i64 (ad)], .agg #[.int .i64 (bn), .int .i64 (bd)]] w fun e w' => e = .returned (.tuple #[.agg #[.int .i64 (mulN an ad bn bd), .int .i64 (mulD an ad bn bd)], .int .i64 (mulE an ad bn bd)]) ∧ Below w.heap.size w w' := by
  have hb := fun (W : World) => rboth_any an ad bn bd W
  by_cases h : bothB an ad bn bd = true
  · obtain ⟨ha, hb'⟩ := bothB_iff.1 h
    obtain ⟨HM, HN, HD, q1, q2, q3, q4⟩ := ops_bd ha hb'
    obtain ⟨p1, p2, p3, p4⟩ := ops_bd2 ha hb'
    have hm := hide0 fun (W : World) => made_any (an * bn) (ad * bd) W q1.out q2.out p2.1.out p2.2.out
    rw [if_pos h] at hb
    have HB := hide0 hb
    have en := hide0 (show mulN an ad bn bd = madeN (an * bn) (ad * bd) by rw [mulN, if_pos h])
    have ed := hide0 (show mulD an ad bn bd = madeD (an * bn) (ad * bd) by rw [mulD, if_pos h])
    have ee := hide0 (show mulE an ad bn bd = madeE (an * bn) (ad * bd) by rw [mulE, if_pos h])
    rw [en.out, ed.out, ee.out]
    have g1 := HM.1.out; have g2 := HM.2.out; have g3 := HN.1.out; have g4 := HN.2.out; have g5 := HD.1.out; have g6 := HD.2.out; have g7 := p2.1.out; have g8 := p2.2.out; have g9 := q3.out; have g10 := q4.out; have g11 := p1.1.out; have g12 := p1.2.out
    clear h ha hb' hb en ed ee HM HN HD q1 q2 q3 q4 p1 p2 p3 p4
    go_enter Tryd.func36, Tryd.ntmps36
    go_wp2_with fail
    (refine (HB.out _).mono ?_; rintro e w1 ⟨rfl, hb1⟩; obtain ⟨hc1, hf1⟩ := bcell hb1; have hB1 : Below w.heap.size w w1 := up hb1 (by go_grown); have hz1 := hb1.size; (try simp at hz1); (try have hz1_w_p1 : w.heap.size < w1.heap.size + 1 := (by omega)); (try have hz1_w_p2 : w.heap.size < w1.heap.size + 1 + 1 := (by omega)); (try have hz1_w_p3 : w.heap.size < w1.heap.size + 1 + 1 + 1 := (by omega)); (try have hz1_w_0 : w.heap.size < w1.heap.size := (by omega)); (try have hz1_w_1 : w.heap.size + 1 < w1.heap.size := (by omega)); (try have hz1_w_2 : w.heap.size + 1 + 1 < w1.heap.size := (by omega)); (try have hz1_w_3 : w.heap.size + 1 + 1 + 1 < w1.heap.size := (by omega)); (try have hz1_w_4 : w.heap.size + 1 + 1 + 1 + 1 < w1.heap.size := (by omega)); (try have hz1_w_5 : w.heap.size + 1 + 1 + 1 + 1 + 1 < w1.heap.size := (by omega)); (try have hz1_w_6 : w.heap.size + 1 + 1 + 1 + 1 + 1 + 1 < w1.heap.size := (by omega)); have r1_2_0 : w1.cell? ⟨w.heap.size + 1 + 1, 0, none⟩ = some (.int .i64 0) := (by go_cell); have r1_2_1 : w1.cell? ⟨w.heap.size + 1 + 1, 1, none⟩ = some (.int .i64 0) := (by go_cell))
    go_wp2_with fail
    (refine (hm.out _).mono ?_; rintro e w2 ⟨rfl, hb2⟩; obtain ⟨hc2, hf2⟩ := bcell hb2; have hB2 : Below w.heap.size w w2 := up hb2 (by go_grown); have hz2 := hb2.size; (try simp at hz2); (try have hz2_w_p1 : w.heap.size < w2.heap.size + 1 := (by omega)); (try have hz2_w_p2 : w.heap.size < w2.heap.size + 1 + 1 := (by omega)); (try have hz2_w_p3 : w.heap.size < w2.heap.size + 1 + 1 + 1 := (by omega)); (try have hz2_w1_p1 : w1.heap.size < w2.heap.size + 1 := (by omega)); (try have hz2_w1_p2 : w1.heap.size < w2.heap.size + 1 + 1 := (by omega)); (try have hz2_w1_p3 : w1.heap.size < w2.heap.size + 1 + 1 + 1 := (by omega)); (try have hz2_w_0 : w.heap.size < w2.heap.size := (by omega)); (try have hz2_w_1 : w.heap.size + 1 < w2.heap.size := (by omega)); (try have hz2_w_2 : w.heap.size + 1 + 1 < w2.heap.size := (by omega)); (try have hz2_w_3 : w.heap.size + 1 + 1 + 1 < w2.heap.size := (by omega)); (try have hz2_w_4 : w.heap.size + 1 + 1 + 1 + 1 < w2.heap.size := (by omega)); (try have hz2_w_5 : w.heap.size + 1 + 1 + 1 + 1 + 1 < w2.heap.size := (by omega)); (try have hz2_w_6 : w.heap.size + 1 + 1 + 1 + 1 + 1 + 1 < w2.heap.size := (by omega)); (try have hz2_w1_0 : w1.heap.size < w2.heap.size := (by omega)); (try have hz2_w1_1 : w1.heap.size + 1 < w2.heap.size := (by omega)); (try have hz2_w1_2 : w1.heap.size + 1 + 1 < w2.heap.size := (by omega)); (try have hz2_w1_3 : w1.heap.size + 1 + 1 + 1 < w2.heap.size := (by omega)); have r2_2_0 : w2.cell? ⟨w.heap.size + 1 + 1, 0, none⟩ = some (.int .i64 0) := (by go_cell); have r2_2_1 : w2.cell? ⟨w.heap.size + 1 + 1, 1, none⟩ = some (.int .i64 0) := (by go_cell))
    go_wp2
    refine bodyPost_ret (res_qe Tryd.results36 rfl (by repeat' (first | (with_reducible assumption) | (with_reducible refine cellD ?_) | (with_reducible refine cell_same ?_; repeat' (first | exact ⟨_, by with_reducible assumption⟩ | with_reducible refine cell_exD ?_ | with_reducible refine cell_ex ?_)) | (with_reducible refine cell_other ?_ (by dsimp only; omega)))) (by repeat' (first | (with_reducible assumption) | (with_reducible refine cellD ?_) | (with_reducible refine cell_same ?_; repeat' (first | exact ⟨_, by with_reducible assumption⟩ | with_reducible refine cell_exD ?_ | with_reducible refine cell_ex ?_)) | (with_reducible refine cell_other ?_ (by dsimp only; omega))))) rfl ⟨rfl, ?_⟩; repeat' (first | (with_reducible exact Below.refl _ _) | (with_reducible assumption) | (with_reducible refine Below.alloc ?_ ?_ _) | (with_reducible refine Below.drew ?_) | (with_reducible refine below_drewN ?_ _) | (with_reducible refine Below.setCell ?_ ?_ _) | go_size)
  · rw [if_neg h] at hb
    have HB := hide0 hb
    have en := hide0 (show mulN an ad bn bd = 0 by rw [mulN, if_neg h])
    have ed := hide0 (show mulD an ad bn bd = 0 by rw [mulD, if_neg h])
    have ee := hide0 (show mulE an ad bn bd = 1 by rw [mulE, if_neg h])
    rw [en.out, ed.out, ee.out]
    clear h hb en ed ee
    go_enter Tryd.func36, Tryd.ntmps36
    go_wp2_with fail
    (refine (HB.out _).mono ?_; rintro e w1 ⟨rfl, hb1⟩; obtain ⟨hc1, hf1⟩ := bcell hb1; have hB1 : Below w.heap.size w w1 := up hb1 (by go_grown); have hz1 := hb1.size; (try simp at hz1); (try have hz1_w_p1 : w.heap.size < w1.heap.size + 1 := (by omega)); (try have hz1_w_p2 : w.heap.size < w1.heap.size + 1 + 1 := (by omega)); (try have hz1_w_p3 : w.heap.size < w1.heap.size + 1 + 1 + 1 := (by omega)); (try have hz1_w_0 : w.heap.size < w1.heap.size := (by omega)); (try have hz1_w_1 : w.heap.size + 1 < w1.heap.size := (by omega)); (try have hz1_w_2 : w.heap.size + 1 + 1 < w1.heap.size := (by omega)); (try have hz1_w_3 : w.heap.size + 1 + 1 + 1 < w1.heap.size := (by omega)); (try have hz1_w_4 : w.heap.size + 1 + 1 + 1 + 1 < w1.heap.size := (by omega)); (try have hz1_w_5 : w.heap.size + 1 + 1 + 1 + 1 + 1 < w1.heap.size := (by omega)); (try have hz1_w_6 : w.heap.size + 1 + 1 + 1 + 1 + 1 + 1 < w1.heap.size := (by omega)); have r1_2_0 : w1.cell? ⟨w.heap.size + 1 + 1, 0, none⟩ = some (.int .i64 0) := (by go_cell); have r1_2_1 : w1.cell? ⟨w.heap.size + 1 + 1, 1, none⟩ = some (.int .i64 0) := (by go_cell))
    go_wp2
    refine bodyPost_ret (res_qe Tryd.results36 rfl (by repeat' (first | (with_reducible assumption) | (with_reducible refine cellD ?_) | (with_reducible refine cell_same ?_; repeat' (first | exact ⟨_, by with_reducible assumption⟩ | with_reducible refine cell_exD ?_ | with_reducible refine cell_ex ?_)) | (with_reducible refine cell_other ?_ (by dsimp only; omega)))) (by repeat' (first | (with_reducible assumption) | (with_reducible refine cellD ?_) | (with_reducible refine cell_same ?_; repeat' (first | exact ⟨_, by with_reducible assumption⟩ | with_reducible refine cell_exD ?_ | with_reducible refine cell_ex ?_)) | (with_reducible refine cell_other ?_ (by dsimp only; omega))))) rfl ⟨rfl, ?_⟩; repeat' (first | (with_reducible exact Below.refl _ _) | (with_reducible assumption) | (with_reducible refine Below.alloc ?_ ?_ _) | (with_reducible refine Below.drew ?_) | (with_reducible refine below_drewN ?_ _) | (with_reducible refine Below.setCell ?_ ?_ _) | go_size)
end Go.Proofs.YthoinamncekgmaaDoor
