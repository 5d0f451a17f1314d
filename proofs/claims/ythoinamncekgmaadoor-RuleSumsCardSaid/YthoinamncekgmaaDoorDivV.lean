/-
  Quotients, the function's and the reference's; the statement on the four operations.
-/
import Derived.Test.YthoinamncekgmaaDoorRefB
import Derived.Test.YthoinamncekgmaaDoorSums
set_option linter.unusedVariables false
set_option linter.unusedSimpArgs false
namespace Go.Proofs.YthoinamncekgmaaDoor
open Go Go.RowKit

def divN (an ad bn bd : Int) : Int := if bothB an ad bn bd = true then (if bn = 0 then 0 else if bn < 0 then madeN (-an * bd) (-bn * ad) else madeN (an * bd) (bn * ad)) else 0
def divD (an ad bn bd : Int) : Int := if bothB an ad bn bd = true then (if bn = 0 then 0 else if bn < 0 then madeD (-an * bd) (-bn * ad) else madeD (an * bd) (bn * ad)) else 0
def divE (an ad bn bd : Int) : Int := if bothB an ad bn bd = true then (if bn = 0 then 11 else if bn < 0 then madeE (-an * bd) (-bn * ad) else madeE (an * bd) (bn * ad)) else 1
theorem okQ_zero {d : Int} (h : okQ 0 d = true) : d = 1 := by
  obtain ⟨h1, _, _, _, h5⟩ := okQ_iff.1 h
  rw [gc_zero_l] at h5; omega

theorem Div_any (an ad bn bd : Int) (w : World) (h1 : W2 an ad) (h2 : W2 bn bd) :
    Calls Tryd.prog 37 #[.agg #[.int .i64 (an), .int .i64 (ad)], .agg #[.int .i64 (bn), .int .i64 (bd)]] w fun e w' => e = .returned (.tuple #[.agg #[.int .i64 (divN an ad bn bd), .int .i64 (divD an ad bn bd)], .int .i64 (divE an ad bn bd)]) ∧ Below w.heap.size w w' := by
  unfold divN divD divE
  by_cases hb : bothB an ad bn bd = true
  · rw [if_pos hb, if_pos hb, if_pos hb]
    obtain ⟨ha, hb'⟩ := bothB_iff.1 hb
    by_cases hz : bn = 0
    · subst hz
      obtain rfl := okQ_zero hb'
      rw [if_pos rfl, if_pos rfl, if_pos rfl]
      exact Div_zero an ad w ha
    · rw [if_neg hz, if_neg hz, if_neg hz]
      by_cases hs : bn < 0
      · rw [if_pos hs, if_pos hs, if_pos hs]
        unfold madeN madeD madeE
        by_cases hl : lowOk (-an * bd) (-bn * ad) = true
        · rw [if_pos hl, if_pos hl, if_pos hl]; exact Div_neg_ok an ad bn bd w ha hb' hs hl
        · rw [if_neg hl, if_neg hl, if_neg hl]; exact Div_neg_bad an ad bn bd w ha hb' hs (by simpa using hl)
      · rw [if_neg hs, if_neg hs, if_neg hs]
        unfold madeN madeD madeE
        by_cases hl : lowOk (an * bd) (bn * ad) = true
        · rw [if_pos hl, if_pos hl, if_pos hl]; exact Div_pos_ok an ad bn bd w ha hb' (by omega) hl
        · rw [if_neg hl, if_neg hl, if_neg hl]; exact Div_pos_bad an ad bn bd w ha hb' (by omega) (by simpa using hl)
  · rw [if_neg hb, if_neg hb, if_neg hb]
    exact Div_arg an ad bn bd w h1 h2 (by simpa [bothB] using hb)

set_option maxHeartbeats 2000000 in
theorem rDiv_any (an ad bn bd : Int) (w : World) :
    Calls Tryd.prog 38 #[.agg #[.int .i64 (an), .int .i64 (ad)], .agg #[.int .i64 (bn), .int .i64 (bd)]] w fun e w' => e = .returned (.tuple #[.agg #[.int .i64 (divN an ad bn bd), .int .i64 (divD an ad bn bd)], .int .i64 (divE an ad bn bd)]) ∧ Below w.heap.size w w' := by
  have hb := fun (W : World) => rboth_any an ad bn bd W
  by_cases h : bothB an ad bn bd = true
  · obtain ⟨ha, hb'⟩ := bothB_iff.1 h
    rw [if_pos h] at hb
    have HB := hide0 hb
    by_cases hz : bn = 0
    · have en := hide0 (show divN an ad bn bd = 0 by rw [divN, if_pos h, if_pos hz])
      have ed := hide0 (show divD an ad bn bd = 0 by rw [divD, if_pos h, if_pos hz])
      have ee := hide0 (show divE an ad bn bd = 11 by rw [divE, if_pos h, if_pos hz])
      rw [en.out, ed.out, ee.out]
      have hz1 : (bn == 0) = true := by simpa using hz
      clear h ha hb' hb en ed ee hz
      go_enter Tryd.func38, Tryd.ntmps38
      go_wp2_with fail
      (refine (HB.out _).mono ?_; rintro e w1 ⟨rfl, hb1⟩; obtain ⟨hc1, hf1⟩ := bcell hb1; have hB1 : Below w.heap.size w w1 := up hb1 (by go_grown); have hz1 := hb1.size; (try simp at hz1); (try have hz1_w_p1 : w.heap.size < w1.heap.size + 1 := (by omega)); (try have hz1_w_p2 : w.heap.size < w1.heap.size + 1 + 1 := (by omega)); (try have hz1_w_p3 : w.heap.size < w1.heap.size + 1 + 1 + 1 := (by omega)); (try have hz1_w_0 : w.heap.size < w1.heap.size := (by omega)); (try have hz1_w_1 : w.heap.size + 1 < w1.heap.size := (by omega)); (try have hz1_w_2 : w.heap.size + 1 + 1 < w1.heap.size := (by omega)); (try have hz1_w_3 : w.heap.size + 1 + 1 + 1 < w1.heap.size := (by omega)); (try have hz1_w_4 : w.heap.size + 1 + 1 + 1 + 1 < w1.heap.size := (by omega)); (try have hz1_w_5 : w.heap.size + 1 + 1 + 1 + 1 + 1 < w1.heap.size := (by omega)); (try have hz1_w_6 : w.heap.size + 1 + 1 + 1 + 1 + 1 + 1 < w1.heap.size := (by omega)); have r1_2_0 : w1.cell? ⟨w.heap.size + 1 + 1, 0, none⟩ = some (.int .i64 0) := (by go_cell); have r1_2_1 : w1.cell? ⟨w.heap.size + 1 + 1, 1, none⟩ = some (.int .i64 0) := (by go_cell))
      go_wp2
      refine bodyPost_ret (res_qe Tryd.results38 rfl (by repeat' (first | (with_reducible assumption) | (with_reducible refine cellD ?_) | (with_reducible refine cell_same ?_; repeat' (first | exact ⟨_, by with_reducible assumption⟩ | with_reducible refine cell_exD ?_ | with_reducible refine cell_ex ?_)) | (with_reducible refine cell_other ?_ (by dsimp only; omega)))) (by repeat' (first | (with_reducible assumption) | (with_reducible refine cellD ?_) | (with_reducible refine cell_same ?_; repeat' (first | exact ⟨_, by with_reducible assumption⟩ | with_reducible refine cell_exD ?_ | with_reducible refine cell_ex ?_)) | (with_reducible refine cell_other ?_ (by dsimp only; omega))))) rfl ⟨rfl, ?_⟩; repeat' (first | (with_reducible exact Below.refl _ _) | (with_reducible assumption) | (with_reducible refine Below.alloc ?_ ?_ _) | (with_reducible refine Below.drew ?_) | (with_reducible refine below_drewN ?_ _) | (with_reducible refine Below.setCell ?_ ?_ _) | go_size)
    · have hz1 : (bn == 0) = false := by simpa using hz
      by_cases hs : bn < 0
      · obtain ⟨q0, q1, q2, ⟨p2, p3⟩, p4, p5, p6⟩ := div_neg ha hb' hs
        have hm := fun (W : World) => made_any (-an * bd) (-bn * ad) W q0 q2 p2 p3
        have e1 : ad * -bn = -bn * ad := Int.mul_comm _ _
        rw [← e1] at hm
        have en := (show divN an ad bn bd = madeN (-an * bd) (-bn * ad) by rw [divN, if_pos h, if_neg hz, if_pos hs])
        have ed := (show divD an ad bn bd = madeD (-an * bd) (-bn * ad) by rw [divD, if_pos h, if_neg hz, if_pos hs])
        have ee := (show divE an ad bn bd = madeE (-an * bd) (-bn * ad) by rw [divE, if_pos h, if_neg hz, if_pos hs])
        rw [en, ed, ee, ← e1]
        have hm2 := hide0 hm
        obtain ⟨a1, a2, a3, a4, _⟩ := okQ_iff.1 ha
        obtain ⟨b1, b2, b3, b4, _⟩ := okQ_iff.1 hb'
        have u1 : -4000000000000000000 ≤ ad * -bn := by omega
        have u2 : ad * -bn ≤ 4000000000000000000 := by omega
        clear h ha hb' hb en ed ee hm e1 hz
        go_enter Tryd.func38, Tryd.ntmps38
        go_wp2_with fail
        (refine (HB.out _).mono ?_; rintro e w1 ⟨rfl, hb1⟩; obtain ⟨hc1, hf1⟩ := bcell hb1; have hB1 : Below w.heap.size w w1 := up hb1 (by go_grown); have hz1 := hb1.size; (try simp at hz1); (try have hz1_w_p1 : w.heap.size < w1.heap.size + 1 := (by omega)); (try have hz1_w_p2 : w.heap.size < w1.heap.size + 1 + 1 := (by omega)); (try have hz1_w_p3 : w.heap.size < w1.heap.size + 1 + 1 + 1 := (by omega)); (try have hz1_w_0 : w.heap.size < w1.heap.size := (by omega)); (try have hz1_w_1 : w.heap.size + 1 < w1.heap.size := (by omega)); (try have hz1_w_2 : w.heap.size + 1 + 1 < w1.heap.size := (by omega)); (try have hz1_w_3 : w.heap.size + 1 + 1 + 1 < w1.heap.size := (by omega)); (try have hz1_w_4 : w.heap.size + 1 + 1 + 1 + 1 < w1.heap.size := (by omega)); (try have hz1_w_5 : w.heap.size + 1 + 1 + 1 + 1 + 1 < w1.heap.size := (by omega)); (try have hz1_w_6 : w.heap.size + 1 + 1 + 1 + 1 + 1 + 1 < w1.heap.size := (by omega)); have r1_2_0 : w1.cell? ⟨w.heap.size + 1 + 1, 0, none⟩ = some (.int .i64 0) := (by go_cell); have r1_2_1 : w1.cell? ⟨w.heap.size + 1 + 1, 1, none⟩ = some (.int .i64 0) := (by go_cell))
        go_wp2_with fail
        (refine (hm2.out _).mono ?_; rintro e w2 ⟨rfl, hb2⟩; obtain ⟨hc2, hf2⟩ := bcell hb2; have hB2 : Below w.heap.size w w2 := up hb2 (by go_grown); have hz2 := hb2.size; (try simp at hz2); (try have hz2_w_p1 : w.heap.size < w2.heap.size + 1 := (by omega)); (try have hz2_w_p2 : w.heap.size < w2.heap.size + 1 + 1 := (by omega)); (try have hz2_w_p3 : w.heap.size < w2.heap.size + 1 + 1 + 1 := (by omega)); (try have hz2_w1_p1 : w1.heap.size < w2.heap.size + 1 := (by omega)); (try have hz2_w1_p2 : w1.heap.size < w2.heap.size + 1 + 1 := (by omega)); (try have hz2_w1_p3 : w1.heap.size < w2.heap.size + 1 + 1 + 1 := (by omega)); (try have hz2_w_0 : w.heap.size < w2.heap.size := (by omega)); (try have hz2_w_1 : w.heap.size + 1 < w2.heap.size := (by omega)); (try have hz2_w_2 : w.heap.size + 1 + 1 < w2.heap.size := (by omega)); (try have hz2_w_3 : w.heap.size + 1 + 1 + 1 < w2.heap.size := (by omega)); (try have hz2_w_4 : w.heap.size + 1 + 1 + 1 + 1 < w2.heap.size := (by omega)); (try have hz2_w_5 : w.heap.size + 1 + 1 + 1 + 1 + 1 < w2.heap.size := (by omega)); (try have hz2_w_6 : w.heap.size + 1 + 1 + 1 + 1 + 1 + 1 < w2.heap.size := (by omega)); (try have hz2_w1_0 : w1.heap.size < w2.heap.size := (by omega)); (try have hz2_w1_1 : w1.heap.size + 1 < w2.heap.size := (by omega)); (try have hz2_w1_2 : w1.heap.size + 1 + 1 < w2.heap.size := (by omega)); (try have hz2_w1_3 : w1.heap.size + 1 + 1 + 1 < w2.heap.size := (by omega)); have r2_2_0 : w2.cell? ⟨w.heap.size + 1 + 1, 0, none⟩ = some (.int .i64 0) := (by go_cell); have r2_2_1 : w2.cell? ⟨w.heap.size + 1 + 1, 1, none⟩ = some (.int .i64 0) := (by go_cell))
        go_wp2
        refine bodyPost_ret (res_qe Tryd.results38 rfl (by repeat' (first | (with_reducible assumption) | (with_reducible refine cellD ?_) | (with_reducible refine cell_same ?_; repeat' (first | exact ⟨_, by with_reducible assumption⟩ | with_reducible refine cell_exD ?_ | with_reducible refine cell_ex ?_)) | (with_reducible refine cell_other ?_ (by dsimp only; omega)))) (by repeat' (first | (with_reducible assumption) | (with_reducible refine cellD ?_) | (with_reducible refine cell_same ?_; repeat' (first | exact ⟨_, by with_reducible assumption⟩ | with_reducible refine cell_exD ?_ | with_reducible refine cell_ex ?_)) | (with_reducible refine cell_other ?_ (by dsimp only; omega))))) rfl ⟨rfl, ?_⟩; repeat' (first | (with_reducible exact Below.refl _ _) | (with_reducible assumption) | (with_reducible refine Below.alloc ?_ ?_ _) | (with_reducible refine Below.drew ?_) | (with_reducible refine below_drewN ?_ _) | (with_reducible refine Below.setCell ?_ ?_ _) | go_size)
      · have hs' : 0 ≤ bn := by omega
        obtain ⟨q0, q1, q2, p2, _⟩ := div_pos ha hb' (by omega)
        obtain ⟨p2, p3⟩ := p2
        have hm := fun (W : World) => made_any (an * bd) (bn * ad) W q0 q2 p2 p3
        have e1 : ad * bn = bn * ad := Int.mul_comm _ _
        rw [← e1] at hm
        have en := (show divN an ad bn bd = madeN (an * bd) (bn * ad) by rw [divN, if_pos h, if_neg hz, if_neg hs])
        have ed := (show divD an ad bn bd = madeD (an * bd) (bn * ad) by rw [divD, if_pos h, if_neg hz, if_neg hs])
        have ee := (show divE an ad bn bd = madeE (an * bd) (bn * ad) by rw [divE, if_pos h, if_neg hz, if_neg hs])
        rw [en, ed, ee, ← e1]
        have hm2 := hide0 hm
        have u1 : -4000000000000000000 ≤ ad * bn := by omega
        have u2 : ad * bn ≤ 4000000000000000000 := by omega
        clear h ha hb' hb en ed ee hm e1 hz hs
        go_enter Tryd.func38, Tryd.ntmps38
        go_wp2_with fail
        (refine (HB.out _).mono ?_; rintro e w1 ⟨rfl, hb1⟩; obtain ⟨hc1, hf1⟩ := bcell hb1; have hB1 : Below w.heap.size w w1 := up hb1 (by go_grown); have hz1 := hb1.size; (try simp at hz1); (try have hz1_w_p1 : w.heap.size < w1.heap.size + 1 := (by omega)); (try have hz1_w_p2 : w.heap.size < w1.heap.size + 1 + 1 := (by omega)); (try have hz1_w_p3 : w.heap.size < w1.heap.size + 1 + 1 + 1 := (by omega)); (try have hz1_w_0 : w.heap.size < w1.heap.size := (by omega)); (try have hz1_w_1 : w.heap.size + 1 < w1.heap.size := (by omega)); (try have hz1_w_2 : w.heap.size + 1 + 1 < w1.heap.size := (by omega)); (try have hz1_w_3 : w.heap.size + 1 + 1 + 1 < w1.heap.size := (by omega)); (try have hz1_w_4 : w.heap.size + 1 + 1 + 1 + 1 < w1.heap.size := (by omega)); (try have hz1_w_5 : w.heap.size + 1 + 1 + 1 + 1 + 1 < w1.heap.size := (by omega)); (try have hz1_w_6 : w.heap.size + 1 + 1 + 1 + 1 + 1 + 1 < w1.heap.size := (by omega)); have r1_2_0 : w1.cell? ⟨w.heap.size + 1 + 1, 0, none⟩ = some (.int .i64 0) := (by go_cell); have r1_2_1 : w1.cell? ⟨w.heap.size + 1 + 1, 1, none⟩ = some (.int .i64 0) := (by go_cell))
        go_wp2_with fail
        (refine (hm2.out _).mono ?_; rintro e w2 ⟨rfl, hb2⟩; obtain ⟨hc2, hf2⟩ := bcell hb2; have hB2 : Below w.heap.size w w2 := up hb2 (by go_grown); have hz2 := hb2.size; (try simp at hz2); (try have hz2_w_p1 : w.heap.size < w2.heap.size + 1 := (by omega)); (try have hz2_w_p2 : w.heap.size < w2.heap.size + 1 + 1 := (by omega)); (try have hz2_w_p3 : w.heap.size < w2.heap.size + 1 + 1 + 1 := (by omega)); (try have hz2_w1_p1 : w1.heap.size < w2.heap.size + 1 := (by omega)); (try have hz2_w1_p2 : w1.heap.size < w2.heap.size + 1 + 1 := (by omega)); (try have hz2_w1_p3 : w1.heap.size < w2.heap.size + 1 + 1 + 1 := (by omega)); (try have hz2_w_0 : w.heap.size < w2.heap.size := (by omega)); (try have hz2_w_1 : w.heap.size + 1 < w2.heap.size := (by omega)); (try have hz2_w_2 : w.heap.size + 1 + 1 < w2.heap.size := (by omega)); (try have hz2_w_3 : w.heap.size + 1 + 1 + 1 < w2.heap.size := (by omega)); (try have hz2_w_4 : w.heap.size + 1 + 1 + 1 + 1 < w2.heap.size := (by omega)); (try have hz2_w_5 : w.heap.size + 1 + 1 + 1 + 1 + 1 < w2.heap.size := (by omega)); (try have hz2_w_6 : w.heap.size + 1 + 1 + 1 + 1 + 1 + 1 < w2.heap.size := (by omega)); (try have hz2_w1_0 : w1.heap.size < w2.heap.size := (by omega)); (try have hz2_w1_1 : w1.heap.size + 1 < w2.heap.size := (by omega)); (try have hz2_w1_2 : w1.heap.size + 1 + 1 < w2.heap.size := (by omega)); (try have hz2_w1_3 : w1.heap.size + 1 + 1 + 1 < w2.heap.size := (by omega)); have r2_2_0 : w2.cell? ⟨w.heap.size + 1 + 1, 0, none⟩ = some (.int .i64 0) := (by go_cell); have r2_2_1 : w2.cell? ⟨w.heap.size + 1 + 1, 1, none⟩ = some (.int .i64 0) := (by go_cell))
        go_wp2
        refine bodyPost_ret (res_qe Tryd.results38 rfl (by repeat' (first | (with_reducible assumption) | (with_reducible refine cellD ?_) | (with_reducible refine cell_same ?_; repeat' (first | exact ⟨_, by with_reducible assumption⟩ | with_reducible refine cell_exD ?_ | with_reducible refine cell_ex ?_)) | (with_reducible refine cell_other ?_ (by dsimp only; omega)))) (by repeat' (first | (with_reducible assumption) | (with_reducible refine cellD ?_) | (with_reducible refine cell_same ?_; repeat' (first | exact ⟨_, by with_reducible assumption⟩ | with_reducible refine cell_exD ?_ | with_reducible refine cell_ex ?_)) | (with_reducible refine cell_other ?_ (by dsimp only; omega))))) rfl ⟨rfl, ?_⟩; repeat' (first | (with_reducible exact Below.refl _ _) | (with_reducible assumption) | (with_reducible refine Below.alloc ?_ ?_ _) | (with_reducible refine Below.drew ?_) | (with_reducible refine below_drewN ?_ _) | (with_reducible refine Below.setCell ?_ ?_ _) | go_size)
  · rw [if_neg h] at hb
    have HB := hide0 hb
    have en := hide0 (show divN an ad bn bd = 0 by rw [divN, if_neg h])
    have ed := hide0 (show divD an ad bn bd = 0 by rw [divD, if_neg h])
    have ee := hide0 (show divE an ad bn bd = 1 by rw [divE, if_neg h])
    rw [en.out, ed.out, ee.out]
    clear h hb en ed ee
    go_enter Tryd.func38, Tryd.ntmps38
    go_wp2_with fail
    (refine (HB.out _).mono ?_; rintro e w1 ⟨rfl, hb1⟩; obtain ⟨hc1, hf1⟩ := bcell hb1; have hB1 : Below w.heap.size w w1 := up hb1 (by go_grown); have hz1 := hb1.size; (try simp at hz1); (try have hz1_w_p1 : w.heap.size < w1.heap.size + 1 := (by omega)); (try have hz1_w_p2 : w.heap.size < w1.heap.size + 1 + 1 := (by omega)); (try have hz1_w_p3 : w.heap.size < w1.heap.size + 1 + 1 + 1 := (by omega)); (try have hz1_w_0 : w.heap.size < w1.heap.size := (by omega)); (try have hz1_w_1 : w.heap.size + 1 < w1.heap.size := (by omega)); (try have hz1_w_2 : w.heap.size + 1 + 1 < w1.heap.size := (by omega)); (try have hz1_w_3 : w.heap.size + 1 + 1 + 1 < w1.heap.size := (by omega)); (try have hz1_w_4 : w.heap.size + 1 + 1 + 1 + 1 < w1.heap.size := (by omega)); (try have hz1_w_5 : w.heap.size + 1 + 1 + 1 + 1 + 1 < w1.heap.size := (by omega)); (try have hz1_w_6 : w.heap.size + 1 + 1 + 1 + 1 + 1 + 1 < w1.heap.size := (by omega)); have r1_2_0 : w1.cell? ⟨w.heap.size + 1 + 1, 0, none⟩ = some (.int .i64 0) := (by go_cell); have r1_2_1 : w1.cell? ⟨w.heap.size + 1 + 1, 1, none⟩ = some (.int .i64 0) := (by go_cell))
    go_wp2
    refine bodyPost_ret (res_qe Tryd.results38 rfl (by repeat' (first | (with_reducible assumption) | (with_reducible refine cellD ?_) | (with_reducible refine cell_same ?_; repeat' (first | exact ⟨_, by with_reducible assumption⟩ | with_reducible refine cell_exD ?_ | with_reducible refine cell_ex ?_)) | (with_reducible refine cell_other ?_ (by dsimp only; omega)))) (by repeat' (first | (with_reducible assumption) | (with_reducible refine cellD ?_) | (with_reducible refine cell_same ?_; repeat' (first | exact ⟨_, by with_reducible assumption⟩ | with_reducible refine cell_exD ?_ | with_reducible refine cell_ex ?_)) | (with_reducible refine cell_other ?_ (by dsimp only; omega))))) rfl ⟨rfl, ?_⟩; repeat' (first | (with_reducible exact Below.refl _ _) | (with_reducible assumption) | (with_reducible refine Below.alloc ?_ ?_ _) | (with_reducible refine Below.drew ?_) | (with_reducible refine below_drewN ?_ _) | (with_reducible refine Below.setCell ?_ ?_ _) | go_size)

theorem sums_of (hl : AliveOk) (an ad bn bd : Int) (w : World) (h1 : W2 an ad) (h2 : W2 bn bd) (ht : Pow10 w) :
    Calls Tryd.prog 4 #[.agg #[.int .i64 (an), .int .i64 (ad)], .agg #[.int .i64 (bn), .int .i64 (bd)]] w fun e w' => e = .returned (.bool true) ∧ Below w.heap.size w w' :=
  sums_core an ad bn bd _ _ _ _ _ _ _ _ _ _ _ _ w ht hl (fun W => Add_any an ad bn bd W h1 h2) (fun W => rAdd_any an ad bn bd W) (fun W => Sub_any an ad bn bd W h1 h2) (fun W => rSub_any an ad bn bd W)
    (fun W => Mul_any an ad bn bd W h1 h2) (fun W => rMul_any an ad bn bd W) (fun W => Div_any an ad bn bd W h1 h2) (fun W => rDiv_any an ad bn bd W)
end Go.Proofs.YthoinamncekgmaaDoor
