/-
  What Of, Compare, Floor and Ceil return for whatever arguments, the functions' and the reference's.
-/
import Derived.Test.YthoinamncekgmaaDoorRefB
import Derived.Test.YthoinamncekgmaaDoorSimple
import Derived.Test.YthoinamncekgmaaDoorMedV
set_option linter.unusedVariables false
set_option linter.unusedSimpArgs false
namespace Go.Proofs.YthoinamncekgmaaDoor
open Go Go.RowKit

def ofN (n d : Int) : Int := if ofOk n d = true then madeN n d else 0
def ofD (n d : Int) : Int := if ofOk n d = true then madeD n d else 0
def ofE (n d : Int) : Int := if ofOk n d = true then madeE n d else 1
theorem Of_any (n d : Int) (w : World) (h : W2 n d) : Calls Tryd.prog 20 #[.int .i64 n, .int .i64 d] w fun e w' => e = .returned (.tuple #[.agg #[.int .i64 (ofN n d), .int .i64 (ofD n d)], .int .i64 (ofE n d)]) ∧ Below w.heap.size w w' := by
  unfold ofN ofD ofE
  by_cases ho : ofOk n d = true
  · rw [if_pos ho, if_pos ho, if_pos ho]
    unfold madeN madeD madeE
    by_cases hl : lowOk n d = true
    · rw [if_pos hl, if_pos hl, if_pos hl]; exact Of_ok n d w ho hl
    · rw [if_neg hl, if_neg hl, if_neg hl]; exact Of_size n d w ho (by simpa using hl)
  · rw [if_neg ho, if_neg ho, if_neg ho]; exact Of_arg n d w h (by simpa using ho)
theorem ofOk_in {n d : Int} : ofOk n d = (inB d 1 1000000000000 && inB n (-1000000000000000) 1000000000000000) := by
  rw [Bool.eq_iff_iff, ofOk_iff, Bool.and_eq_true, inB_iff, inB_iff]; omega
set_option maxHeartbeats 1000000 in
theorem rOf_any (n d : Int) (w : World) : Calls Tryd.prog 21 #[.int .i64 n, .int .i64 d] w fun e w' => e = .returned (.tuple #[.agg #[.int .i64 (ofN n d), .int .i64 (ofD n d)], .int .i64 (ofE n d)]) ∧ Below w.heap.size w w' := by
  have hw1 := fun (W : World) => within_any d 1 1000000000000 W
  have hw2 := fun (W : World) => within_any n (-1000000000000000) 1000000000000000 W
  unfold ofN ofD ofE
  rw [ofOk_in]
  by_cases h1 : inB d 1 1000000000000 = true
  · by_cases h2 : inB n (-1000000000000000) 1000000000000000 = true
    · obtain ⟨d1, d2⟩ := inB_iff.1 h1
      obtain ⟨n1, n2⟩ := inB_iff.1 h2
      have hm := hide0 fun (W : World) => made_any n d W (by omega) (by omega) (by omega) (by omega)
      rw [h1, h2]
      rw [h1] at hw1
      rw [h2] at hw2
      have H1 := hide0 hw1
      have H2 := hide0 hw2
      clear h1 h2 hw1 hw2
      rw [show (true && true) = true from rfl, if_pos rfl, if_pos rfl, if_pos rfl]
      go_enter Tryd.func21, Tryd.ntmps21
      go_wp2_with fail
      refine (H1.out _).mono ?_
      rintro e w' ⟨rfl, rfl⟩
      go_wp2_with fail
      refine (H2.out _).mono ?_
      rintro e w' ⟨rfl, rfl⟩
      go_wp2_with fail
      (refine (hm.out _).mono ?_; rintro e w1 ⟨rfl, hb1⟩; obtain ⟨hc1, hf1⟩ := bcell hb1; have hB1 : Below w.heap.size w w1 := up hb1 (by go_grown); have hz1 := hb1.size; (try simp at hz1); (try have hz1_w_p1 : w.heap.size < w1.heap.size + 1 := (by omega)); (try have hz1_w_p2 : w.heap.size < w1.heap.size + 1 + 1 := (by omega)); (try have hz1_w_p3 : w.heap.size < w1.heap.size + 1 + 1 + 1 := (by omega)); (try have hz1_w_0 : w.heap.size < w1.heap.size := (by omega)); (try have hz1_w_1 : w.heap.size + 1 < w1.heap.size := (by omega)); (try have hz1_w_2 : w.heap.size + 1 + 1 < w1.heap.size := (by omega)); (try have hz1_w_3 : w.heap.size + 1 + 1 + 1 < w1.heap.size := (by omega)); (try have hz1_w_4 : w.heap.size + 1 + 1 + 1 + 1 < w1.heap.size := (by omega)); (try have hz1_w_5 : w.heap.size + 1 + 1 + 1 + 1 + 1 < w1.heap.size := (by omega)); (try have hz1_w_6 : w.heap.size + 1 + 1 + 1 + 1 + 1 + 1 < w1.heap.size := (by omega)); have r1_0_0 : w1.cell? ⟨w.heap.size, 0, none⟩ = some (.int .i64 0) := (by go_cell); have r1_0_1 : w1.cell? ⟨w.heap.size, 1, none⟩ = some (.int .i64 0) := (by go_cell))
      go_wp2
      refine bodyPost_ret (res_qe Tryd.results21 rfl (by repeat' (first | (with_reducible assumption) | (with_reducible refine cellD ?_) | (with_reducible refine cell_same ?_; repeat' (first | exact ⟨_, by with_reducible assumption⟩ | with_reducible refine cell_exD ?_ | with_reducible refine cell_ex ?_)) | (with_reducible refine cell_other ?_ (by dsimp only; omega)))) (by repeat' (first | (with_reducible assumption) | (with_reducible refine cellD ?_) | (with_reducible refine cell_same ?_; repeat' (first | exact ⟨_, by with_reducible assumption⟩ | with_reducible refine cell_exD ?_ | with_reducible refine cell_ex ?_)) | (with_reducible refine cell_other ?_ (by dsimp only; omega))))) rfl ⟨rfl, ?_⟩; repeat' (first | (with_reducible exact Below.refl _ _) | (with_reducible assumption) | (with_reducible refine Below.alloc ?_ ?_ _) | (with_reducible refine Below.drew ?_) | (with_reducible refine below_drewN ?_ _) | (with_reducible refine Below.setCell ?_ ?_ _) | go_size)
    · have h2' : inB n (-1000000000000000) 1000000000000000 = false := by simpa using h2
      rw [h1, h2']
      rw [h1] at hw1
      rw [h2'] at hw2
      have H1 := hide0 hw1
      have H2 := hide0 hw2
      clear h1 h2 h2' hw1 hw2
      rw [if_neg (by decide), if_neg (by decide), if_neg (by decide)]
      go_enter Tryd.func21, Tryd.ntmps21
      go_wp2_with fail
      refine (H1.out _).mono ?_
      rintro e w' ⟨rfl, rfl⟩
      go_wp2_with fail
      refine (H2.out _).mono ?_
      rintro e w' ⟨rfl, rfl⟩
      go_wp2
      refine bodyPost_ret (res_qe Tryd.results21 rfl (by go_cell) (by go_cell)) rfl ⟨rfl, by go_grown⟩
  · have h1' : inB d 1 1000000000000 = false := by simpa using h1
    rw [h1']
    rw [h1'] at hw1
    have H1 := hide0 hw1
    clear h1 h1' hw1 hw2
    rw [if_neg (by simp), if_neg (by simp), if_neg (by simp)]
    go_enter Tryd.func21, Tryd.ntmps21
    go_wp2_with fail
    refine (H1.out _).mono ?_
    rintro e w' ⟨rfl, rfl⟩
    go_wp2
    refine bodyPost_ret (res_qe Tryd.results21 rfl (by go_cell) (by go_cell)) rfl ⟨rfl, by go_grown⟩

def cmpV (an ad bn bd : Int) : Int := if bothB an ad bn bd = true then sgn (an * bd - bn * ad) 0 else 0
def cmpE (an ad bn bd : Int) : Int := if bothB an ad bn bd = true then 0 else 1
theorem Compare_any (an ad bn bd : Int) (w : World) (h1 : W2 an ad) (h2 : W2 bn bd) : Calls Tryd.prog 22 #[.agg #[.int .i64 (an), .int .i64 (ad)], .agg #[.int .i64 (bn), .int .i64 (bd)]] w fun e w' => e = .returned (.tuple #[.int .i64 (cmpV an ad bn bd), .int .i64 (cmpE an ad bn bd)]) ∧ Below w.heap.size w w' := by
  unfold cmpV cmpE
  by_cases hb : bothB an ad bn bd = true
  · obtain ⟨ha, hb'⟩ := bothB_iff.1 hb
    rw [if_pos hb, if_pos hb]; exact Compare_ok an ad bn bd w ha hb'
  · rw [if_neg hb, if_neg hb]; exact Compare_arg an ad bn bd w h1 h2 (by simpa [bothB] using hb)
theorem More_any (an ad bn bd : Int) (w : World) (h1 : -4000000000000000000 ≤ an * bd) (h2 : an * bd ≤ 4000000000000000000) (h3 : -4000000000000000000 ≤ bn * ad) (h4 : bn * ad ≤ 4000000000000000000) :
    Calls Tryd.prog 80 #[.agg #[.int .i64 (an), .int .i64 (ad)], .agg #[.int .i64 (bn), .int .i64 (bd)]] w fun e w' => e = .returned (.int .i64 (an * bd - bn * ad)) ∧ Below w.heap.size w w' := by
  go_enter Tryd.func80, Tryd.ntmps80
  go_wp2
  go_returns
  exact ⟨rfl, by go_grown⟩
set_option maxHeartbeats 1000000 in
theorem rCompare_any (an ad bn bd : Int) (w : World) : Calls Tryd.prog 23 #[.agg #[.int .i64 (an), .int .i64 (ad)], .agg #[.int .i64 (bn), .int .i64 (bd)]] w fun e w' => e = .returned (.tuple #[.int .i64 (cmpV an ad bn bd), .int .i64 (cmpE an ad bn bd)]) ∧ Below w.heap.size w w' := by
  have hb := fun (W : World) => rboth_any an ad bn bd W
  unfold cmpV cmpE
  by_cases h : bothB an ad bn bd = true
  · obtain ⟨ha, hb'⟩ := bothB_iff.1 h
    obtain ⟨b1, b2, b3, b4⟩ := cmp_bd ha hb'
    have hm := hide0 fun (W : World) => More_any an ad bn bd W b1.out b2.out b3.out b4.out
    rw [if_pos h] at hb
    rw [if_pos h, if_pos h]
    have HB := hide0 hb
    clear h ha hb' hb b1 b2 b3 b4
    have hs : sgn (an * bd - bn * ad) 0 = if an * bd - bn * ad < 0 then -1 else if 0 < an * bd - bn * ad then 1 else 0 := rfl
    generalize an * bd - bn * ad = z at *
    have HS := hide0 hs
    clear hs
    rcases Int.lt_trichotomy z 0 with hz | hz | hz
    · go_enter Tryd.func23, Tryd.ntmps23
      go_wp2_with fail
      (refine (HB.out _).mono ?_; rintro e w1 ⟨rfl, hb1⟩; obtain ⟨hc1, hf1⟩ := bcell hb1; have hB1 : Below w.heap.size w w1 := up hb1 (by go_grown); have hz1 := hb1.size; (try simp at hz1); (try have hz1_w_p1 : w.heap.size < w1.heap.size + 1 := (by omega)); (try have hz1_w_p2 : w.heap.size < w1.heap.size + 1 + 1 := (by omega)); (try have hz1_w_p3 : w.heap.size < w1.heap.size + 1 + 1 + 1 := (by omega)); (try have hz1_w_0 : w.heap.size < w1.heap.size := (by omega)); (try have hz1_w_1 : w.heap.size + 1 < w1.heap.size := (by omega)); (try have hz1_w_2 : w.heap.size + 1 + 1 < w1.heap.size := (by omega)); (try have hz1_w_3 : w.heap.size + 1 + 1 + 1 < w1.heap.size := (by omega)); (try have hz1_w_4 : w.heap.size + 1 + 1 + 1 + 1 < w1.heap.size := (by omega)); (try have hz1_w_5 : w.heap.size + 1 + 1 + 1 + 1 + 1 < w1.heap.size := (by omega)); (try have hz1_w_6 : w.heap.size + 1 + 1 + 1 + 1 + 1 + 1 < w1.heap.size := (by omega)))
      go_wp2_with fail
      (refine (hm.out _).mono ?_; rintro e w2 ⟨rfl, hb2⟩; obtain ⟨hc2, hf2⟩ := bcell hb2; have hB2 : Below w.heap.size w w2 := up hb2 (by go_grown); have hz2 := hb2.size; (try simp at hz2); (try have hz2_w_p1 : w.heap.size < w2.heap.size + 1 := (by omega)); (try have hz2_w_p2 : w.heap.size < w2.heap.size + 1 + 1 := (by omega)); (try have hz2_w_p3 : w.heap.size < w2.heap.size + 1 + 1 + 1 := (by omega)); (try have hz2_w1_p1 : w1.heap.size < w2.heap.size + 1 := (by omega)); (try have hz2_w1_p2 : w1.heap.size < w2.heap.size + 1 + 1 := (by omega)); (try have hz2_w1_p3 : w1.heap.size < w2.heap.size + 1 + 1 + 1 := (by omega)); (try have hz2_w_0 : w.heap.size < w2.heap.size := (by omega)); (try have hz2_w_1 : w.heap.size + 1 < w2.heap.size := (by omega)); (try have hz2_w_2 : w.heap.size + 1 + 1 < w2.heap.size := (by omega)); (try have hz2_w_3 : w.heap.size + 1 + 1 + 1 < w2.heap.size := (by omega)); (try have hz2_w_4 : w.heap.size + 1 + 1 + 1 + 1 < w2.heap.size := (by omega)); (try have hz2_w_5 : w.heap.size + 1 + 1 + 1 + 1 + 1 < w2.heap.size := (by omega)); (try have hz2_w_6 : w.heap.size + 1 + 1 + 1 + 1 + 1 + 1 < w2.heap.size := (by omega)); (try have hz2_w1_0 : w1.heap.size < w2.heap.size := (by omega)); (try have hz2_w1_1 : w1.heap.size + 1 < w2.heap.size := (by omega)); (try have hz2_w1_2 : w1.heap.size + 1 + 1 < w2.heap.size := (by omega)); (try have hz2_w1_3 : w1.heap.size + 1 + 1 + 1 < w2.heap.size := (by omega)))
      go_wp2
      go_returns
      exact ⟨retT (by rw [HS.out, if_pos hz]), by go_grown⟩
    · subst hz
      go_enter Tryd.func23, Tryd.ntmps23
      go_wp2_with fail
      (refine (HB.out _).mono ?_; rintro e w1 ⟨rfl, hb1⟩; obtain ⟨hc1, hf1⟩ := bcell hb1; have hB1 : Below w.heap.size w w1 := up hb1 (by go_grown); have hz1 := hb1.size; (try simp at hz1); (try have hz1_w_p1 : w.heap.size < w1.heap.size + 1 := (by omega)); (try have hz1_w_p2 : w.heap.size < w1.heap.size + 1 + 1 := (by omega)); (try have hz1_w_p3 : w.heap.size < w1.heap.size + 1 + 1 + 1 := (by omega)); (try have hz1_w_0 : w.heap.size < w1.heap.size := (by omega)); (try have hz1_w_1 : w.heap.size + 1 < w1.heap.size := (by omega)); (try have hz1_w_2 : w.heap.size + 1 + 1 < w1.heap.size := (by omega)); (try have hz1_w_3 : w.heap.size + 1 + 1 + 1 < w1.heap.size := (by omega)); (try have hz1_w_4 : w.heap.size + 1 + 1 + 1 + 1 < w1.heap.size := (by omega)); (try have hz1_w_5 : w.heap.size + 1 + 1 + 1 + 1 + 1 < w1.heap.size := (by omega)); (try have hz1_w_6 : w.heap.size + 1 + 1 + 1 + 1 + 1 + 1 < w1.heap.size := (by omega)))
      go_wp2_with fail
      (refine (hm.out _).mono ?_; rintro e w2 ⟨rfl, hb2⟩; obtain ⟨hc2, hf2⟩ := bcell hb2; have hB2 : Below w.heap.size w w2 := up hb2 (by go_grown); have hz2 := hb2.size; (try simp at hz2); (try have hz2_w_p1 : w.heap.size < w2.heap.size + 1 := (by omega)); (try have hz2_w_p2 : w.heap.size < w2.heap.size + 1 + 1 := (by omega)); (try have hz2_w_p3 : w.heap.size < w2.heap.size + 1 + 1 + 1 := (by omega)); (try have hz2_w1_p1 : w1.heap.size < w2.heap.size + 1 := (by omega)); (try have hz2_w1_p2 : w1.heap.size < w2.heap.size + 1 + 1 := (by omega)); (try have hz2_w1_p3 : w1.heap.size < w2.heap.size + 1 + 1 + 1 := (by omega)); (try have hz2_w_0 : w.heap.size < w2.heap.size := (by omega)); (try have hz2_w_1 : w.heap.size + 1 < w2.heap.size := (by omega)); (try have hz2_w_2 : w.heap.size + 1 + 1 < w2.heap.size := (by omega)); (try have hz2_w_3 : w.heap.size + 1 + 1 + 1 < w2.heap.size := (by omega)); (try have hz2_w_4 : w.heap.size + 1 + 1 + 1 + 1 < w2.heap.size := (by omega)); (try have hz2_w_5 : w.heap.size + 1 + 1 + 1 + 1 + 1 < w2.heap.size := (by omega)); (try have hz2_w_6 : w.heap.size + 1 + 1 + 1 + 1 + 1 + 1 < w2.heap.size := (by omega)); (try have hz2_w1_0 : w1.heap.size < w2.heap.size := (by omega)); (try have hz2_w1_1 : w1.heap.size + 1 < w2.heap.size := (by omega)); (try have hz2_w1_2 : w1.heap.size + 1 + 1 < w2.heap.size := (by omega)); (try have hz2_w1_3 : w1.heap.size + 1 + 1 + 1 < w2.heap.size := (by omega)))
      go_wp2
      go_returns
      exact ⟨retT (by rw [HS.out]; rfl), by go_grown⟩
    · go_enter Tryd.func23, Tryd.ntmps23
      go_wp2_with fail
      (refine (HB.out _).mono ?_; rintro e w1 ⟨rfl, hb1⟩; obtain ⟨hc1, hf1⟩ := bcell hb1; have hB1 : Below w.heap.size w w1 := up hb1 (by go_grown); have hz1 := hb1.size; (try simp at hz1); (try have hz1_w_p1 : w.heap.size < w1.heap.size + 1 := (by omega)); (try have hz1_w_p2 : w.heap.size < w1.heap.size + 1 + 1 := (by omega)); (try have hz1_w_p3 : w.heap.size < w1.heap.size + 1 + 1 + 1 := (by omega)); (try have hz1_w_0 : w.heap.size < w1.heap.size := (by omega)); (try have hz1_w_1 : w.heap.size + 1 < w1.heap.size := (by omega)); (try have hz1_w_2 : w.heap.size + 1 + 1 < w1.heap.size := (by omega)); (try have hz1_w_3 : w.heap.size + 1 + 1 + 1 < w1.heap.size := (by omega)); (try have hz1_w_4 : w.heap.size + 1 + 1 + 1 + 1 < w1.heap.size := (by omega)); (try have hz1_w_5 : w.heap.size + 1 + 1 + 1 + 1 + 1 < w1.heap.size := (by omega)); (try have hz1_w_6 : w.heap.size + 1 + 1 + 1 + 1 + 1 + 1 < w1.heap.size := (by omega)))
      go_wp2_with fail
      (refine (hm.out _).mono ?_; rintro e w2 ⟨rfl, hb2⟩; obtain ⟨hc2, hf2⟩ := bcell hb2; have hB2 : Below w.heap.size w w2 := up hb2 (by go_grown); have hz2 := hb2.size; (try simp at hz2); (try have hz2_w_p1 : w.heap.size < w2.heap.size + 1 := (by omega)); (try have hz2_w_p2 : w.heap.size < w2.heap.size + 1 + 1 := (by omega)); (try have hz2_w_p3 : w.heap.size < w2.heap.size + 1 + 1 + 1 := (by omega)); (try have hz2_w1_p1 : w1.heap.size < w2.heap.size + 1 := (by omega)); (try have hz2_w1_p2 : w1.heap.size < w2.heap.size + 1 + 1 := (by omega)); (try have hz2_w1_p3 : w1.heap.size < w2.heap.size + 1 + 1 + 1 := (by omega)); (try have hz2_w_0 : w.heap.size < w2.heap.size := (by omega)); (try have hz2_w_1 : w.heap.size + 1 < w2.heap.size := (by omega)); (try have hz2_w_2 : w.heap.size + 1 + 1 < w2.heap.size := (by omega)); (try have hz2_w_3 : w.heap.size + 1 + 1 + 1 < w2.heap.size := (by omega)); (try have hz2_w_4 : w.heap.size + 1 + 1 + 1 + 1 < w2.heap.size := (by omega)); (try have hz2_w_5 : w.heap.size + 1 + 1 + 1 + 1 + 1 < w2.heap.size := (by omega)); (try have hz2_w_6 : w.heap.size + 1 + 1 + 1 + 1 + 1 + 1 < w2.heap.size := (by omega)); (try have hz2_w1_0 : w1.heap.size < w2.heap.size := (by omega)); (try have hz2_w1_1 : w1.heap.size + 1 < w2.heap.size := (by omega)); (try have hz2_w1_2 : w1.heap.size + 1 + 1 < w2.heap.size := (by omega)); (try have hz2_w1_3 : w1.heap.size + 1 + 1 + 1 < w2.heap.size := (by omega)))
      go_wp2
      go_returns
      exact ⟨retT (by rw [HS.out, if_neg (by omega), if_pos hz]), by go_grown⟩
  · rw [if_neg h] at hb
    rw [if_neg h, if_neg h]
    have HB := hide0 hb
    clear h hb
    go_enter Tryd.func23, Tryd.ntmps23
    go_wp2_with fail
    (refine (HB.out _).mono ?_; rintro e w1 ⟨rfl, hb1⟩; obtain ⟨hc1, hf1⟩ := bcell hb1; have hB1 : Below w.heap.size w w1 := up hb1 (by go_grown); have hz1 := hb1.size; (try simp at hz1); (try have hz1_w_p1 : w.heap.size < w1.heap.size + 1 := (by omega)); (try have hz1_w_p2 : w.heap.size < w1.heap.size + 1 + 1 := (by omega)); (try have hz1_w_p3 : w.heap.size < w1.heap.size + 1 + 1 + 1 := (by omega)); (try have hz1_w_0 : w.heap.size < w1.heap.size := (by omega)); (try have hz1_w_1 : w.heap.size + 1 < w1.heap.size := (by omega)); (try have hz1_w_2 : w.heap.size + 1 + 1 < w1.heap.size := (by omega)); (try have hz1_w_3 : w.heap.size + 1 + 1 + 1 < w1.heap.size := (by omega)); (try have hz1_w_4 : w.heap.size + 1 + 1 + 1 + 1 < w1.heap.size := (by omega)); (try have hz1_w_5 : w.heap.size + 1 + 1 + 1 + 1 + 1 < w1.heap.size := (by omega)); (try have hz1_w_6 : w.heap.size + 1 + 1 + 1 + 1 + 1 + 1 < w1.heap.size := (by omega)))
    go_wp2
    go_returns
    exact ⟨rfl, by go_grown⟩

theorem rfl_any (n d : Int) (w : World) (hd : 1 ≤ d) (hd' : d ≤ 4000000000000000000) (h1 : -4000000000000000000 ≤ n) (h2 : n ≤ 4000000000000000000) :
    Calls Tryd.prog 84 #[.int .i64 n, .int .i64 d] w fun e w' => e = .returned (.int .i64 (n / d)) ∧ w' = w := by
  have hf := hide0 (floor_ref (n := n) hd)
  have h3 := Int.tmod_add_mul_tdiv n d
  have h4 := tmod_lt n (b := d) (by omega)
  have h5 : (n.tmod d).natAbs ≤ n.natAbs := by rw [Int.natAbs_tmod]; exact Nat.mod_le _ _
  have b1 := Int.natAbs_tdiv_le_natAbs n d
  have b3 : -4000000000000000000 ≤ n.tdiv d := by omega
  have b4 : n.tdiv d ≤ 4000000000000000000 := by omega
  rw [Int.mul_comm] at h3
  have b5 : -8000000000000000000 ≤ n.tdiv d * d := by omega
  have b6 : n.tdiv d * d ≤ 8000000000000000000 := by omega
  have hne : ¬ d = 0 := by omega
  clear h3 h4 h5 b1
  by_cases h : n < n.tdiv d * d
  · go_enter Tryd.func84, Tryd.ntmps84
    go_wp2
    go_ret
    exact ⟨retI (by have := hf.out; rw [if_pos h] at this; exact this), rfl⟩
  · have h' : n.tdiv d * d ≤ n := by omega
    clear h
    go_enter Tryd.func84, Tryd.ntmps84
    go_wp2
    go_ret
    exact ⟨retI (by have := hf.out; rw [if_neg (by omega)] at this; exact this), rfl⟩
theorem rce_any (n d : Int) (w : World) (hd : 1 ≤ d) (hd' : d ≤ 4000000000000000000) (h1 : -4000000000000000000 ≤ n) (h2 : n ≤ 4000000000000000000) :
    Calls Tryd.prog 86 #[.int .i64 n, .int .i64 d] w fun e w' => e = .returned (.int .i64 (ceilQ n d)) ∧ w' = w := by
  have hf := hide0 (ceil_ref (n := n) hd)
  have h3 := Int.tmod_add_mul_tdiv n d
  have h4 := tmod_lt n (b := d) (by omega)
  have h5 : (n.tmod d).natAbs ≤ n.natAbs := by rw [Int.natAbs_tmod]; exact Nat.mod_le _ _
  have b1 := Int.natAbs_tdiv_le_natAbs n d
  have b3 : -4000000000000000000 ≤ n.tdiv d := by omega
  have b4 : n.tdiv d ≤ 4000000000000000000 := by omega
  rw [Int.mul_comm] at h3
  have b5 : -8000000000000000000 ≤ n.tdiv d * d := by omega
  have b6 : n.tdiv d * d ≤ 8000000000000000000 := by omega
  have hne : ¬ d = 0 := by omega
  clear h3 h4 h5 b1
  by_cases h : n.tdiv d * d < n
  · go_enter Tryd.func86, Tryd.ntmps86
    go_wp2
    go_ret
    exact ⟨retI (by have := hf.out; rw [if_pos h] at this; exact this), rfl⟩
  · have h' : n ≤ n.tdiv d * d := by omega
    clear h
    go_enter Tryd.func86, Tryd.ntmps86
    go_wp2
    go_ret
    exact ⟨retI (by have := hf.out; rw [if_neg (by omega)] at this; exact this), rfl⟩

def flV (n d : Int) : Int := if okQ n d = true then n / d else 0
def ceV (n d : Int) : Int := if okQ n d = true then ceilQ n d else 0
theorem Floor_any (n d : Int) (w : World) (h : W2 n d) : Calls Tryd.prog 26 #[.agg #[.int .i64 (n), .int .i64 (d)]] w fun e w' => e = .returned (.tuple #[.int .i64 (flV n d), .int .i64 (ckOf n d)]) ∧ Below w.heap.size w w' := by
  unfold flV ckOf
  by_cases ha : okQ n d = true
  · rw [if_pos ha, if_pos ha]; exact Floor_ok n d w ha
  · rw [if_neg ha, if_neg ha]; exact Floor_arg n d w h (by simpa using ha)
theorem Ceil_any (n d : Int) (w : World) (h : W2 n d) : Calls Tryd.prog 28 #[.agg #[.int .i64 (n), .int .i64 (d)]] w fun e w' => e = .returned (.tuple #[.int .i64 (ceV n d), .int .i64 (ckOf n d)]) ∧ Below w.heap.size w w' := by
  unfold ceV ckOf
  by_cases ha : okQ n d = true
  · rw [if_pos ha, if_pos ha]; exact Ceil_ok n d w ha
  · rw [if_neg ha, if_neg ha]; exact Ceil_arg n d w h (by simpa using ha)
theorem rFloor_any (n d : Int) (w : World) : Calls Tryd.prog 27 #[.agg #[.int .i64 (n), .int .i64 (d)]] w fun e w' => e = .returned (.tuple #[.int .i64 (flV n d), .int .i64 (ckOf n d)]) ∧ Below w.heap.size w w' := by
  have hc := fun (W : World) => rCheck_any n d W
  unfold flV ckOf
  by_cases ha : okQ n d = true
  · obtain ⟨h1, h2, h3, h4, _⟩ := okQ_iff.1 ha
    have hf := hide0 fun (W : World) => rfl_any n d W h1 (by omega) (by omega) (by omega)
    rw [if_pos ha, if_pos ha]
    rw [if_pos ha] at hc
    have HC := hide0 hc
    clear ha hc
    go_enter Tryd.func27, Tryd.ntmps27
    go_wp2_with fail
    (refine (HC.out _).mono ?_; rintro e w1 ⟨rfl, hb1⟩; obtain ⟨hc1, hf1⟩ := bcell hb1; have hB1 : Below w.heap.size w w1 := up hb1 (by go_grown); have hz1 := hb1.size; (try simp at hz1); (try have hz1_w_p1 : w.heap.size < w1.heap.size + 1 := (by omega)); (try have hz1_w_p2 : w.heap.size < w1.heap.size + 1 + 1 := (by omega)); (try have hz1_w_p3 : w.heap.size < w1.heap.size + 1 + 1 + 1 := (by omega)); (try have hz1_w_0 : w.heap.size < w1.heap.size := (by omega)); (try have hz1_w_1 : w.heap.size + 1 < w1.heap.size := (by omega)); (try have hz1_w_2 : w.heap.size + 1 + 1 < w1.heap.size := (by omega)); (try have hz1_w_3 : w.heap.size + 1 + 1 + 1 < w1.heap.size := (by omega)); (try have hz1_w_4 : w.heap.size + 1 + 1 + 1 + 1 < w1.heap.size := (by omega)); (try have hz1_w_5 : w.heap.size + 1 + 1 + 1 + 1 + 1 < w1.heap.size := (by omega)); (try have hz1_w_6 : w.heap.size + 1 + 1 + 1 + 1 + 1 + 1 < w1.heap.size := (by omega)))
    go_wp2_with fail
    refine (hf.out _).mono ?_
    rintro e w' ⟨rfl, rfl⟩
    go_wp2
    go_returns
    exact ⟨rfl, by go_grown⟩
  · rw [if_neg ha, if_neg ha]
    rw [if_neg ha] at hc
    have HC := hide0 hc
    clear ha hc
    go_enter Tryd.func27, Tryd.ntmps27
    go_wp2_with fail
    (refine (HC.out _).mono ?_; rintro e w1 ⟨rfl, hb1⟩; obtain ⟨hc1, hf1⟩ := bcell hb1; have hB1 : Below w.heap.size w w1 := up hb1 (by go_grown); have hz1 := hb1.size; (try simp at hz1); (try have hz1_w_p1 : w.heap.size < w1.heap.size + 1 := (by omega)); (try have hz1_w_p2 : w.heap.size < w1.heap.size + 1 + 1 := (by omega)); (try have hz1_w_p3 : w.heap.size < w1.heap.size + 1 + 1 + 1 := (by omega)); (try have hz1_w_0 : w.heap.size < w1.heap.size := (by omega)); (try have hz1_w_1 : w.heap.size + 1 < w1.heap.size := (by omega)); (try have hz1_w_2 : w.heap.size + 1 + 1 < w1.heap.size := (by omega)); (try have hz1_w_3 : w.heap.size + 1 + 1 + 1 < w1.heap.size := (by omega)); (try have hz1_w_4 : w.heap.size + 1 + 1 + 1 + 1 < w1.heap.size := (by omega)); (try have hz1_w_5 : w.heap.size + 1 + 1 + 1 + 1 + 1 < w1.heap.size := (by omega)); (try have hz1_w_6 : w.heap.size + 1 + 1 + 1 + 1 + 1 + 1 < w1.heap.size := (by omega)))
    go_wp2
    go_returns
    exact ⟨rfl, by go_grown⟩
theorem rCeil_any (n d : Int) (w : World) : Calls Tryd.prog 29 #[.agg #[.int .i64 (n), .int .i64 (d)]] w fun e w' => e = .returned (.tuple #[.int .i64 (ceV n d), .int .i64 (ckOf n d)]) ∧ Below w.heap.size w w' := by
  have hc := fun (W : World) => rCheck_any n d W
  unfold ceV ckOf
  by_cases ha : okQ n d = true
  · obtain ⟨h1, h2, h3, h4, _⟩ := okQ_iff.1 ha
    have hf := hide0 fun (W : World) => rce_any n d W h1 (by omega) (by omega) (by omega)
    rw [if_pos ha, if_pos ha]
    rw [if_pos ha] at hc
    have HC := hide0 hc
    clear ha hc
    go_enter Tryd.func29, Tryd.ntmps29
    go_wp2_with fail
    (refine (HC.out _).mono ?_; rintro e w1 ⟨rfl, hb1⟩; obtain ⟨hc1, hf1⟩ := bcell hb1; have hB1 : Below w.heap.size w w1 := up hb1 (by go_grown); have hz1 := hb1.size; (try simp at hz1); (try have hz1_w_p1 : w.heap.size < w1.heap.size + 1 := (by omega)); (try have hz1_w_p2 : w.heap.size < w1.heap.size + 1 + 1 := (by omega)); (try have hz1_w_p3 : w.heap.size < w1.heap.size + 1 + 1 + 1 := (by omega)); (try have hz1_w_0 : w.heap.size < w1.heap.size := (by omega)); (try have hz1_w_1 : w.heap.size + 1 < w1.heap.size := (by omega)); (try have hz1_w_2 : w.heap.size + 1 + 1 < w1.heap.size := (by omega)); (try have hz1_w_3 : w.heap.size + 1 + 1 + 1 < w1.heap.size := (by omega)); (try have hz1_w_4 : w.heap.size + 1 + 1 + 1 + 1 < w1.heap.size := (by omega)); (try have hz1_w_5 : w.heap.size + 1 + 1 + 1 + 1 + 1 < w1.heap.size := (by omega)); (try have hz1_w_6 : w.heap.size + 1 + 1 + 1 + 1 + 1 + 1 < w1.heap.size := (by omega)))
    go_wp2_with fail
    refine (hf.out _).mono ?_
    rintro e w' ⟨rfl, rfl⟩
    go_wp2
    go_returns
    exact ⟨rfl, by go_grown⟩
  · rw [if_neg ha, if_neg ha]
    rw [if_neg ha] at hc
    have HC := hide0 hc
    clear ha hc
    go_enter Tryd.func29, Tryd.ntmps29
    go_wp2_with fail
    (refine (HC.out _).mono ?_; rintro e w1 ⟨rfl, hb1⟩; obtain ⟨hc1, hf1⟩ := bcell hb1; have hB1 : Below w.heap.size w w1 := up hb1 (by go_grown); have hz1 := hb1.size; (try simp at hz1); (try have hz1_w_p1 : w.heap.size < w1.heap.size + 1 := (by omega)); (try have hz1_w_p2 : w.heap.size < w1.heap.size + 1 + 1 := (by omega)); (try have hz1_w_p3 : w.heap.size < w1.heap.size + 1 + 1 + 1 := (by omega)); (try have hz1_w_0 : w.heap.size < w1.heap.size := (by omega)); (try have hz1_w_1 : w.heap.size + 1 < w1.heap.size := (by omega)); (try have hz1_w_2 : w.heap.size + 1 + 1 < w1.heap.size := (by omega)); (try have hz1_w_3 : w.heap.size + 1 + 1 + 1 < w1.heap.size := (by omega)); (try have hz1_w_4 : w.heap.size + 1 + 1 + 1 + 1 < w1.heap.size := (by omega)); (try have hz1_w_5 : w.heap.size + 1 + 1 + 1 + 1 + 1 < w1.heap.size := (by omega)); (try have hz1_w_6 : w.heap.size + 1 + 1 + 1 + 1 + 1 + 1 < w1.heap.size := (by omega)))
    go_wp2
    go_returns
    exact ⟨rfl, by go_grown⟩
end Go.Proofs.YthoinamncekgmaaDoor
