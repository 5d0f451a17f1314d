/-
  The reference's castings, misses and rules one behind the other.
-/
import Derived.Test.YthoinamncekgmaaDoorRefM
import Derived.Test.YthoinamncekgmaaDoorTwice
import Derived.Test.YthoinamncekgmaaDoorMissF
import Derived.Test.YthoinamncekgmaaDoorArgs2
set_option linter.unusedVariables false
set_option linter.unusedSimpArgs false
namespace Go.Proofs.YthoinamncekgmaaDoor
open Go Go.RowKit

theorem low_across_eq {a b c d : Int} (hb : 1 ≤ b) (hd : 1 ≤ d) (h : a * d = c * b) : lowN a b = lowN c d ∧ lowD a b = lowD c d := by
  have a1 := lowN_mul a b
  have a2 := lowD_mul a b
  have c1 := lowN_mul c d
  have c2 := lowD_mul c d
  have ga := gc_pos (n := a) (d := b) (by omega)
  have gd := gc_pos (n := c) (d := d) (by omega)
  have hg : 1 ≤ gc a b * gc c d := Int.mul_pos (by omega) (by omega)
  have e1 : lowN a b * lowD c d * (gc a b * gc c d) = a * d := by
    calc lowN a b * lowD c d * (gc a b * gc c d) = (lowN a b * gc a b) * (lowD c d * gc c d) := by grind
      _ = a * d := by rw [a1, c2]
  have e2 : lowN c d * lowD a b * (gc a b * gc c d) = c * b := by
    calc lowN c d * lowD a b * (gc a b * gc c d) = (lowN c d * gc c d) * (lowD a b * gc a b) := by grind
      _ = c * b := by rw [c1, a2]
  have e : lowN a b * lowD c d = lowN c d * lowD a b := Int.eq_of_mul_eq_mul_right (show gc a b * gc c d ≠ 0 by omega) (by rw [e1, e2, h])
  have g1 := low_gc (n := a) hb
  have g2 := low_gc (n := c) hd
  have p1 := lowD_pos (n := a) hb
  have p2 := lowD_pos (n := c) hd
  have k1 : lowD a b ∣ lowD c d := dvd_of_dvd_mul (n := lowN a b) ⟨lowN c d, by rw [e, Int.mul_comm]⟩ g1
  have k2 : lowD c d ∣ lowD a b := dvd_of_dvd_mul (n := lowN c d) ⟨lowN a b, by rw [← e, Int.mul_comm]⟩ g2
  have k3 := Int.le_of_dvd (by omega) k1
  have k4 := Int.le_of_dvd (by omega) k2
  have k5 : lowD a b = lowD c d := by omega
  rw [k5] at e
  exact ⟨Int.eq_of_mul_eq_mul_right (by omega) e, k5⟩
theorem made_eq {a b c d : Int} (hb : 1 ≤ b) (hd : 1 ≤ d) (h : a * d = c * b) : madeN a b = madeN c d ∧ madeD a b = madeD c d ∧ madeE a b = madeE c d := by
  obtain ⟨h1, h2⟩ := low_across_eq hb hd h
  have hl : lowOk a b = lowOk c d := by rw [Bool.eq_iff_iff, lowOk_iff, lowOk_iff, h1, h2]
  unfold madeN madeD madeE
  rw [hl, h1, h2]
  exact ⟨rfl, rfl, rfl⟩

/-- A casting's numbers are small. -/
theorem cast_low {n d s : Int} (hs : szB s = true) (h1 : 0 ≤ n) (h2 : n ≤ d) (h3 : 1 ≤ d) (h4 : d ≤ 1000) : lowOk (s * (d - n)) d = true := by
  obtain ⟨s1, s2⟩ := szB_iff.1 hs
  have m := mul_bd (a := s) (b := d - n) (A := 1000000) (B := 1000) (by omega) (by omega) (by omega) (by omega)
  have e1 := lowN_mul (s * (d - n)) d
  have e2 := lowD_le (n := s * (d - n)) (d := d) h3
  have g := gc_pos (n := s * (d - n)) (d := d) (by omega)
  have e3 : (lowN (s * (d - n)) d).natAbs ≤ (lowN (s * (d - n)) d * gc (s * (d - n)) d).natAbs := by rw [Int.natAbs_mul]; exact Nat.le_mul_of_pos_right _ (by omega)
  rw [e1] at e3
  exact lowOk_iff.2 ⟨by omega, by omega, by omega⟩

def cs (ln ld mn md s x : Int) : Int := if (okR ln ld mn md && szB s) = true then x else 0
theorem Cast_any (ln ld mn md s : Int) (w : World) (h1 : W2 ln ld) (h2 : W2 mn md) :
    Calls Tryd.prog 57 #[.agg #[.int .i64 (ln), .int .i64 (ld), .int .i64 (mn), .int .i64 (md)], .int .i64 s] w fun e w' => e = .returned (.tuple #[.agg #[.int .i64 (cs ln ld mn md s (lowN (s * (md - mn)) md)), .int .i64 (cs ln ld mn md s (lowD (s * (md - mn)) md))], .agg #[.int .i64 (cs ln ld mn md s (lowN (s * (ld - ln)) ld)), .int .i64 (cs ln ld mn md s (lowD (s * (ld - ln)) ld))], .int .i64 (szR ln ld mn md s)]) ∧ Below w.heap.size w w' := by
  unfold cs szR
  cases hk : okR ln ld mn md with
  | false => simp only [Bool.false_and, Bool.false_eq_true, if_false]; exact Cast_rule ln ld mn md s w h1 h2 hk
  | true =>
    cases hs : szB s with
    | false => simp only [Bool.and_false, Bool.false_eq_true, if_false]; exact Cast_size ln ld mn md s w hk hs
    | true =>
      obtain ⟨r1, r2, r3, r4, r5, r6, r7, r8⟩ := RuleB.of_ok hk
      simp only [Bool.and_self, if_true]
      exact Cast_ok ln ld mn md s w hk hs (cast_low hs r5 r6 r7 r8) (cast_low hs r1 r2 r3 r4)

set_option maxHeartbeats 4000000 in
theorem rCast_any (ln ld mn md s : Int) (w : World) :
    Calls Tryd.prog 58 #[.agg #[.int .i64 (ln), .int .i64 (ld), .int .i64 (mn), .int .i64 (md)], .int .i64 s] w fun e w' => e = .returned (.tuple #[.agg #[.int .i64 (cs ln ld mn md s (lowN (s * (md - mn)) md)), .int .i64 (cs ln ld mn md s (lowD (s * (md - mn)) md))], .agg #[.int .i64 (cs ln ld mn md s (lowN (s * (ld - ln)) ld)), .int .i64 (cs ln ld mn md s (lowD (s * (ld - ln)) ld))], .int .i64 (szR ln ld mn md s)]) ∧ Below w.heap.size w w' := by
  have hz := fun (W : World) => rsized_any ln ld mn md s W
  cases hq : (okR ln ld mn md && szB s) with
  | false =>
    have hq' : ¬ (okR ln ld mn md && szB s) = true := by rw [hq]; exact Bool.false_ne_true
    unfold cs szR
    rw [szR, if_neg hq'] at hz
    rw [if_neg hq', if_neg hq', if_neg hq', if_neg hq', if_neg hq']
    have HZ := hide0 hz
    clear hz hq hq'
    go_enter Tryd.func58, Tryd.ntmps58
    go_wp2_with fail
    (refine (HZ.out _).mono ?_; rintro e w1 ⟨rfl, hb1⟩; obtain ⟨hc1, hf1⟩ := bcell hb1; have hB1 : Below w.heap.size w w1 := up hb1 (by go_grown); have hz1 := hb1.size; (try simp at hz1); (try have hz1_w_p1 : w.heap.size < w1.heap.size + 1 := (by omega)); (try have hz1_w_p2 : w.heap.size < w1.heap.size + 1 + 1 := (by omega)); (try have hz1_w_p3 : w.heap.size < w1.heap.size + 1 + 1 + 1 := (by omega)); (try have hz1_w_0 : w.heap.size < w1.heap.size := (by omega)); (try have hz1_w_1 : w.heap.size + 1 < w1.heap.size := (by omega)); (try have hz1_w_2 : w.heap.size + 1 + 1 < w1.heap.size := (by omega)); (try have hz1_w_3 : w.heap.size + 1 + 1 + 1 < w1.heap.size := (by omega)); (try have hz1_w_4 : w.heap.size + 1 + 1 + 1 + 1 < w1.heap.size := (by omega)); (try have hz1_w_5 : w.heap.size + 1 + 1 + 1 + 1 + 1 < w1.heap.size := (by omega)); (try have hz1_w_6 : w.heap.size + 1 + 1 + 1 + 1 + 1 + 1 < w1.heap.size := (by omega)); have r1_1_0 : w1.cell? ⟨w.heap.size + 1, 0, none⟩ = some (.int .i64 0) := (by go_cell); have r1_1_1 : w1.cell? ⟨w.heap.size + 1, 1, none⟩ = some (.int .i64 0) := (by go_cell); have r1_2_0 : w1.cell? ⟨w.heap.size + 1 + 1, 0, none⟩ = some (.int .i64 0) := (by go_cell); have r1_2_1 : w1.cell? ⟨w.heap.size + 1 + 1, 1, none⟩ = some (.int .i64 0) := (by go_cell))
    go_wp2
    refine bodyPost_ret (res_qqe Tryd.results58 rfl rfl (by repeat' (first | (with_reducible assumption) | (with_reducible refine cellD ?_) | (with_reducible refine cell_same ?_; repeat' (first | exact ⟨_, by with_reducible assumption⟩ | with_reducible refine cell_exD ?_ | with_reducible refine cell_ex ?_)) | (with_reducible refine cell_other ?_ (by dsimp only; omega)))) (by repeat' (first | (with_reducible assumption) | (with_reducible refine cellD ?_) | (with_reducible refine cell_same ?_; repeat' (first | exact ⟨_, by with_reducible assumption⟩ | with_reducible refine cell_exD ?_ | with_reducible refine cell_ex ?_)) | (with_reducible refine cell_other ?_ (by dsimp only; omega)))) (by repeat' (first | (with_reducible assumption) | (with_reducible refine cellD ?_) | (with_reducible refine cell_same ?_; repeat' (first | exact ⟨_, by with_reducible assumption⟩ | with_reducible refine cell_exD ?_ | with_reducible refine cell_ex ?_)) | (with_reducible refine cell_other ?_ (by dsimp only; omega)))) (by repeat' (first | (with_reducible assumption) | (with_reducible refine cellD ?_) | (with_reducible refine cell_same ?_; repeat' (first | exact ⟨_, by with_reducible assumption⟩ | with_reducible refine cell_exD ?_ | with_reducible refine cell_ex ?_)) | (with_reducible refine cell_other ?_ (by dsimp only; omega))))) rfl ⟨rfl, ?_⟩; repeat' (first | (with_reducible exact Below.refl _ _) | (with_reducible assumption) | (with_reducible refine Below.alloc ?_ ?_ _) | (with_reducible refine Below.drew ?_) | (with_reducible refine below_drewN ?_ _) | (with_reducible refine Below.setCell ?_ ?_ _) | go_size)
  | true =>
    unfold cs szR
    rw [szR, if_pos hq] at hz
    rw [if_pos hq, if_pos hq, if_pos hq, if_pos hq, if_pos hq]
    rw [Bool.and_eq_true] at hq
    obtain ⟨hk, hs⟩ := hq
    obtain ⟨r1, r2, r3, r4, r5, r6, r7, r8⟩ := RuleB.of_ok hk
    obtain ⟨s1, s2⟩ := szB_iff.1 hs
    have m1 := mul_bd (a := s) (b := md - mn) (A := 1000000) (B := 1000) (by omega) (by omega) (by omega) (by omega)
    have m2 := mul_bd (a := s) (b := ld - ln) (A := 1000000) (B := 1000) (by omega) (by omega) (by omega) (by omega)
    have HA := hide0 fun (W : World) => rleft_any mn md s W (by omega) (by omega) (by omega) (by omega)
    have HB := hide0 fun (W : World) => rleft_any ln ld s W (by omega) (by omega) (by omega) (by omega)
    have HM := hide0 fun (W : World) => made_ok (s * (md - mn)) md W r7 (by omega) (by omega) (by omega) (cast_low hs r5 r6 r7 r8)
    have HN := hide0 fun (W : World) => made_ok (s * (ld - ln)) ld W r3 (by omega) (by omega) (by omega) (cast_low hs r1 r2 r3 r4)
    have HZ := hide0 hz
    clear hz hk hs
    generalize s * (md - mn) = x at *
    generalize s * (ld - ln) = y at *
    generalize lowN x md = a at *
    generalize lowD x md = b at *
    generalize lowN y ld = c at *
    generalize lowD y ld = f at *
    go_enter Tryd.func58, Tryd.ntmps58
    go_wp2_with fail
    (refine (HZ.out _).mono ?_; rintro e w1 ⟨rfl, hb1⟩; obtain ⟨hc1, hf1⟩ := bcell hb1; have hB1 : Below w.heap.size w w1 := up hb1 (by go_grown); have hz1 := hb1.size; (try simp at hz1); (try have hz1_w_p1 : w.heap.size < w1.heap.size + 1 := (by omega)); (try have hz1_w_p2 : w.heap.size < w1.heap.size + 1 + 1 := (by omega)); (try have hz1_w_p3 : w.heap.size < w1.heap.size + 1 + 1 + 1 := (by omega)); (try have hz1_w_0 : w.heap.size < w1.heap.size := (by omega)); (try have hz1_w_1 : w.heap.size + 1 < w1.heap.size := (by omega)); (try have hz1_w_2 : w.heap.size + 1 + 1 < w1.heap.size := (by omega)); (try have hz1_w_3 : w.heap.size + 1 + 1 + 1 < w1.heap.size := (by omega)); (try have hz1_w_4 : w.heap.size + 1 + 1 + 1 + 1 < w1.heap.size := (by omega)); (try have hz1_w_5 : w.heap.size + 1 + 1 + 1 + 1 + 1 < w1.heap.size := (by omega)); (try have hz1_w_6 : w.heap.size + 1 + 1 + 1 + 1 + 1 + 1 < w1.heap.size := (by omega)); have r1_1_0 : w1.cell? ⟨w.heap.size + 1, 0, none⟩ = some (.int .i64 0) := (by go_cell); have r1_1_1 : w1.cell? ⟨w.heap.size + 1, 1, none⟩ = some (.int .i64 0) := (by go_cell); have r1_2_0 : w1.cell? ⟨w.heap.size + 1 + 1, 0, none⟩ = some (.int .i64 0) := (by go_cell); have r1_2_1 : w1.cell? ⟨w.heap.size + 1 + 1, 1, none⟩ = some (.int .i64 0) := (by go_cell))
    go_wp2_with fail
    (refine (HA.out _).mono ?_; rintro e w2 ⟨rfl, hb2⟩; obtain ⟨hc2, hf2⟩ := bcell hb2; have hB2 : Below w.heap.size w w2 := up hb2 (by go_grown); have hz2 := hb2.size; (try simp at hz2); (try have hz2_w_p1 : w.heap.size < w2.heap.size + 1 := (by omega)); (try have hz2_w_p2 : w.heap.size < w2.heap.size + 1 + 1 := (by omega)); (try have hz2_w_p3 : w.heap.size < w2.heap.size + 1 + 1 + 1 := (by omega)); (try have hz2_w1_p1 : w1.heap.size < w2.heap.size + 1 := (by omega)); (try have hz2_w1_p2 : w1.heap.size < w2.heap.size + 1 + 1 := (by omega)); (try have hz2_w1_p3 : w1.heap.size < w2.heap.size + 1 + 1 + 1 := (by omega)); (try have hz2_w_0 : w.heap.size < w2.heap.size := (by omega)); (try have hz2_w_1 : w.heap.size + 1 < w2.heap.size := (by omega)); (try have hz2_w_2 : w.heap.size + 1 + 1 < w2.heap.size := (by omega)); (try have hz2_w_3 : w.heap.size + 1 + 1 + 1 < w2.heap.size := (by omega)); (try have hz2_w_4 : w.heap.size + 1 + 1 + 1 + 1 < w2.heap.size := (by omega)); (try have hz2_w_5 : w.heap.size + 1 + 1 + 1 + 1 + 1 < w2.heap.size := (by omega)); (try have hz2_w_6 : w.heap.size + 1 + 1 + 1 + 1 + 1 + 1 < w2.heap.size := (by omega)); (try have hz2_w1_0 : w1.heap.size < w2.heap.size := (by omega)); (try have hz2_w1_1 : w1.heap.size + 1 < w2.heap.size := (by omega)); (try have hz2_w1_2 : w1.heap.size + 1 + 1 < w2.heap.size := (by omega)); (try have hz2_w1_3 : w1.heap.size + 1 + 1 + 1 < w2.heap.size := (by omega)); have r2_1_0 : w2.cell? ⟨w.heap.size + 1, 0, none⟩ = some (.int .i64 0) := (by go_cell); have r2_1_1 : w2.cell? ⟨w.heap.size + 1, 1, none⟩ = some (.int .i64 0) := (by go_cell); have r2_2_0 : w2.cell? ⟨w.heap.size + 1 + 1, 0, none⟩ = some (.int .i64 0) := (by go_cell); have r2_2_1 : w2.cell? ⟨w.heap.size + 1 + 1, 1, none⟩ = some (.int .i64 0) := (by go_cell))
    go_wp2_with fail
    (refine (HB.out _).mono ?_; rintro e w3 ⟨rfl, hb3⟩; obtain ⟨hc3, hf3⟩ := bcell hb3; have hB3 : Below w.heap.size w w3 := up hb3 (by go_grown); have hz3 := hb3.size; (try simp at hz3); (try have hz3_w_p1 : w.heap.size < w3.heap.size + 1 := (by omega)); (try have hz3_w_p2 : w.heap.size < w3.heap.size + 1 + 1 := (by omega)); (try have hz3_w_p3 : w.heap.size < w3.heap.size + 1 + 1 + 1 := (by omega)); (try have hz3_w1_p1 : w1.heap.size < w3.heap.size + 1 := (by omega)); (try have hz3_w1_p2 : w1.heap.size < w3.heap.size + 1 + 1 := (by omega)); (try have hz3_w1_p3 : w1.heap.size < w3.heap.size + 1 + 1 + 1 := (by omega)); (try have hz3_w2_p1 : w2.heap.size < w3.heap.size + 1 := (by omega)); (try have hz3_w2_p2 : w2.heap.size < w3.heap.size + 1 + 1 := (by omega)); (try have hz3_w2_p3 : w2.heap.size < w3.heap.size + 1 + 1 + 1 := (by omega)); (try have hz3_w_0 : w.heap.size < w3.heap.size := (by omega)); (try have hz3_w_1 : w.heap.size + 1 < w3.heap.size := (by omega)); (try have hz3_w_2 : w.heap.size + 1 + 1 < w3.heap.size := (by omega)); (try have hz3_w_3 : w.heap.size + 1 + 1 + 1 < w3.heap.size := (by omega)); (try have hz3_w_4 : w.heap.size + 1 + 1 + 1 + 1 < w3.heap.size := (by omega)); (try have hz3_w_5 : w.heap.size + 1 + 1 + 1 + 1 + 1 < w3.heap.size := (by omega)); (try have hz3_w_6 : w.heap.size + 1 + 1 + 1 + 1 + 1 + 1 < w3.heap.size := (by omega)); (try have hz3_w1_0 : w1.heap.size < w3.heap.size := (by omega)); (try have hz3_w1_1 : w1.heap.size + 1 < w3.heap.size := (by omega)); (try have hz3_w1_2 : w1.heap.size + 1 + 1 < w3.heap.size := (by omega)); (try have hz3_w1_3 : w1.heap.size + 1 + 1 + 1 < w3.heap.size := (by omega)); (try have hz3_w2_0 : w2.heap.size < w3.heap.size := (by omega)); (try have hz3_w2_1 : w2.heap.size + 1 < w3.heap.size := (by omega)); (try have hz3_w2_2 : w2.heap.size + 1 + 1 < w3.heap.size := (by omega)); (try have hz3_w2_3 : w2.heap.size + 1 + 1 + 1 < w3.heap.size := (by omega)); have r3_1_0 : w3.cell? ⟨w.heap.size + 1, 0, none⟩ = some (.int .i64 0) := (by go_cell); have r3_1_1 : w3.cell? ⟨w.heap.size + 1, 1, none⟩ = some (.int .i64 0) := (by go_cell); have r3_2_0 : w3.cell? ⟨w.heap.size + 1 + 1, 0, none⟩ = some (.int .i64 0) := (by go_cell); have r3_2_1 : w3.cell? ⟨w.heap.size + 1 + 1, 1, none⟩ = some (.int .i64 0) := (by go_cell))
    go_wp2_with fail
    (refine (HM.out _).mono ?_; rintro e w4 ⟨rfl, hb4⟩; obtain ⟨hc4, hf4⟩ := bcell hb4; have hB4 : Below w.heap.size w w4 := up hb4 (by go_grown); have hz4 := hb4.size; (try simp at hz4); (try have hz4_w_p1 : w.heap.size < w4.heap.size + 1 := (by omega)); (try have hz4_w_p2 : w.heap.size < w4.heap.size + 1 + 1 := (by omega)); (try have hz4_w_p3 : w.heap.size < w4.heap.size + 1 + 1 + 1 := (by omega)); (try have hz4_w1_p1 : w1.heap.size < w4.heap.size + 1 := (by omega)); (try have hz4_w1_p2 : w1.heap.size < w4.heap.size + 1 + 1 := (by omega)); (try have hz4_w1_p3 : w1.heap.size < w4.heap.size + 1 + 1 + 1 := (by omega)); (try have hz4_w2_p1 : w2.heap.size < w4.heap.size + 1 := (by omega)); (try have hz4_w2_p2 : w2.heap.size < w4.heap.size + 1 + 1 := (by omega)); (try have hz4_w2_p3 : w2.heap.size < w4.heap.size + 1 + 1 + 1 := (by omega)); (try have hz4_w3_p1 : w3.heap.size < w4.heap.size + 1 := (by omega)); (try have hz4_w3_p2 : w3.heap.size < w4.heap.size + 1 + 1 := (by omega)); (try have hz4_w3_p3 : w3.heap.size < w4.heap.size + 1 + 1 + 1 := (by omega)); (try have hz4_w_0 : w.heap.size < w4.heap.size := (by omega)); (try have hz4_w_1 : w.heap.size + 1 < w4.heap.size := (by omega)); (try have hz4_w_2 : w.heap.size + 1 + 1 < w4.heap.size := (by omega)); (try have hz4_w_3 : w.heap.size + 1 + 1 + 1 < w4.heap.size := (by omega)); (try have hz4_w_4 : w.heap.size + 1 + 1 + 1 + 1 < w4.heap.size := (by omega)); (try have hz4_w_5 : w.heap.size + 1 + 1 + 1 + 1 + 1 < w4.heap.size := (by omega)); (try have hz4_w_6 : w.heap.size + 1 + 1 + 1 + 1 + 1 + 1 < w4.heap.size := (by omega)); (try have hz4_w1_0 : w1.heap.size < w4.heap.size := (by omega)); (try have hz4_w1_1 : w1.heap.size + 1 < w4.heap.size := (by omega)); (try have hz4_w1_2 : w1.heap.size + 1 + 1 < w4.heap.size := (by omega)); (try have hz4_w1_3 : w1.heap.size + 1 + 1 + 1 < w4.heap.size := (by omega)); (try have hz4_w2_0 : w2.heap.size < w4.heap.size := (by omega)); (try have hz4_w2_1 : w2.heap.size + 1 < w4.heap.size := (by omega)); (try have hz4_w2_2 : w2.heap.size + 1 + 1 < w4.heap.size := (by omega)); (try have hz4_w2_3 : w2.heap.size + 1 + 1 + 1 < w4.heap.size := (by omega)); (try have hz4_w3_0 : w3.heap.size < w4.heap.size := (by omega)); (try have hz4_w3_1 : w3.heap.size + 1 < w4.heap.size := (by omega)); (try have hz4_w3_2 : w3.heap.size + 1 + 1 < w4.heap.size := (by omega)); (try have hz4_w3_3 : w3.heap.size + 1 + 1 + 1 < w4.heap.size := (by omega)); have r4_1_0 : w4.cell? ⟨w.heap.size + 1, 0, none⟩ = some (.int .i64 0) := (by go_cell); have r4_1_1 : w4.cell? ⟨w.heap.size + 1, 1, none⟩ = some (.int .i64 0) := (by go_cell); have r4_2_0 : w4.cell? ⟨w.heap.size + 1 + 1, 0, none⟩ = some (.int .i64 0) := (by go_cell); have r4_2_1 : w4.cell? ⟨w.heap.size + 1 + 1, 1, none⟩ = some (.int .i64 0) := (by go_cell))
    go_wp2_with fail
    (refine (HN.out _).mono ?_; rintro e w5 ⟨rfl, hb5⟩; obtain ⟨hc5, hf5⟩ := bcell hb5; have hB5 : Below w.heap.size w w5 := up hb5 (by go_grown); have hz5 := hb5.size; (try simp at hz5); (try have hz5_w_p1 : w.heap.size < w5.heap.size + 1 := (by omega)); (try have hz5_w_p2 : w.heap.size < w5.heap.size + 1 + 1 := (by omega)); (try have hz5_w_p3 : w.heap.size < w5.heap.size + 1 + 1 + 1 := (by omega)); (try have hz5_w1_p1 : w1.heap.size < w5.heap.size + 1 := (by omega)); (try have hz5_w1_p2 : w1.heap.size < w5.heap.size + 1 + 1 := (by omega)); (try have hz5_w1_p3 : w1.heap.size < w5.heap.size + 1 + 1 + 1 := (by omega)); (try have hz5_w2_p1 : w2.heap.size < w5.heap.size + 1 := (by omega)); (try have hz5_w2_p2 : w2.heap.size < w5.heap.size + 1 + 1 := (by omega)); (try have hz5_w2_p3 : w2.heap.size < w5.heap.size + 1 + 1 + 1 := (by omega)); (try have hz5_w3_p1 : w3.heap.size < w5.heap.size + 1 := (by omega)); (try have hz5_w3_p2 : w3.heap.size < w5.heap.size + 1 + 1 := (by omega)); (try have hz5_w3_p3 : w3.heap.size < w5.heap.size + 1 + 1 + 1 := (by omega)); (try have hz5_w4_p1 : w4.heap.size < w5.heap.size + 1 := (by omega)); (try have hz5_w4_p2 : w4.heap.size < w5.heap.size + 1 + 1 := (by omega)); (try have hz5_w4_p3 : w4.heap.size < w5.heap.size + 1 + 1 + 1 := (by omega)); (try have hz5_w_0 : w.heap.size < w5.heap.size := (by omega)); (try have hz5_w_1 : w.heap.size + 1 < w5.heap.size := (by omega)); (try have hz5_w_2 : w.heap.size + 1 + 1 < w5.heap.size := (by omega)); (try have hz5_w_3 : w.heap.size + 1 + 1 + 1 < w5.heap.size := (by omega)); (try have hz5_w_4 : w.heap.size + 1 + 1 + 1 + 1 < w5.heap.size := (by omega)); (try have hz5_w_5 : w.heap.size + 1 + 1 + 1 + 1 + 1 < w5.heap.size := (by omega)); (try have hz5_w_6 : w.heap.size + 1 + 1 + 1 + 1 + 1 + 1 < w5.heap.size := (by omega)); (try have hz5_w1_0 : w1.heap.size < w5.heap.size := (by omega)); (try have hz5_w1_1 : w1.heap.size + 1 < w5.heap.size := (by omega)); (try have hz5_w1_2 : w1.heap.size + 1 + 1 < w5.heap.size := (by omega)); (try have hz5_w1_3 : w1.heap.size + 1 + 1 + 1 < w5.heap.size := (by omega)); (try have hz5_w2_0 : w2.heap.size < w5.heap.size := (by omega)); (try have hz5_w2_1 : w2.heap.size + 1 < w5.heap.size := (by omega)); (try have hz5_w2_2 : w2.heap.size + 1 + 1 < w5.heap.size := (by omega)); (try have hz5_w2_3 : w2.heap.size + 1 + 1 + 1 < w5.heap.size := (by omega)); (try have hz5_w3_0 : w3.heap.size < w5.heap.size := (by omega)); (try have hz5_w3_1 : w3.heap.size + 1 < w5.heap.size := (by omega)); (try have hz5_w3_2 : w3.heap.size + 1 + 1 < w5.heap.size := (by omega)); (try have hz5_w3_3 : w3.heap.size + 1 + 1 + 1 < w5.heap.size := (by omega)); (try have hz5_w4_0 : w4.heap.size < w5.heap.size := (by omega)); (try have hz5_w4_1 : w4.heap.size + 1 < w5.heap.size := (by omega)); (try have hz5_w4_2 : w4.heap.size + 1 + 1 < w5.heap.size := (by omega)); (try have hz5_w4_3 : w4.heap.size + 1 + 1 + 1 < w5.heap.size := (by omega)); have r5_1_0 : w5.cell? ⟨w.heap.size + 1, 0, none⟩ = some (.int .i64 0) := (by go_cell); have r5_1_1 : w5.cell? ⟨w.heap.size + 1, 1, none⟩ = some (.int .i64 0) := (by go_cell); have r5_2_0 : w5.cell? ⟨w.heap.size + 1 + 1, 0, none⟩ = some (.int .i64 0) := (by go_cell); have r5_2_1 : w5.cell? ⟨w.heap.size + 1 + 1, 1, none⟩ = some (.int .i64 0) := (by go_cell))
    go_wp2_with fail
    go_region_held3 (fun w' => w'.cell? ⟨w4.heap.size, 0, none⟩ = some (.int .i64 a) ∧ w'.cell? ⟨w4.heap.size, 1, none⟩ = some (.int .i64 b) ∧ w'.cell? ⟨w5.heap.size, 0, none⟩ = some (.int .i64 c) ∧ w'.cell? ⟨w5.heap.size, 1, none⟩ = some (.int .i64 f))
      (first | (go_simp; done) | go_keep) (fail)
    go_wp2
    refine bodyPost_ret (res_qqe Tryd.results58 rfl rfl (by go_cell) (by go_cell) (by go_cell) (by go_cell)) rfl ⟨rfl, ?_⟩
    repeat' (first | (with_reducible exact Below.refl _ _) | (with_reducible assumption) | (with_reducible refine Below.alloc ?_ ?_ _) | (with_reducible refine Below.drew ?_) | (with_reducible refine below_drewN ?_ _) | (with_reducible refine Below.setCell ?_ ?_ _) | go_size)

def msB (ln ld mn md s want : Int) : Bool := okR ln ld mn md && (szB s && szB want)
def msN (ln ld mn md s want : Int) : Int := if msB ln ld mn md s want = true then madeN (misN ln ld mn md want s) (misD ln ld mn md want s) else 0
def msD (ln ld mn md s want : Int) : Int := if msB ln ld mn md s want = true then madeD (misN ln ld mn md want s) (misD ln ld mn md want s) else 0
def msE (ln ld mn md s want : Int) : Int := if msB ln ld mn md s want = true then madeE (misN ln ld mn md want s) (misD ln ld mn md want s) else 1
theorem Ms_any (ln ld mn md s want : Int) (w : World) (h1 : W2 ln ld) (h2 : W2 mn md) :
    Calls Tryd.prog 59 #[.agg #[.int .i64 (ln), .int .i64 (ld), .int .i64 (mn), .int .i64 (md)], .int .i64 s, .int .i64 want] w fun e w' => e = .returned (.tuple #[.agg #[.int .i64 (msN ln ld mn md s want), .int .i64 (msD ln ld mn md s want)], .int .i64 (msE ln ld mn md s want)]) ∧ Below w.heap.size w w' := by
  unfold msN msD msE msB
  cases hk : okR ln ld mn md with
  | false => simp only [Bool.false_and, Bool.false_eq_true, if_false]; exact Miss_rule ln ld mn md s want w h1 h2 hk
  | true =>
    cases hs : szB s with
    | false => simp only [Bool.false_and, Bool.and_false, Bool.false_eq_true, if_false]; exact Miss_size ln ld mn md s want w hk hs
    | true =>
      cases ht : szB want with
      | false => simp only [Bool.and_false, Bool.false_eq_true, if_false]; exact Miss_want ln ld mn md s want w hk hs ht
      | true =>
        simp only [Bool.and_self, if_true]
        unfold madeN madeD madeE
        by_cases hl : lowOk (misN ln ld mn md want s) (misD ln ld mn md want s) = true
        · rw [if_pos hl, if_pos hl, if_pos hl]; exact Miss_ok ln ld mn md s want w hk hs ht hl
        · rw [if_neg hl, if_neg hl, if_neg hl]; exact Miss_bad ln ld mn md s want w hk hs ht (by simpa using hl)
theorem rm_mis {ln ld mn md want s : Int} (hl : 1 ≤ ld) (hm : 1 ≤ md) : misN ln ld mn md want s * rmD ln ld mn md want s = rmN ln ld mn md want s * misD ln ld mn md want s := by
  rcases rm_parts ln ld mn md want s with ⟨a1, a2, a3⟩ | ⟨a1, a2, a3⟩ <;> rcases mis_parts (ln := ln) (mn := mn) (want := want) (s := s) hl hm with ⟨b1, b2, b3⟩ | ⟨b1, b2, b3⟩ <;> rw [a1, a2, b1, b2] <;> omega

set_option maxHeartbeats 4000000 in
theorem rMs_any (ln ld mn md s want : Int) (w : World) :
    Calls Tryd.prog 60 #[.agg #[.int .i64 (ln), .int .i64 (ld), .int .i64 (mn), .int .i64 (md)], .int .i64 s, .int .i64 want] w fun e w' => e = .returned (.tuple #[.agg #[.int .i64 (msN ln ld mn md s want), .int .i64 (msD ln ld mn md s want)], .int .i64 (msE ln ld mn md s want)]) ∧ Below w.heap.size w w' := by
  have h1 := fun (W : World) => rsized_any ln ld mn md s W
  have h2 := fun (W : World) => rsized_any ln ld mn md want W
  cases hq : (okR ln ld mn md && szB s) with
  | false =>
    have hq' : ¬ msB ln ld mn md s want = true := by unfold msB; rw [← Bool.and_assoc, hq, Bool.false_and]; exact Bool.false_ne_true
    unfold msN msD msE
    rw [if_neg hq', if_neg hq', if_neg hq']
    rw [szR, if_neg (by rw [hq]; exact Bool.false_ne_true)] at h1
    have H1 := hide0 h1
    clear h1 h2 hq hq'
    go_enter Tryd.func60, Tryd.ntmps60
    go_wp2_with fail
    (refine (H1.out _).mono ?_; rintro e w1 ⟨rfl, hb1⟩; obtain ⟨hc1, hf1⟩ := bcell hb1; have hB1 : Below w.heap.size w w1 := up hb1 (by go_grown); have hz1 := hb1.size; (try simp at hz1); (try have hz1_w_p1 : w.heap.size < w1.heap.size + 1 := (by omega)); (try have hz1_w_p2 : w.heap.size < w1.heap.size + 1 + 1 := (by omega)); (try have hz1_w_p3 : w.heap.size < w1.heap.size + 1 + 1 + 1 := (by omega)); (try have hz1_w_0 : w.heap.size < w1.heap.size := (by omega)); (try have hz1_w_1 : w.heap.size + 1 < w1.heap.size := (by omega)); (try have hz1_w_2 : w.heap.size + 1 + 1 < w1.heap.size := (by omega)); (try have hz1_w_3 : w.heap.size + 1 + 1 + 1 < w1.heap.size := (by omega)); (try have hz1_w_4 : w.heap.size + 1 + 1 + 1 + 1 < w1.heap.size := (by omega)); (try have hz1_w_5 : w.heap.size + 1 + 1 + 1 + 1 + 1 < w1.heap.size := (by omega)); (try have hz1_w_6 : w.heap.size + 1 + 1 + 1 + 1 + 1 + 1 < w1.heap.size := (by omega)); have r1_1_0 : w1.cell? ⟨w.heap.size + 1, 0, none⟩ = some (.int .i64 0) := (by go_cell); have r1_1_1 : w1.cell? ⟨w.heap.size + 1, 1, none⟩ = some (.int .i64 0) := (by go_cell))
    go_wp2
    refine bodyPost_ret (res_qe Tryd.results60 rfl (by repeat' (first | (with_reducible assumption) | (with_reducible refine cellD ?_) | (with_reducible refine cell_same ?_; repeat' (first | exact ⟨_, by with_reducible assumption⟩ | with_reducible refine cell_exD ?_ | with_reducible refine cell_ex ?_)) | (with_reducible refine cell_other ?_ (by dsimp only; omega)))) (by repeat' (first | (with_reducible assumption) | (with_reducible refine cellD ?_) | (with_reducible refine cell_same ?_; repeat' (first | exact ⟨_, by with_reducible assumption⟩ | with_reducible refine cell_exD ?_ | with_reducible refine cell_ex ?_)) | (with_reducible refine cell_other ?_ (by dsimp only; omega))))) rfl ⟨rfl, ?_⟩; repeat' (first | (with_reducible exact Below.refl _ _) | (with_reducible assumption) | (with_reducible refine Below.alloc ?_ ?_ _) | (with_reducible refine Below.drew ?_) | (with_reducible refine below_drewN ?_ _) | (with_reducible refine Below.setCell ?_ ?_ _) | go_size)
  | true =>
    rw [szR, if_pos hq] at h1
    have hq0 := hq
    rw [Bool.and_eq_true] at hq0
    obtain ⟨hk, hs⟩ := hq0
    cases ht : szB want with
    | false =>
      have hq' : ¬ msB ln ld mn md s want = true := by unfold msB; rw [ht, Bool.and_false, Bool.and_false]; exact Bool.false_ne_true
      unfold msN msD msE
      rw [if_neg hq', if_neg hq', if_neg hq']
      rw [szR, if_neg (by rw [ht, Bool.and_false]; exact Bool.false_ne_true)] at h2
      have H1 := hide0 h1
      have H2 := hide0 h2
      clear h1 h2 hq hq' hk hs ht
      go_enter Tryd.func60, Tryd.ntmps60
      go_wp2_with fail
      (refine (H1.out _).mono ?_; rintro e w1 ⟨rfl, hb1⟩; obtain ⟨hc1, hf1⟩ := bcell hb1; have hB1 : Below w.heap.size w w1 := up hb1 (by go_grown); have hz1 := hb1.size; (try simp at hz1); (try have hz1_w_p1 : w.heap.size < w1.heap.size + 1 := (by omega)); (try have hz1_w_p2 : w.heap.size < w1.heap.size + 1 + 1 := (by omega)); (try have hz1_w_p3 : w.heap.size < w1.heap.size + 1 + 1 + 1 := (by omega)); (try have hz1_w_0 : w.heap.size < w1.heap.size := (by omega)); (try have hz1_w_1 : w.heap.size + 1 < w1.heap.size := (by omega)); (try have hz1_w_2 : w.heap.size + 1 + 1 < w1.heap.size := (by omega)); (try have hz1_w_3 : w.heap.size + 1 + 1 + 1 < w1.heap.size := (by omega)); (try have hz1_w_4 : w.heap.size + 1 + 1 + 1 + 1 < w1.heap.size := (by omega)); (try have hz1_w_5 : w.heap.size + 1 + 1 + 1 + 1 + 1 < w1.heap.size := (by omega)); (try have hz1_w_6 : w.heap.size + 1 + 1 + 1 + 1 + 1 + 1 < w1.heap.size := (by omega)); have r1_1_0 : w1.cell? ⟨w.heap.size + 1, 0, none⟩ = some (.int .i64 0) := (by go_cell); have r1_1_1 : w1.cell? ⟨w.heap.size + 1, 1, none⟩ = some (.int .i64 0) := (by go_cell))
      go_wp2_with fail
      (refine (H2.out _).mono ?_; rintro e w2 ⟨rfl, hb2⟩; obtain ⟨hc2, hf2⟩ := bcell hb2; have hB2 : Below w.heap.size w w2 := up hb2 (by go_grown); have hz2 := hb2.size; (try simp at hz2); (try have hz2_w_p1 : w.heap.size < w2.heap.size + 1 := (by omega)); (try have hz2_w_p2 : w.heap.size < w2.heap.size + 1 + 1 := (by omega)); (try have hz2_w_p3 : w.heap.size < w2.heap.size + 1 + 1 + 1 := (by omega)); (try have hz2_w1_p1 : w1.heap.size < w2.heap.size + 1 := (by omega)); (try have hz2_w1_p2 : w1.heap.size < w2.heap.size + 1 + 1 := (by omega)); (try have hz2_w1_p3 : w1.heap.size < w2.heap.size + 1 + 1 + 1 := (by omega)); (try have hz2_w_0 : w.heap.size < w2.heap.size := (by omega)); (try have hz2_w_1 : w.heap.size + 1 < w2.heap.size := (by omega)); (try have hz2_w_2 : w.heap.size + 1 + 1 < w2.heap.size := (by omega)); (try have hz2_w_3 : w.heap.size + 1 + 1 + 1 < w2.heap.size := (by omega)); (try have hz2_w_4 : w.heap.size + 1 + 1 + 1 + 1 < w2.heap.size := (by omega)); (try have hz2_w_5 : w.heap.size + 1 + 1 + 1 + 1 + 1 < w2.heap.size := (by omega)); (try have hz2_w_6 : w.heap.size + 1 + 1 + 1 + 1 + 1 + 1 < w2.heap.size := (by omega)); (try have hz2_w1_0 : w1.heap.size < w2.heap.size := (by omega)); (try have hz2_w1_1 : w1.heap.size + 1 < w2.heap.size := (by omega)); (try have hz2_w1_2 : w1.heap.size + 1 + 1 < w2.heap.size := (by omega)); (try have hz2_w1_3 : w1.heap.size + 1 + 1 + 1 < w2.heap.size := (by omega)); have r2_1_0 : w2.cell? ⟨w.heap.size + 1, 0, none⟩ = some (.int .i64 0) := (by go_cell); have r2_1_1 : w2.cell? ⟨w.heap.size + 1, 1, none⟩ = some (.int .i64 0) := (by go_cell))
      go_wp2
      refine bodyPost_ret (res_qe Tryd.results60 rfl (by repeat' (first | (with_reducible assumption) | (with_reducible refine cellD ?_) | (with_reducible refine cell_same ?_; repeat' (first | exact ⟨_, by with_reducible assumption⟩ | with_reducible refine cell_exD ?_ | with_reducible refine cell_ex ?_)) | (with_reducible refine cell_other ?_ (by dsimp only; omega)))) (by repeat' (first | (with_reducible assumption) | (with_reducible refine cellD ?_) | (with_reducible refine cell_same ?_; repeat' (first | exact ⟨_, by with_reducible assumption⟩ | with_reducible refine cell_exD ?_ | with_reducible refine cell_ex ?_)) | (with_reducible refine cell_other ?_ (by dsimp only; omega))))) rfl ⟨rfl, ?_⟩; repeat' (first | (with_reducible exact Below.refl _ _) | (with_reducible assumption) | (with_reducible refine Below.alloc ?_ ?_ _) | (with_reducible refine Below.drew ?_) | (with_reducible refine below_drewN ?_ _) | (with_reducible refine Below.setCell ?_ ?_ _) | go_size)
    | true =>
      have hq' : msB ln ld mn md s want = true := by unfold msB; rw [hk, hs, ht]; rfl
      have hr := RuleB.of_ok hk
      obtain ⟨r1, r2, r3, r4, r5, r6, r7, r8⟩ := id hr
      unfold msN msD msE
      rw [if_pos hq', if_pos hq', if_pos hq']
      obtain ⟨b1, b2, b3, b4⟩ := rm_bd hr hs ht
      have hd := (misD_bd (ln := ln) (mn := mn) (want := want) (s := s) r3 r7 r4 r8).1
      obtain ⟨e1, e2, e3⟩ := made_eq hd b3 (rm_mis r3 r7)
      rw [e1, e2, e3]
      rw [szR, if_pos (by rw [hk, ht]; rfl)] at h2
      have H1 := hide0 h1
      have H2 := hide0 h2
      have H3 := hide0 fun (W : World) => rmissed_any ln ld mn md s want W hk hs ht
      have H4 := hide0 fun (W : World) => made_any (rmN ln ld mn md want s) (rmD ln ld mn md want s) W b3 (by omega) (by omega) (by omega)
      clear h1 h2 hq hq' hk hs ht hr e1 e2 e3 b1 b2 b3 b4 r1 r2 r3 r4 r5 r6 r7 r8 hd
      generalize rmN ln ld mn md want s = x at *
      generalize rmD ln ld mn md want s = y at *
      go_enter Tryd.func60, Tryd.ntmps60
      go_wp2_with fail
      (refine (H1.out _).mono ?_; rintro e w1 ⟨rfl, hb1⟩; obtain ⟨hc1, hf1⟩ := bcell hb1; have hB1 : Below w.heap.size w w1 := up hb1 (by go_grown); have hz1 := hb1.size; (try simp at hz1); (try have hz1_w_p1 : w.heap.size < w1.heap.size + 1 := (by omega)); (try have hz1_w_p2 : w.heap.size < w1.heap.size + 1 + 1 := (by omega)); (try have hz1_w_p3 : w.heap.size < w1.heap.size + 1 + 1 + 1 := (by omega)); (try have hz1_w_0 : w.heap.size < w1.heap.size := (by omega)); (try have hz1_w_1 : w.heap.size + 1 < w1.heap.size := (by omega)); (try have hz1_w_2 : w.heap.size + 1 + 1 < w1.heap.size := (by omega)); (try have hz1_w_3 : w.heap.size + 1 + 1 + 1 < w1.heap.size := (by omega)); (try have hz1_w_4 : w.heap.size + 1 + 1 + 1 + 1 < w1.heap.size := (by omega)); (try have hz1_w_5 : w.heap.size + 1 + 1 + 1 + 1 + 1 < w1.heap.size := (by omega)); (try have hz1_w_6 : w.heap.size + 1 + 1 + 1 + 1 + 1 + 1 < w1.heap.size := (by omega)); have r1_1_0 : w1.cell? ⟨w.heap.size + 1, 0, none⟩ = some (.int .i64 0) := (by go_cell); have r1_1_1 : w1.cell? ⟨w.heap.size + 1, 1, none⟩ = some (.int .i64 0) := (by go_cell))
      go_wp2_with fail
      (refine (H2.out _).mono ?_; rintro e w2 ⟨rfl, hb2⟩; obtain ⟨hc2, hf2⟩ := bcell hb2; have hB2 : Below w.heap.size w w2 := up hb2 (by go_grown); have hz2 := hb2.size; (try simp at hz2); (try have hz2_w_p1 : w.heap.size < w2.heap.size + 1 := (by omega)); (try have hz2_w_p2 : w.heap.size < w2.heap.size + 1 + 1 := (by omega)); (try have hz2_w_p3 : w.heap.size < w2.heap.size + 1 + 1 + 1 := (by omega)); (try have hz2_w1_p1 : w1.heap.size < w2.heap.size + 1 := (by omega)); (try have hz2_w1_p2 : w1.heap.size < w2.heap.size + 1 + 1 := (by omega)); (try have hz2_w1_p3 : w1.heap.size < w2.heap.size + 1 + 1 + 1 := (by omega)); (try have hz2_w_0 : w.heap.size < w2.heap.size := (by omega)); (try have hz2_w_1 : w.heap.size + 1 < w2.heap.size := (by omega)); (try have hz2_w_2 : w.heap.size + 1 + 1 < w2.heap.size := (by omega)); (try have hz2_w_3 : w.heap.size + 1 + 1 + 1 < w2.heap.size := (by omega)); (try have hz2_w_4 : w.heap.size + 1 + 1 + 1 + 1 < w2.heap.size := (by omega)); (try have hz2_w_5 : w.heap.size + 1 + 1 + 1 + 1 + 1 < w2.heap.size := (by omega)); (try have hz2_w_6 : w.heap.size + 1 + 1 + 1 + 1 + 1 + 1 < w2.heap.size := (by omega)); (try have hz2_w1_0 : w1.heap.size < w2.heap.size := (by omega)); (try have hz2_w1_1 : w1.heap.size + 1 < w2.heap.size := (by omega)); (try have hz2_w1_2 : w1.heap.size + 1 + 1 < w2.heap.size := (by omega)); (try have hz2_w1_3 : w1.heap.size + 1 + 1 + 1 < w2.heap.size := (by omega)); have r2_1_0 : w2.cell? ⟨w.heap.size + 1, 0, none⟩ = some (.int .i64 0) := (by go_cell); have r2_1_1 : w2.cell? ⟨w.heap.size + 1, 1, none⟩ = some (.int .i64 0) := (by go_cell))
      go_wp2_with fail
      (refine (H3.out _).mono ?_; rintro e w3 ⟨rfl, hb3⟩; obtain ⟨hc3, hf3⟩ := bcell hb3; have hB3 : Below w.heap.size w w3 := up hb3 (by go_grown); have hz3 := hb3.size; (try simp at hz3); (try have hz3_w_p1 : w.heap.size < w3.heap.size + 1 := (by omega)); (try have hz3_w_p2 : w.heap.size < w3.heap.size + 1 + 1 := (by omega)); (try have hz3_w_p3 : w.heap.size < w3.heap.size + 1 + 1 + 1 := (by omega)); (try have hz3_w1_p1 : w1.heap.size < w3.heap.size + 1 := (by omega)); (try have hz3_w1_p2 : w1.heap.size < w3.heap.size + 1 + 1 := (by omega)); (try have hz3_w1_p3 : w1.heap.size < w3.heap.size + 1 + 1 + 1 := (by omega)); (try have hz3_w2_p1 : w2.heap.size < w3.heap.size + 1 := (by omega)); (try have hz3_w2_p2 : w2.heap.size < w3.heap.size + 1 + 1 := (by omega)); (try have hz3_w2_p3 : w2.heap.size < w3.heap.size + 1 + 1 + 1 := (by omega)); (try have hz3_w_0 : w.heap.size < w3.heap.size := (by omega)); (try have hz3_w_1 : w.heap.size + 1 < w3.heap.size := (by omega)); (try have hz3_w_2 : w.heap.size + 1 + 1 < w3.heap.size := (by omega)); (try have hz3_w_3 : w.heap.size + 1 + 1 + 1 < w3.heap.size := (by omega)); (try have hz3_w_4 : w.heap.size + 1 + 1 + 1 + 1 < w3.heap.size := (by omega)); (try have hz3_w_5 : w.heap.size + 1 + 1 + 1 + 1 + 1 < w3.heap.size := (by omega)); (try have hz3_w_6 : w.heap.size + 1 + 1 + 1 + 1 + 1 + 1 < w3.heap.size := (by omega)); (try have hz3_w1_0 : w1.heap.size < w3.heap.size := (by omega)); (try have hz3_w1_1 : w1.heap.size + 1 < w3.heap.size := (by omega)); (try have hz3_w1_2 : w1.heap.size + 1 + 1 < w3.heap.size := (by omega)); (try have hz3_w1_3 : w1.heap.size + 1 + 1 + 1 < w3.heap.size := (by omega)); (try have hz3_w2_0 : w2.heap.size < w3.heap.size := (by omega)); (try have hz3_w2_1 : w2.heap.size + 1 < w3.heap.size := (by omega)); (try have hz3_w2_2 : w2.heap.size + 1 + 1 < w3.heap.size := (by omega)); (try have hz3_w2_3 : w2.heap.size + 1 + 1 + 1 < w3.heap.size := (by omega)); have r3_1_0 : w3.cell? ⟨w.heap.size + 1, 0, none⟩ = some (.int .i64 0) := (by go_cell); have r3_1_1 : w3.cell? ⟨w.heap.size + 1, 1, none⟩ = some (.int .i64 0) := (by go_cell))
      go_wp2_with fail
      (refine (H4.out _).mono ?_; rintro e w4 ⟨rfl, hb4⟩; obtain ⟨hc4, hf4⟩ := bcell hb4; have hB4 : Below w.heap.size w w4 := up hb4 (by go_grown); have hz4 := hb4.size; (try simp at hz4); (try have hz4_w_p1 : w.heap.size < w4.heap.size + 1 := (by omega)); (try have hz4_w_p2 : w.heap.size < w4.heap.size + 1 + 1 := (by omega)); (try have hz4_w_p3 : w.heap.size < w4.heap.size + 1 + 1 + 1 := (by omega)); (try have hz4_w1_p1 : w1.heap.size < w4.heap.size + 1 := (by omega)); (try have hz4_w1_p2 : w1.heap.size < w4.heap.size + 1 + 1 := (by omega)); (try have hz4_w1_p3 : w1.heap.size < w4.heap.size + 1 + 1 + 1 := (by omega)); (try have hz4_w2_p1 : w2.heap.size < w4.heap.size + 1 := (by omega)); (try have hz4_w2_p2 : w2.heap.size < w4.heap.size + 1 + 1 := (by omega)); (try have hz4_w2_p3 : w2.heap.size < w4.heap.size + 1 + 1 + 1 := (by omega)); (try have hz4_w3_p1 : w3.heap.size < w4.heap.size + 1 := (by omega)); (try have hz4_w3_p2 : w3.heap.size < w4.heap.size + 1 + 1 := (by omega)); (try have hz4_w3_p3 : w3.heap.size < w4.heap.size + 1 + 1 + 1 := (by omega)); (try have hz4_w_0 : w.heap.size < w4.heap.size := (by omega)); (try have hz4_w_1 : w.heap.size + 1 < w4.heap.size := (by omega)); (try have hz4_w_2 : w.heap.size + 1 + 1 < w4.heap.size := (by omega)); (try have hz4_w_3 : w.heap.size + 1 + 1 + 1 < w4.heap.size := (by omega)); (try have hz4_w_4 : w.heap.size + 1 + 1 + 1 + 1 < w4.heap.size := (by omega)); (try have hz4_w_5 : w.heap.size + 1 + 1 + 1 + 1 + 1 < w4.heap.size := (by omega)); (try have hz4_w_6 : w.heap.size + 1 + 1 + 1 + 1 + 1 + 1 < w4.heap.size := (by omega)); (try have hz4_w1_0 : w1.heap.size < w4.heap.size := (by omega)); (try have hz4_w1_1 : w1.heap.size + 1 < w4.heap.size := (by omega)); (try have hz4_w1_2 : w1.heap.size + 1 + 1 < w4.heap.size := (by omega)); (try have hz4_w1_3 : w1.heap.size + 1 + 1 + 1 < w4.heap.size := (by omega)); (try have hz4_w2_0 : w2.heap.size < w4.heap.size := (by omega)); (try have hz4_w2_1 : w2.heap.size + 1 < w4.heap.size := (by omega)); (try have hz4_w2_2 : w2.heap.size + 1 + 1 < w4.heap.size := (by omega)); (try have hz4_w2_3 : w2.heap.size + 1 + 1 + 1 < w4.heap.size := (by omega)); (try have hz4_w3_0 : w3.heap.size < w4.heap.size := (by omega)); (try have hz4_w3_1 : w3.heap.size + 1 < w4.heap.size := (by omega)); (try have hz4_w3_2 : w3.heap.size + 1 + 1 < w4.heap.size := (by omega)); (try have hz4_w3_3 : w3.heap.size + 1 + 1 + 1 < w4.heap.size := (by omega)); have r4_1_0 : w4.cell? ⟨w.heap.size + 1, 0, none⟩ = some (.int .i64 0) := (by go_cell); have r4_1_1 : w4.cell? ⟨w.heap.size + 1, 1, none⟩ = some (.int .i64 0) := (by go_cell))
      go_wp2
      refine bodyPost_ret (res_qe Tryd.results60 rfl (by repeat' (first | (with_reducible assumption) | (with_reducible refine cellD ?_) | (with_reducible refine cell_same ?_; repeat' (first | exact ⟨_, by with_reducible assumption⟩ | with_reducible refine cell_exD ?_ | with_reducible refine cell_ex ?_)) | (with_reducible refine cell_other ?_ (by dsimp only; omega)))) (by repeat' (first | (with_reducible assumption) | (with_reducible refine cellD ?_) | (with_reducible refine cell_same ?_; repeat' (first | exact ⟨_, by with_reducible assumption⟩ | with_reducible refine cell_exD ?_ | with_reducible refine cell_ex ?_)) | (with_reducible refine cell_other ?_ (by dsimp only; omega))))) rfl ⟨rfl, ?_⟩; repeat' (first | (with_reducible exact Below.refl _ _) | (with_reducible assumption) | (with_reducible refine Below.alloc ?_ ?_ _) | (with_reducible refine Below.drew ?_) | (with_reducible refine below_drewN ?_ _) | (with_reducible refine Below.setCell ?_ ?_ _) | go_size)
end Go.Proofs.YthoinamncekgmaaDoor
