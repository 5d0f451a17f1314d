/-
  The reference's simplest fraction: one Den after the other; there is a simplest one.
-/
import Derived.Test.YthoinamncekgmaaDoorSimple
import Derived.Test.YthoinamncekgmaaDoorFracV
import Derived.Test.YthoinamncekgmaaDoorBrak
set_option linter.unusedVariables false
set_option linter.unusedSimpArgs false
namespace Go.Proofs.YthoinamncekgmaaDoor
open Go Go.RowKit

theorem simplest_at {ln ld hn hd q : Int} (hl : 1 ≤ ld) (hh : 1 ≤ hd) (hq : 1 ≤ q) (h : ceilQ (ln * q) ld ≤ (hn * q) / hd) (hmin : ∀ j, 1 ≤ j → j < q → (hn * j) / hd < ceilQ (ln * j) ld) :
    Simp ln ld hn hd (max (ceilQ (ln * q) ld) (min 0 ((hn * q) / hd))) q := by
  refine ⟨hq, (ceil_le hl).1 (by omega), (fl_le hh).1 (by omega), fun p' q' hq' h1 h2 => ?_⟩
  have k1 := (ceil_le hl).2 h1
  have k2 := (fl_le hh).2 h2
  have hle : q ≤ q' := by
    rcases Int.lt_or_le q' q with hc | hc
    · have := hmin q' hq' hc; omega
    · exact hc
  refine ⟨hle, fun e => ?_⟩
  subst e
  omega
theorem simplest_end {ln ld hn hd : Int} (hl : 1 ≤ ld) (hh : 1 ≤ hd) (hle : ln * hd ≤ hn * ld) : ceilQ (ln * ld) ld ≤ (hn * ld) / hd := by
  have h1 : ceilQ (ln * ld) ld ≤ ln := (ceil_le hl).2 (Int.le_refl _)
  have h2 : ln ≤ (hn * ld) / hd := (fl_le hh).2 hle
  omega
theorem simplest_first (p : Int → Prop) (k : Nat) : (∀ n : Int, 1 ≤ n → n ≤ k → ¬ p n) ∨ ∃ r : Int, 1 ≤ r ∧ r ≤ k ∧ p r ∧ ∀ n, 1 ≤ n → n < r → ¬ p n := by
  induction k with
  | zero => left; intro n h1 h2; omega
  | succ k ih =>
    rcases ih with h | ⟨r, h1, h2, h3, h4⟩
    · by_cases hp : p ((k : Int) + 1)
      · right; exact ⟨(k : Int) + 1, by omega, by omega, hp, fun n n1 n2 => h n n1 (by omega)⟩
      · left; intro n n1 n2
        rcases Int.lt_or_le n ((k : Int) + 1) with hh | hh
        · exact h n n1 (by omega)
        · rw [show n = (k : Int) + 1 by omega]; exact hp
    · right; exact ⟨r, h1, by omega, h3, h4⟩
theorem simplest_ex {ln ld hn hd : Int} (hl : 1 ≤ ld) (hh : 1 ≤ hd) (hle : ln * hd ≤ hn * ld) : ∃ p q, Simp ln ld hn hd p q := by
  rcases simplest_first (fun q => ceilQ (ln * q) ld ≤ (hn * q) / hd) ld.toNat with h | ⟨r, h1, h2, h3, h4⟩
  · exact absurd (simplest_end hl hh hle) (h ld hl (by omega))
  · exact ⟨_, r, simplest_at hl hh h1 h3 fun j j1 j2 => by have := h4 j j1 j2; omega⟩

def ranE (ln ld hn hd : Int) : Int := if bothB ln ld hn hd = true then (if hn * ld < ln * hd then 12 else 0) else 1
set_option maxHeartbeats 1000000 in
theorem ranged_any (ln ld hn hd : Int) (w : World) : Calls Tryd.prog 95 #[.agg #[.int .i64 (ln), .int .i64 (ld)], .agg #[.int .i64 (hn), .int .i64 (hd)]] w fun e w' => e = .returned (.int .i64 (ranE ln ld hn hd)) ∧ Below w.heap.size w w' := by
  have hb := fun (W : World) => rboth_any ln ld hn hd W
  unfold ranE
  by_cases h : bothB ln ld hn hd = true
  · obtain ⟨ha, hb'⟩ := bothB_iff.1 h
    obtain ⟨b1, b2, b3, b4⟩ := cmp_bd ha hb'
    have hm := hide0 fun (W : World) => More_any ln ld hn hd W b1.out b2.out b3.out b4.out
    rw [if_pos h] at hb ⊢
    have HB := hide0 hb
    clear h ha hb' hb b1 b2 b3 b4
    by_cases hc : hn * ld < ln * hd
    · rw [if_pos hc]
      have hz : 0 < ln * hd - hn * ld := by omega
      clear hc
      generalize ln * hd - hn * ld = z at *
      go_enter Tryd.func95, Tryd.ntmps95
      go_wp2_with fail
      (refine (HB.out _).mono ?_; rintro e w1 ⟨rfl, hb1⟩; obtain ⟨hc1, hf1⟩ := bcell hb1; have hB1 : Below w.heap.size w w1 := up hb1 (by go_grown); have hz1 := hb1.size; (try simp at hz1); (try have hz1_w_p1 : w.heap.size < w1.heap.size + 1 := (by omega)); (try have hz1_w_p2 : w.heap.size < w1.heap.size + 1 + 1 := (by omega)); (try have hz1_w_p3 : w.heap.size < w1.heap.size + 1 + 1 + 1 := (by omega)); (try have hz1_w_0 : w.heap.size < w1.heap.size := (by omega)); (try have hz1_w_1 : w.heap.size + 1 < w1.heap.size := (by omega)); (try have hz1_w_2 : w.heap.size + 1 + 1 < w1.heap.size := (by omega)); (try have hz1_w_3 : w.heap.size + 1 + 1 + 1 < w1.heap.size := (by omega)); (try have hz1_w_4 : w.heap.size + 1 + 1 + 1 + 1 < w1.heap.size := (by omega)); (try have hz1_w_5 : w.heap.size + 1 + 1 + 1 + 1 + 1 < w1.heap.size := (by omega)); (try have hz1_w_6 : w.heap.size + 1 + 1 + 1 + 1 + 1 + 1 < w1.heap.size := (by omega)))
      go_wp2_with fail
      (refine (hm.out _).mono ?_; rintro e w2 ⟨rfl, hb2⟩; obtain ⟨hc2, hf2⟩ := bcell hb2; have hB2 : Below w.heap.size w w2 := up hb2 (by go_grown); have hz2 := hb2.size; (try simp at hz2); (try have hz2_w_p1 : w.heap.size < w2.heap.size + 1 := (by omega)); (try have hz2_w_p2 : w.heap.size < w2.heap.size + 1 + 1 := (by omega)); (try have hz2_w_p3 : w.heap.size < w2.heap.size + 1 + 1 + 1 := (by omega)); (try have hz2_w1_p1 : w1.heap.size < w2.heap.size + 1 := (by omega)); (try have hz2_w1_p2 : w1.heap.size < w2.heap.size + 1 + 1 := (by omega)); (try have hz2_w1_p3 : w1.heap.size < w2.heap.size + 1 + 1 + 1 := (by omega)); (try have hz2_w_0 : w.heap.size < w2.heap.size := (by omega)); (try have hz2_w_1 : w.heap.size + 1 < w2.heap.size := (by omega)); (try have hz2_w_2 : w.heap.size + 1 + 1 < w2.heap.size := (by omega)); (try have hz2_w_3 : w.heap.size + 1 + 1 + 1 < w2.heap.size := (by omega)); (try have hz2_w_4 : w.heap.size + 1 + 1 + 1 + 1 < w2.heap.size := (by omega)); (try have hz2_w_5 : w.heap.size + 1 + 1 + 1 + 1 + 1 < w2.heap.size := (by omega)); (try have hz2_w_6 : w.heap.size + 1 + 1 + 1 + 1 + 1 + 1 < w2.heap.size := (by omega)); (try have hz2_w1_0 : w1.heap.size < w2.heap.size := (by omega)); (try have hz2_w1_1 : w1.heap.size + 1 < w2.heap.size := (by omega)); (try have hz2_w1_2 : w1.heap.size + 1 + 1 < w2.heap.size := (by omega)); (try have hz2_w1_3 : w1.heap.size + 1 + 1 + 1 < w2.heap.size := (by omega)))
      go_wp2
      go_returns
      exact ⟨rfl, by go_grown⟩
    · rw [if_neg hc]
      have hz : ln * hd - hn * ld ≤ 0 := by omega
      clear hc
      generalize ln * hd - hn * ld = z at *
      go_enter Tryd.func95, Tryd.ntmps95
      go_wp2_with fail
      (refine (HB.out _).mono ?_; rintro e w1 ⟨rfl, hb1⟩; obtain ⟨hc1, hf1⟩ := bcell hb1; have hB1 : Below w.heap.size w w1 := up hb1 (by go_grown); have hz1 := hb1.size; (try simp at hz1); (try have hz1_w_p1 : w.heap.size < w1.heap.size + 1 := (by omega)); (try have hz1_w_p2 : w.heap.size < w1.heap.size + 1 + 1 := (by omega)); (try have hz1_w_p3 : w.heap.size < w1.heap.size + 1 + 1 + 1 := (by omega)); (try have hz1_w_0 : w.heap.size < w1.heap.size := (by omega)); (try have hz1_w_1 : w.heap.size + 1 < w1.heap.size := (by omega)); (try have hz1_w_2 : w.heap.size + 1 + 1 < w1.heap.size := (by omega)); (try have hz1_w_3 : w.heap.size + 1 + 1 + 1 < w1.heap.size := (by omega)); (try have hz1_w_4 : w.heap.size + 1 + 1 + 1 + 1 < w1.heap.size := (by omega)); (try have hz1_w_5 : w.heap.size + 1 + 1 + 1 + 1 + 1 < w1.heap.size := (by omega)); (try have hz1_w_6 : w.heap.size + 1 + 1 + 1 + 1 + 1 + 1 < w1.heap.size := (by omega)))
      go_wp2_with fail
      (refine (hm.out _).mono ?_; rintro e w2 ⟨rfl, hb2⟩; obtain ⟨hc2, hf2⟩ := bcell hb2; have hB2 : Below w.heap.size w w2 := up hb2 (by go_grown); have hz2 := hb2.size; (try simp at hz2); (try have hz2_w_p1 : w.heap.size < w2.heap.size + 1 := (by omega)); (try have hz2_w_p2 : w.heap.size < w2.heap.size + 1 + 1 := (by omega)); (try have hz2_w_p3 : w.heap.size < w2.heap.size + 1 + 1 + 1 := (by omega)); (try have hz2_w1_p1 : w1.heap.size < w2.heap.size + 1 := (by omega)); (try have hz2_w1_p2 : w1.heap.size < w2.heap.size + 1 + 1 := (by omega)); (try have hz2_w1_p3 : w1.heap.size < w2.heap.size + 1 + 1 + 1 := (by omega)); (try have hz2_w_0 : w.heap.size < w2.heap.size := (by omega)); (try have hz2_w_1 : w.heap.size + 1 < w2.heap.size := (by omega)); (try have hz2_w_2 : w.heap.size + 1 + 1 < w2.heap.size := (by omega)); (try have hz2_w_3 : w.heap.size + 1 + 1 + 1 < w2.heap.size := (by omega)); (try have hz2_w_4 : w.heap.size + 1 + 1 + 1 + 1 < w2.heap.size := (by omega)); (try have hz2_w_5 : w.heap.size + 1 + 1 + 1 + 1 + 1 < w2.heap.size := (by omega)); (try have hz2_w_6 : w.heap.size + 1 + 1 + 1 + 1 + 1 + 1 < w2.heap.size := (by omega)); (try have hz2_w1_0 : w1.heap.size < w2.heap.size := (by omega)); (try have hz2_w1_1 : w1.heap.size + 1 < w2.heap.size := (by omega)); (try have hz2_w1_2 : w1.heap.size + 1 + 1 < w2.heap.size := (by omega)); (try have hz2_w1_3 : w1.heap.size + 1 + 1 + 1 < w2.heap.size := (by omega)))
      go_wp2
      go_returns
      exact ⟨rfl, by go_grown⟩
  · rw [if_neg h] at hb ⊢
    have HB := hide0 hb
    clear h hb
    go_enter Tryd.func95, Tryd.ntmps95
    go_wp2_with fail
    (refine (HB.out _).mono ?_; rintro e w1 ⟨rfl, hb1⟩; obtain ⟨hc1, hf1⟩ := bcell hb1; have hB1 : Below w.heap.size w w1 := up hb1 (by go_grown); have hz1 := hb1.size; (try simp at hz1); (try have hz1_w_p1 : w.heap.size < w1.heap.size + 1 := (by omega)); (try have hz1_w_p2 : w.heap.size < w1.heap.size + 1 + 1 := (by omega)); (try have hz1_w_p3 : w.heap.size < w1.heap.size + 1 + 1 + 1 := (by omega)); (try have hz1_w_0 : w.heap.size < w1.heap.size := (by omega)); (try have hz1_w_1 : w.heap.size + 1 < w1.heap.size := (by omega)); (try have hz1_w_2 : w.heap.size + 1 + 1 < w1.heap.size := (by omega)); (try have hz1_w_3 : w.heap.size + 1 + 1 + 1 < w1.heap.size := (by omega)); (try have hz1_w_4 : w.heap.size + 1 + 1 + 1 + 1 < w1.heap.size := (by omega)); (try have hz1_w_5 : w.heap.size + 1 + 1 + 1 + 1 + 1 < w1.heap.size := (by omega)); (try have hz1_w_6 : w.heap.size + 1 + 1 + 1 + 1 + 1 + 1 < w1.heap.size := (by omega)))
    go_wp2
    go_returns
    exact ⟨rfl, by go_grown⟩
theorem rSimplest_err (ln ld hn hd : Int) (w : World) (he : (ranE ln ld hn hd != 0) = true) :
    Calls Tryd.prog 40 #[.agg #[.int .i64 (ln), .int .i64 (ld)], .agg #[.int .i64 (hn), .int .i64 (hd)]] w fun e w' => e = .returned (.tuple #[.agg #[.int .i64 (0), .int .i64 (0)], .int .i64 (ranE ln ld hn hd)]) ∧ Below w.heap.size w w' := by
  have hr := fun (W : World) => ranged_any ln ld hn hd W
  generalize ranE ln ld hn hd = e at *
  have HR := hide0 hr
  clear hr
  go_enter Tryd.func40, Tryd.ntmps40
  go_wp2_with fail
  (refine (HR.out _).mono ?_; rintro e w1 ⟨rfl, hb1⟩; obtain ⟨hc1, hf1⟩ := bcell hb1; have hB1 : Below w.heap.size w w1 := up hb1 (by go_grown); have hz1 := hb1.size; (try simp at hz1); (try have hz1_w_p1 : w.heap.size < w1.heap.size + 1 := (by omega)); (try have hz1_w_p2 : w.heap.size < w1.heap.size + 1 + 1 := (by omega)); (try have hz1_w_p3 : w.heap.size < w1.heap.size + 1 + 1 + 1 := (by omega)); (try have hz1_w_0 : w.heap.size < w1.heap.size := (by omega)); (try have hz1_w_1 : w.heap.size + 1 < w1.heap.size := (by omega)); (try have hz1_w_2 : w.heap.size + 1 + 1 < w1.heap.size := (by omega)); (try have hz1_w_3 : w.heap.size + 1 + 1 + 1 < w1.heap.size := (by omega)); (try have hz1_w_4 : w.heap.size + 1 + 1 + 1 + 1 < w1.heap.size := (by omega)); (try have hz1_w_5 : w.heap.size + 1 + 1 + 1 + 1 + 1 < w1.heap.size := (by omega)); (try have hz1_w_6 : w.heap.size + 1 + 1 + 1 + 1 + 1 + 1 < w1.heap.size := (by omega)); have r1_2_0 : w1.cell? ⟨w.heap.size + 1 + 1, 0, none⟩ = some (.int .i64 0) := (by go_cell); have r1_2_1 : w1.cell? ⟨w.heap.size + 1 + 1, 1, none⟩ = some (.int .i64 0) := (by go_cell))
  go_wp2
  refine bodyPost_ret (res_qe Tryd.results40 rfl (by repeat' (first | (with_reducible assumption) | (with_reducible refine cellD ?_) | (with_reducible refine cell_same ?_; repeat' (first | exact ⟨_, by with_reducible assumption⟩ | with_reducible refine cell_exD ?_ | with_reducible refine cell_ex ?_)) | (with_reducible refine cell_other ?_ (by dsimp only; omega)))) (by repeat' (first | (with_reducible assumption) | (with_reducible refine cellD ?_) | (with_reducible refine cell_same ?_; repeat' (first | exact ⟨_, by with_reducible assumption⟩ | with_reducible refine cell_exD ?_ | with_reducible refine cell_ex ?_)) | (with_reducible refine cell_other ?_ (by dsimp only; omega))))) rfl ⟨rfl, ?_⟩; repeat' (first | (with_reducible exact Below.refl _ _) | (with_reducible assumption) | (with_reducible refine Below.alloc ?_ ?_ _) | (with_reducible refine Below.drew ?_) | (with_reducible refine below_drewN ?_ _) | (with_reducible refine Below.setCell ?_ ?_ _) | go_size)

set_option maxHeartbeats 4000000 in
theorem rSimplest_ok (ln ld hn hd P Q : Int) (w : World) (ha : okQ ln ld = true) (hb : okQ hn hd = true) (hle : ln * hd ≤ hn * ld) (hS : Simp ln ld hn hd P Q) :
    Calls Tryd.prog 40 #[.agg #[.int .i64 (ln), .int .i64 (ld)], .agg #[.int .i64 (hn), .int .i64 (hd)]] w fun e w' => e = .returned (.tuple #[.agg #[.int .i64 (P), .int .i64 (Q)], .int .i64 0]) ∧ Below w.heap.size w w' := by
  obtain ⟨a1, a2, a3, a4, _⟩ := okQ_iff.1 ha
  obtain ⟨d1, d2, d3, d4, _⟩ := okQ_iff.1 hb
  have hr := fun (W : World) => ranged_any ln ld hn hd W
  rw [show ranE ln ld hn hd = 0 by unfold ranE; rw [if_pos (bothB_iff.2 ⟨ha, hb⟩), if_neg (by omega)]] at hr
  have HR := hide0 hr
  have hc := fun (k : Int) (W : World) (k1 : 1 ≤ k) (k2 : k ≤ 1000000) => (fun mb => rce_any (ln * k) ld W a1 (by omega) (Int.le_trans (by omega) (And.left mb)) (Int.le_trans (And.right mb) (by omega))) (mul_bd (a := ln) (b := k) (A := 1000000000) (B := 1000000) (by omega) (by omega) (by omega) (by omega))
  have hf := fun (k : Int) (W : World) (k1 : 1 ≤ k) (k2 : k ≤ 1000000) => (fun mb => rfl_any (hn * k) hd W d1 (by omega) (Int.le_trans (by omega) (And.left mb)) (Int.le_trans (And.right mb) (by omega))) (mul_bd (a := hn) (b := k) (A := 1000000000) (B := 1000000) (by omega) (by omega) (by omega) (by omega))
  have HC := hide0 hc
  have HF := hide0 hf
  have HI := hide0 (fun (k : Int) (k1 : 1 ≤ k) (h : ceilQ (ln * k) ld ≤ (hn * k) / hd) (hm : ∀ j, 1 ≤ j → j < k → (hn * j) / hd < ceilQ (ln * j) ld) => (simplest_at a1 d1 k1 h hm).unique a1 d1 hS)
  have HE := hide0 (simplest_end a1 d1 hle)
  clear ha hb hle hS hr hc hf
  go_enter Tryd.func40, Tryd.ntmps40
  go_wp2_with fail
  (refine (HR.out _).mono ?_; rintro e w1 ⟨rfl, hb1⟩; obtain ⟨hc1, hf1⟩ := bcell hb1; have hB1 : Below w.heap.size w w1 := up hb1 (by go_grown); have hz1 := hb1.size; (try simp at hz1); (try have hz1_w_p1 : w.heap.size < w1.heap.size + 1 := (by omega)); (try have hz1_w_p2 : w.heap.size < w1.heap.size + 1 + 1 := (by omega)); (try have hz1_w_p3 : w.heap.size < w1.heap.size + 1 + 1 + 1 := (by omega)); (try have hz1_w_0 : w.heap.size < w1.heap.size := (by omega)); (try have hz1_w_1 : w.heap.size + 1 < w1.heap.size := (by omega)); (try have hz1_w_2 : w.heap.size + 1 + 1 < w1.heap.size := (by omega)); (try have hz1_w_3 : w.heap.size + 1 + 1 + 1 < w1.heap.size := (by omega)); (try have hz1_w_4 : w.heap.size + 1 + 1 + 1 + 1 < w1.heap.size := (by omega)); (try have hz1_w_5 : w.heap.size + 1 + 1 + 1 + 1 + 1 < w1.heap.size := (by omega)); (try have hz1_w_6 : w.heap.size + 1 + 1 + 1 + 1 + 1 + 1 < w1.heap.size := (by omega)); have r1_2_0 : w1.cell? ⟨w.heap.size + 1 + 1, 0, none⟩ = some (.int .i64 0) := (by go_cell); have r1_2_1 : w1.cell? ⟨w.heap.size + 1 + 1, 1, none⟩ = some (.int .i64 0) := (by go_cell))
  go_wp2_with fail
  have x0 : w1.cell? ⟨w.heap.size, 0, none⟩ = some (.int .i64 ln) := by go_cell
  have x1 : w1.cell? ⟨w.heap.size, 1, none⟩ = some (.int .i64 ld) := by go_cell
  have x2 : w1.cell? ⟨w.heap.size + 1, 0, none⟩ = some (.int .i64 hn) := by go_cell
  have x3 : w1.cell? ⟨w.heap.size + 1, 1, none⟩ = some (.int .i64 hd) := by go_cell
  have x4 : w1.cell? ⟨w.heap.size + 1 + 1, 0, none⟩ = some (.int .i64 0) := by go_cell
  have x5 : w1.cell? ⟨w.heap.size + 1 + 1, 1, none⟩ = some (.int .i64 0) := by go_cell
  have xf : ∀ o, w1.frozen? ⟨w.heap.size + 1 + 1, o, none⟩ = false := fun o => by first | (go_simp; done) | (rw [hf1 _ _ (by simp)]; simp)
  have z0 : w.heap.size < w1.heap.size := by omega
  have z1 : w.heap.size + 1 < w1.heap.size := by omega
  have z2 : w.heap.size + 1 + 1 < w1.heap.size := by omega
  go_loopw [7] (fun x wr => ∃ k : Int, x = .int .i64 k ∧ 1 ≤ k ∧ k ≤ ld ∧ (∀ j, 1 ≤ j → j < k → (hn * j) / hd < ceilQ (ln * j) ld) ∧ Below w1.heap.size w1 wr) (fun x _ => (ld - intOf x).toNat)
  case atStart => exact ⟨1, rfl, by omega, a1, fun j j1 j2 => by omega, Below.refl _ _⟩
  case round =>
    obtain ⟨k, rfl, k1, k2, hmin, hB⟩ := hrel
    have y0 := (hB.cell (p := ⟨w.heap.size, 0, none⟩) z0).trans x0
    have y1 := (hB.cell (p := ⟨w.heap.size, 1, none⟩) z0).trans x1
    have y2 := (hB.cell (p := ⟨w.heap.size + 1, 0, none⟩) z1).trans x2
    have y3 := (hB.cell (p := ⟨w.heap.size + 1, 1, none⟩) z1).trans x3
    have y4 := (hB.cell (p := ⟨w.heap.size + 1 + 1, 0, none⟩) z2).trans x4
    have y5 := (hB.cell (p := ⟨w.heap.size + 1 + 1, 1, none⟩) z2).trans x5
    have yf := fun o => (hB.frozen (p := ⟨w.heap.size + 1 + 1, o, none⟩) z2).trans (xf o)
    have s0 : w.heap.size + 1 + 1 < wr.heap.size := Nat.lt_of_lt_of_le z2 hB.size
    have hBw : Below w.heap.size w wr := up hB hB1
    clear x0 x1 x2 x3 x4 x5 xf
    have m1 := mul_bd (a := ln) (b := k) (A := 1000000000) (B := 1000000) (by omega) (by omega) (by omega) (by omega)
    have m2 := mul_bd (a := hn) (b := k) (A := 1000000000) (B := 1000000) (by omega) (by omega) (by omega) (by omega)
    have HC2 := hide0 fun (W : World) => HC.out k W k1 (by omega)
    have HF2 := hide0 fun (W : World) => HF.out k W k1 (by omega)
    have e1 : IntKind.i64.wrap (ln * k) = ln * k := IntWalk.i64_in _ (by omega)
    have e2 : IntKind.i64.wrap (hn * k) = hn * k := IntWalk.i64_in _ (by omega)
    by_cases h : ceilQ (ln * k) ld ≤ (hn * k) / hd
    · have hu := HI.out k k1 h hmin
      have HU := hide0 hu
      have hd' : decide ((hn * k) / hd < ceilQ (ln * k) ld) = false := decide_eq_false (by omega)
      clear hmin hu
      generalize ceilQ (ln * k) ld = c at *
      generalize (hn * k) / hd = f at *
      go_wp2
      go_quiet ((first | (go_at_call 86; exact Calls.quiet_of_same (HC2.out _)) | (go_at_call 84; exact Calls.quiet_of_same (HF2.out _))))
      clear e1 e2
      go_wp2_with fail
      refine (HC2.out _).mono ?_
      rintro e w' ⟨rfl, hw⟩
      replace hw := hw.symm
      subst hw
      go_wp2_with fail
      refine (HF2.out _).mono ?_
      rintro e w' ⟨rfl, hw⟩
      replace hw := hw.symm
      subst hw
      go_wp2
      obtain ⟨u1, u2⟩ := HU.out
      subst u1 u2
      have t4 : (wr.drewN nq).cell? ⟨w.heap.size + 1 + 1, 0, none⟩ = some (.int .i64 0) := y4
      have t5 : (wr.drewN nq).cell? ⟨w.heap.size + 1 + 1, 1, none⟩ = some (.int .i64 0) := y5
      refine bodyPost_ret (res_qe Tryd.results40 rfl (by repeat' (first | (with_reducible assumption) | (with_reducible refine cellD ?_) | (with_reducible refine cell_same ?_; repeat' (first | exact ⟨_, by with_reducible assumption⟩ | with_reducible refine cell_exD ?_ | with_reducible refine cell_ex ?_)) | (with_reducible refine cell_other ?_ (by dsimp only; omega)))) (by repeat' (first | (with_reducible assumption) | (with_reducible refine cellD ?_) | (with_reducible refine cell_same ?_; repeat' (first | exact ⟨_, by with_reducible assumption⟩ | with_reducible refine cell_exD ?_ | with_reducible refine cell_ex ?_)) | (with_reducible refine cell_other ?_ (by dsimp only; omega))))) rfl ⟨rfl, ?_⟩; repeat' (first | (with_reducible exact Below.refl _ _) | (with_reducible assumption) | (with_reducible refine Below.alloc ?_ ?_ _) | (with_reducible refine Below.drew ?_) | (with_reducible refine below_drewN ?_ _) | (with_reducible refine Below.setCell ?_ ?_ _) | go_size)
    · have hd' : decide ((hn * k) / hd < ceilQ (ln * k) ld) = true := decide_eq_true (by omega)
      have hne : k ≠ ld := fun hk => h (by rw [hk]; exact HE.out)
      have hmin2 : ∀ j, 1 ≤ j → j < k + 1 → (hn * j) / hd < ceilQ (ln * j) ld := fun j j1 j2 => by
        rcases Int.lt_or_le j k with hh | hh
        · exact hmin j j1 hh
        · rw [show j = k by omega]; omega
      have HM := hide0 hmin2
      clear hmin hmin2
      generalize ceilQ (ln * k) ld = c at *
      generalize (hn * k) / hd = f at *
      go_wp2
      go_quiet ((first | (go_at_call 86; exact Calls.quiet_of_same (HC2.out _)) | (go_at_call 84; exact Calls.quiet_of_same (HF2.out _))))
      clear e1 e2
      go_wp2
      go_roundw
      case rel => exact ⟨k + 1, rfl, by omega, by omega, HM.out, below_drewN hB _⟩
      case measure => simp [intOf]; omega
end Go.Proofs.YthoinamncekgmaaDoor
