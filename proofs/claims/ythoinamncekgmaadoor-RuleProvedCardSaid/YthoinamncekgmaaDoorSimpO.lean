/-
  The statement on simplest fractions at every input.
-/
import Derived.Test.YthoinamncekgmaaDoorSimpC
import Derived.Test.YthoinamncekgmaaDoorChk
import Derived.Test.YthoinamncekgmaaDoorMedV
import Derived.Test.YthoinamncekgmaaDoorField
set_option linter.unusedVariables false
set_option linter.unusedSimpArgs false
namespace Go.Proofs.YthoinamncekgmaaDoor
open Go Go.RowKit

theorem neighbours_at {n d a b : Int} (ha : okQ n d = true) (hd : ¬ d = 1) (b1 : 1 ≤ b) (b2 : b ≤ d - 1) (hdet : n * b - a * d = 1) (w : World) :
    Calls Tryd.prog 96 #[.agg #[.int .i64 (n), .int .i64 (d)]] w fun e w' => e = .returned (.tuple #[.agg #[.int .i64 (a), .int .i64 (b)], .agg #[.int .i64 (n - a), .int .i64 (d - b)]]) ∧ Below w.heap.size w w' := by
  obtain ⟨h1, h2, h3, h4, h5⟩ := okQ_iff.1 ha
  refine (neighbours_any n d w (by omega) h2 h3 h4 h5).mono fun e w' ⟨a', b', he, c1, c2, c3, _, _, hB⟩ => ?_
  obtain ⟨rfl, rfl⟩ := nb_uniq ha b1 b2 hdet c1 c2 c3
  exact ⟨he, hB⟩

/-- A fraction that is no whole number is the simplest one exactly if it lies in the range and its neighbours outside. -/
theorem simplest_nb {ln ld hn hd xn xd a b : Int} (hl : 1 ≤ ld) (hh : 1 ≤ hd) (hx : 1 ≤ xd) (b1 : 1 ≤ b) (b2 : b ≤ xd - 1) (hdet : xn * b - a * xd = 1) :
    Simp ln ld hn hd xn xd ↔ ln * xd - xn * ld ≤ 0 ∧ xn * hd - hn * xd ≤ 0 ∧ a * ld - ln * b < 0 ∧ 0 < (xn - a) * hd - hn * (xd - b) := by
  have e0 : (xn - a) * b - a * (xd - b) = 1 := by rw [Int.sub_mul, Int.mul_sub]; omega
  constructor
  · intro h
    obtain ⟨_, h2, h3, h4⟩ := h
    refine ⟨by omega, by omega, ?_, ?_⟩
    · rcases Int.lt_or_le (a * ld - ln * b) 0 with hc | hc
      · exact hc
      · have k1 : a * xd * hd ≤ (xn * b) * hd := Int.mul_le_mul_of_nonneg_right (by omega) (by omega)
        have k2 : xn * hd * b ≤ hn * xd * b := Int.mul_le_mul_of_nonneg_right (by omega) (by omega)
        have e1 : xn * b * hd = xn * hd * b := by grind
        have e2 : a * xd * hd = a * hd * xd := by grind
        have e3 : hn * xd * b = hn * b * xd := by grind
        have k3 : a * hd ≤ hn * b := Int.le_of_mul_le_mul_right (by omega : a * hd * xd ≤ hn * b * xd) (by omega)
        have := (h4 a b b1 (by omega) k3).1
        omega
    · rcases Int.lt_or_le 0 ((xn - a) * hd - hn * (xd - b)) with hc | hc
      · exact hc
      · have e5 : xn * (xd - b) < (xn - a) * xd := by rw [Int.sub_mul, Int.mul_sub]; omega
        have k1 : xn * (xd - b) * ld ≤ (xn - a) * xd * ld := Int.mul_le_mul_of_nonneg_right (by omega) (by omega)
        have k2 : ln * xd * (xd - b) ≤ xn * ld * (xd - b) := Int.mul_le_mul_of_nonneg_right (by omega) (by omega)
        have e1 : xn * (xd - b) * ld = xn * ld * (xd - b) := by grind
        have e2 : (xn - a) * xd * ld = (xn - a) * ld * xd := by grind
        have e3 : ln * xd * (xd - b) = ln * (xd - b) * xd := by grind
        have k3 : ln * (xd - b) ≤ (xn - a) * ld := Int.le_of_mul_le_mul_right (by omega : ln * (xd - b) * xd ≤ (xn - a) * ld * xd) (by omega)
        have := (h4 (xn - a) (xd - b) (by omega) k3 (by omega)).1
        omega
  · rintro ⟨h1, h2, h3, h4⟩
    have := Simp.of_det (ln := ln) (ld := ld) (hn := hn) (hd := hd) (a := a) (b := b) (c := xn - a) (e := xd - b) hl hh b1 (by omega) e0 (by omega) (by omega)
      (by rw [show b + (xd - b) = xd by omega, show a + (xn - a) = xn by omega]; omega) (by rw [show b + (xd - b) = xd by omega, show a + (xn - a) = xn by omega]; omega)
    rw [show b + (xd - b) = xd by omega, show a + (xn - a) = xn by omega] at this
    exact this

/-- The code's answer to a fraction that is offered as the simplest one. -/
theorem Chk_at {ln ld hn hd xn xd P Q : Int} (ha : okQ ln ld = true) (hb : okQ hn hd = true) (hc : okQ xn xd = true) (hle : ln * hd ≤ hn * ld) (hS : Simp ln ld hn hd P Q) (w : World) :
    Calls Tryd.prog 41 #[.agg #[.int .i64 (ln), .int .i64 (ld)], .agg #[.int .i64 (hn), .int .i64 (hd)], .agg #[.int .i64 (xn), .int .i64 (xd)]] w fun e w' => e = .returned (.tuple #[.bool (xn == P && xd == Q), .int .i64 0]) ∧ Below w.heap.size w w' := by
  obtain ⟨a1, a2, a3, a4, _⟩ := okQ_iff.1 ha
  obtain ⟨d1, d2, d3, d4, _⟩ := okQ_iff.1 hb
  obtain ⟨c1, c2, c3, c4, _⟩ := okQ_iff.1 hc
  by_cases hx : xd = 1
  · subst hx
    rcases Int.lt_or_le (hn / hd) (ceilQ ln ld) with h | h
    · have hq : ¬ Q = 1 := fun hq => by
        subst hq
        obtain ⟨_, s2, s3, _⟩ := hS
        have k1 := (ceil_le (n := ln) (p := P) a1).2 (by omega)
        have k2 := (fl_le (n := hn) (p := P) d1).2 (by omega)
        omega
      rw [show (xn == P && (1 : Int) == Q) = false by rw [Bool.and_eq_false_iff]; right; rw [beq_eq_false_iff_ne]; omega]
      exact Chk_whole_no ln ld hn hd xn w ha hb hc hle h
    · obtain ⟨e1, e2⟩ := (Simp.whole (ln := ln) (ld := ld) (hn := hn) (hd := hd) a1 d1 h).unique a1 d1 hS
      subst e1 e2
      rw [show (xn == max (ceilQ ln ld) (min (hn / hd) 0) && (1 : Int) == 1) = (max (ceilQ ln ld) (min (hn / hd) 0) == xn) by rw [beq_self_eq_true, Bool.and_true, Bool.eq_iff_iff, beq_iff_eq, beq_iff_eq]; exact eq_comm]
      exact Chk_whole_yes ln ld hn hd xn w ha hb hc hle h
  · obtain ⟨a, b, b1, b2, hdet, l1, l2⟩ := nb_ex hc hx
    obtain ⟨p1, p2, p3, p4⟩ := cmp_bd ha hb
    obtain ⟨p5, p6, p7, p8⟩ := cmp_bd ha hc
    obtain ⟨q1, q2, q3, q4⟩ := cmp_bd hc hb
    have v1 := mul_bd (a := a) (b := ld) (A := 1000000000) (B := 1000000) (by omega) (by omega) (by omega) (by omega)
    have v2 := mul_bd (a := ln) (b := b) (A := 1000000000) (B := 1000000) (by omega) (by omega) (by omega) (by omega)
    have v3 := mul_bd (a := xn - a) (b := hd) (A := 2000000000) (B := 1000000) (by omega) (by omega) (by omega) (by omega)
    have v4 := mul_bd (a := hn) (b := xd - b) (A := 1000000000) (B := 1000000) (by omega) (by omega) (by omega) (by omega)
    have hnb := simplest_nb (ln := ln) (ld := ld) (hn := hn) (hd := hd) (xn := xn) (xd := xd) (a := a) (b := b) a1 d1 c1 b1 b2 hdet
    have hiff : (xn == P && xd == Q) = true ↔ Simp ln ld hn hd xn xd := by
      rw [Bool.and_eq_true, beq_iff_eq, beq_iff_eq]
      constructor
      · rintro ⟨rfl, rfl⟩; exact hS
      · intro h; exact h.unique a1 d1 hS
    refine Chk_core ln ld hn hd xn xd a b (ln * hd - hn * ld) (ln * xd - xn * ld) (xn * hd - hn * xd) (a * ld - ln * b) ((xn - a) * hd - hn * (xd - b)) _ w ha hb hc (by simpa using hx) (by omega)
      (fun W => gap_any ln ld hn hd W p1.out p2.out p3.out p4.out) (fun W => gap_any ln ld xn xd W p5.out p6.out p7.out p8.out) (fun W => gap_any xn xd hn hd W q1.out q2.out q3.out q4.out)
      (fun W => neighbours_at hc hx b1 b2 hdet W) (fun W => gap_any a b ln ld W (by omega) (by omega) (by omega) (by omega)) (fun W => gap_any (xn - a) (xd - b) hn hd W (by omega) (by omega) (by omega) (by omega)) ?_
    rw [hnb] at hiff
    unfold ChkWay
    generalize ln * xd - xn * ld = y1 at *
    generalize xn * hd - hn * xd = y2 at *
    generalize a * ld - ln * b = y3 at *
    generalize (xn - a) * hd - hn * (xd - b) = y4 at *
    cases hr : (xn == P && xd == Q) with
    | true =>
      obtain ⟨h1, h2, h3, h4⟩ := hiff.1 hr
      right; right; right; right; exact ⟨h1, h2, h3, h4, rfl⟩
    | false =>
      have hn' : ¬ (y1 ≤ 0 ∧ y2 ≤ 0 ∧ y3 < 0 ∧ 0 < y4) := fun hh => by rw [hiff.2 hh] at hr; cases hr
      rcases Int.lt_or_le 0 y1 with h1 | h1
      · left; exact ⟨h1, rfl⟩
      · rcases Int.lt_or_le 0 y2 with h2 | h2
        · right; left; exact ⟨h1, h2, rfl⟩
        · rcases Int.lt_or_le y3 0 with h3 | h3
          · right; right; right; left; exact ⟨h1, h2, h3, by omega, rfl⟩
          · right; right; left; exact ⟨h1, h2, h3, rfl⟩

set_option maxHeartbeats 2000000 in
theorem rChk_arg (ln ld hn hd xn xd : Int) (w : World) (hk : (okQ ln ld && okQ hn hd && okQ xn xd) = false) :
    Calls Tryd.prog 42 #[.agg #[.int .i64 (ln), .int .i64 (ld)], .agg #[.int .i64 (hn), .int .i64 (hd)], .agg #[.int .i64 (xn), .int .i64 (xd)]] w fun e w' => e = .returned (.tuple #[.bool false, .int .i64 1]) ∧ Below w.heap.size w w' := by
  have hb := fun (W : World) => rboth_any ln ld hn hd W
  have hc := fun (W : World) => rCheck_any xn xd W
  by_cases h : bothB ln ld hn hd = true
  · rw [if_pos h] at hb
    have h' : okQ xn xd = false := by
      unfold bothB at h
      rw [h, Bool.true_and] at hk
      exact hk
    rw [if_neg (by rw [h']; exact Bool.false_ne_true)] at hc
    have HB := hide0 hb
    have HC := hide0 hc
    clear hb hc h h' hk
    go_enter Tryd.func42, Tryd.ntmps42
    go_wp2_with fail
    (refine (HB.out _).mono ?_; rintro e w1 ⟨rfl, hb1⟩; obtain ⟨hc1, hf1⟩ := bcell hb1; have hB1 : Below w.heap.size w w1 := up hb1 (by go_grown); have hz1 := hb1.size; (try simp at hz1); (try have hz1_w_p1 : w.heap.size < w1.heap.size + 1 := (by omega)); (try have hz1_w_p2 : w.heap.size < w1.heap.size + 1 + 1 := (by omega)); (try have hz1_w_p3 : w.heap.size < w1.heap.size + 1 + 1 + 1 := (by omega)); (try have hz1_w_0 : w.heap.size < w1.heap.size := (by omega)); (try have hz1_w_1 : w.heap.size + 1 < w1.heap.size := (by omega)); (try have hz1_w_2 : w.heap.size + 1 + 1 < w1.heap.size := (by omega)); (try have hz1_w_3 : w.heap.size + 1 + 1 + 1 < w1.heap.size := (by omega)); (try have hz1_w_4 : w.heap.size + 1 + 1 + 1 + 1 < w1.heap.size := (by omega)); (try have hz1_w_5 : w.heap.size + 1 + 1 + 1 + 1 + 1 < w1.heap.size := (by omega)); (try have hz1_w_6 : w.heap.size + 1 + 1 + 1 + 1 + 1 + 1 < w1.heap.size := (by omega)))
    go_wp2_with fail
    (refine (HC.out _).mono ?_; rintro e w2 ⟨rfl, hb2⟩; obtain ⟨hc2, hf2⟩ := bcell hb2; have hB2 : Below w.heap.size w w2 := up hb2 (by go_grown); have hz2 := hb2.size; (try simp at hz2); (try have hz2_w_p1 : w.heap.size < w2.heap.size + 1 := (by omega)); (try have hz2_w_p2 : w.heap.size < w2.heap.size + 1 + 1 := (by omega)); (try have hz2_w_p3 : w.heap.size < w2.heap.size + 1 + 1 + 1 := (by omega)); (try have hz2_w1_p1 : w1.heap.size < w2.heap.size + 1 := (by omega)); (try have hz2_w1_p2 : w1.heap.size < w2.heap.size + 1 + 1 := (by omega)); (try have hz2_w1_p3 : w1.heap.size < w2.heap.size + 1 + 1 + 1 := (by omega)); (try have hz2_w_0 : w.heap.size < w2.heap.size := (by omega)); (try have hz2_w_1 : w.heap.size + 1 < w2.heap.size := (by omega)); (try have hz2_w_2 : w.heap.size + 1 + 1 < w2.heap.size := (by omega)); (try have hz2_w_3 : w.heap.size + 1 + 1 + 1 < w2.heap.size := (by omega)); (try have hz2_w_4 : w.heap.size + 1 + 1 + 1 + 1 < w2.heap.size := (by omega)); (try have hz2_w_5 : w.heap.size + 1 + 1 + 1 + 1 + 1 < w2.heap.size := (by omega)); (try have hz2_w_6 : w.heap.size + 1 + 1 + 1 + 1 + 1 + 1 < w2.heap.size := (by omega)); (try have hz2_w1_0 : w1.heap.size < w2.heap.size := (by omega)); (try have hz2_w1_1 : w1.heap.size + 1 < w2.heap.size := (by omega)); (try have hz2_w1_2 : w1.heap.size + 1 + 1 < w2.heap.size := (by omega)); (try have hz2_w1_3 : w1.heap.size + 1 + 1 + 1 < w2.heap.size := (by omega)))
    go_wp2
    go_returns
    exact ⟨rfl, by go_grown⟩
  · rw [if_neg h] at hb
    have HB := hide0 hb
    clear hb hc h hk
    go_enter Tryd.func42, Tryd.ntmps42
    go_wp2_with fail
    (refine (HB.out _).mono ?_; rintro e w1 ⟨rfl, hb1⟩; obtain ⟨hc1, hf1⟩ := bcell hb1; have hB1 : Below w.heap.size w w1 := up hb1 (by go_grown); have hz1 := hb1.size; (try simp at hz1); (try have hz1_w_p1 : w.heap.size < w1.heap.size + 1 := (by omega)); (try have hz1_w_p2 : w.heap.size < w1.heap.size + 1 + 1 := (by omega)); (try have hz1_w_p3 : w.heap.size < w1.heap.size + 1 + 1 + 1 := (by omega)); (try have hz1_w_0 : w.heap.size < w1.heap.size := (by omega)); (try have hz1_w_1 : w.heap.size + 1 < w1.heap.size := (by omega)); (try have hz1_w_2 : w.heap.size + 1 + 1 < w1.heap.size := (by omega)); (try have hz1_w_3 : w.heap.size + 1 + 1 + 1 < w1.heap.size := (by omega)); (try have hz1_w_4 : w.heap.size + 1 + 1 + 1 + 1 < w1.heap.size := (by omega)); (try have hz1_w_5 : w.heap.size + 1 + 1 + 1 + 1 + 1 < w1.heap.size := (by omega)); (try have hz1_w_6 : w.heap.size + 1 + 1 + 1 + 1 + 1 + 1 < w1.heap.size := (by omega)))
    go_wp2
    go_returns
    exact ⟨rfl, by go_grown⟩
set_option maxHeartbeats 2000000 in
theorem rChk_core (ln ld hn hd xn xd p q e : Int) (w : World) (ha : okQ ln ld = true) (hb : okQ hn hd = true) (hc : okQ xn xd = true)
    (hs : ∀ W, Calls Tryd.prog 40 #[.agg #[.int .i64 (ln), .int .i64 (ld)], .agg #[.int .i64 (hn), .int .i64 (hd)]] W fun e' w' => e' = .returned (.tuple #[.agg #[.int .i64 (p), .int .i64 (q)], .int .i64 e]) ∧ Below W.heap.size W w') :
    Calls Tryd.prog 42 #[.agg #[.int .i64 (ln), .int .i64 (ld)], .agg #[.int .i64 (hn), .int .i64 (hd)], .agg #[.int .i64 (xn), .int .i64 (xd)]] w fun e' w' => e' = .returned (.tuple #[.bool (if e = 0 then (xn == p && xd == q) else false), .int .i64 e]) ∧ Below w.heap.size w w' := by
  have hb' := fun (W : World) => rboth_any ln ld hn hd W
  have hc' := fun (W : World) => rCheck_any xn xd W
  rw [if_pos (bothB_iff.2 ⟨ha, hb⟩)] at hb'
  rw [if_pos hc] at hc'
  have HB := hide0 hb'
  have HC := hide0 hc'
  have HS := hide0 hs
  clear hb' hc' ha hb hc hs
  by_cases he : e = 0
  · subst he
    rw [if_pos rfl]
    by_cases h1 : xn = p
    · by_cases h2 : xd = q
      · subst h1 h2
        rw [beq_self_eq_true, beq_self_eq_true, Bool.and_self]
        go_enter Tryd.func42, Tryd.ntmps42
        go_wp2_with fail
        (refine (HB.out _).mono ?_; rintro e w1 ⟨rfl, hb1⟩; obtain ⟨hc1, hf1⟩ := bcell hb1; have hB1 : Below w.heap.size w w1 := up hb1 (by go_grown); have hz1 := hb1.size; (try simp at hz1); (try have hz1_w_p1 : w.heap.size < w1.heap.size + 1 := (by omega)); (try have hz1_w_p2 : w.heap.size < w1.heap.size + 1 + 1 := (by omega)); (try have hz1_w_p3 : w.heap.size < w1.heap.size + 1 + 1 + 1 := (by omega)); (try have hz1_w_0 : w.heap.size < w1.heap.size := (by omega)); (try have hz1_w_1 : w.heap.size + 1 < w1.heap.size := (by omega)); (try have hz1_w_2 : w.heap.size + 1 + 1 < w1.heap.size := (by omega)); (try have hz1_w_3 : w.heap.size + 1 + 1 + 1 < w1.heap.size := (by omega)); (try have hz1_w_4 : w.heap.size + 1 + 1 + 1 + 1 < w1.heap.size := (by omega)); (try have hz1_w_5 : w.heap.size + 1 + 1 + 1 + 1 + 1 < w1.heap.size := (by omega)); (try have hz1_w_6 : w.heap.size + 1 + 1 + 1 + 1 + 1 + 1 < w1.heap.size := (by omega)))
        go_wp2_with fail
        (refine (HC.out _).mono ?_; rintro e w2 ⟨rfl, hb2⟩; obtain ⟨hc2, hf2⟩ := bcell hb2; have hB2 : Below w.heap.size w w2 := up hb2 (by go_grown); have hz2 := hb2.size; (try simp at hz2); (try have hz2_w_p1 : w.heap.size < w2.heap.size + 1 := (by omega)); (try have hz2_w_p2 : w.heap.size < w2.heap.size + 1 + 1 := (by omega)); (try have hz2_w_p3 : w.heap.size < w2.heap.size + 1 + 1 + 1 := (by omega)); (try have hz2_w1_p1 : w1.heap.size < w2.heap.size + 1 := (by omega)); (try have hz2_w1_p2 : w1.heap.size < w2.heap.size + 1 + 1 := (by omega)); (try have hz2_w1_p3 : w1.heap.size < w2.heap.size + 1 + 1 + 1 := (by omega)); (try have hz2_w_0 : w.heap.size < w2.heap.size := (by omega)); (try have hz2_w_1 : w.heap.size + 1 < w2.heap.size := (by omega)); (try have hz2_w_2 : w.heap.size + 1 + 1 < w2.heap.size := (by omega)); (try have hz2_w_3 : w.heap.size + 1 + 1 + 1 < w2.heap.size := (by omega)); (try have hz2_w_4 : w.heap.size + 1 + 1 + 1 + 1 < w2.heap.size := (by omega)); (try have hz2_w_5 : w.heap.size + 1 + 1 + 1 + 1 + 1 < w2.heap.size := (by omega)); (try have hz2_w_6 : w.heap.size + 1 + 1 + 1 + 1 + 1 + 1 < w2.heap.size := (by omega)); (try have hz2_w1_0 : w1.heap.size < w2.heap.size := (by omega)); (try have hz2_w1_1 : w1.heap.size + 1 < w2.heap.size := (by omega)); (try have hz2_w1_2 : w1.heap.size + 1 + 1 < w2.heap.size := (by omega)); (try have hz2_w1_3 : w1.heap.size + 1 + 1 + 1 < w2.heap.size := (by omega)))
        go_wp2_with fail
        (refine (HS.out _).mono ?_; rintro e w3 ⟨rfl, hb3⟩; obtain ⟨hc3, hf3⟩ := bcell hb3; have hB3 : Below w.heap.size w w3 := up hb3 (by go_grown); have hz3 := hb3.size; (try simp at hz3); (try have hz3_w_p1 : w.heap.size < w3.heap.size + 1 := (by omega)); (try have hz3_w_p2 : w.heap.size < w3.heap.size + 1 + 1 := (by omega)); (try have hz3_w_p3 : w.heap.size < w3.heap.size + 1 + 1 + 1 := (by omega)); (try have hz3_w1_p1 : w1.heap.size < w3.heap.size + 1 := (by omega)); (try have hz3_w1_p2 : w1.heap.size < w3.heap.size + 1 + 1 := (by omega)); (try have hz3_w1_p3 : w1.heap.size < w3.heap.size + 1 + 1 + 1 := (by omega)); (try have hz3_w2_p1 : w2.heap.size < w3.heap.size + 1 := (by omega)); (try have hz3_w2_p2 : w2.heap.size < w3.heap.size + 1 + 1 := (by omega)); (try have hz3_w2_p3 : w2.heap.size < w3.heap.size + 1 + 1 + 1 := (by omega)); (try have hz3_w_0 : w.heap.size < w3.heap.size := (by omega)); (try have hz3_w_1 : w.heap.size + 1 < w3.heap.size := (by omega)); (try have hz3_w_2 : w.heap.size + 1 + 1 < w3.heap.size := (by omega)); (try have hz3_w_3 : w.heap.size + 1 + 1 + 1 < w3.heap.size := (by omega)); (try have hz3_w_4 : w.heap.size + 1 + 1 + 1 + 1 < w3.heap.size := (by omega)); (try have hz3_w_5 : w.heap.size + 1 + 1 + 1 + 1 + 1 < w3.heap.size := (by omega)); (try have hz3_w_6 : w.heap.size + 1 + 1 + 1 + 1 + 1 + 1 < w3.heap.size := (by omega)); (try have hz3_w1_0 : w1.heap.size < w3.heap.size := (by omega)); (try have hz3_w1_1 : w1.heap.size + 1 < w3.heap.size := (by omega)); (try have hz3_w1_2 : w1.heap.size + 1 + 1 < w3.heap.size := (by omega)); (try have hz3_w1_3 : w1.heap.size + 1 + 1 + 1 < w3.heap.size := (by omega)); (try have hz3_w2_0 : w2.heap.size < w3.heap.size := (by omega)); (try have hz3_w2_1 : w2.heap.size + 1 < w3.heap.size := (by omega)); (try have hz3_w2_2 : w2.heap.size + 1 + 1 < w3.heap.size := (by omega)); (try have hz3_w2_3 : w2.heap.size + 1 + 1 + 1 < w3.heap.size := (by omega)))
        go_wp2
        go_returns
        exact ⟨rfl, by go_grown⟩
      · have h2' : (xd == q) = false := by simpa using h2
        subst h1
        rw [h2', Bool.and_false]
        clear h2
        go_enter Tryd.func42, Tryd.ntmps42
        go_wp2_with fail
        (refine (HB.out _).mono ?_; rintro e w1 ⟨rfl, hb1⟩; obtain ⟨hc1, hf1⟩ := bcell hb1; have hB1 : Below w.heap.size w w1 := up hb1 (by go_grown); have hz1 := hb1.size; (try simp at hz1); (try have hz1_w_p1 : w.heap.size < w1.heap.size + 1 := (by omega)); (try have hz1_w_p2 : w.heap.size < w1.heap.size + 1 + 1 := (by omega)); (try have hz1_w_p3 : w.heap.size < w1.heap.size + 1 + 1 + 1 := (by omega)); (try have hz1_w_0 : w.heap.size < w1.heap.size := (by omega)); (try have hz1_w_1 : w.heap.size + 1 < w1.heap.size := (by omega)); (try have hz1_w_2 : w.heap.size + 1 + 1 < w1.heap.size := (by omega)); (try have hz1_w_3 : w.heap.size + 1 + 1 + 1 < w1.heap.size := (by omega)); (try have hz1_w_4 : w.heap.size + 1 + 1 + 1 + 1 < w1.heap.size := (by omega)); (try have hz1_w_5 : w.heap.size + 1 + 1 + 1 + 1 + 1 < w1.heap.size := (by omega)); (try have hz1_w_6 : w.heap.size + 1 + 1 + 1 + 1 + 1 + 1 < w1.heap.size := (by omega)))
        go_wp2_with fail
        (refine (HC.out _).mono ?_; rintro e w2 ⟨rfl, hb2⟩; obtain ⟨hc2, hf2⟩ := bcell hb2; have hB2 : Below w.heap.size w w2 := up hb2 (by go_grown); have hz2 := hb2.size; (try simp at hz2); (try have hz2_w_p1 : w.heap.size < w2.heap.size + 1 := (by omega)); (try have hz2_w_p2 : w.heap.size < w2.heap.size + 1 + 1 := (by omega)); (try have hz2_w_p3 : w.heap.size < w2.heap.size + 1 + 1 + 1 := (by omega)); (try have hz2_w1_p1 : w1.heap.size < w2.heap.size + 1 := (by omega)); (try have hz2_w1_p2 : w1.heap.size < w2.heap.size + 1 + 1 := (by omega)); (try have hz2_w1_p3 : w1.heap.size < w2.heap.size + 1 + 1 + 1 := (by omega)); (try have hz2_w_0 : w.heap.size < w2.heap.size := (by omega)); (try have hz2_w_1 : w.heap.size + 1 < w2.heap.size := (by omega)); (try have hz2_w_2 : w.heap.size + 1 + 1 < w2.heap.size := (by omega)); (try have hz2_w_3 : w.heap.size + 1 + 1 + 1 < w2.heap.size := (by omega)); (try have hz2_w_4 : w.heap.size + 1 + 1 + 1 + 1 < w2.heap.size := (by omega)); (try have hz2_w_5 : w.heap.size + 1 + 1 + 1 + 1 + 1 < w2.heap.size := (by omega)); (try have hz2_w_6 : w.heap.size + 1 + 1 + 1 + 1 + 1 + 1 < w2.heap.size := (by omega)); (try have hz2_w1_0 : w1.heap.size < w2.heap.size := (by omega)); (try have hz2_w1_1 : w1.heap.size + 1 < w2.heap.size := (by omega)); (try have hz2_w1_2 : w1.heap.size + 1 + 1 < w2.heap.size := (by omega)); (try have hz2_w1_3 : w1.heap.size + 1 + 1 + 1 < w2.heap.size := (by omega)))
        go_wp2_with fail
        (refine (HS.out _).mono ?_; rintro e w3 ⟨rfl, hb3⟩; obtain ⟨hc3, hf3⟩ := bcell hb3; have hB3 : Below w.heap.size w w3 := up hb3 (by go_grown); have hz3 := hb3.size; (try simp at hz3); (try have hz3_w_p1 : w.heap.size < w3.heap.size + 1 := (by omega)); (try have hz3_w_p2 : w.heap.size < w3.heap.size + 1 + 1 := (by omega)); (try have hz3_w_p3 : w.heap.size < w3.heap.size + 1 + 1 + 1 := (by omega)); (try have hz3_w1_p1 : w1.heap.size < w3.heap.size + 1 := (by omega)); (try have hz3_w1_p2 : w1.heap.size < w3.heap.size + 1 + 1 := (by omega)); (try have hz3_w1_p3 : w1.heap.size < w3.heap.size + 1 + 1 + 1 := (by omega)); (try have hz3_w2_p1 : w2.heap.size < w3.heap.size + 1 := (by omega)); (try have hz3_w2_p2 : w2.heap.size < w3.heap.size + 1 + 1 := (by omega)); (try have hz3_w2_p3 : w2.heap.size < w3.heap.size + 1 + 1 + 1 := (by omega)); (try have hz3_w_0 : w.heap.size < w3.heap.size := (by omega)); (try have hz3_w_1 : w.heap.size + 1 < w3.heap.size := (by omega)); (try have hz3_w_2 : w.heap.size + 1 + 1 < w3.heap.size := (by omega)); (try have hz3_w_3 : w.heap.size + 1 + 1 + 1 < w3.heap.size := (by omega)); (try have hz3_w_4 : w.heap.size + 1 + 1 + 1 + 1 < w3.heap.size := (by omega)); (try have hz3_w_5 : w.heap.size + 1 + 1 + 1 + 1 + 1 < w3.heap.size := (by omega)); (try have hz3_w_6 : w.heap.size + 1 + 1 + 1 + 1 + 1 + 1 < w3.heap.size := (by omega)); (try have hz3_w1_0 : w1.heap.size < w3.heap.size := (by omega)); (try have hz3_w1_1 : w1.heap.size + 1 < w3.heap.size := (by omega)); (try have hz3_w1_2 : w1.heap.size + 1 + 1 < w3.heap.size := (by omega)); (try have hz3_w1_3 : w1.heap.size + 1 + 1 + 1 < w3.heap.size := (by omega)); (try have hz3_w2_0 : w2.heap.size < w3.heap.size := (by omega)); (try have hz3_w2_1 : w2.heap.size + 1 < w3.heap.size := (by omega)); (try have hz3_w2_2 : w2.heap.size + 1 + 1 < w3.heap.size := (by omega)); (try have hz3_w2_3 : w2.heap.size + 1 + 1 + 1 < w3.heap.size := (by omega)))
        go_wp2
        go_returns
        exact ⟨rfl, by go_grown⟩
    · have h1' : (xn == p) = false := by simpa using h1
      rw [h1', Bool.false_and]
      clear h1
      go_enter Tryd.func42, Tryd.ntmps42
      go_wp2_with fail
      (refine (HB.out _).mono ?_; rintro e w1 ⟨rfl, hb1⟩; obtain ⟨hc1, hf1⟩ := bcell hb1; have hB1 : Below w.heap.size w w1 := up hb1 (by go_grown); have hz1 := hb1.size; (try simp at hz1); (try have hz1_w_p1 : w.heap.size < w1.heap.size + 1 := (by omega)); (try have hz1_w_p2 : w.heap.size < w1.heap.size + 1 + 1 := (by omega)); (try have hz1_w_p3 : w.heap.size < w1.heap.size + 1 + 1 + 1 := (by omega)); (try have hz1_w_0 : w.heap.size < w1.heap.size := (by omega)); (try have hz1_w_1 : w.heap.size + 1 < w1.heap.size := (by omega)); (try have hz1_w_2 : w.heap.size + 1 + 1 < w1.heap.size := (by omega)); (try have hz1_w_3 : w.heap.size + 1 + 1 + 1 < w1.heap.size := (by omega)); (try have hz1_w_4 : w.heap.size + 1 + 1 + 1 + 1 < w1.heap.size := (by omega)); (try have hz1_w_5 : w.heap.size + 1 + 1 + 1 + 1 + 1 < w1.heap.size := (by omega)); (try have hz1_w_6 : w.heap.size + 1 + 1 + 1 + 1 + 1 + 1 < w1.heap.size := (by omega)))
      go_wp2_with fail
      (refine (HC.out _).mono ?_; rintro e w2 ⟨rfl, hb2⟩; obtain ⟨hc2, hf2⟩ := bcell hb2; have hB2 : Below w.heap.size w w2 := up hb2 (by go_grown); have hz2 := hb2.size; (try simp at hz2); (try have hz2_w_p1 : w.heap.size < w2.heap.size + 1 := (by omega)); (try have hz2_w_p2 : w.heap.size < w2.heap.size + 1 + 1 := (by omega)); (try have hz2_w_p3 : w.heap.size < w2.heap.size + 1 + 1 + 1 := (by omega)); (try have hz2_w1_p1 : w1.heap.size < w2.heap.size + 1 := (by omega)); (try have hz2_w1_p2 : w1.heap.size < w2.heap.size + 1 + 1 := (by omega)); (try have hz2_w1_p3 : w1.heap.size < w2.heap.size + 1 + 1 + 1 := (by omega)); (try have hz2_w_0 : w.heap.size < w2.heap.size := (by omega)); (try have hz2_w_1 : w.heap.size + 1 < w2.heap.size := (by omega)); (try have hz2_w_2 : w.heap.size + 1 + 1 < w2.heap.size := (by omega)); (try have hz2_w_3 : w.heap.size + 1 + 1 + 1 < w2.heap.size := (by omega)); (try have hz2_w_4 : w.heap.size + 1 + 1 + 1 + 1 < w2.heap.size := (by omega)); (try have hz2_w_5 : w.heap.size + 1 + 1 + 1 + 1 + 1 < w2.heap.size := (by omega)); (try have hz2_w_6 : w.heap.size + 1 + 1 + 1 + 1 + 1 + 1 < w2.heap.size := (by omega)); (try have hz2_w1_0 : w1.heap.size < w2.heap.size := (by omega)); (try have hz2_w1_1 : w1.heap.size + 1 < w2.heap.size := (by omega)); (try have hz2_w1_2 : w1.heap.size + 1 + 1 < w2.heap.size := (by omega)); (try have hz2_w1_3 : w1.heap.size + 1 + 1 + 1 < w2.heap.size := (by omega)))
      go_wp2_with fail
      (refine (HS.out _).mono ?_; rintro e w3 ⟨rfl, hb3⟩; obtain ⟨hc3, hf3⟩ := bcell hb3; have hB3 : Below w.heap.size w w3 := up hb3 (by go_grown); have hz3 := hb3.size; (try simp at hz3); (try have hz3_w_p1 : w.heap.size < w3.heap.size + 1 := (by omega)); (try have hz3_w_p2 : w.heap.size < w3.heap.size + 1 + 1 := (by omega)); (try have hz3_w_p3 : w.heap.size < w3.heap.size + 1 + 1 + 1 := (by omega)); (try have hz3_w1_p1 : w1.heap.size < w3.heap.size + 1 := (by omega)); (try have hz3_w1_p2 : w1.heap.size < w3.heap.size + 1 + 1 := (by omega)); (try have hz3_w1_p3 : w1.heap.size < w3.heap.size + 1 + 1 + 1 := (by omega)); (try have hz3_w2_p1 : w2.heap.size < w3.heap.size + 1 := (by omega)); (try have hz3_w2_p2 : w2.heap.size < w3.heap.size + 1 + 1 := (by omega)); (try have hz3_w2_p3 : w2.heap.size < w3.heap.size + 1 + 1 + 1 := (by omega)); (try have hz3_w_0 : w.heap.size < w3.heap.size := (by omega)); (try have hz3_w_1 : w.heap.size + 1 < w3.heap.size := (by omega)); (try have hz3_w_2 : w.heap.size + 1 + 1 < w3.heap.size := (by omega)); (try have hz3_w_3 : w.heap.size + 1 + 1 + 1 < w3.heap.size := (by omega)); (try have hz3_w_4 : w.heap.size + 1 + 1 + 1 + 1 < w3.heap.size := (by omega)); (try have hz3_w_5 : w.heap.size + 1 + 1 + 1 + 1 + 1 < w3.heap.size := (by omega)); (try have hz3_w_6 : w.heap.size + 1 + 1 + 1 + 1 + 1 + 1 < w3.heap.size := (by omega)); (try have hz3_w1_0 : w1.heap.size < w3.heap.size := (by omega)); (try have hz3_w1_1 : w1.heap.size + 1 < w3.heap.size := (by omega)); (try have hz3_w1_2 : w1.heap.size + 1 + 1 < w3.heap.size := (by omega)); (try have hz3_w1_3 : w1.heap.size + 1 + 1 + 1 < w3.heap.size := (by omega)); (try have hz3_w2_0 : w2.heap.size < w3.heap.size := (by omega)); (try have hz3_w2_1 : w2.heap.size + 1 < w3.heap.size := (by omega)); (try have hz3_w2_2 : w2.heap.size + 1 + 1 < w3.heap.size := (by omega)); (try have hz3_w2_3 : w2.heap.size + 1 + 1 + 1 < w3.heap.size := (by omega)))
      go_wp2
      go_returns
      exact ⟨rfl, by go_grown⟩
  · rw [if_neg he]
    have he' : (e != 0) = true := by simpa using he
    clear he
    go_enter Tryd.func42, Tryd.ntmps42
    go_wp2_with fail
    (refine (HB.out _).mono ?_; rintro e w1 ⟨rfl, hb1⟩; obtain ⟨hc1, hf1⟩ := bcell hb1; have hB1 : Below w.heap.size w w1 := up hb1 (by go_grown); have hz1 := hb1.size; (try simp at hz1); (try have hz1_w_p1 : w.heap.size < w1.heap.size + 1 := (by omega)); (try have hz1_w_p2 : w.heap.size < w1.heap.size + 1 + 1 := (by omega)); (try have hz1_w_p3 : w.heap.size < w1.heap.size + 1 + 1 + 1 := (by omega)); (try have hz1_w_0 : w.heap.size < w1.heap.size := (by omega)); (try have hz1_w_1 : w.heap.size + 1 < w1.heap.size := (by omega)); (try have hz1_w_2 : w.heap.size + 1 + 1 < w1.heap.size := (by omega)); (try have hz1_w_3 : w.heap.size + 1 + 1 + 1 < w1.heap.size := (by omega)); (try have hz1_w_4 : w.heap.size + 1 + 1 + 1 + 1 < w1.heap.size := (by omega)); (try have hz1_w_5 : w.heap.size + 1 + 1 + 1 + 1 + 1 < w1.heap.size := (by omega)); (try have hz1_w_6 : w.heap.size + 1 + 1 + 1 + 1 + 1 + 1 < w1.heap.size := (by omega)))
    go_wp2_with fail
    (refine (HC.out _).mono ?_; rintro e w2 ⟨rfl, hb2⟩; obtain ⟨hc2, hf2⟩ := bcell hb2; have hB2 : Below w.heap.size w w2 := up hb2 (by go_grown); have hz2 := hb2.size; (try simp at hz2); (try have hz2_w_p1 : w.heap.size < w2.heap.size + 1 := (by omega)); (try have hz2_w_p2 : w.heap.size < w2.heap.size + 1 + 1 := (by omega)); (try have hz2_w_p3 : w.heap.size < w2.heap.size + 1 + 1 + 1 := (by omega)); (try have hz2_w1_p1 : w1.heap.size < w2.heap.size + 1 := (by omega)); (try have hz2_w1_p2 : w1.heap.size < w2.heap.size + 1 + 1 := (by omega)); (try have hz2_w1_p3 : w1.heap.size < w2.heap.size + 1 + 1 + 1 := (by omega)); (try have hz2_w_0 : w.heap.size < w2.heap.size := (by omega)); (try have hz2_w_1 : w.heap.size + 1 < w2.heap.size := (by omega)); (try have hz2_w_2 : w.heap.size + 1 + 1 < w2.heap.size := (by omega)); (try have hz2_w_3 : w.heap.size + 1 + 1 + 1 < w2.heap.size := (by omega)); (try have hz2_w_4 : w.heap.size + 1 + 1 + 1 + 1 < w2.heap.size := (by omega)); (try have hz2_w_5 : w.heap.size + 1 + 1 + 1 + 1 + 1 < w2.heap.size := (by omega)); (try have hz2_w_6 : w.heap.size + 1 + 1 + 1 + 1 + 1 + 1 < w2.heap.size := (by omega)); (try have hz2_w1_0 : w1.heap.size < w2.heap.size := (by omega)); (try have hz2_w1_1 : w1.heap.size + 1 < w2.heap.size := (by omega)); (try have hz2_w1_2 : w1.heap.size + 1 + 1 < w2.heap.size := (by omega)); (try have hz2_w1_3 : w1.heap.size + 1 + 1 + 1 < w2.heap.size := (by omega)))
    go_wp2_with fail
    (refine (HS.out _).mono ?_; rintro e w3 ⟨rfl, hb3⟩; obtain ⟨hc3, hf3⟩ := bcell hb3; have hB3 : Below w.heap.size w w3 := up hb3 (by go_grown); have hz3 := hb3.size; (try simp at hz3); (try have hz3_w_p1 : w.heap.size < w3.heap.size + 1 := (by omega)); (try have hz3_w_p2 : w.heap.size < w3.heap.size + 1 + 1 := (by omega)); (try have hz3_w_p3 : w.heap.size < w3.heap.size + 1 + 1 + 1 := (by omega)); (try have hz3_w1_p1 : w1.heap.size < w3.heap.size + 1 := (by omega)); (try have hz3_w1_p2 : w1.heap.size < w3.heap.size + 1 + 1 := (by omega)); (try have hz3_w1_p3 : w1.heap.size < w3.heap.size + 1 + 1 + 1 := (by omega)); (try have hz3_w2_p1 : w2.heap.size < w3.heap.size + 1 := (by omega)); (try have hz3_w2_p2 : w2.heap.size < w3.heap.size + 1 + 1 := (by omega)); (try have hz3_w2_p3 : w2.heap.size < w3.heap.size + 1 + 1 + 1 := (by omega)); (try have hz3_w_0 : w.heap.size < w3.heap.size := (by omega)); (try have hz3_w_1 : w.heap.size + 1 < w3.heap.size := (by omega)); (try have hz3_w_2 : w.heap.size + 1 + 1 < w3.heap.size := (by omega)); (try have hz3_w_3 : w.heap.size + 1 + 1 + 1 < w3.heap.size := (by omega)); (try have hz3_w_4 : w.heap.size + 1 + 1 + 1 + 1 < w3.heap.size := (by omega)); (try have hz3_w_5 : w.heap.size + 1 + 1 + 1 + 1 + 1 < w3.heap.size := (by omega)); (try have hz3_w_6 : w.heap.size + 1 + 1 + 1 + 1 + 1 + 1 < w3.heap.size := (by omega)); (try have hz3_w1_0 : w1.heap.size < w3.heap.size := (by omega)); (try have hz3_w1_1 : w1.heap.size + 1 < w3.heap.size := (by omega)); (try have hz3_w1_2 : w1.heap.size + 1 + 1 < w3.heap.size := (by omega)); (try have hz3_w1_3 : w1.heap.size + 1 + 1 + 1 < w3.heap.size := (by omega)); (try have hz3_w2_0 : w2.heap.size < w3.heap.size := (by omega)); (try have hz3_w2_1 : w2.heap.size + 1 < w3.heap.size := (by omega)); (try have hz3_w2_2 : w2.heap.size + 1 + 1 < w3.heap.size := (by omega)); (try have hz3_w2_3 : w2.heap.size + 1 + 1 + 1 < w3.heap.size := (by omega)))
    go_wp2
    go_returns
    exact ⟨rfl, by go_grown⟩

set_option maxRecDepth 100000 in
set_option maxHeartbeats 4000000 in
theorem simplest_core (ln ld hn hd xn xd p q e f : Int) (r : Bool) (w : World) (ht : Pow10 w) (hl : AliveOk)
    (hA : ∀ W, Calls Tryd.prog 39 #[.agg #[.int .i64 (ln), .int .i64 (ld)], .agg #[.int .i64 (hn), .int .i64 (hd)]] W fun e' w' => e' = .returned (.tuple #[.agg #[.int .i64 (p), .int .i64 (q)], .int .i64 e]) ∧ Below W.heap.size W w')
    (hA' : ∀ W, Calls Tryd.prog 40 #[.agg #[.int .i64 (ln), .int .i64 (ld)], .agg #[.int .i64 (hn), .int .i64 (hd)]] W fun e' w' => e' = .returned (.tuple #[.agg #[.int .i64 (p), .int .i64 (q)], .int .i64 e]) ∧ Below W.heap.size W w')
    (hN : ∀ W, Calls Tryd.prog 41 #[.agg #[.int .i64 (ln), .int .i64 (ld)], .agg #[.int .i64 (hn), .int .i64 (hd)], .agg #[.int .i64 (xn), .int .i64 (xd)]] W fun e' w' => e' = .returned (.tuple #[.bool r, .int .i64 f]) ∧ Below W.heap.size W w')
    (hN' : ∀ W, Calls Tryd.prog 42 #[.agg #[.int .i64 (ln), .int .i64 (ld)], .agg #[.int .i64 (hn), .int .i64 (hd)], .agg #[.int .i64 (xn), .int .i64 (xd)]] W fun e' w' => e' = .returned (.tuple #[.bool r, .int .i64 f]) ∧ Below W.heap.size W w') :
    Calls Tryd.prog 5 #[.agg #[.int .i64 (ln), .int .i64 (ld)], .agg #[.int .i64 (hn), .int .i64 (hd)], .agg #[.int .i64 (xn), .int .i64 (xd)]] w fun e w' => e = .returned (.bool true) ∧ Below w.heap.size w w' := by
  have HA := Lib.hid hA
  have HA' := Lib.hid hA'
  have HN := Lib.hid hN
  have HN' := Lib.hid hN'
  have HL := Lib.hid (hl.at ht)
  clear hA hA' hN hN' hl ht
  go_enter Tryd.func5, Tryd.ntmps5
  go_wp2_with fail
  (refine (HA.out _).mono ?_; rintro e w1 ⟨rfl, hb1⟩; obtain ⟨hc1, hf1⟩ := bcell hb1; have hB1 : Below w.heap.size w w1 := up hb1 (by go_grown); have hz1 := hb1.size; (try simp at hz1); (try have hz1_w_p1 : w.heap.size < w1.heap.size + 1 := (by omega)); (try have hz1_w_p2 : w.heap.size < w1.heap.size + 1 + 1 := (by omega)); (try have hz1_w_p3 : w.heap.size < w1.heap.size + 1 + 1 + 1 := (by omega)); (try have hz1_w_0 : w.heap.size < w1.heap.size := (by omega)); (try have hz1_w_1 : w.heap.size + 1 < w1.heap.size := (by omega)); (try have hz1_w_2 : w.heap.size + 1 + 1 < w1.heap.size := (by omega)); (try have hz1_w_3 : w.heap.size + 1 + 1 + 1 < w1.heap.size := (by omega)); (try have hz1_w_4 : w.heap.size + 1 + 1 + 1 + 1 < w1.heap.size := (by omega)); (try have hz1_w_5 : w.heap.size + 1 + 1 + 1 + 1 + 1 < w1.heap.size := (by omega)); (try have hz1_w_6 : w.heap.size + 1 + 1 + 1 + 1 + 1 + 1 < w1.heap.size := (by omega)))
  go_wp2_with fail
  (refine (HA'.out _).mono ?_; rintro e w2 ⟨rfl, hb2⟩; obtain ⟨hc2, hf2⟩ := bcell hb2; have hB2 : Below w.heap.size w w2 := up hb2 (by go_grown); have hz2 := hb2.size; (try simp at hz2); (try have hz2_w_p1 : w.heap.size < w2.heap.size + 1 := (by omega)); (try have hz2_w_p2 : w.heap.size < w2.heap.size + 1 + 1 := (by omega)); (try have hz2_w_p3 : w.heap.size < w2.heap.size + 1 + 1 + 1 := (by omega)); (try have hz2_w1_p1 : w1.heap.size < w2.heap.size + 1 := (by omega)); (try have hz2_w1_p2 : w1.heap.size < w2.heap.size + 1 + 1 := (by omega)); (try have hz2_w1_p3 : w1.heap.size < w2.heap.size + 1 + 1 + 1 := (by omega)); (try have hz2_w_0 : w.heap.size < w2.heap.size := (by omega)); (try have hz2_w_1 : w.heap.size + 1 < w2.heap.size := (by omega)); (try have hz2_w_2 : w.heap.size + 1 + 1 < w2.heap.size := (by omega)); (try have hz2_w_3 : w.heap.size + 1 + 1 + 1 < w2.heap.size := (by omega)); (try have hz2_w_4 : w.heap.size + 1 + 1 + 1 + 1 < w2.heap.size := (by omega)); (try have hz2_w_5 : w.heap.size + 1 + 1 + 1 + 1 + 1 < w2.heap.size := (by omega)); (try have hz2_w_6 : w.heap.size + 1 + 1 + 1 + 1 + 1 + 1 < w2.heap.size := (by omega)); (try have hz2_w1_0 : w1.heap.size < w2.heap.size := (by omega)); (try have hz2_w1_1 : w1.heap.size + 1 < w2.heap.size := (by omega)); (try have hz2_w1_2 : w1.heap.size + 1 + 1 < w2.heap.size := (by omega)); (try have hz2_w1_3 : w1.heap.size + 1 + 1 + 1 < w2.heap.size := (by omega)))
  go_wp2_with fail
  (refine (HN.out _).mono ?_; rintro e w3 ⟨rfl, hb3⟩; obtain ⟨hc3, hf3⟩ := bcell hb3; have hB3 : Below w.heap.size w w3 := up hb3 (by go_grown); have hz3 := hb3.size; (try simp at hz3); (try have hz3_w_p1 : w.heap.size < w3.heap.size + 1 := (by omega)); (try have hz3_w_p2 : w.heap.size < w3.heap.size + 1 + 1 := (by omega)); (try have hz3_w_p3 : w.heap.size < w3.heap.size + 1 + 1 + 1 := (by omega)); (try have hz3_w1_p1 : w1.heap.size < w3.heap.size + 1 := (by omega)); (try have hz3_w1_p2 : w1.heap.size < w3.heap.size + 1 + 1 := (by omega)); (try have hz3_w1_p3 : w1.heap.size < w3.heap.size + 1 + 1 + 1 := (by omega)); (try have hz3_w2_p1 : w2.heap.size < w3.heap.size + 1 := (by omega)); (try have hz3_w2_p2 : w2.heap.size < w3.heap.size + 1 + 1 := (by omega)); (try have hz3_w2_p3 : w2.heap.size < w3.heap.size + 1 + 1 + 1 := (by omega)); (try have hz3_w_0 : w.heap.size < w3.heap.size := (by omega)); (try have hz3_w_1 : w.heap.size + 1 < w3.heap.size := (by omega)); (try have hz3_w_2 : w.heap.size + 1 + 1 < w3.heap.size := (by omega)); (try have hz3_w_3 : w.heap.size + 1 + 1 + 1 < w3.heap.size := (by omega)); (try have hz3_w_4 : w.heap.size + 1 + 1 + 1 + 1 < w3.heap.size := (by omega)); (try have hz3_w_5 : w.heap.size + 1 + 1 + 1 + 1 + 1 < w3.heap.size := (by omega)); (try have hz3_w_6 : w.heap.size + 1 + 1 + 1 + 1 + 1 + 1 < w3.heap.size := (by omega)); (try have hz3_w1_0 : w1.heap.size < w3.heap.size := (by omega)); (try have hz3_w1_1 : w1.heap.size + 1 < w3.heap.size := (by omega)); (try have hz3_w1_2 : w1.heap.size + 1 + 1 < w3.heap.size := (by omega)); (try have hz3_w1_3 : w1.heap.size + 1 + 1 + 1 < w3.heap.size := (by omega)); (try have hz3_w2_0 : w2.heap.size < w3.heap.size := (by omega)); (try have hz3_w2_1 : w2.heap.size + 1 < w3.heap.size := (by omega)); (try have hz3_w2_2 : w2.heap.size + 1 + 1 < w3.heap.size := (by omega)); (try have hz3_w2_3 : w2.heap.size + 1 + 1 + 1 < w3.heap.size := (by omega)))
  go_wp2_with fail
  (refine (HN'.out _).mono ?_; rintro e w4 ⟨rfl, hb4⟩; obtain ⟨hc4, hf4⟩ := bcell hb4; have hB4 : Below w.heap.size w w4 := up hb4 (by go_grown); have hz4 := hb4.size; (try simp at hz4); (try have hz4_w_p1 : w.heap.size < w4.heap.size + 1 := (by omega)); (try have hz4_w_p2 : w.heap.size < w4.heap.size + 1 + 1 := (by omega)); (try have hz4_w_p3 : w.heap.size < w4.heap.size + 1 + 1 + 1 := (by omega)); (try have hz4_w1_p1 : w1.heap.size < w4.heap.size + 1 := (by omega)); (try have hz4_w1_p2 : w1.heap.size < w4.heap.size + 1 + 1 := (by omega)); (try have hz4_w1_p3 : w1.heap.size < w4.heap.size + 1 + 1 + 1 := (by omega)); (try have hz4_w2_p1 : w2.heap.size < w4.heap.size + 1 := (by omega)); (try have hz4_w2_p2 : w2.heap.size < w4.heap.size + 1 + 1 := (by omega)); (try have hz4_w2_p3 : w2.heap.size < w4.heap.size + 1 + 1 + 1 := (by omega)); (try have hz4_w3_p1 : w3.heap.size < w4.heap.size + 1 := (by omega)); (try have hz4_w3_p2 : w3.heap.size < w4.heap.size + 1 + 1 := (by omega)); (try have hz4_w3_p3 : w3.heap.size < w4.heap.size + 1 + 1 + 1 := (by omega)); (try have hz4_w_0 : w.heap.size < w4.heap.size := (by omega)); (try have hz4_w_1 : w.heap.size + 1 < w4.heap.size := (by omega)); (try have hz4_w_2 : w.heap.size + 1 + 1 < w4.heap.size := (by omega)); (try have hz4_w_3 : w.heap.size + 1 + 1 + 1 < w4.heap.size := (by omega)); (try have hz4_w_4 : w.heap.size + 1 + 1 + 1 + 1 < w4.heap.size := (by omega)); (try have hz4_w_5 : w.heap.size + 1 + 1 + 1 + 1 + 1 < w4.heap.size := (by omega)); (try have hz4_w_6 : w.heap.size + 1 + 1 + 1 + 1 + 1 + 1 < w4.heap.size := (by omega)); (try have hz4_w1_0 : w1.heap.size < w4.heap.size := (by omega)); (try have hz4_w1_1 : w1.heap.size + 1 < w4.heap.size := (by omega)); (try have hz4_w1_2 : w1.heap.size + 1 + 1 < w4.heap.size := (by omega)); (try have hz4_w1_3 : w1.heap.size + 1 + 1 + 1 < w4.heap.size := (by omega)); (try have hz4_w2_0 : w2.heap.size < w4.heap.size := (by omega)); (try have hz4_w2_1 : w2.heap.size + 1 < w4.heap.size := (by omega)); (try have hz4_w2_2 : w2.heap.size + 1 + 1 < w4.heap.size := (by omega)); (try have hz4_w2_3 : w2.heap.size + 1 + 1 + 1 < w4.heap.size := (by omega)); (try have hz4_w3_0 : w3.heap.size < w4.heap.size := (by omega)); (try have hz4_w3_1 : w3.heap.size + 1 < w4.heap.size := (by omega)); (try have hz4_w3_2 : w3.heap.size + 1 + 1 < w4.heap.size := (by omega)); (try have hz4_w3_3 : w3.heap.size + 1 + 1 + 1 < w4.heap.size := (by omega)))
  go_wp2_with fail
  (refine (HL.out _ (by go_grown)).mono ?_; rintro e w5 ⟨rfl, hb5⟩; obtain ⟨hc5, hf5⟩ := bcell hb5; have hB5 : Below w.heap.size w w5 := up hb5 (by go_grown); have hz5 := hb5.size; (try simp at hz5); (try have hz5_w_p1 : w.heap.size < w5.heap.size + 1 := (by omega)); (try have hz5_w_p2 : w.heap.size < w5.heap.size + 1 + 1 := (by omega)); (try have hz5_w_p3 : w.heap.size < w5.heap.size + 1 + 1 + 1 := (by omega)); (try have hz5_w1_p1 : w1.heap.size < w5.heap.size + 1 := (by omega)); (try have hz5_w1_p2 : w1.heap.size < w5.heap.size + 1 + 1 := (by omega)); (try have hz5_w1_p3 : w1.heap.size < w5.heap.size + 1 + 1 + 1 := (by omega)); (try have hz5_w2_p1 : w2.heap.size < w5.heap.size + 1 := (by omega)); (try have hz5_w2_p2 : w2.heap.size < w5.heap.size + 1 + 1 := (by omega)); (try have hz5_w2_p3 : w2.heap.size < w5.heap.size + 1 + 1 + 1 := (by omega)); (try have hz5_w3_p1 : w3.heap.size < w5.heap.size + 1 := (by omega)); (try have hz5_w3_p2 : w3.heap.size < w5.heap.size + 1 + 1 := (by omega)); (try have hz5_w3_p3 : w3.heap.size < w5.heap.size + 1 + 1 + 1 := (by omega)); (try have hz5_w4_p1 : w4.heap.size < w5.heap.size + 1 := (by omega)); (try have hz5_w4_p2 : w4.heap.size < w5.heap.size + 1 + 1 := (by omega)); (try have hz5_w4_p3 : w4.heap.size < w5.heap.size + 1 + 1 + 1 := (by omega)); (try have hz5_w_0 : w.heap.size < w5.heap.size := (by omega)); (try have hz5_w_1 : w.heap.size + 1 < w5.heap.size := (by omega)); (try have hz5_w_2 : w.heap.size + 1 + 1 < w5.heap.size := (by omega)); (try have hz5_w_3 : w.heap.size + 1 + 1 + 1 < w5.heap.size := (by omega)); (try have hz5_w_4 : w.heap.size + 1 + 1 + 1 + 1 < w5.heap.size := (by omega)); (try have hz5_w_5 : w.heap.size + 1 + 1 + 1 + 1 + 1 < w5.heap.size := (by omega)); (try have hz5_w_6 : w.heap.size + 1 + 1 + 1 + 1 + 1 + 1 < w5.heap.size := (by omega)); (try have hz5_w1_0 : w1.heap.size < w5.heap.size := (by omega)); (try have hz5_w1_1 : w1.heap.size + 1 < w5.heap.size := (by omega)); (try have hz5_w1_2 : w1.heap.size + 1 + 1 < w5.heap.size := (by omega)); (try have hz5_w1_3 : w1.heap.size + 1 + 1 + 1 < w5.heap.size := (by omega)); (try have hz5_w2_0 : w2.heap.size < w5.heap.size := (by omega)); (try have hz5_w2_1 : w2.heap.size + 1 < w5.heap.size := (by omega)); (try have hz5_w2_2 : w2.heap.size + 1 + 1 < w5.heap.size := (by omega)); (try have hz5_w2_3 : w2.heap.size + 1 + 1 + 1 < w5.heap.size := (by omega)); (try have hz5_w3_0 : w3.heap.size < w5.heap.size := (by omega)); (try have hz5_w3_1 : w3.heap.size + 1 < w5.heap.size := (by omega)); (try have hz5_w3_2 : w3.heap.size + 1 + 1 < w5.heap.size := (by omega)); (try have hz5_w3_3 : w3.heap.size + 1 + 1 + 1 < w5.heap.size := (by omega)); (try have hz5_w4_0 : w4.heap.size < w5.heap.size := (by omega)); (try have hz5_w4_1 : w4.heap.size + 1 < w5.heap.size := (by omega)); (try have hz5_w4_2 : w4.heap.size + 1 + 1 < w5.heap.size := (by omega)); (try have hz5_w4_3 : w4.heap.size + 1 + 1 + 1 < w5.heap.size := (by omega)))
  go_wp2
  go_returns
  exact ⟨rfl, by go_grown⟩

theorem simplest_of (hl : AliveOk) (ln ld hn hd xn xd : Int) (w : World) (h1 : W2 ln ld) (h2 : W2 hn hd) (h3 : W2 xn xd) (ht : Pow10 w) :
    Calls Tryd.prog 5 #[.agg #[.int .i64 (ln), .int .i64 (ld)], .agg #[.int .i64 (hn), .int .i64 (hd)], .agg #[.int .i64 (xn), .int .i64 (xd)]] w fun e w' => e = .returned (.bool true) ∧ Below w.heap.size w w' := by
  have hs : ∃ p q e, (∀ W, Calls Tryd.prog 39 #[.agg #[.int .i64 (ln), .int .i64 (ld)], .agg #[.int .i64 (hn), .int .i64 (hd)]] W fun e' w' => e' = .returned (.tuple #[.agg #[.int .i64 (p), .int .i64 (q)], .int .i64 e]) ∧ Below W.heap.size W w') ∧
      (∀ W, Calls Tryd.prog 40 #[.agg #[.int .i64 (ln), .int .i64 (ld)], .agg #[.int .i64 (hn), .int .i64 (hd)]] W fun e' w' => e' = .returned (.tuple #[.agg #[.int .i64 (p), .int .i64 (q)], .int .i64 e]) ∧ Below W.heap.size W w') ∧
      (okQ ln ld = true → okQ hn hd = true → (hn * ld < ln * hd ∧ e = 12) ∨ (ln * hd ≤ hn * ld ∧ e = 0 ∧ Simp ln ld hn hd p q)) := by
    cases hk : (okQ ln ld && okQ hn hd) with
    | false =>
      have e1 : ranE ln ld hn hd = 1 := by unfold ranE bothB; rw [hk, if_neg Bool.false_ne_true]
      have hR := fun (W : World) => rSimplest_err ln ld hn hd W (by rw [e1]; rfl)
      rw [e1] at hR
      exact ⟨0, 0, 1, fun W => Simplest_arg ln ld hn hd W h1 h2 hk, hR, fun ka kb => by rw [ka, kb] at hk; cases hk⟩
    | true =>
      have hk' := hk
      rw [Bool.and_eq_true] at hk
      obtain ⟨ha, hb⟩ := hk
      obtain ⟨a1, _⟩ := okQ_iff.1 ha
      obtain ⟨d1, _⟩ := okQ_iff.1 hb
      rcases Int.lt_or_le (hn * ld) (ln * hd) with hle | hle
      · have e1 : ranE ln ld hn hd = 12 := by unfold ranE bothB; rw [hk', if_pos rfl, if_pos hle]
        have hR := fun (W : World) => rSimplest_err ln ld hn hd W (by rw [e1]; rfl)
        rw [e1] at hR
        exact ⟨0, 0, 12, fun W => Simplest_order ln ld hn hd W ha hb hle, hR, fun _ _ => .inl ⟨hle, rfl⟩⟩
      · obtain ⟨P, Q, hS⟩ := simplest_ex (ln := ln) (ld := ld) (hn := hn) (hd := hd) a1 d1 hle
        refine ⟨P, Q, 0, fun W => (Simplest_ok ln ld hn hd W ha hb hle).mono fun e w' ⟨p, q, he, hS', hB⟩ => ?_, fun W => rSimplest_ok ln ld hn hd P Q W ha hb hle hS, fun _ _ => .inr ⟨hle, rfl, hS⟩⟩
        obtain ⟨rfl, rfl⟩ := hS.unique a1 d1 hS'
        exact ⟨he, hB⟩
  obtain ⟨p, q, e, hA, hA', hE⟩ := hs
  cases hk : (okQ ln ld && okQ hn hd && okQ xn xd) with
  | false => exact simplest_core ln ld hn hd xn xd p q e 1 false w ht hl hA hA' (fun W => Chk_arg ln ld hn hd xn xd W h1 h2 h3 hk) (fun W => rChk_arg ln ld hn hd xn xd W hk)
  | true =>
    rw [Bool.and_eq_true, Bool.and_eq_true] at hk
    obtain ⟨⟨ha, hb⟩, hc⟩ := hk
    have hR := fun (W : World) => rChk_core ln ld hn hd xn xd p q e W ha hb hc hA'
    rcases hE ha hb with ⟨hle, rfl⟩ | ⟨hle, rfl, hS⟩
    · rw [if_neg (by decide)] at hR
      exact simplest_core ln ld hn hd xn xd p q 12 12 false w ht hl hA hA' (fun W => Chk_order ln ld hn hd xn xd W ha hb hc hle) hR
    · rw [if_pos rfl] at hR
      exact simplest_core ln ld hn hd xn xd p q 0 0 _ w ht hl hA hA' (fun W => Chk_at ha hb hc hle hS W) hR
end Go.Proofs.YthoinamncekgmaaDoor
