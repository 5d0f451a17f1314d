/-
  The reference's miss and its walk over all sizes; the statement on the best size at every input.
-/
import Derived.Test.YthoinamncekgmaaDoorRefM
import Derived.Test.YthoinamncekgmaaDoorLeastV
set_option linter.unusedVariables false
set_option linter.unusedSimpArgs false
namespace Go.Proofs.YthoinamncekgmaaDoor
open Go Go.RowKit

/-- Of the sizes below n, b is the first one with the least miss. -/
def BtInv (ln ld mn md want b n : Int) : Prop := 1 ≤ b ∧ b < n ∧ n ≤ 1000001 ∧ (∀ k, 1 ≤ k → k < n → misM ln ld mn md want b ≤ misM ln ld mn md want k) ∧ ∀ k, 1 ≤ k → k < b → misM ln ld mn md want b < misM ln ld mn md want k
theorem BtInv.start (ln ld mn md want : Int) : BtInv ln ld mn md want 1 2 := ⟨by omega, by omega, by omega, fun k h1 h2 => by rw [show k = 1 by omega]; exact Int.le_refl _, fun k h1 h2 => by omega⟩
theorem BtInv.keep {ln ld mn md want b n : Int} (h : BtInv ln ld mn md want b n) (hn : n ≤ 1000000) (hm : misM ln ld mn md want b ≤ misM ln ld mn md want n) : BtInv ln ld mn md want b (n + 1) := by
  obtain ⟨h1, h2, h3, h4, h5⟩ := h
  refine ⟨h1, by omega, by omega, fun k k1 k2 => ?_, h5⟩
  rcases Int.lt_or_le k n with hh | hh
  · exact h4 k k1 hh
  · rw [show k = n by omega]; exact hm
theorem BtInv.take {ln ld mn md want b n : Int} (h : BtInv ln ld mn md want b n) (hn : n ≤ 1000000) (hm : misM ln ld mn md want n < misM ln ld mn md want b) : BtInv ln ld mn md want n (n + 1) := by
  obtain ⟨h1, h2, h3, h4, h5⟩ := h
  refine ⟨by omega, by omega, by omega, fun k k1 k2 => ?_, fun k k1 k2 => ?_⟩
  · rcases Int.lt_or_le k n with hh | hh
    · have := h4 k k1 hh; omega
    · rw [show k = n by omega]; exact Int.le_refl _
  · have := h4 k k1 k2; omega
theorem BtInv.is {ln ld mn md want b r : Int} (h : BtInv ln ld mn md want b 1000001) (hr : RuleB ln ld mn md) (hb : BestIs ln ld mn md want r) : b = r := by
  obtain ⟨h1, h2, h3, h4, h5⟩ := h
  obtain ⟨b1, b2, _, _⟩ := id hb
  rcases Int.lt_trichotomy b r with hh | hh | hh
  · have k1 := (best_least hr hb h1 (by omega)).2 hh
    have k2 := h4 r b1 (by omega)
    omega
  · exact hh
  · have k1 := h5 r b1 hh
    have k2 := (best_least hr hb h1 (by omega)).1
    omega

theorem rBest_err (ln ld mn md want : Int) (w : World) (hq : (okR ln ld mn md && szB want) = false) :
    Calls Tryd.prog 70 #[.agg #[.int .i64 (ln), .int .i64 (ld), .int .i64 (mn), .int .i64 (md)], .int .i64 want] w fun e' w' => e' = .returned (.tuple #[.int .i64 0, .int .i64 1]) ∧ Below w.heap.size w w' := by
  have h1 := fun (W : World) => rsized_any ln ld mn md want W
  rw [szR, if_neg (by rw [hq]; exact Bool.false_ne_true)] at h1
  have H1 := hide0 h1
  clear h1 hq
  go_enter Tryd.func70, Tryd.ntmps70
  go_wp2_with fail
  (refine (H1.out _).mono ?_; rintro e w1 ⟨rfl, hb1⟩; obtain ⟨hc1, hf1⟩ := bcell hb1; have hB1 : Below w.heap.size w w1 := up hb1 (by go_grown); have hz1 := hb1.size; (try simp at hz1); (try have hz1_w_p1 : w.heap.size < w1.heap.size + 1 := (by omega)); (try have hz1_w_p2 : w.heap.size < w1.heap.size + 1 + 1 := (by omega)); (try have hz1_w_p3 : w.heap.size < w1.heap.size + 1 + 1 + 1 := (by omega)); (try have hz1_w_0 : w.heap.size < w1.heap.size := (by omega)); (try have hz1_w_1 : w.heap.size + 1 < w1.heap.size := (by omega)); (try have hz1_w_2 : w.heap.size + 1 + 1 < w1.heap.size := (by omega)); (try have hz1_w_3 : w.heap.size + 1 + 1 + 1 < w1.heap.size := (by omega)); (try have hz1_w_4 : w.heap.size + 1 + 1 + 1 + 1 < w1.heap.size := (by omega)); (try have hz1_w_5 : w.heap.size + 1 + 1 + 1 + 1 + 1 < w1.heap.size := (by omega)); (try have hz1_w_6 : w.heap.size + 1 + 1 + 1 + 1 + 1 + 1 < w1.heap.size := (by omega)))
  go_wp2
  go_returns
  exact ⟨rfl, by go_grown⟩

set_option maxHeartbeats 4000000 in
theorem rBest_ok (ln ld mn md want r : Int) (w : World) (hk : okR ln ld mn md = true) (ht : szB want = true) (hb : BestIs ln ld mn md want r) :
    Calls Tryd.prog 70 #[.agg #[.int .i64 (ln), .int .i64 (ld), .int .i64 (mn), .int .i64 (md)], .int .i64 want] w fun e w' => e = .returned (.tuple #[.int .i64 r, .int .i64 0]) ∧ Below w.heap.size w w' := by
  have hr := RuleB.of_ok hk
  have h1 := fun (W : World) => rsized_any ln ld mn md want W
  rw [szR, if_pos (by rw [hk, ht]; rfl)] at h1
  have h2 := fun (W : World) => rmissed_any ln ld mn md 1 want W hk (by decide) ht
  have hs := fun (n : Int) (W : World) (hn : szB n = true) => rmissed_any ln ld mn md n want W hk hn ht
  have bd := fun (n : Int) (hn : szB n = true) => rm_bd (s := n) hr hn ht
  have le := fun (s t : Int) => rm_le (ln := ln) (mn := mn) (want := want) (s := s) (t := t) hr.2.2.1 hr.2.2.2.2.2.2.1
  have H1 := hide0 h1
  have H2 := hide0 h2
  have HS := hide0 hs
  have HI := hide0 (fun (b : Int) (hB : BtInv ln ld mn md want b 1000001) => hB.is hr hb)
  have HB := hide0 bd
  have HLE := hide0 le
  clear h1 h2 hs hk ht hr hb bd le
  go_enter Tryd.func70, Tryd.ntmps70
  go_wp2_with fail
  (refine (H1.out _).mono ?_; rintro e w1 ⟨rfl, hb1⟩; obtain ⟨hc1, hf1⟩ := bcell hb1; have hB1 : Below w.heap.size w w1 := up hb1 (by go_grown); have hz1 := hb1.size; (try simp at hz1); (try have hz1_w_p1 : w.heap.size < w1.heap.size + 1 := (by omega)); (try have hz1_w_p2 : w.heap.size < w1.heap.size + 1 + 1 := (by omega)); (try have hz1_w_p3 : w.heap.size < w1.heap.size + 1 + 1 + 1 := (by omega)); (try have hz1_w_0 : w.heap.size < w1.heap.size := (by omega)); (try have hz1_w_1 : w.heap.size + 1 < w1.heap.size := (by omega)); (try have hz1_w_2 : w.heap.size + 1 + 1 < w1.heap.size := (by omega)); (try have hz1_w_3 : w.heap.size + 1 + 1 + 1 < w1.heap.size := (by omega)); (try have hz1_w_4 : w.heap.size + 1 + 1 + 1 + 1 < w1.heap.size := (by omega)); (try have hz1_w_5 : w.heap.size + 1 + 1 + 1 + 1 + 1 < w1.heap.size := (by omega)); (try have hz1_w_6 : w.heap.size + 1 + 1 + 1 + 1 + 1 + 1 < w1.heap.size := (by omega)))
  go_wp2_with fail
  (refine (H2.out _).mono ?_; rintro e w2 ⟨rfl, hb2⟩; obtain ⟨hc2, hf2⟩ := bcell hb2; have hB2 : Below w.heap.size w w2 := up hb2 (by go_grown); have hz2 := hb2.size; (try simp at hz2); (try have hz2_w_p1 : w.heap.size < w2.heap.size + 1 := (by omega)); (try have hz2_w_p2 : w.heap.size < w2.heap.size + 1 + 1 := (by omega)); (try have hz2_w_p3 : w.heap.size < w2.heap.size + 1 + 1 + 1 := (by omega)); (try have hz2_w1_p1 : w1.heap.size < w2.heap.size + 1 := (by omega)); (try have hz2_w1_p2 : w1.heap.size < w2.heap.size + 1 + 1 := (by omega)); (try have hz2_w1_p3 : w1.heap.size < w2.heap.size + 1 + 1 + 1 := (by omega)); (try have hz2_w_0 : w.heap.size < w2.heap.size := (by omega)); (try have hz2_w_1 : w.heap.size + 1 < w2.heap.size := (by omega)); (try have hz2_w_2 : w.heap.size + 1 + 1 < w2.heap.size := (by omega)); (try have hz2_w_3 : w.heap.size + 1 + 1 + 1 < w2.heap.size := (by omega)); (try have hz2_w_4 : w.heap.size + 1 + 1 + 1 + 1 < w2.heap.size := (by omega)); (try have hz2_w_5 : w.heap.size + 1 + 1 + 1 + 1 + 1 < w2.heap.size := (by omega)); (try have hz2_w_6 : w.heap.size + 1 + 1 + 1 + 1 + 1 + 1 < w2.heap.size := (by omega)); (try have hz2_w1_0 : w1.heap.size < w2.heap.size := (by omega)); (try have hz2_w1_1 : w1.heap.size + 1 < w2.heap.size := (by omega)); (try have hz2_w1_2 : w1.heap.size + 1 + 1 < w2.heap.size := (by omega)); (try have hz2_w1_3 : w1.heap.size + 1 + 1 + 1 < w2.heap.size := (by omega)))
  go_wp2_with fail
  have x0 : w2.cell? ⟨w.heap.size, 0, none⟩ = some (.int .i64 ln) := by go_cell
  have x1 : w2.cell? ⟨w.heap.size, 1, none⟩ = some (.int .i64 ld) := by go_cell
  have x2 : w2.cell? ⟨w.heap.size, 2, none⟩ = some (.int .i64 mn) := by go_cell
  have x3 : w2.cell? ⟨w.heap.size, 3, none⟩ = some (.int .i64 md) := by go_cell
  have z2 : w.heap.size < w2.heap.size := by omega
  go_loopw [7, 8, 9, 10] (fun x y u v wr => ∃ b n : Int, x = .int .i64 b ∧ y = .int .i64 (rmN ln ld mn md want b) ∧ u = .int .i64 (rmD ln ld mn md want b) ∧ v = .int .i64 n ∧ BtInv ln ld mn md want b n ∧ Below w2.heap.size w2 wr) (fun _ _ _ v _ => (1000001 - intOf v).toNat)
  case atStart => exact ⟨1, 2, rfl, rfl, rfl, rfl, BtInv.start .., Below.refl _ _⟩
  case round =>
    obtain ⟨b, n, rfl, rfl, rfl, rfl, hI, hB⟩ := hrel
    have i1 := hI.1
    have i2 := hI.2.1
    have i3 := hI.2.2.1
    have z3 : w.heap.size < wr.heap.size := Nat.lt_of_lt_of_le z2 hB.size
    have y0 := (hB.cell (p := ⟨w.heap.size, 0, none⟩) z2).trans x0
    have y1 := (hB.cell (p := ⟨w.heap.size, 1, none⟩) z2).trans x1
    have y2 := (hB.cell (p := ⟨w.heap.size, 2, none⟩) z2).trans x2
    have y3 := (hB.cell (p := ⟨w.heap.size, 3, none⟩) z2).trans x3
    have hBw : Below w.heap.size w wr := up hB hB2
    clear x0 x1 x2 x3
    by_cases hn : n = 1000001
    · subst hn
      have e1 := HI.out b hI
      subst e1
      clear hI
      go_wp2
      go_returns
      exact ⟨rfl, hBw⟩
    · have hn2 : n ≤ 1000000 := by omega
      have hz := szB_iff.2 ⟨(by omega : 1 ≤ n), hn2⟩
      have HN := hide0 fun (W : World) => HS.out n W hz
      obtain ⟨a1, a2, a3, a4⟩ := HB.out n hz
      obtain ⟨c1, c2, c3, c4⟩ := HB.out b (szB_iff.2 ⟨by omega, by omega⟩)
      have m1 := mul_bd (a := rmN ln ld mn md want n) (b := rmD ln ld mn md want b) (A := 1000000000) (B := 1000) (by omega) (by omega) (by omega) (by omega)
      have m2 := mul_bd (a := rmN ln ld mn md want b) (b := rmD ln ld mn md want n) (A := 1000000000) (B := 1000) (by omega) (by omega) (by omega) (by omega)
      have le := HLE.out b n
      clear hn hz
      by_cases hm : misM ln ld mn md want b ≤ misM ln ld mn md want n
      · have HE := hide0 (hI.keep hn2 hm)
        have hc := le.2 hm
        clear hI hm le
        go_wp2_with fail
        (refine (HN.out _).mono ?_; rintro e w3 ⟨rfl, hb3⟩; obtain ⟨hc3, hf3⟩ := bcell hb3; have hB3 : Below wr.heap.size wr w3 := up hb3 (by go_grown); have hz3 := hb3.size; (try simp at hz3); (try have hz3_wr_p1 : wr.heap.size < w3.heap.size + 1 := (by omega)); (try have hz3_wr_p2 : wr.heap.size < w3.heap.size + 1 + 1 := (by omega)); (try have hz3_wr_p3 : wr.heap.size < w3.heap.size + 1 + 1 + 1 := (by omega)); (try have hz3_w1_p1 : w1.heap.size < w3.heap.size + 1 := (by omega)); (try have hz3_w1_p2 : w1.heap.size < w3.heap.size + 1 + 1 := (by omega)); (try have hz3_w1_p3 : w1.heap.size < w3.heap.size + 1 + 1 + 1 := (by omega)); (try have hz3_w2_p1 : w2.heap.size < w3.heap.size + 1 := (by omega)); (try have hz3_w2_p2 : w2.heap.size < w3.heap.size + 1 + 1 := (by omega)); (try have hz3_w2_p3 : w2.heap.size < w3.heap.size + 1 + 1 + 1 := (by omega)); (try have hz3_wr_0 : wr.heap.size < w3.heap.size := (by omega)); (try have hz3_wr_1 : wr.heap.size + 1 < w3.heap.size := (by omega)); (try have hz3_wr_2 : wr.heap.size + 1 + 1 < w3.heap.size := (by omega)); (try have hz3_wr_3 : wr.heap.size + 1 + 1 + 1 < w3.heap.size := (by omega)); (try have hz3_wr_4 : wr.heap.size + 1 + 1 + 1 + 1 < w3.heap.size := (by omega)); (try have hz3_wr_5 : wr.heap.size + 1 + 1 + 1 + 1 + 1 < w3.heap.size := (by omega)); (try have hz3_wr_6 : wr.heap.size + 1 + 1 + 1 + 1 + 1 + 1 < w3.heap.size := (by omega)); (try have hz3_w1_0 : w1.heap.size < w3.heap.size := (by omega)); (try have hz3_w1_1 : w1.heap.size + 1 < w3.heap.size := (by omega)); (try have hz3_w1_2 : w1.heap.size + 1 + 1 < w3.heap.size := (by omega)); (try have hz3_w1_3 : w1.heap.size + 1 + 1 + 1 < w3.heap.size := (by omega)); (try have hz3_w2_0 : w2.heap.size < w3.heap.size := (by omega)); (try have hz3_w2_1 : w2.heap.size + 1 < w3.heap.size := (by omega)); (try have hz3_w2_2 : w2.heap.size + 1 + 1 < w3.heap.size := (by omega)); (try have hz3_w2_3 : w2.heap.size + 1 + 1 + 1 < w3.heap.size := (by omega)))
        go_wp2
        all_goals first | (exfalso; omega) | skip
        go_roundw
        case rel => exact ⟨_, _, rfl, rfl, rfl, rfl, HE.out, up hB3 hB⟩
        case measure => simp [intOf]; omega
      · have hm' : misM ln ld mn md want n < misM ln ld mn md want b := by omega
        have HE := hide0 (hI.take hn2 hm')
        have hc : rmN ln ld mn md want n * rmD ln ld mn md want b < rmN ln ld mn md want b * rmD ln ld mn md want n := by
          rcases Int.lt_or_le (rmN ln ld mn md want n * rmD ln ld mn md want b) (rmN ln ld mn md want b * rmD ln ld mn md want n) with hh | hh
          · exact hh
          · exact absurd (le.1 hh) hm
        clear hI hm hm' le
        go_wp2_with fail
        (refine (HN.out _).mono ?_; rintro e w3 ⟨rfl, hb3⟩; obtain ⟨hc3, hf3⟩ := bcell hb3; have hB3 : Below wr.heap.size wr w3 := up hb3 (by go_grown); have hz3 := hb3.size; (try simp at hz3); (try have hz3_wr_p1 : wr.heap.size < w3.heap.size + 1 := (by omega)); (try have hz3_wr_p2 : wr.heap.size < w3.heap.size + 1 + 1 := (by omega)); (try have hz3_wr_p3 : wr.heap.size < w3.heap.size + 1 + 1 + 1 := (by omega)); (try have hz3_w1_p1 : w1.heap.size < w3.heap.size + 1 := (by omega)); (try have hz3_w1_p2 : w1.heap.size < w3.heap.size + 1 + 1 := (by omega)); (try have hz3_w1_p3 : w1.heap.size < w3.heap.size + 1 + 1 + 1 := (by omega)); (try have hz3_w2_p1 : w2.heap.size < w3.heap.size + 1 := (by omega)); (try have hz3_w2_p2 : w2.heap.size < w3.heap.size + 1 + 1 := (by omega)); (try have hz3_w2_p3 : w2.heap.size < w3.heap.size + 1 + 1 + 1 := (by omega)); (try have hz3_wr_0 : wr.heap.size < w3.heap.size := (by omega)); (try have hz3_wr_1 : wr.heap.size + 1 < w3.heap.size := (by omega)); (try have hz3_wr_2 : wr.heap.size + 1 + 1 < w3.heap.size := (by omega)); (try have hz3_wr_3 : wr.heap.size + 1 + 1 + 1 < w3.heap.size := (by omega)); (try have hz3_wr_4 : wr.heap.size + 1 + 1 + 1 + 1 < w3.heap.size := (by omega)); (try have hz3_wr_5 : wr.heap.size + 1 + 1 + 1 + 1 + 1 < w3.heap.size := (by omega)); (try have hz3_wr_6 : wr.heap.size + 1 + 1 + 1 + 1 + 1 + 1 < w3.heap.size := (by omega)); (try have hz3_w1_0 : w1.heap.size < w3.heap.size := (by omega)); (try have hz3_w1_1 : w1.heap.size + 1 < w3.heap.size := (by omega)); (try have hz3_w1_2 : w1.heap.size + 1 + 1 < w3.heap.size := (by omega)); (try have hz3_w1_3 : w1.heap.size + 1 + 1 + 1 < w3.heap.size := (by omega)); (try have hz3_w2_0 : w2.heap.size < w3.heap.size := (by omega)); (try have hz3_w2_1 : w2.heap.size + 1 < w3.heap.size := (by omega)); (try have hz3_w2_2 : w2.heap.size + 1 + 1 < w3.heap.size := (by omega)); (try have hz3_w2_3 : w2.heap.size + 1 + 1 + 1 < w3.heap.size := (by omega)))
        go_wp2
        all_goals first | (exfalso; omega) | skip
        go_roundw
        case rel => exact ⟨_, _, rfl, rfl, rfl, rfl, HE.out, up hB3 hB⟩
        case measure => simp [intOf]; omega

set_option maxRecDepth 100000 in
set_option maxHeartbeats 4000000 in
theorem best_core (ln ld mn md want r e : Int) (w : World) (ht : Pow10 w) (hl : AliveOk)
    (hZ : ∀ W, Calls Tryd.prog 69 #[.agg #[.int .i64 (ln), .int .i64 (ld), .int .i64 (mn), .int .i64 (md)], .int .i64 want] W fun e' w' => e' = .returned (.tuple #[.int .i64 r, .int .i64 e]) ∧ Below W.heap.size W w')
    (hR : ∀ W, Calls Tryd.prog 70 #[.agg #[.int .i64 (ln), .int .i64 (ld), .int .i64 (mn), .int .i64 (md)], .int .i64 want] W fun e' w' => e' = .returned (.tuple #[.int .i64 r, .int .i64 e]) ∧ Below W.heap.size W w') :
    Calls Tryd.prog 11 #[.agg #[.int .i64 (ln), .int .i64 (ld), .int .i64 (mn), .int .i64 (md)], .int .i64 want] w fun e w' => e = .returned (.bool true) ∧ Below w.heap.size w w' := by
  have HZ := Lib.hid hZ
  have HR := Lib.hid hR
  have HL := Lib.hid (hl.at ht)
  clear hZ hR hl ht
  go_enter Tryd.func11, Tryd.ntmps11
  go_wp2_with fail
  (refine (HZ.out _).mono ?_; rintro e w1 ⟨rfl, hb1⟩; obtain ⟨hc1, hf1⟩ := bcell hb1; have hB1 : Below w.heap.size w w1 := up hb1 (by go_grown); have hz1 := hb1.size; (try simp at hz1); (try have hz1_w_p1 : w.heap.size < w1.heap.size + 1 := (by omega)); (try have hz1_w_p2 : w.heap.size < w1.heap.size + 1 + 1 := (by omega)); (try have hz1_w_p3 : w.heap.size < w1.heap.size + 1 + 1 + 1 := (by omega)); (try have hz1_w_0 : w.heap.size < w1.heap.size := (by omega)); (try have hz1_w_1 : w.heap.size + 1 < w1.heap.size := (by omega)); (try have hz1_w_2 : w.heap.size + 1 + 1 < w1.heap.size := (by omega)); (try have hz1_w_3 : w.heap.size + 1 + 1 + 1 < w1.heap.size := (by omega)); (try have hz1_w_4 : w.heap.size + 1 + 1 + 1 + 1 < w1.heap.size := (by omega)); (try have hz1_w_5 : w.heap.size + 1 + 1 + 1 + 1 + 1 < w1.heap.size := (by omega)); (try have hz1_w_6 : w.heap.size + 1 + 1 + 1 + 1 + 1 + 1 < w1.heap.size := (by omega)))
  go_wp2_with fail
  (refine (HR.out _).mono ?_; rintro e w2 ⟨rfl, hb2⟩; obtain ⟨hc2, hf2⟩ := bcell hb2; have hB2 : Below w.heap.size w w2 := up hb2 (by go_grown); have hz2 := hb2.size; (try simp at hz2); (try have hz2_w_p1 : w.heap.size < w2.heap.size + 1 := (by omega)); (try have hz2_w_p2 : w.heap.size < w2.heap.size + 1 + 1 := (by omega)); (try have hz2_w_p3 : w.heap.size < w2.heap.size + 1 + 1 + 1 := (by omega)); (try have hz2_w1_p1 : w1.heap.size < w2.heap.size + 1 := (by omega)); (try have hz2_w1_p2 : w1.heap.size < w2.heap.size + 1 + 1 := (by omega)); (try have hz2_w1_p3 : w1.heap.size < w2.heap.size + 1 + 1 + 1 := (by omega)); (try have hz2_w_0 : w.heap.size < w2.heap.size := (by omega)); (try have hz2_w_1 : w.heap.size + 1 < w2.heap.size := (by omega)); (try have hz2_w_2 : w.heap.size + 1 + 1 < w2.heap.size := (by omega)); (try have hz2_w_3 : w.heap.size + 1 + 1 + 1 < w2.heap.size := (by omega)); (try have hz2_w_4 : w.heap.size + 1 + 1 + 1 + 1 < w2.heap.size := (by omega)); (try have hz2_w_5 : w.heap.size + 1 + 1 + 1 + 1 + 1 < w2.heap.size := (by omega)); (try have hz2_w_6 : w.heap.size + 1 + 1 + 1 + 1 + 1 + 1 < w2.heap.size := (by omega)); (try have hz2_w1_0 : w1.heap.size < w2.heap.size := (by omega)); (try have hz2_w1_1 : w1.heap.size + 1 < w2.heap.size := (by omega)); (try have hz2_w1_2 : w1.heap.size + 1 + 1 < w2.heap.size := (by omega)); (try have hz2_w1_3 : w1.heap.size + 1 + 1 + 1 < w2.heap.size := (by omega)))
  go_wp2_with fail
  (refine (HL.out _ (by go_grown)).mono ?_; rintro e w3 ⟨rfl, hb3⟩; obtain ⟨hc3, hf3⟩ := bcell hb3; have hB3 : Below w.heap.size w w3 := up hb3 (by go_grown); have hz3 := hb3.size; (try simp at hz3); (try have hz3_w_p1 : w.heap.size < w3.heap.size + 1 := (by omega)); (try have hz3_w_p2 : w.heap.size < w3.heap.size + 1 + 1 := (by omega)); (try have hz3_w_p3 : w.heap.size < w3.heap.size + 1 + 1 + 1 := (by omega)); (try have hz3_w1_p1 : w1.heap.size < w3.heap.size + 1 := (by omega)); (try have hz3_w1_p2 : w1.heap.size < w3.heap.size + 1 + 1 := (by omega)); (try have hz3_w1_p3 : w1.heap.size < w3.heap.size + 1 + 1 + 1 := (by omega)); (try have hz3_w2_p1 : w2.heap.size < w3.heap.size + 1 := (by omega)); (try have hz3_w2_p2 : w2.heap.size < w3.heap.size + 1 + 1 := (by omega)); (try have hz3_w2_p3 : w2.heap.size < w3.heap.size + 1 + 1 + 1 := (by omega)); (try have hz3_w_0 : w.heap.size < w3.heap.size := (by omega)); (try have hz3_w_1 : w.heap.size + 1 < w3.heap.size := (by omega)); (try have hz3_w_2 : w.heap.size + 1 + 1 < w3.heap.size := (by omega)); (try have hz3_w_3 : w.heap.size + 1 + 1 + 1 < w3.heap.size := (by omega)); (try have hz3_w_4 : w.heap.size + 1 + 1 + 1 + 1 < w3.heap.size := (by omega)); (try have hz3_w_5 : w.heap.size + 1 + 1 + 1 + 1 + 1 < w3.heap.size := (by omega)); (try have hz3_w_6 : w.heap.size + 1 + 1 + 1 + 1 + 1 + 1 < w3.heap.size := (by omega)); (try have hz3_w1_0 : w1.heap.size < w3.heap.size := (by omega)); (try have hz3_w1_1 : w1.heap.size + 1 < w3.heap.size := (by omega)); (try have hz3_w1_2 : w1.heap.size + 1 + 1 < w3.heap.size := (by omega)); (try have hz3_w1_3 : w1.heap.size + 1 + 1 + 1 < w3.heap.size := (by omega)); (try have hz3_w2_0 : w2.heap.size < w3.heap.size := (by omega)); (try have hz3_w2_1 : w2.heap.size + 1 < w3.heap.size := (by omega)); (try have hz3_w2_2 : w2.heap.size + 1 + 1 < w3.heap.size := (by omega)); (try have hz3_w2_3 : w2.heap.size + 1 + 1 + 1 < w3.heap.size := (by omega)))
  go_wp2
  go_returns
  exact ⟨rfl, by go_grown⟩

theorem best_of (hl : AliveOk) (ln ld mn md want : Int) (w : World) (h1 : W2 ln ld) (h2 : W2 mn md) (_ : I64 want) (ht : Pow10 w) :
    Calls Tryd.prog 11 #[.agg #[.int .i64 (ln), .int .i64 (ld), .int .i64 (mn), .int .i64 (md)], .int .i64 want] w fun e w' => e = .returned (.bool true) ∧ Below w.heap.size w w' := by
  cases hk : okR ln ld mn md with
  | false => exact best_core ln ld mn md want 0 1 w ht hl (fun W => Best_rule ln ld mn md want W h1 h2 hk) (fun W => rBest_err ln ld mn md want W (by rw [hk]; rfl))
  | true =>
    cases hs : szB want with
    | false => exact best_core ln ld mn md want 0 1 w ht hl (fun W => Best_size ln ld mn md want W hk hs) (fun W => rBest_err ln ld mn md want W (by rw [hk, hs]; rfl))
    | true =>
      obtain ⟨r, hb⟩ := best_exists ln ld mn md want
      exact best_core ln ld mn md want r 0 w ht hl
        (fun W => (Best_ok ln ld mn md want W hk hs).mono fun e w' ⟨q, he, hq, hB⟩ => by
          obtain rfl := hb.unique hq
          exact ⟨he, hB⟩)
        (fun W => rBest_ok ln ld mn md want r W hk hs hb)
end Go.Proofs.YthoinamncekgmaaDoor
