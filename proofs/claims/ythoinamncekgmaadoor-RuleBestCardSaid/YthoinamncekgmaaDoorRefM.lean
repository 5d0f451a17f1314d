/-
  The reference's miss of a size.
-/
import Derived.Test.YthoinamncekgmaaDoorRefC
import Derived.Test.YthoinamncekgmaaDoorBestM
set_option linter.unusedVariables false
set_option linter.unusedSimpArgs false
namespace Go.Proofs.YthoinamncekgmaaDoor
open Go Go.RowKit

/-- The reference's miss: Num and Den. -/
def rmN (ln ld mn md want s : Int) : Int := if (s * (ld - ln) - want * ld) * md < (want * md - s * (md - mn)) * ld then want * md - s * (md - mn) else s * (ld - ln) - want * ld
def rmD (ln ld mn md want s : Int) : Int := if (s * (ld - ln) - want * ld) * md < (want * md - s * (md - mn)) * ld then md else ld
theorem rm_parts (ln ld mn md want s : Int) : (rmN ln ld mn md want s = s * (ld - ln) - want * ld ∧ rmD ln ld mn md want s = ld ∧ misM ln ld mn md want s = (s * (ld - ln) - want * ld) * md) ∨
    (rmN ln ld mn md want s = want * md - s * (md - mn) ∧ rmD ln ld mn md want s = md ∧ misM ln ld mn md want s = (want * md - s * (md - mn)) * ld) := by
  have e1 : (want * md - s * (md - mn)) * ld = want * (ld * md) - s * ((md - mn) * ld) := by
    rw [Int.sub_mul, Int.mul_assoc, Int.mul_comm md ld, Int.mul_assoc]
  have e2 : (s * (ld - ln) - want * ld) * md = s * ((ld - ln) * md) - want * (ld * md) := by
    rw [Int.sub_mul, Int.mul_assoc, Int.mul_assoc]
  unfold rmN rmD misM
  rw [e1, e2]
  by_cases h : s * ((ld - ln) * md) - want * (ld * md) < want * (ld * md) - s * ((md - mn) * ld)
  · right
    rw [if_pos h, if_pos h, if_neg (by omega)]
    exact ⟨rfl, rfl, rfl⟩
  · left
    rw [if_neg h, if_neg h]
    refine ⟨rfl, rfl, ?_⟩
    split <;> omega
theorem rm_le {ln ld mn md want s t : Int} (hl : 1 ≤ ld) (hm : 1 ≤ md) : rmN ln ld mn md want s * rmD ln ld mn md want t ≤ rmN ln ld mn md want t * rmD ln ld mn md want s ↔ misM ln ld mn md want s ≤ misM ln ld mn md want t := by
  rcases rm_parts ln ld mn md want s with ⟨a1, a2, a3⟩ | ⟨a1, a2, a3⟩ <;> rcases rm_parts ln ld mn md want t with ⟨b1, b2, b3⟩ | ⟨b1, b2, b3⟩ <;> rw [a1, a2, a3, b1, b2, b3]
  · rw [le_mul_iff hl, le_mul_iff hm]
  · rw [le_mul_iff hm, le_mul_iff hl]
theorem rm_bd {ln ld mn md want s : Int} (hr : RuleB ln ld mn md) (hs : szB s = true) (ht : szB want = true) : -1000000000 ≤ rmN ln ld mn md want s ∧ rmN ln ld mn md want s ≤ 1000000000 ∧ 1 ≤ rmD ln ld mn md want s ∧ rmD ln ld mn md want s ≤ 1000 := by
  obtain ⟨r1, r2, r3, r4, r5, r6, r7, r8⟩ := hr
  obtain ⟨s1, s2⟩ := szB_iff.1 hs
  obtain ⟨t1, t2⟩ := szB_iff.1 ht
  have m1 := Int.mul_nonneg (show 0 ≤ s by omega) (show 0 ≤ ld - ln by omega)
  have m2 := Int.mul_nonneg (show 0 ≤ s by omega) (show 0 ≤ md - mn by omega)
  have m3 := Int.mul_nonneg (show 0 ≤ want by omega) (show 0 ≤ ld by omega)
  have m4 := Int.mul_nonneg (show 0 ≤ want by omega) (show 0 ≤ md by omega)
  have b1 := mul_bd (a := s) (b := ld - ln) (A := 1000000) (B := 1000) (by omega) (by omega) (by omega) (by omega)
  have b2 := mul_bd (a := s) (b := md - mn) (A := 1000000) (B := 1000) (by omega) (by omega) (by omega) (by omega)
  have b3 := mul_bd (a := want) (b := ld) (A := 1000000) (B := 1000) (by omega) (by omega) (by omega) (by omega)
  have b4 := mul_bd (a := want) (b := md) (A := 1000000) (B := 1000) (by omega) (by omega) (by omega) (by omega)
  rcases rm_parts ln ld mn md want s with ⟨a1, a2, a3⟩ | ⟨a1, a2, a3⟩ <;> rw [a1, a2] <;> omega

set_option maxHeartbeats 2000000 in
theorem rmissed_any (ln ld mn md n want : Int) (w : World) (hk : okR ln ld mn md = true) (hn : szB n = true) (ht : szB want = true) :
    Calls Tryd.prog 108 #[.agg #[.int .i64 (ln), .int .i64 (ld), .int .i64 (mn), .int .i64 (md)], .int .i64 n, .int .i64 want] w fun e w' => e = .returned (.tuple #[.int .i64 (rmN ln ld mn md want n), .int .i64 (rmD ln ld mn md want n)]) ∧ Below w.heap.size w w' := by
  obtain ⟨r1, r2, r3, r4, r5, r6, r7, r8⟩ := RuleB.of_ok hk
  obtain ⟨n1, n2⟩ := szB_iff.1 hn
  obtain ⟨t1, t2⟩ := szB_iff.1 ht
  have m1 := mul_bd (a := n) (b := md - mn) (A := 1000000) (B := 1000) (by omega) (by omega) (by omega) (by omega)
  have m2 := mul_bd (a := n) (b := ld - ln) (A := 1000000) (B := 1000) (by omega) (by omega) (by omega) (by omega)
  have m3 := mul_bd (a := want) (b := md) (A := 1000000) (B := 1000) (by omega) (by omega) (by omega) (by omega)
  have m4 := mul_bd (a := want) (b := ld) (A := 1000000) (B := 1000) (by omega) (by omega) (by omega) (by omega)
  have HM := hide0 fun (W : World) => rleft_any mn md n W (by omega) (by omega) (by omega) (by omega)
  have HL := hide0 fun (W : World) => rleft_any ln ld n W (by omega) (by omega) (by omega) (by omega)
  have hN : rmN ln ld mn md want n = if (n * (ld - ln) - want * ld) * md < (want * md - n * (md - mn)) * ld then want * md - n * (md - mn) else n * (ld - ln) - want * ld := rfl
  have hD : rmD ln ld mn md want n = if (n * (ld - ln) - want * ld) * md < (want * md - n * (md - mn)) * ld then md else ld := rfl
  have m5 := mul_bd (a := n * (ld - ln) - want * ld) (b := md) (A := 2000000000) (B := 1000) (by omega) (by omega) (by omega) (by omega)
  have m6 := mul_bd (a := want * md - n * (md - mn)) (b := ld) (A := 2000000000) (B := 1000) (by omega) (by omega) (by omega) (by omega)
  generalize n * (md - mn) = a at *
  generalize n * (ld - ln) = c at *
  clear hk hn ht r1 r2 r5 r6
  by_cases k : (c - want * ld) * md < (want * md - a) * ld
  · rw [if_pos k] at hN hD
    have H1 := hide0 hN
    have H2 := hide0 hD
    clear hN hD
    rw [H1.out, H2.out]
    go_enter Tryd.func108, Tryd.ntmps108
    go_wp2_with fail
    (refine (HM.out _).mono ?_; rintro e w1 ⟨rfl, hb1⟩; obtain ⟨hc1, hf1⟩ := bcell hb1; have hB1 : Below w.heap.size w w1 := up hb1 (by go_grown); have hz1 := hb1.size; (try simp at hz1); (try have hz1_w_p1 : w.heap.size < w1.heap.size + 1 := (by omega)); (try have hz1_w_p2 : w.heap.size < w1.heap.size + 1 + 1 := (by omega)); (try have hz1_w_p3 : w.heap.size < w1.heap.size + 1 + 1 + 1 := (by omega)); (try have hz1_w_0 : w.heap.size < w1.heap.size := (by omega)); (try have hz1_w_1 : w.heap.size + 1 < w1.heap.size := (by omega)); (try have hz1_w_2 : w.heap.size + 1 + 1 < w1.heap.size := (by omega)); (try have hz1_w_3 : w.heap.size + 1 + 1 + 1 < w1.heap.size := (by omega)); (try have hz1_w_4 : w.heap.size + 1 + 1 + 1 + 1 < w1.heap.size := (by omega)); (try have hz1_w_5 : w.heap.size + 1 + 1 + 1 + 1 + 1 < w1.heap.size := (by omega)); (try have hz1_w_6 : w.heap.size + 1 + 1 + 1 + 1 + 1 + 1 < w1.heap.size := (by omega)))
    go_wp2_with fail
    (refine (HL.out _).mono ?_; rintro e w2 ⟨rfl, hb2⟩; obtain ⟨hc2, hf2⟩ := bcell hb2; have hB2 : Below w.heap.size w w2 := up hb2 (by go_grown); have hz2 := hb2.size; (try simp at hz2); (try have hz2_w_p1 : w.heap.size < w2.heap.size + 1 := (by omega)); (try have hz2_w_p2 : w.heap.size < w2.heap.size + 1 + 1 := (by omega)); (try have hz2_w_p3 : w.heap.size < w2.heap.size + 1 + 1 + 1 := (by omega)); (try have hz2_w1_p1 : w1.heap.size < w2.heap.size + 1 := (by omega)); (try have hz2_w1_p2 : w1.heap.size < w2.heap.size + 1 + 1 := (by omega)); (try have hz2_w1_p3 : w1.heap.size < w2.heap.size + 1 + 1 + 1 := (by omega)); (try have hz2_w_0 : w.heap.size < w2.heap.size := (by omega)); (try have hz2_w_1 : w.heap.size + 1 < w2.heap.size := (by omega)); (try have hz2_w_2 : w.heap.size + 1 + 1 < w2.heap.size := (by omega)); (try have hz2_w_3 : w.heap.size + 1 + 1 + 1 < w2.heap.size := (by omega)); (try have hz2_w_4 : w.heap.size + 1 + 1 + 1 + 1 < w2.heap.size := (by omega)); (try have hz2_w_5 : w.heap.size + 1 + 1 + 1 + 1 + 1 < w2.heap.size := (by omega)); (try have hz2_w_6 : w.heap.size + 1 + 1 + 1 + 1 + 1 + 1 < w2.heap.size := (by omega)); (try have hz2_w1_0 : w1.heap.size < w2.heap.size := (by omega)); (try have hz2_w1_1 : w1.heap.size + 1 < w2.heap.size := (by omega)); (try have hz2_w1_2 : w1.heap.size + 1 + 1 < w2.heap.size := (by omega)); (try have hz2_w1_3 : w1.heap.size + 1 + 1 + 1 < w2.heap.size := (by omega)))
    go_wp2
    all_goals first | (exfalso; omega) | skip
    all_goals go_returns
    all_goals exact ⟨rfl, by go_grown⟩
  · rw [if_neg k] at hN hD
    have H1 := hide0 hN
    have H2 := hide0 hD
    have k' : (want * md - a) * ld ≤ (c - want * ld) * md := by omega
    clear hN hD k
    rw [H1.out, H2.out]
    go_enter Tryd.func108, Tryd.ntmps108
    go_wp2_with fail
    (refine (HM.out _).mono ?_; rintro e w1 ⟨rfl, hb1⟩; obtain ⟨hc1, hf1⟩ := bcell hb1; have hB1 : Below w.heap.size w w1 := up hb1 (by go_grown); have hz1 := hb1.size; (try simp at hz1); (try have hz1_w_p1 : w.heap.size < w1.heap.size + 1 := (by omega)); (try have hz1_w_p2 : w.heap.size < w1.heap.size + 1 + 1 := (by omega)); (try have hz1_w_p3 : w.heap.size < w1.heap.size + 1 + 1 + 1 := (by omega)); (try have hz1_w_0 : w.heap.size < w1.heap.size := (by omega)); (try have hz1_w_1 : w.heap.size + 1 < w1.heap.size := (by omega)); (try have hz1_w_2 : w.heap.size + 1 + 1 < w1.heap.size := (by omega)); (try have hz1_w_3 : w.heap.size + 1 + 1 + 1 < w1.heap.size := (by omega)); (try have hz1_w_4 : w.heap.size + 1 + 1 + 1 + 1 < w1.heap.size := (by omega)); (try have hz1_w_5 : w.heap.size + 1 + 1 + 1 + 1 + 1 < w1.heap.size := (by omega)); (try have hz1_w_6 : w.heap.size + 1 + 1 + 1 + 1 + 1 + 1 < w1.heap.size := (by omega)))
    go_wp2_with fail
    (refine (HL.out _).mono ?_; rintro e w2 ⟨rfl, hb2⟩; obtain ⟨hc2, hf2⟩ := bcell hb2; have hB2 : Below w.heap.size w w2 := up hb2 (by go_grown); have hz2 := hb2.size; (try simp at hz2); (try have hz2_w_p1 : w.heap.size < w2.heap.size + 1 := (by omega)); (try have hz2_w_p2 : w.heap.size < w2.heap.size + 1 + 1 := (by omega)); (try have hz2_w_p3 : w.heap.size < w2.heap.size + 1 + 1 + 1 := (by omega)); (try have hz2_w1_p1 : w1.heap.size < w2.heap.size + 1 := (by omega)); (try have hz2_w1_p2 : w1.heap.size < w2.heap.size + 1 + 1 := (by omega)); (try have hz2_w1_p3 : w1.heap.size < w2.heap.size + 1 + 1 + 1 := (by omega)); (try have hz2_w_0 : w.heap.size < w2.heap.size := (by omega)); (try have hz2_w_1 : w.heap.size + 1 < w2.heap.size := (by omega)); (try have hz2_w_2 : w.heap.size + 1 + 1 < w2.heap.size := (by omega)); (try have hz2_w_3 : w.heap.size + 1 + 1 + 1 < w2.heap.size := (by omega)); (try have hz2_w_4 : w.heap.size + 1 + 1 + 1 + 1 < w2.heap.size := (by omega)); (try have hz2_w_5 : w.heap.size + 1 + 1 + 1 + 1 + 1 < w2.heap.size := (by omega)); (try have hz2_w_6 : w.heap.size + 1 + 1 + 1 + 1 + 1 + 1 < w2.heap.size := (by omega)); (try have hz2_w1_0 : w1.heap.size < w2.heap.size := (by omega)); (try have hz2_w1_1 : w1.heap.size + 1 < w2.heap.size := (by omega)); (try have hz2_w1_2 : w1.heap.size + 1 + 1 < w2.heap.size := (by omega)); (try have hz2_w1_3 : w1.heap.size + 1 + 1 + 1 < w2.heap.size := (by omega)))
    go_wp2
    all_goals first | (exfalso; omega) | skip
    all_goals go_returns
    all_goals exact ⟨rfl, by go_grown⟩

end Go.Proofs.YthoinamncekgmaaDoor
