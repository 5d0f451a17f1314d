/-
  The statement on the nearest fraction at every input.
-/
import Derived.Test.YthoinamncekgmaaDoorNearV
import Derived.Test.YthoinamncekgmaaDoorNearC
set_option linter.unusedVariables false
set_option linter.unusedSimpArgs false
namespace Go.Proofs.YthoinamncekgmaaDoor
open Go Go.RowKit

theorem less_no {an ad bn bd : Int} (ha : okQ an ad = true) (hb : okQ bn bd = true) (h : ¬ an * bd < bn * ad) (w : World) :
    Calls Tryd.prog 71 #[.agg #[.int .i64 (an), .int .i64 (ad)], .agg #[.int .i64 (bn), .int .i64 (bd)]] w fun e w' => e = .returned (.bool false) ∧ Below w.heap.size w w' := by
  have hl := less_any an ad bn bd w (W2.of_ok ha) (W2.of_ok hb)
  rw [show ((okQ an ad && okQ bn bd) && ltB an ad bn bd) = false by unfold ltB; rw [decide_eq_false (by omega), Bool.and_false]] at hl
  exact hl
theorem near_of (hl : AliveOk) (xn xd yn yd m : Int) (w : World) (h1 : W2 xn xd) (h2 : W2 yn yd) (hm : I64 m) (ht : Pow10 w) :
    Calls Tryd.prog 14 #[.agg #[.int .i64 (xn), .int .i64 (xd)], .agg #[.int .i64 (yn), .int .i64 (yd)], .int .i64 m] w fun e w' => e = .returned (.bool true) ∧ Below w.heap.size w w' := by
  cases ha : okQ xn xd with
  | false => exact near_err xn xd yn yd m 1 w ht hl (by decide) (fun W => Around_frac xn xd m W h1 ha) (fun W => Nearest_bad xn xd m W fun W => Around_frac xn xd m W h1 ha)
  | true =>
    cases hz : szB m with
    | false => exact near_err xn xd yn yd m 1 w ht hl (by decide) (fun W => Around_most xn xd m W ha hz) (fun W => Nearest_bad xn xd m W fun W => Around_most xn xd m W ha hz)
    | true =>
      obtain ⟨m1, m2⟩ := szB_iff.1 hz
      obtain ⟨a, b, c, f, hA⟩ := around_ex ha hz
      obtain ⟨oa, oc⟩ := hA.ok hz
      obtain ⟨b1, b2, b3, b4⟩ := id hA.lo
      obtain ⟨f1, f2, f3, f4⟩ := id hA.hi
      obtain ⟨x1, x2, x3, x4, _⟩ := okQ_iff.1 ha
      obtain ⟨a1, a2, a3, a4, _⟩ := okQ_iff.1 oa
      obtain ⟨c1, c2, c3, c4, _⟩ := okQ_iff.1 oc
      refine near_core xn xd yn yd m a b c f (neN xn xd a b c f) (neD xn xd a b c f) (ckOf yn yd) ((okQ a b && okQ yn yd) && ltB a b yn yd) ((okQ yn yd && okQ c f) && ltB yn yd c f) w ht hl
        (fun W => Around_at ha hz hA W) (fun W => Nearest_at ha hz hA W) (less_no ha oa (by omega)) (less_no oc ha (by omega))
        (fun W => less_any _ _ _ _ W (W2.of_ok oa) h2) (fun W => less_any _ _ _ _ W h2 (W2.of_ok oc)) (fun W => CheckFrac_any yn yd W h2) (by omega) (by omega) ?_ ?_
      · unfold NearPick neN neD
        cases nearHi xn xd a b c f with
        | false => left; exact ⟨rfl, rfl⟩
        | true =>
          by_cases e1 : c = a
          · by_cases e2 : f = b
            · left; exact ⟨e1, e2⟩
            · right; right; exact ⟨rfl, rfl, e1, by simpa using e2⟩
          · right; left; exact ⟨rfl, rfl, by simpa using e1⟩
      · unfold NearWay ckOf
        by_cases hy : okQ yn yd = true
        · rw [if_pos hy]
          obtain ⟨y1, y2, y3, y4, _⟩ := okQ_iff.1 hy
          right
          rcases Int.lt_or_le m yd with hh | hh
          · left; exact ⟨by simp, hh⟩
          · right
            have hq : 1 ≤ neD xn xd a b c f ∧ neD xn xd a b c f ≤ 1000000 := by
              unfold neD; cases nearHi xn xd a b c f <;> simp only [Bool.false_eq_true, if_false, if_true] <;> omega
            have hp : -1000000000 ≤ neN xn xd a b c f ∧ neN xn xd a b c f ≤ 1000000000 := by
              unfold neN; cases nearHi xn xd a b c f <;> simp only [Bool.false_eq_true, if_false, if_true] <;> omega
            have v1 := mul_bd (a := xn) (b := neD xn xd a b c f) (A := 1000000000) (B := 1000000) (by omega) (by omega) (by omega) (by omega)
            have v2 := mul_bd (a := neN xn xd a b c f) (b := xd) (A := 1000000000) (B := 1000000) (by omega) (by omega) (by omega) (by omega)
            have v3 := mul_bd (a := xn) (b := yd) (A := 1000000000) (B := 1000000) (by omega) (by omega) (by omega) (by omega)
            have v4 := mul_bd (a := yn) (b := xd) (A := 1000000000) (B := 1000000) (by omega) (by omega) (by omega) (by omega)
            refine ⟨by simp, hh, ?_, by omega, by omega, hq.1, hq.2, by omega, by omega, by omega, by omega, near_small hA (by omega) (by omega), near_least (by omega) hA (by omega) hh⟩
            rw [oa, oc, hy, Bool.and_self, Bool.true_and, Bool.true_and]
            unfold ltB
            by_cases l1 : a * yd < yn * b
            · right
              refine ⟨decide_eq_true (by omega), decide_eq_false fun l2 => ?_⟩
              rcases Int.le_total (yn * xd) (xn * yd) with hc | hc
              · have := (b4 yn yd (by omega) hh hc).1; omega
              · have := (f4 yn yd (by omega) hh hc).1; omega
            · left; exact decide_eq_false (by omega)
        · rw [if_neg hy]; left; simp
end Go.Proofs.YthoinamncekgmaaDoor
