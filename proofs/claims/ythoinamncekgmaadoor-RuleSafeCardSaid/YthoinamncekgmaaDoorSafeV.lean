/-
  The sizes that serve: what Sizes and Cast return, and that a size serves exactly if both ends of its casting lie in the range.
-/
import Derived.Test.YthoinamncekgmaaDoorSafe
import Derived.Test.YthoinamncekgmaaDoorServe
import Derived.Test.YthoinamncekgmaaDoorArgs
import Derived.Test.YthoinamncekgmaaDoorMedV
import Derived.Test.YthoinamncekgmaaDoorSumV
import Derived.Test.YthoinamncekgmaaDoorArgs2
set_option linter.unusedVariables false
set_option linter.unusedSimpArgs false
namespace Go.Proofs.YthoinamncekgmaaDoor
open Go Go.RowKit

theorem low_across {a b c d : Int} (hb : 1 ≤ b) (hd : 1 ≤ d) : (lowN a b * lowD c d < lowN c d * lowD a b ↔ a * d < c * b) ∧ (lowN a b = lowN c d → lowD a b = lowD c d → a * d = c * b) := by
  have a1 := lowN_mul a b
  have a2 := lowD_mul a b
  have c1 := lowN_mul c d
  have c2 := lowD_mul c d
  have ga := gc_pos (n := a) (d := b) (by omega)
  have gd := gc_pos (n := c) (d := d) (by omega)
  have hg : 1 ≤ gc a b * gc c d := Int.mul_pos (by omega) (by omega)
  have e1 : lowN a b * lowD c d * (gc a b * gc c d) = a * d := by
    calc lowN a b * lowD c d * (gc a b * gc c d) = (lowN a b * gc a b) * (lowD c d * gc c d) := by grind
      _ = a * d := by rw [a1, c2]
  have e2 : lowN c d * lowD a b * (gc a b * gc c d) = c * b := by
    calc lowN c d * lowD a b * (gc a b * gc c d) = (lowN c d * gc c d) * (lowD a b * gc a b) := by grind
      _ = c * b := by rw [c1, a2]
  refine ⟨⟨fun h => ?_, fun h => ?_⟩, fun h1 h2 => ?_⟩
  · have := Int.mul_lt_mul_of_pos_right h (show 0 < gc a b * gc c d by omega)
    omega
  · rw [← e1, ← e2] at h
    exact Int.lt_of_mul_lt_mul_right h (by omega)
  · rw [← e1, ← e2, h1, h2]

/-- Does Cast return an error, and which? -/
def castB (ln ld mn md s : Int) : Bool := lowOk (s * (md - mn)) md && lowOk (s * (ld - ln)) ld
theorem Cast_none (ln ld mn md s : Int) (w : World) (hk : okR ln ld mn md = true) (hs : szB s = true) (hc : castB ln ld mn md s = false) :
    Calls Tryd.prog 57 #[.agg #[.int .i64 (ln), .int .i64 (ld), .int .i64 (mn), .int .i64 (md)], .int .i64 s] w fun e w' => e = .returned (.tuple #[.agg #[.int .i64 (0), .int .i64 (0)], .agg #[.int .i64 (0), .int .i64 (0)], .int .i64 10]) ∧ Below w.heap.size w w' := by
  unfold castB at hc
  cases h1 : lowOk (s * (md - mn)) md with
  | false => exact Cast_bad1 ln ld mn md s w hk hs h1
  | true =>
    rw [h1, Bool.true_and] at hc
    exact Cast_bad2 ln ld mn md s w hk hs h1 hc

theorem safe_of (hl : AliveOk) (ln ld mn md lo hi size : Int) (w : World) (h1 : W2 ln ld) (h2 : W2 mn md) (_ : I64 lo) (_ : I64 hi) (_ : I64 size) (ht : Pow10 w) :
    Calls Tryd.prog 16 #[.agg #[.int .i64 (ln), .int .i64 (ld), .int .i64 (mn), .int .i64 (md)], .int .i64 lo, .int .i64 hi, .int .i64 size] w fun e w' => e = .returned (.bool true) ∧ Below w.heap.size w w' := by
  cases hk : okR ln ld mn md with
  | false => exact safe_err1 ln ld mn md lo hi size 1 0 0 0 0 1 w ht hl (by decide) (fun W => Sizes_rule ln ld mn md lo hi W h1 h2 hk) (fun W => Cast_rule ln ld mn md size W h1 h2 hk)
  | true =>
    have hr := RuleB.of_ok hk
    obtain ⟨r1, r2, r3, r4, r5, r6, r7, r8⟩ := id hr
    -- what Cast returns
    have hcast : ∃ an ad bn bd ce : Int, ∀ W, Calls Tryd.prog 57 #[.agg #[.int .i64 (ln), .int .i64 (ld), .int .i64 (mn), .int .i64 (md)], .int .i64 size] W fun e w' => e = .returned (.tuple #[.agg #[.int .i64 (an), .int .i64 (ad)], .agg #[.int .i64 (bn), .int .i64 (bd)], .int .i64 ce]) ∧ Below W.heap.size W w' := by
      cases hs : szB size with
      | false => exact ⟨_, _, _, _, _, fun W => Cast_size ln ld mn md size W hk hs⟩
      | true =>
        cases hc : castB ln ld mn md size with
        | false => exact ⟨_, _, _, _, _, fun W => Cast_none ln ld mn md size W hk hs hc⟩
        | true =>
          unfold castB at hc
          rw [Bool.and_eq_true] at hc
          exact ⟨_, _, _, _, _, fun W => Cast_ok ln ld mn md size W hk hs hc.1 hc.2⟩
    by_cases hz : szB lo = true ∧ szB hi = true ∧ lo ≤ hi
    · obtain ⟨z1, z2, z3⟩ := hz
      obtain ⟨l1, l2⟩ := szB_iff.1 z1
      obtain ⟨l3, l4⟩ := szB_iff.1 z2
      obtain ⟨L, M, ok, hS⟩ := sizes_exists (ln := ln) (ld := ld) (mn := mn) (md := md) lo hi r2 r6
      have hZ : ∀ W, Calls Tryd.prog 67 #[.agg #[.int .i64 (ln), .int .i64 (ld), .int .i64 (mn), .int .i64 (md)], .int .i64 lo, .int .i64 hi] W fun e w' => e = .returned (.tuple #[.int .i64 L, .int .i64 M, .bool ok, .int .i64 0]) ∧ Below W.heap.size W w' :=
        fun W => (Sizes_ok ln ld mn md lo hi W hk z1 z2 z3).mono fun e w' ⟨L', M', ok', he, hS', hB⟩ => by
          obtain ⟨rfl, rfl, rfl⟩ := hS.unique hS'
          exact ⟨he, hB⟩
      cases hs : szB size with
      | false => exact safe_err2 ln ld mn md lo hi size L M 0 0 0 0 1 ok w ht hl (by decide) hZ (fun W => Cast_size ln ld mn md size W hk hs)
      | true =>
        cases hc : castB ln ld mn md size with
        | false => exact safe_err2 ln ld mn md lo hi size L M 0 0 0 0 10 ok w ht hl (by decide) hZ (fun W => Cast_none ln ld mn md size W hk hs hc)
        | true =>
          have hc' := hc
          unfold castB at hc
          rw [Bool.and_eq_true] at hc
          obtain ⟨s1, s2⟩ := szB_iff.1 hs
          have o1 : okQ (lowN (size * (md - mn)) md) (lowD (size * (md - mn)) md) = true := by rw [okQ_low r7]; exact hc.1
          have o2 : okQ (lowN (size * (ld - ln)) ld) (lowD (size * (ld - ln)) ld) = true := by rw [okQ_low r3]; exact hc.2
          have q1 : okQ lo 1 = true := okQ_iff.2 ⟨by omega, by omega, by omega, by omega, by unfold gc; rw [Int.gcd_one_right]; rfl⟩
          have q2 : okQ hi 1 = true := okQ_iff.2 ⟨by omega, by omega, by omega, by omega, by unfold gc; rw [Int.gcd_one_right]; rfl⟩
          have x1 := low_across (a := size * (md - mn)) (b := md) (c := lo) (d := 1) r7 (by omega)
          have x2 := low_across (a := hi) (b := 1) (c := size * (ld - ln)) (d := ld) (by omega) r3
          have e1 : lowN lo 1 = lo ∧ lowD lo 1 = 1 := low_of_gc (by unfold gc; rw [Int.gcd_one_right]; rfl)
          have e2 : lowN hi 1 = hi ∧ lowD hi 1 = 1 := low_of_gc (by unfold gc; rw [Int.gcd_one_right]; rfl)
          rw [e1.1, e1.2] at x1
          rw [e2.1, e2.2] at x2
          refine safe_core ln ld mn md lo hi size L M _ _ _ _ ok ((okQ (lowN (size * (md - mn)) md) (lowD (size * (md - mn)) md) && okQ lo 1) && ltB (lowN (size * (md - mn)) md) (lowD (size * (md - mn)) md) lo 1) ((okQ hi 1 && okQ (lowN (size * (ld - ln)) ld) (lowD (size * (ld - ln)) ld)) && ltB hi 1 (lowN (size * (ld - ln)) ld) (lowD (size * (ld - ln)) ld)) w ht hl hZ
            (fun W => Cast_ok ln ld mn md size W hk hs hc.1 hc.2) (fun W => less_any _ _ _ _ W (W2.of_ok o1) (W2.of_ok q1)) (fun W => less_any _ _ _ _ W (W2.of_ok q2) (W2.of_ok o2)) ?_
          rw [o1, o2, q1, q2, Bool.and_self, Bool.true_and, Bool.true_and]
          have hv : (!ltB (lowN (size * (md - mn)) md) (lowD (size * (md - mn)) md) lo 1 && !ltB hi 1 (lowN (size * (ld - ln)) ld) (lowD (size * (ld - ln)) ld)) = servesB ln ld mn md lo hi size := by
            rw [Bool.eq_iff_iff, servesB_iff, Bool.and_eq_true, Bool.not_eq_true', Bool.not_eq_true']
            unfold ltB Serves
            rw [decide_eq_false_iff_not, decide_eq_false_iff_not]
            have y1 := x1.1
            have y2 := x2.1
            constructor
            · rintro ⟨u1, u2⟩
              refine ⟨?_, ?_⟩
              · rcases Int.lt_or_le (size * (md - mn)) (lo * md) with hh | hh
                · exact absurd (y1.2 (by omega)) (by omega)
                · exact hh
              · rcases Int.lt_or_le (hi * ld) (size * (ld - ln)) with hh | hh
                · exact absurd (y2.2 (by omega)) (by omega)
                · exact hh
            · rintro ⟨u1, u2⟩
              refine ⟨fun hh => ?_, fun hh => ?_⟩
              · have := y1.1 (by omega); omega
              · have := y2.1 (by omega); omega
          rw [hv]
          unfold SafeWay
          rcases hS with ⟨rfl, k1, k2, k3, k4⟩ | ⟨rfl, rfl, rfl, k4⟩
          · have hq := k4 size s1 s2
            by_cases hin : L ≤ size ∧ size ≤ M
            · right; left; exact ⟨rfl, servesB_iff.2 (hq.2 hin), hin.1, hin.2⟩
            · have hn : servesB ln ld mn md lo hi size = false := servesB_no fun hh => hin (hq.1 hh)
              rcases Int.lt_or_le size L with hh | hh
              · right; right; left; exact ⟨rfl, hn, hh⟩
              · right; right; right; exact ⟨rfl, hn, hh, by omega⟩
          · left; exact ⟨rfl, servesB_no (k4 size s1 s2), rfl, rfl⟩
    · obtain ⟨an, ad, bn, bd, ce, hC⟩ := hcast
      cases z1 : szB lo with
      | false => exact safe_err1 ln ld mn md lo hi size 1 an ad bn bd ce w ht hl (by decide) (fun W => Sizes_low ln ld mn md lo hi W hk z1) hC
      | true =>
        cases z2 : szB hi with
        | false => exact safe_err1 ln ld mn md lo hi size 1 an ad bn bd ce w ht hl (by decide) (fun W => Sizes_high ln ld mn md lo hi W hk z1 z2) hC
        | true =>
          have : hi < lo := by
            rcases Int.lt_or_le hi lo with hh | hh
            · exact hh
            · exact absurd ⟨z1, z2, hh⟩ hz
          exact safe_err1 ln ld mn md lo hi size 12 an ad bn bd ce w ht hl (by decide) (fun W => Sizes_order ln ld mn md lo hi W hk z1 z2 this) hC
end Go.Proofs.YthoinamncekgmaaDoor
