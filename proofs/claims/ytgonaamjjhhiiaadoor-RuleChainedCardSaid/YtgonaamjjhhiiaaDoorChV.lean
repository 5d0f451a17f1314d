/-
  What the statement on rules one after the other needs of the numbers: casting by Twice, and what serves both rules.
-/
import Derived.Test.YtgonaamjjhhiiaaDoorSumV
import Derived.Test.YtgonaamjjhhiiaaDoorServe
import Derived.Test.YtgonaamjjhhiiaaDoorArgs
import Derived.Test.YtgonaamjjhhiiaaDoorArgs2
import Derived.Test.YtgonaamjjhhiiaaDoorTwice
set_option linter.unusedVariables false
set_option linter.unusedSimpArgs false
namespace Go.Proofs.YtgonaamjjhhiiaaDoor
open Go Go.RowKit

theorem low_eq2 {a b c d : Int} (hb : 1 ≤ b) (hd : 1 ≤ d) (h : a * d = c * b) : lowN a b = lowN c d ∧ lowD a b = lowD c d := by
  refine low_eq hb (lowD_pos hd) (low_gc hd) ?_
  have c1 := lowN_mul c d
  have c2 := lowD_mul c d
  have gp := gc_pos (n := c) (d := d) (by omega)
  have : (a * lowD c d) * gc c d = (lowN c d * b) * gc c d := by
    calc (a * lowD c d) * gc c d = a * (lowD c d * gc c d) := Int.mul_assoc ..
      _ = (lowN c d * gc c d) * b := by rw [c2, c1, h]
      _ = (lowN c d * b) * gc c d := by grind
  exact Int.eq_of_mul_eq_mul_right (by omega) this

/-- Casting by two rules at once is casting by the one and taking the other one's part. -/
theorem chain_eq (s : Int) {n d p q : Int} (hd : 1 ≤ d) (hq : 1 ≤ q) :
    lowN (lowN (s * (d - n)) d * lowN (1 * q - p * 1) (1 * q)) (lowD (s * (d - n)) d * lowD (1 * q - p * 1) (1 * q)) = lowN (s * (lowD (tN n d p q) (d * q) - lowN (tN n d p q) (d * q))) (lowD (tN n d p q) (d * q)) ∧
    lowD (lowN (s * (d - n)) d * lowN (1 * q - p * 1) (1 * q)) (lowD (s * (d - n)) d * lowD (1 * q - p * 1) (1 * q)) = lowD (s * (lowD (tN n d p q) (d * q) - lowN (tN n d p q) (d * q))) (lowD (tN n d p q) (d * q)) := by
  have hdq : 1 ≤ d * q := Int.mul_pos (by omega) (by omega)
  have x1 := lowN_mul (s * (d - n)) d
  have x2 := lowD_mul (s * (d - n)) d
  have xp := lowD_pos (n := s * (d - n)) hd
  have xg := gc_pos (n := s * (d - n)) (d := d) (by omega)
  have c1 := lowN_mul (1 * q - p * 1) (1 * q)
  have c2 := lowD_mul (1 * q - p * 1) (1 * q)
  have cp := lowD_pos (n := 1 * q - p * 1) (d := 1 * q) (by omega)
  have cg := gc_pos (n := 1 * q - p * 1) (d := 1 * q) (by omega)
  have t1 := lowN_mul (tN n d p q) (d * q)
  have t2 := lowD_mul (tN n d p q) (d * q)
  have tp := lowD_pos (n := tN n d p q) hdq
  have tg := gc_pos (n := tN n d p q) (d := d * q) (by omega)
  have tE : tN n d p q = d * q - (d - n) * (q - p) := by unfold tN; rw [Int.one_mul]
  generalize lowN (s * (d - n)) d = xn at *
  generalize lowD (s * (d - n)) d = xd at *
  generalize gc (s * (d - n)) d = xG at *
  generalize lowN (1 * q - p * 1) (1 * q) = cn at *
  generalize lowD (1 * q - p * 1) (1 * q) = cd at *
  generalize gc (1 * q - p * 1) (1 * q) = cG at *
  generalize lowN (tN n d p q) (d * q) = tn at *
  generalize lowD (tN n d p q) (d * q) = td at *
  generalize gc (tN n d p q) (d * q) = tG at *
  refine low_eq2 (Int.mul_pos (by omega) (by omega)) tp ?_
  have e1 : td * tG - tn * tG = (d - n) * (q - p) := by rw [t2, t1, tE]; omega
  have e2 : 1 * q - p * 1 = q - p := by omega
  have e3 : 1 * q = q := by omega
  rw [e2] at c1
  rw [e3] at c2
  have key : (xn * cn * td) * (xG * cG * tG) = (s * (td - tn) * (xd * cd)) * (xG * cG * tG) := by
    calc (xn * cn * td) * (xG * cG * tG) = (xn * xG) * (cn * cG) * (td * tG) := by grind
      _ = (s * (d - n)) * (q - p) * (d * q) := by rw [x1, c1, t2]
      _ = s * ((d - n) * (q - p)) * (d * q) := by grind
      _ = s * (td * tG - tn * tG) * ((xd * xG) * (cd * cG)) := by rw [e1, x2, c2]
      _ = (s * (td - tn) * (xd * cd)) * (xG * cG * tG) := by grind
  have hg : 1 ≤ xG * cG * tG := Int.mul_pos (Int.mul_pos (by omega) (by omega)) (by omega)
  exact Int.eq_of_mul_eq_mul_right (by omega) key

theorem lowOk_small {n d : Int} (h1 : -1000000000 ≤ n) (h2 : n ≤ 1000000000) (h3 : 1 ≤ d) (h4 : d ≤ 1000000) : lowOk n d = true := by
  have e1 := lowN_mul n d
  have e2 := lowD_le (n := n) (d := d) h3
  have g := gc_pos (n := n) (d := d) (by omega)
  have e3 : (lowN n d).natAbs ≤ (lowN n d * gc n d).natAbs := by rw [Int.natAbs_mul]; exact Nat.le_mul_of_pos_right _ (by omega)
  rw [e1] at e3
  exact lowOk_iff.2 ⟨by omega, by omega, by omega⟩

theorem w2_zero : W2 0 0 := by unfold W2 I64; omega
theorem w2_okQ {n d : Int} (h : okQ n d = true) : W2 n d := by
  obtain ⟨h1, h2, h3, h4, _⟩ := okQ_iff.1 h
  unfold W2 I64
  omega

/-- What Twice returns. -/
def TwIs (ln ld mn md kn kd on od a b c d e : Int) : Prop :=
  W2 a b ∧ W2 c d ∧ (e = 0 → okR ln ld mn md = true ∧ okR kn kd on od = true ∧ a = lowN (tN ln ld kn kd) (ld * kd) ∧ b = lowD (tN ln ld kn kd) (ld * kd) ∧ c = lowN (tN mn md on od) (md * od) ∧ d = lowD (tN mn md on od) (md * od))
theorem twice_val (ln ld mn md kn kd on od : Int) (v1 : W2 ln ld) (v2 : W2 mn md) (v3 : W2 kn kd) (v4 : W2 on od) : ∃ a b c d e : Int, TwIs ln ld mn md kn kd on od a b c d e ∧
    ∀ W, Calls Tryd.prog 16 #[.agg #[.int .i64 (ln), .int .i64 (ld), .int .i64 (mn), .int .i64 (md)], .agg #[.int .i64 (kn), .int .i64 (kd), .int .i64 (on), .int .i64 (od)]] W fun e' w' => e' = .returned (.tuple #[.agg #[.int .i64 (a), .int .i64 (b), .int .i64 (c), .int .i64 (d)], .int .i64 e]) ∧ Below W.heap.size W w' := by
  cases h : (okR ln ld mn md && okR kn kd on od) with
  | false => exact ⟨0, 0, 0, 0, 1, ⟨w2_zero, w2_zero, fun h => absurd h (by decide)⟩, fun W => Twice_arg ln ld mn md kn kd on od W v1 v2 v3 v4 h⟩
  | true =>
    rw [Bool.and_eq_true] at h
    obtain ⟨h1, h2⟩ := h
    obtain ⟨r1, r2, r3, r4, r5, r6, r7, r8⟩ := RuleB.of_ok h1
    obtain ⟨s1, s2, s3, s4, s5, s6, s7, s8⟩ := RuleB.of_ok h2
    have k1 := tN_bd r1 r2 ⟨r3, r4⟩ s1 s2 ⟨s3, s4⟩
    have k2 := tN_bd r5 r6 ⟨r7, r8⟩ s5 s6 ⟨s7, s8⟩
    have L := fun (a b c d er ck : Int) hl hr (W : World) => Twice_core ln ld mn md kn kd on od a b c d er ck W h1 h2 hl hr
    have z0 : ∀ W, Calls Tryd.prog 46 #[.agg #[.int .i64 (0), .int .i64 (0), .int .i64 (0), .int .i64 (0)]] W fun e w' => e = .returned (.int .i64 1) ∧ Below W.heap.size W w' := fun W => CheckRule_bad 0 0 0 0 W w2_zero w2_zero (by decide +kernel)
    cases l1 : lowOk (tN ln ld kn kd) (ld * kd) with
    | false =>
      refine ⟨0, 0, 0, 0, 10, ⟨w2_zero, w2_zero, fun h => absurd h (by decide)⟩, fun W => ?_⟩
      have := L 0 0 0 0 10 1 (fun W => lowestTwo_bad1 _ _ _ _ W k1 k2 l1) z0 W
      unfold twOut at this
      rw [if_neg (by decide)] at this
      exact this
    | true =>
      cases l2 : lowOk (tN mn md on od) (md * od) with
      | false =>
        refine ⟨0, 0, 0, 0, 10, ⟨w2_zero, w2_zero, fun h => absurd h (by decide)⟩, fun W => ?_⟩
        have := L 0 0 0 0 10 1 (fun W => lowestTwo_bad2 _ _ _ _ W k1 k2 l1 l2) z0 W
        unfold twOut at this
        rw [if_neg (by decide)] at this
        exact this
      | true =>
        have o1 : W2 (lowN (tN ln ld kn kd) (ld * kd)) (lowD (tN ln ld kn kd) (ld * kd)) := w2_okQ (by rw [okQ_low k1.1]; exact l1)
        have o2 : W2 (lowN (tN mn md on od) (md * od)) (lowD (tN mn md on od) (md * od)) := w2_okQ (by rw [okQ_low k2.1]; exact l2)
        cases hk : okR (lowN (tN ln ld kn kd) (ld * kd)) (lowD (tN ln ld kn kd) (ld * kd)) (lowN (tN mn md on od) (md * od)) (lowD (tN mn md on od) (md * od)) with
        | true =>
          refine ⟨_, _, _, _, 0, ⟨o1, o2, fun _ => ⟨h1, h2, rfl, rfl, rfl, rfl⟩⟩, fun W => ?_⟩
          have := L _ _ _ _ 0 0 (fun W => lowestTwo_ok _ _ _ _ W k1 k2 l1 l2) (fun W => CheckRule_yes _ _ _ _ W hk) W
          unfold twOut at this
          rw [if_pos rfl, if_pos rfl] at this
          exact this
        | false =>
          refine ⟨0, 0, 0, 0, 10, ⟨w2_zero, w2_zero, fun h => absurd h (by decide)⟩, fun W => ?_⟩
          have := L _ _ _ _ 0 1 (fun W => lowestTwo_ok _ _ _ _ W k1 k2 l1 l2) (fun W => CheckRule_bad _ _ _ _ W o1 o2 hk) W
          unfold twOut at this
          rw [if_pos rfl, if_neg (by decide)] at this
          exact this

/-- What Cast returns. -/
def CsIs (ln ld mn md s a b c d e : Int) : Prop :=
  W2 a b ∧ W2 c d ∧ (e = 0 → okR ln ld mn md = true ∧ szB s = true ∧ a = lowN (s * (md - mn)) md ∧ b = lowD (s * (md - mn)) md ∧ c = lowN (s * (ld - ln)) ld ∧ d = lowD (s * (ld - ln)) ld)
theorem cast_val (ln ld mn md s : Int) (h1 : W2 ln ld) (h2 : W2 mn md) : ∃ a b c d e : Int, CsIs ln ld mn md s a b c d e ∧ (okR ln ld mn md = true → szB s = true → e = 0) ∧
    ∀ W, Calls Tryd.prog 17 #[.agg #[.int .i64 (ln), .int .i64 (ld), .int .i64 (mn), .int .i64 (md)], .int .i64 s] W fun e' w' => e' = .returned (.tuple #[.agg #[.int .i64 (a), .int .i64 (b)], .agg #[.int .i64 (c), .int .i64 (d)], .int .i64 e]) ∧ Below W.heap.size W w' := by
  cases hk : okR ln ld mn md with
  | false => exact ⟨0, 0, 0, 0, 1, ⟨w2_zero, w2_zero, fun h => absurd h (by decide)⟩, fun h => absurd h (by decide), fun W => Cast_rule ln ld mn md s W h1 h2 hk⟩
  | true =>
    cases hs : szB s with
    | false => exact ⟨0, 0, 0, 0, 1, ⟨w2_zero, w2_zero, fun h => absurd h (by decide)⟩, fun _ h => absurd h (by decide), fun W => Cast_size ln ld mn md s W hk hs⟩
    | true =>
      obtain ⟨r1, r2, r3, r4, r5, r6, r7, r8⟩ := RuleB.of_ok hk
      obtain ⟨s1, s2⟩ := szB_iff.1 hs
      have m1 := mul_bd (a := s) (b := md - mn) (A := 1000000) (B := 1000) (by omega) (by omega) (by omega) (by omega)
      have m2 := mul_bd (a := s) (b := ld - ln) (A := 1000000) (B := 1000) (by omega) (by omega) (by omega) (by omega)
      have l1 : lowOk (s * (md - mn)) md = true := lowOk_small (by omega) (by omega) r7 (by omega)
      have l2 : lowOk (s * (ld - ln)) ld = true := lowOk_small (by omega) (by omega) r3 (by omega)
      have o1 : W2 (lowN (s * (md - mn)) md) (lowD (s * (md - mn)) md) := w2_okQ (by rw [okQ_low r7]; exact l1)
      have o2 : W2 (lowN (s * (ld - ln)) ld) (lowD (s * (ld - ln)) ld) := w2_okQ (by rw [okQ_low r3]; exact l2)
      exact ⟨_, _, _, _, 0, ⟨o1, o2, fun _ => ⟨hk, hs, rfl, rfl, rfl, rfl⟩⟩, fun _ _ => rfl, fun W => Cast_ok ln ld mn md s W hk hs l1 l2⟩

theorem okR_mk {ln ld mn md : Int} (h1 : okQ ln ld = true) (h2 : okQ mn md = true) (h3 : ld ≤ 1000) (h4 : md ≤ 1000) (h5 : 0 ≤ ln) (h6 : ln * md - mn * ld ≤ 0) (h7 : mn * 4 - 1 * md ≤ 0) : okR ln ld mn md = true := by
  unfold okR
  rw [h1, h2, Bool.and_self, Bool.true_and]
  exact ruB_iff.2 ⟨h3, h4, h5, h6, h7⟩
theorem okR_all {ln ld mn md : Int} (h : okR ln ld mn md = true) : okQ ln ld = true ∧ okQ mn md = true ∧ ld ≤ 1000 ∧ md ≤ 1000 ∧ 0 ≤ ln ∧ ln * md - mn * ld ≤ 0 ∧ mn * 4 - 1 * md ≤ 0 := by
  unfold okR at h
  rw [Bool.and_eq_true, Bool.and_eq_true] at h
  obtain ⟨r1, r2, r3, r4, r5⟩ := ruB_iff.1 h.2
  exact ⟨h.1.1, h.1.2, r1, r2, r3, r4, r5⟩

/-- What Both returns: a rule in the first one. -/
def BoIs (ln ld mn md a b c d e : Int) : Prop := e = 0 → okR ln ld mn md = true ∧ okR a b c d = true ∧ ln * b ≤ a * ld ∧ c * md ≤ mn * d
theorem both_val (ln ld mn md kn kd on od : Int) (v1 : W2 ln ld) (v2 : W2 mn md) (v3 : W2 kn kd) (v4 : W2 on od) : ∃ a b c d e : Int, BoIs ln ld mn md a b c d e ∧
    ∀ W, Calls Tryd.prog 21 #[.agg #[.int .i64 (ln), .int .i64 (ld), .int .i64 (mn), .int .i64 (md)], .agg #[.int .i64 (kn), .int .i64 (kd), .int .i64 (on), .int .i64 (od)]] W fun e' w' => e' = .returned (.tuple #[.agg #[.int .i64 (a), .int .i64 (b), .int .i64 (c), .int .i64 (d)], .int .i64 e]) ∧ Below W.heap.size W w' := by
  cases h : (okR ln ld mn md && okR kn kd on od) with
  | false => exact ⟨0, 0, 0, 0, 1, fun h => absurd h (by decide), fun W => Both_arg ln ld mn md kn kd on od W v1 v2 v3 v4 h⟩
  | true =>
    rw [Bool.and_eq_true] at h
    obtain ⟨h1, h2⟩ := h
    obtain ⟨p1, p2, p3, p4, p5, p6, p7⟩ := okR_all h1
    obtain ⟨q1, q2, q3, q4, q5, q6, q7⟩ := okR_all h2
    by_cases ha : 0 < kn * ld - ln * kd
    · by_cases hb : on * md - mn * od < 0
      · by_cases hc : 0 < kn * od - on * kd
        · exact ⟨_, _, _, _, _, fun h => absurd h (by decide), fun W => Both_111 ln ld mn md kn kd on od W h1 h2 ha hb hc⟩
        · exact ⟨_, _, _, _, _, fun _ => ⟨h1, h2, by omega, by omega⟩, fun W => Both_110 ln ld mn md kn kd on od W h1 h2 ha hb (by omega)⟩
      · by_cases hc : 0 < kn * md - mn * kd
        · exact ⟨_, _, _, _, _, fun h => absurd h (by decide), fun W => Both_101 ln ld mn md kn kd on od W h1 h2 ha (by omega) hc⟩
        · exact ⟨_, _, _, _, _, fun _ => ⟨h1, okR_mk q1 p2 q3 p4 q5 (by omega) p7, by omega, by omega⟩, fun W => Both_100 ln ld mn md kn kd on od W h1 h2 ha (by omega) (by omega)⟩
    · by_cases hb : on * md - mn * od < 0
      · by_cases hc : 0 < ln * od - on * ld
        · exact ⟨_, _, _, _, _, fun h => absurd h (by decide), fun W => Both_011 ln ld mn md kn kd on od W h1 h2 (by omega) hb hc⟩
        · exact ⟨_, _, _, _, _, fun _ => ⟨h1, okR_mk p1 q2 p3 q4 p5 (by omega) q7, by omega, by omega⟩, fun W => Both_010 ln ld mn md kn kd on od W h1 h2 (by omega) hb (by omega)⟩
      · by_cases hc : 0 < ln * md - mn * ld
        · exact ⟨_, _, _, _, _, fun h => absurd h (by decide), fun W => Both_001 ln ld mn md kn kd on od W h1 h2 (by omega) (by omega) hc⟩
        · exact ⟨_, _, _, _, _, fun _ => ⟨h1, h1, by omega, by omega⟩, fun W => Both_000 ln ld mn md kn kd on od W h1 h2 (by omega) (by omega) (by omega)⟩

theorem serves_in {ln ld mn md a b c d lo hi n : Int} (hl : 1 ≤ ld) (hm : 1 ≤ md) (hb : 1 ≤ b) (hd : 1 ≤ d) (h1 : ln * b ≤ a * ld) (h2 : c * md ≤ mn * d) (hn : 1 ≤ n) (h : Serves ln ld mn md lo hi n) : Serves a b c d lo hi n := by
  obtain ⟨k1, k2⟩ := h
  constructor
  · have e1 : (lo * md) * d ≤ (n * (md - mn)) * d := Int.mul_le_mul_of_nonneg_right k1 (by omega)
    have e2 : n * (c * md) ≤ n * (mn * d) := Int.mul_le_mul_of_nonneg_left h2 (by omega)
    have e3 : (lo * d) * md ≤ (n * (d - c)) * md := by grind
    exact Int.le_of_mul_le_mul_right e3 (by omega)
  · have e1 : (n * (ld - ln)) * b ≤ (hi * ld) * b := Int.mul_le_mul_of_nonneg_right k2 (by omega)
    have e2 : n * (ln * b) ≤ n * (a * ld) := Int.mul_le_mul_of_nonneg_left h1 (by omega)
    have e3 : (n * (b - a)) * ld ≤ (hi * b) * ld := by grind
    exact Int.le_of_mul_le_mul_right e3 (by omega)

theorem sizes2_val {ln ld mn md a b c d : Int} (lo hi : Int) (h1 : okR ln ld mn md = true) (h2 : okR a b c d = true) (h3 : ln * b ≤ a * ld) (h4 : c * md ≤ mn * d) : ∃ L M P O g : Int, ∃ ok is : Bool, (ok = false ∨ (ok = true ∧ is = true ∧ P ≤ L ∧ M ≤ O)) ∧
    (∀ W, Calls Tryd.prog 22 #[.agg #[.int .i64 (ln), .int .i64 (ld), .int .i64 (mn), .int .i64 (md)], .int .i64 lo, .int .i64 hi] W fun e' w' => e' = .returned (.tuple #[.int .i64 L, .int .i64 M, .bool ok, .int .i64 g]) ∧ Below W.heap.size W w') ∧
    (∀ W, Calls Tryd.prog 22 #[.agg #[.int .i64 (a), .int .i64 (b), .int .i64 (c), .int .i64 (d)], .int .i64 lo, .int .i64 hi] W fun e' w' => e' = .returned (.tuple #[.int .i64 P, .int .i64 O, .bool is, .int .i64 g]) ∧ Below W.heap.size W w') := by
  cases z1 : szB lo with
  | false => exact ⟨_, _, _, _, _, _, _, .inl rfl, fun W => Sizes_low ln ld mn md lo hi W h1 z1, fun W => Sizes_low a b c d lo hi W h2 z1⟩
  | true =>
    cases z2 : szB hi with
    | false => exact ⟨_, _, _, _, _, _, _, .inl rfl, fun W => Sizes_high ln ld mn md lo hi W h1 z1 z2, fun W => Sizes_high a b c d lo hi W h2 z1 z2⟩
    | true =>
      by_cases z3 : lo ≤ hi
      · obtain ⟨r1, r2, r3, r4, r5, r6, r7, r8⟩ := RuleB.of_ok h1
        obtain ⟨s1, s2, s3, s4, s5, s6, s7, s8⟩ := RuleB.of_ok h2
        obtain ⟨L, M, ok, hS⟩ := sizes_exists (ln := ln) (ld := ld) (mn := mn) (md := md) lo hi r2 r6
        obtain ⟨P, O, is, hT⟩ := sizes_exists (ln := a) (ld := b) (mn := c) (md := d) lo hi s2 s6
        refine ⟨L, M, P, O, 0, ok, is, ?_, fun W => (Sizes_ok ln ld mn md lo hi W h1 z1 z2 z3).mono fun e w' ⟨L', M', ok', he, hS', hB⟩ => ?_, fun W => (Sizes_ok a b c d lo hi W h2 z1 z2 z3).mono fun e w' ⟨L', M', ok', he, hS', hB⟩ => ?_⟩
        · rcases hS with ⟨rfl, k1, k2, k3, k4⟩ | ⟨rfl, _⟩
          · have v1 := serves_in r3 r7 s3 s7 h3 h4 k1 ((k4 L k1 (by omega)).2 (by omega))
            have v2 := serves_in r3 r7 s3 s7 h3 h4 (by omega) ((k4 M (by omega) k3).2 (by omega))
            rcases hT with ⟨rfl, j1, j2, j3, j4⟩ | ⟨rfl, _, _, j4⟩
            · have u1 := (j4 L k1 (by omega)).1 v1
              have u2 := (j4 M (by omega) k3).1 v2
              exact .inr ⟨rfl, rfl, u1.1, u2.2⟩
            · exact absurd v1 (j4 L k1 (by omega))
          · exact .inl rfl
        · obtain ⟨rfl, rfl, rfl⟩ := hS.unique hS'
          exact ⟨he, hB⟩
        · obtain ⟨rfl, rfl, rfl⟩ := hT.unique hS'
          exact ⟨he, hB⟩
      · exact ⟨_, _, _, _, _, _, _, .inl rfl, fun W => Sizes_order ln ld mn md lo hi W h1 z1 z2 (by omega), fun W => Sizes_order a b c d lo hi W h2 z1 z2 (by omega)⟩
end Go.Proofs.YtgonaamjjhhiiaaDoor
