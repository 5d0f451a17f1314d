/-
  The statement on rules one after the other, and both, at every input.
-/
import Derived.Test.YtgonaamjjhhiiaaDoorChW
set_option linter.unusedVariables false
set_option linter.unusedSimpArgs false
namespace Go.Proofs.YtgonaamjjhhiiaaDoor
open Go Go.RowKit

theorem ok_one : okQ 1 1 = true := by decide +kernel
theorem sub_val {p q : Int} (h : okQ p q = true) (h1 : 0 ≤ p) (h2 : p ≤ q) (h3 : q ≤ 1000) (W : World) :
    Calls Tryd.prog 18 #[.agg #[.int .i64 (1), .int .i64 (1)], .agg #[.int .i64 (p), .int .i64 (q)]] W fun e w' => e = .returned (.tuple #[.agg #[.int .i64 (lowN (1 * q - p * 1) (1 * q)), .int .i64 (lowD (1 * q - p * 1) (1 * q))], .int .i64 0]) ∧ Below W.heap.size W w' := by
  obtain ⟨q1, _⟩ := okQ_iff.1 h
  exact Sub_ok 1 1 p q W ok_one h (lowOk_small (by omega) (by omega) (by omega) (by omega))
theorem mul_way {xn xd cn cd an ad : Int} (h1 : lowN (xn * cn) (xd * cd) = an) (h2 : lowD (xn * cn) (xd * cd) = ad) : (mulE xn xd cn cd == 0) = false ∨ (mulE xn xd cn cd = 0 ∧ mulN xn xd cn cd = an ∧ mulD xn xd cn cd = ad) := by
  unfold mulE mulN mulD
  by_cases hb : bothB xn xd cn cd = true
  · rw [if_pos hb, if_pos hb, if_pos hb]
    unfold madeE madeN madeD
    by_cases hl : lowOk (xn * cn) (xd * cd) = true
    · rw [if_pos hl, if_pos hl, if_pos hl]
      exact .inr ⟨rfl, h1, h2⟩
    · rw [if_neg hl]
      exact .inl rfl
  · rw [if_neg hb]
    exact .inl rfl

theorem chain_core (ln ld mn md kn kd on od size lo hi t1 t2 t3 t4 te an ad bn bd ge b1 b2 b3 b4 be L M P O sg : Int) (ok is : Bool) (w : World) (ht : Pow10 w) (hl : AliveOk)
    (hT : ∀ W, Calls Tryd.prog 16 #[.agg #[.int .i64 (ln), .int .i64 (ld), .int .i64 (mn), .int .i64 (md)], .agg #[.int .i64 (kn), .int .i64 (kd), .int .i64 (on), .int .i64 (od)]] W fun e w' => e = .returned (.tuple #[.agg #[.int .i64 (t1), .int .i64 (t2), .int .i64 (t3), .int .i64 (t4)], .int .i64 te]) ∧ Below W.heap.size W w')
    (hC : ∀ W, Calls Tryd.prog 17 #[.agg #[.int .i64 (t1), .int .i64 (t2), .int .i64 (t3), .int .i64 (t4)], .int .i64 size] W fun e w' => e = .returned (.tuple #[.agg #[.int .i64 (an), .int .i64 (ad)], .agg #[.int .i64 (bn), .int .i64 (bd)], .int .i64 ge]) ∧ Below W.heap.size W w')
    (hF : (te == 0) = false ∨ (te = 0 ∧ (ge == 0) = false) ∨ (te = 0 ∧ ge = 0 ∧ ChFull ln ld mn md kn kd on od size an ad bn bd))
    (hB : ∀ W, Calls Tryd.prog 21 #[.agg #[.int .i64 (ln), .int .i64 (ld), .int .i64 (mn), .int .i64 (md)], .agg #[.int .i64 (kn), .int .i64 (kd), .int .i64 (on), .int .i64 (od)]] W fun e w' => e = .returned (.tuple #[.agg #[.int .i64 (b1), .int .i64 (b2), .int .i64 (b3), .int .i64 (b4)], .int .i64 be]) ∧ Below W.heap.size W w')
    (hR : (be != 0) = true ∨ (be = 0 ∧
      (∀ W, Calls Tryd.prog 22 #[.agg #[.int .i64 (ln), .int .i64 (ld), .int .i64 (mn), .int .i64 (md)], .int .i64 lo, .int .i64 hi] W fun e w' => e = .returned (.tuple #[.int .i64 L, .int .i64 M, .bool ok, .int .i64 sg]) ∧ Below W.heap.size W w') ∧
      (∀ W, Calls Tryd.prog 22 #[.agg #[.int .i64 (b1), .int .i64 (b2), .int .i64 (b3), .int .i64 (b4)], .int .i64 lo, .int .i64 hi] W fun e w' => e = .returned (.tuple #[.int .i64 P, .int .i64 O, .bool is, .int .i64 sg]) ∧ Below W.heap.size W w') ∧ ChWay ok is L M P O)) :
    Calls Tryd.prog 5 #[.agg #[.int .i64 (ln), .int .i64 (ld), .int .i64 (mn), .int .i64 (md)], .agg #[.int .i64 (kn), .int .i64 (kd), .int .i64 (on), .int .i64 (od)], .int .i64 size, .int .i64 lo, .int .i64 hi] w fun e w' => e = .returned (.bool true) ∧ Below w.heap.size w w' := by
  rcases hF with h | h | h
  · exact chain_skip ln ld mn md kn kd on od size lo hi t1 t2 t3 t4 te an ad bn bd ge b1 b2 b3 b4 be L M P O sg ok is w ht hl hT hC (.inl h) hB hR
  · exact chain_skip ln ld mn md kn kd on od size lo hi t1 t2 t3 t4 te an ad bn bd ge b1 b2 b3 b4 be L M P O sg ok is w ht hl hT hC (.inr h) hB hR
  · exact chain_full ln ld mn md kn kd on od size lo hi t1 t2 t3 t4 te an ad bn bd ge b1 b2 b3 b4 be L M P O sg ok is w ht hl hT hC h hB hR

theorem chain_of (hl : AliveOk) (ln ld mn md kn kd on od size lo hi : Int) (w : World) (h1 : W2 ln ld) (h2 : W2 mn md) (h3 : W2 kn kd) (h4 : W2 on od) (_ : I64 size) (_ : I64 lo) (_ : I64 hi) (ht : Pow10 w) :
    Calls Tryd.prog 5 #[.agg #[.int .i64 (ln), .int .i64 (ld), .int .i64 (mn), .int .i64 (md)], .agg #[.int .i64 (kn), .int .i64 (kd), .int .i64 (on), .int .i64 (od)], .int .i64 size, .int .i64 lo, .int .i64 hi] w fun e w' => e = .returned (.bool true) ∧ Below w.heap.size w w' := by
  obtain ⟨t1, t2, t3, t4, te, ⟨tw1, tw2, tE⟩, hT⟩ := twice_val ln ld mn md kn kd on od h1 h2 h3 h4
  obtain ⟨an, ad, bn, bd, ge, ⟨_, _, cE⟩, _, hC⟩ := cast_val t1 t2 t3 t4 size tw1 tw2
  obtain ⟨b1, b2, b3, b4, be, bE, hB⟩ := both_val ln ld mn md kn kd on od h1 h2 h3 h4
  have hF : (te == 0) = false ∨ (te = 0 ∧ (ge == 0) = false) ∨ (te = 0 ∧ ge = 0 ∧ ChFull ln ld mn md kn kd on od size an ad bn bd) := by
    by_cases ht0 : te = 0
    · by_cases hg0 : ge = 0
      · refine .inr (.inr ⟨ht0, hg0, ?_⟩)
        obtain ⟨o1, o2, e1, e2, e3, e4⟩ := tE ht0
        obtain ⟨o3, o4, e5, e6, e7, e8⟩ := cE hg0
        obtain ⟨xn, xd, yn, yd, he, ⟨x1, x2, xE⟩, xz, hX⟩ := cast_val ln ld mn md size h1 h2
        obtain rfl := xz o1 o4
        obtain ⟨_, _, u1, u2, u3, u4⟩ := xE rfl
        obtain ⟨r1, r2, r3, r4, r5, r6, r7, r8⟩ := RuleB.of_ok o1
        obtain ⟨s1, s2, s3, s4, s5, s6, s7, s8⟩ := RuleB.of_ok o2
        obtain ⟨q1, q2, _⟩ := okR_all o2
        have c1 := chain_eq size (n := mn) (d := md) (p := on) (q := od) r7 s7
        have c2 := chain_eq size (n := ln) (d := ld) (p := kn) (q := kd) r3 s3
        rw [← u1, ← u2, ← e3, ← e4, ← e5, ← e6] at c1
        rw [← u3, ← u4, ← e1, ← e2, ← e7, ← e8] at c2
        have y1 : W2 (lowN (1 * od - on * 1) (1 * od)) (lowD (1 * od - on * 1) (1 * od)) := w2_okQ (by rw [okQ_low (by omega)]; exact lowOk_small (by omega) (by omega) (by omega) (by omega))
        have y2 : W2 (lowN (1 * kd - kn * 1) (1 * kd)) (lowD (1 * kd - kn * 1) (1 * kd)) := w2_okQ (by rw [okQ_low (by omega)]; exact lowOk_small (by omega) (by omega) (by omega) (by omega))
        exact ⟨xn, xd, yn, yd, _, _, _, _, _, _, _, _, _, _, hX, sub_val q2 s5 s6 s8, sub_val q1 s1 s2 s4, fun W => Mul_any _ _ _ _ W x1 y1, fun W => Mul_any _ _ _ _ W x2 y2, mul_way c1.1 c1.2, mul_way c2.1 c2.2⟩
      · exact .inr (.inl ⟨ht0, by simpa using hg0⟩)
    · exact .inl (by simpa using ht0)
  by_cases hb0 : be = 0
  · obtain ⟨k1, k2, k3, k4⟩ := bE hb0
    obtain ⟨L, M, P, O, g, ok, is, hw, hS1, hS2⟩ := sizes2_val lo hi k1 k2 k3 k4
    exact chain_core ln ld mn md kn kd on od size lo hi t1 t2 t3 t4 te an ad bn bd ge b1 b2 b3 b4 be L M P O g ok is w ht hl hT hC hF hB (.inr ⟨hb0, hS1, hS2, hw⟩)
  · exact chain_core ln ld mn md kn kd on od size lo hi t1 t2 t3 t4 te an ad bn bd ge b1 b2 b3 b4 be 0 0 0 0 0 false false w ht hl hT hC hF hB (.inl (by simpa using hb0))
end Go.Proofs.YtgonaamjjhhiiaaDoor
