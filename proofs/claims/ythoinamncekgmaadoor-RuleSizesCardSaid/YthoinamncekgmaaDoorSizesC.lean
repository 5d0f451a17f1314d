/-
  The reference's walk over all sizes; the statement on sizes at every input.
-/
import Derived.Test.YthoinamncekgmaaDoorRefC
import Derived.Test.YthoinamncekgmaaDoorServe
import Derived.Test.YthoinamncekgmaaDoorArgs
import Derived.Test.YthoinamncekgmaaDoorField
set_option linter.unusedVariables false
set_option linter.unusedSimpArgs false
namespace Go.Proofs.YthoinamncekgmaaDoor
open Go Go.RowKit

set_option maxHeartbeats 2000000 in
theorem rServes_any (ln ld mn md n lo hi : Int) (w : World) (hk : okR ln ld mn md = true) (hn : szB n = true) (hlo : szB lo = true) (hhi : szB hi = true) :
    Calls Tryd.prog 117 #[.agg #[.int .i64 (ln), .int .i64 (ld), .int .i64 (mn), .int .i64 (md)], .int .i64 n, .int .i64 lo, .int .i64 hi] w fun e w' => e = .returned (.bool (servesB ln ld mn md lo hi n)) ∧ Below w.heap.size w w' := by
  obtain ⟨r1, r2, r3, r4, r5, r6, r7, r8⟩ := RuleB.of_ok hk
  obtain ⟨n1, n2⟩ := szB_iff.1 hn
  obtain ⟨l1, l2⟩ := szB_iff.1 hlo
  obtain ⟨h1, h2⟩ := szB_iff.1 hhi
  have m1 := mul_bd (a := n) (b := md - mn) (A := 1000000) (B := 1000) (by omega) (by omega) (by omega) (by omega)
  have m2 := mul_bd (a := n) (b := ld - ln) (A := 1000000) (B := 1000) (by omega) (by omega) (by omega) (by omega)
  have m3 := mul_bd (a := lo) (b := md) (A := 1000000) (B := 1000) (by omega) (by omega) (by omega) (by omega)
  have m4 := mul_bd (a := hi) (b := ld) (A := 1000000) (B := 1000) (by omega) (by omega) (by omega) (by omega)
  have HM := hide0 fun (W : World) => rleft_any mn md n W (by omega) (by omega) (by omega) (by omega)
  have HL := hide0 fun (W : World) => rleft_any ln ld n W (by omega) (by omega) (by omega) (by omega)
  have hs : servesB ln ld mn md lo hi n = decide (lo * md ≤ n * (md - mn) ∧ n * (ld - ln) ≤ hi * ld) := rfl
  generalize n * (md - mn) = a at *
  generalize n * (ld - ln) = c at *
  generalize ho : lo * md = p at *
  generalize hp : hi * ld = q at *
  clear hk hn hlo hhi r1 r2 r5 r6
  by_cases k1 : p ≤ a
  · by_cases k2 : c ≤ q
    · have HS := hide0 (hs.trans (decide_eq_true ⟨k1, k2⟩))
      clear hs
      rw [HS.out]
      go_enter Tryd.func117, Tryd.ntmps117
      go_wp2_with fail
      (refine (HM.out _).mono ?_; rintro e w1 ⟨rfl, hb1⟩; obtain ⟨hc1, hf1⟩ := bcell hb1; have hB1 : Below w.heap.size w w1 := up hb1 (by go_grown); have hz1 := hb1.size; (try simp at hz1); (try have hz1_w_p1 : w.heap.size < w1.heap.size + 1 := (by omega)); (try have hz1_w_p2 : w.heap.size < w1.heap.size + 1 + 1 := (by omega)); (try have hz1_w_p3 : w.heap.size < w1.heap.size + 1 + 1 + 1 := (by omega)); (try have hz1_w_0 : w.heap.size < w1.heap.size := (by omega)); (try have hz1_w_1 : w.heap.size + 1 < w1.heap.size := (by omega)); (try have hz1_w_2 : w.heap.size + 1 + 1 < w1.heap.size := (by omega)); (try have hz1_w_3 : w.heap.size + 1 + 1 + 1 < w1.heap.size := (by omega)); (try have hz1_w_4 : w.heap.size + 1 + 1 + 1 + 1 < w1.heap.size := (by omega)); (try have hz1_w_5 : w.heap.size + 1 + 1 + 1 + 1 + 1 < w1.heap.size := (by omega)); (try have hz1_w_6 : w.heap.size + 1 + 1 + 1 + 1 + 1 + 1 < w1.heap.size := (by omega)))
      go_wp2_with fail
      (refine (HL.out _).mono ?_; rintro e w2 ⟨rfl, hb2⟩; obtain ⟨hc2, hf2⟩ := bcell hb2; have hB2 : Below w.heap.size w w2 := up hb2 (by go_grown); have hz2 := hb2.size; (try simp at hz2); (try have hz2_w_p1 : w.heap.size < w2.heap.size + 1 := (by omega)); (try have hz2_w_p2 : w.heap.size < w2.heap.size + 1 + 1 := (by omega)); (try have hz2_w_p3 : w.heap.size < w2.heap.size + 1 + 1 + 1 := (by omega)); (try have hz2_w1_p1 : w1.heap.size < w2.heap.size + 1 := (by omega)); (try have hz2_w1_p2 : w1.heap.size < w2.heap.size + 1 + 1 := (by omega)); (try have hz2_w1_p3 : w1.heap.size < w2.heap.size + 1 + 1 + 1 := (by omega)); (try have hz2_w_0 : w.heap.size < w2.heap.size := (by omega)); (try have hz2_w_1 : w.heap.size + 1 < w2.heap.size := (by omega)); (try have hz2_w_2 : w.heap.size + 1 + 1 < w2.heap.size := (by omega)); (try have hz2_w_3 : w.heap.size + 1 + 1 + 1 < w2.heap.size := (by omega)); (try have hz2_w_4 : w.heap.size + 1 + 1 + 1 + 1 < w2.heap.size := (by omega)); (try have hz2_w_5 : w.heap.size + 1 + 1 + 1 + 1 + 1 < w2.heap.size := (by omega)); (try have hz2_w_6 : w.heap.size + 1 + 1 + 1 + 1 + 1 + 1 < w2.heap.size := (by omega)); (try have hz2_w1_0 : w1.heap.size < w2.heap.size := (by omega)); (try have hz2_w1_1 : w1.heap.size + 1 < w2.heap.size := (by omega)); (try have hz2_w1_2 : w1.heap.size + 1 + 1 < w2.heap.size := (by omega)); (try have hz2_w1_3 : w1.heap.size + 1 + 1 + 1 < w2.heap.size := (by omega)))
      subst ho hp
      go_wp2
      all_goals first | (exfalso; omega) | skip
      all_goals go_returns
      all_goals first | exact ⟨rfl, by go_grown⟩ | exact ⟨retB (decide_eq_false (by omega)), by go_grown⟩ | exact ⟨retB (decide_eq_true (by omega)), by go_grown⟩
    · have k2' : q < c := by omega
      have HS := hide0 (hs.trans (decide_eq_false fun hh => k2 hh.2))
      clear hs k2
      rw [HS.out]
      go_enter Tryd.func117, Tryd.ntmps117
      go_wp2_with fail
      (refine (HM.out _).mono ?_; rintro e w1 ⟨rfl, hb1⟩; obtain ⟨hc1, hf1⟩ := bcell hb1; have hB1 : Below w.heap.size w w1 := up hb1 (by go_grown); have hz1 := hb1.size; (try simp at hz1); (try have hz1_w_p1 : w.heap.size < w1.heap.size + 1 := (by omega)); (try have hz1_w_p2 : w.heap.size < w1.heap.size + 1 + 1 := (by omega)); (try have hz1_w_p3 : w.heap.size < w1.heap.size + 1 + 1 + 1 := (by omega)); (try have hz1_w_0 : w.heap.size < w1.heap.size := (by omega)); (try have hz1_w_1 : w.heap.size + 1 < w1.heap.size := (by omega)); (try have hz1_w_2 : w.heap.size + 1 + 1 < w1.heap.size := (by omega)); (try have hz1_w_3 : w.heap.size + 1 + 1 + 1 < w1.heap.size := (by omega)); (try have hz1_w_4 : w.heap.size + 1 + 1 + 1 + 1 < w1.heap.size := (by omega)); (try have hz1_w_5 : w.heap.size + 1 + 1 + 1 + 1 + 1 < w1.heap.size := (by omega)); (try have hz1_w_6 : w.heap.size + 1 + 1 + 1 + 1 + 1 + 1 < w1.heap.size := (by omega)))
      go_wp2_with fail
      (refine (HL.out _).mono ?_; rintro e w2 ⟨rfl, hb2⟩; obtain ⟨hc2, hf2⟩ := bcell hb2; have hB2 : Below w.heap.size w w2 := up hb2 (by go_grown); have hz2 := hb2.size; (try simp at hz2); (try have hz2_w_p1 : w.heap.size < w2.heap.size + 1 := (by omega)); (try have hz2_w_p2 : w.heap.size < w2.heap.size + 1 + 1 := (by omega)); (try have hz2_w_p3 : w.heap.size < w2.heap.size + 1 + 1 + 1 := (by omega)); (try have hz2_w1_p1 : w1.heap.size < w2.heap.size + 1 := (by omega)); (try have hz2_w1_p2 : w1.heap.size < w2.heap.size + 1 + 1 := (by omega)); (try have hz2_w1_p3 : w1.heap.size < w2.heap.size + 1 + 1 + 1 := (by omega)); (try have hz2_w_0 : w.heap.size < w2.heap.size := (by omega)); (try have hz2_w_1 : w.heap.size + 1 < w2.heap.size := (by omega)); (try have hz2_w_2 : w.heap.size + 1 + 1 < w2.heap.size := (by omega)); (try have hz2_w_3 : w.heap.size + 1 + 1 + 1 < w2.heap.size := (by omega)); (try have hz2_w_4 : w.heap.size + 1 + 1 + 1 + 1 < w2.heap.size := (by omega)); (try have hz2_w_5 : w.heap.size + 1 + 1 + 1 + 1 + 1 < w2.heap.size := (by omega)); (try have hz2_w_6 : w.heap.size + 1 + 1 + 1 + 1 + 1 + 1 < w2.heap.size := (by omega)); (try have hz2_w1_0 : w1.heap.size < w2.heap.size := (by omega)); (try have hz2_w1_1 : w1.heap.size + 1 < w2.heap.size := (by omega)); (try have hz2_w1_2 : w1.heap.size + 1 + 1 < w2.heap.size := (by omega)); (try have hz2_w1_3 : w1.heap.size + 1 + 1 + 1 < w2.heap.size := (by omega)))
      subst ho hp
      go_wp2
      all_goals first | (exfalso; omega) | skip
      all_goals go_returns
      all_goals first | exact ⟨rfl, by go_grown⟩ | exact ⟨retB (decide_eq_false (by omega)), by go_grown⟩ | exact ⟨retB (decide_eq_true (by omega)), by go_grown⟩
  · have k1' : a < p := by omega
    have HS := hide0 (hs.trans (decide_eq_false fun hh => k1 hh.1))
    clear hs k1
    rw [HS.out]
    go_enter Tryd.func117, Tryd.ntmps117
    go_wp2_with fail
    (refine (HM.out _).mono ?_; rintro e w1 ⟨rfl, hb1⟩; obtain ⟨hc1, hf1⟩ := bcell hb1; have hB1 : Below w.heap.size w w1 := up hb1 (by go_grown); have hz1 := hb1.size; (try simp at hz1); (try have hz1_w_p1 : w.heap.size < w1.heap.size + 1 := (by omega)); (try have hz1_w_p2 : w.heap.size < w1.heap.size + 1 + 1 := (by omega)); (try have hz1_w_p3 : w.heap.size < w1.heap.size + 1 + 1 + 1 := (by omega)); (try have hz1_w_0 : w.heap.size < w1.heap.size := (by omega)); (try have hz1_w_1 : w.heap.size + 1 < w1.heap.size := (by omega)); (try have hz1_w_2 : w.heap.size + 1 + 1 < w1.heap.size := (by omega)); (try have hz1_w_3 : w.heap.size + 1 + 1 + 1 < w1.heap.size := (by omega)); (try have hz1_w_4 : w.heap.size + 1 + 1 + 1 + 1 < w1.heap.size := (by omega)); (try have hz1_w_5 : w.heap.size + 1 + 1 + 1 + 1 + 1 < w1.heap.size := (by omega)); (try have hz1_w_6 : w.heap.size + 1 + 1 + 1 + 1 + 1 + 1 < w1.heap.size := (by omega)))
    go_wp2_with fail
    (refine (HL.out _).mono ?_; rintro e w2 ⟨rfl, hb2⟩; obtain ⟨hc2, hf2⟩ := bcell hb2; have hB2 : Below w.heap.size w w2 := up hb2 (by go_grown); have hz2 := hb2.size; (try simp at hz2); (try have hz2_w_p1 : w.heap.size < w2.heap.size + 1 := (by omega)); (try have hz2_w_p2 : w.heap.size < w2.heap.size + 1 + 1 := (by omega)); (try have hz2_w_p3 : w.heap.size < w2.heap.size + 1 + 1 + 1 := (by omega)); (try have hz2_w1_p1 : w1.heap.size < w2.heap.size + 1 := (by omega)); (try have hz2_w1_p2 : w1.heap.size < w2.heap.size + 1 + 1 := (by omega)); (try have hz2_w1_p3 : w1.heap.size < w2.heap.size + 1 + 1 + 1 := (by omega)); (try have hz2_w_0 : w.heap.size < w2.heap.size := (by omega)); (try have hz2_w_1 : w.heap.size + 1 < w2.heap.size := (by omega)); (try have hz2_w_2 : w.heap.size + 1 + 1 < w2.heap.size := (by omega)); (try have hz2_w_3 : w.heap.size + 1 + 1 + 1 < w2.heap.size := (by omega)); (try have hz2_w_4 : w.heap.size + 1 + 1 + 1 + 1 < w2.heap.size := (by omega)); (try have hz2_w_5 : w.heap.size + 1 + 1 + 1 + 1 + 1 < w2.heap.size := (by omega)); (try have hz2_w_6 : w.heap.size + 1 + 1 + 1 + 1 + 1 + 1 < w2.heap.size := (by omega)); (try have hz2_w1_0 : w1.heap.size < w2.heap.size := (by omega)); (try have hz2_w1_1 : w1.heap.size + 1 < w2.heap.size := (by omega)); (try have hz2_w1_2 : w1.heap.size + 1 + 1 < w2.heap.size := (by omega)); (try have hz2_w1_3 : w1.heap.size + 1 + 1 + 1 < w2.heap.size := (by omega)))
    subst ho hp
    go_wp2
    all_goals first | (exfalso; omega) | skip
    all_goals go_returns
    all_goals first | exact ⟨rfl, by go_grown⟩ | exact ⟨retB (decide_eq_false (by omega)), by go_grown⟩ | exact ⟨retB (decide_eq_true (by omega)), by go_grown⟩

/-- The sizes below n: none serves, or the serving ones begin at L and M is the last. -/
def SzInv (ln ld mn md lo hi L M n : Int) : Prop :=
  1 ≤ n ∧ n ≤ 1000001 ∧ ((L = 0 ∧ M = 0 ∧ ∀ k, 1 ≤ k → k < n → servesB ln ld mn md lo hi k = false) ∨
    (1 ≤ L ∧ L ≤ M ∧ M < n ∧ servesB ln ld mn md lo hi L = true ∧ servesB ln ld mn md lo hi M = true ∧ (∀ k, 1 ≤ k → k < L → servesB ln ld mn md lo hi k = false) ∧ ∀ k, M < k → k < n → servesB ln ld mn md lo hi k = false))
theorem SzInv.start (ln ld mn md lo hi : Int) : SzInv ln ld mn md lo hi 0 0 1 := ⟨by omega, by omega, .inl ⟨rfl, rfl, fun k h1 h2 => by omega⟩⟩
theorem SzInv.no {ln ld mn md lo hi L M n : Int} (h : SzInv ln ld mn md lo hi L M n) (hn : n ≤ 1000000) (hs : servesB ln ld mn md lo hi n = false) : SzInv ln ld mn md lo hi L M (n + 1) := by
  obtain ⟨h1, h2, h3⟩ := h
  refine ⟨by omega, by omega, ?_⟩
  rcases h3 with ⟨a1, a2, a3⟩ | ⟨a1, a2, a3, a4, a5, a6, a7⟩
  · refine .inl ⟨a1, a2, fun k k1 k2 => ?_⟩
    rcases Int.lt_or_le k n with hh | hh
    · exact a3 k k1 hh
    · rw [show k = n by omega]; exact hs
  · refine .inr ⟨a1, a2, by omega, a4, a5, a6, fun k k1 k2 => ?_⟩
    rcases Int.lt_or_le k n with hh | hh
    · exact a7 k k1 hh
    · rw [show k = n by omega]; exact hs
theorem SzInv.first {ln ld mn md lo hi M n : Int} (h : SzInv ln ld mn md lo hi 0 M n) (hn : n ≤ 1000000) (hs : servesB ln ld mn md lo hi n = true) : SzInv ln ld mn md lo hi n n (n + 1) := by
  obtain ⟨h1, h2, h3⟩ := h
  refine ⟨by omega, by omega, ?_⟩
  rcases h3 with ⟨a1, a2, a3⟩ | ⟨a1, _⟩
  · exact .inr ⟨h1, by omega, by omega, hs, hs, a3, fun k k1 k2 => by omega⟩
  · omega
theorem SzInv.more {ln ld mn md lo hi L M n : Int} (h : SzInv ln ld mn md lo hi L M n) (hl : ¬ L = 0) (hn : n ≤ 1000000) (hs : servesB ln ld mn md lo hi n = true) : SzInv ln ld mn md lo hi L n (n + 1) := by
  obtain ⟨h1, h2, h3⟩ := h
  refine ⟨by omega, by omega, ?_⟩
  rcases h3 with ⟨a1, _⟩ | ⟨a1, a2, a3, a4, a5, a6, a7⟩
  · omega
  · exact .inr ⟨a1, by omega, by omega, a4, hs, a6, fun k k1 k2 => by omega⟩
theorem SzInv.lo {ln ld mn md lo hi L M n : Int} (h : SzInv ln ld mn md lo hi L M n) : 0 ≤ L := by
  obtain ⟨h1, h2, h3⟩ := h
  rcases h3 with ⟨a1, _⟩ | ⟨a1, _⟩ <;> omega
theorem SzInv.is {ln ld mn md lo hi L M L' M' : Int} {ok : Bool} (h : SzInv ln ld mn md lo hi L M 1000001) (hS : SizesIs ln ld mn md lo hi L' M' ok) : L = L' ∧ M = M' ∧ decide (0 < L) = ok := by
  obtain ⟨h1, h2, h3⟩ := h
  have no : ∀ {k : Int}, servesB ln ld mn md lo hi k = false → ¬ Serves ln ld mn md lo hi k := fun hb hs => by rw [servesB_iff.2 hs] at hb; cases hb
  rcases hS with ⟨rfl, k1, k2, k3, k4⟩ | ⟨rfl, rfl, rfl, k4⟩
  · rcases h3 with ⟨a1, a2, a3⟩ | ⟨a1, a2, a3, a4, a5, a6, a7⟩
    · exact absurd ((k4 L' (by omega) (by omega)).2 (by omega)) (no (a3 L' (by omega) (by omega)))
    · have e1 := (k4 L (by omega) (by omega)).1 (servesB_iff.1 a4)
      have e2 := (k4 M (by omega) (by omega)).1 (servesB_iff.1 a5)
      have e3 : L = L' := by
        rcases Int.lt_or_le L' L with hh | hh
        · exact absurd ((k4 L' (by omega) (by omega)).2 (by omega)) (no (a6 L' (by omega) hh))
        · omega
      have e4 : M = M' := by
        rcases Int.lt_or_le M M' with hh | hh
        · exact absurd ((k4 M' (by omega) (by omega)).2 (by omega)) (no (a7 M' hh (by omega)))
        · omega
      exact ⟨e3, e4, decide_eq_true (by omega)⟩
  · rcases h3 with ⟨a1, a2, a3⟩ | ⟨a1, a2, a3, a4, _⟩
    · exact ⟨a1, a2, decide_eq_false (by omega)⟩
    · exact absurd (servesB_iff.1 a4) (k4 L (by omega) (by omega))

theorem rSizes_err (ln ld mn md lo hi e : Int) (w : World) (he : e = if (okR ln ld mn md && szB lo && szB hi) = true then 12 else 1) (hq : (okR ln ld mn md && szB lo && szB hi) = true → hi < lo) :
    Calls Tryd.prog 68 #[.agg #[.int .i64 (ln), .int .i64 (ld), .int .i64 (mn), .int .i64 (md)], .int .i64 lo, .int .i64 hi] w fun e' w' => e' = .returned (.tuple #[.int .i64 0, .int .i64 0, .bool false, .int .i64 e]) ∧ Below w.heap.size w w' := by
  have h1 := fun (W : World) => rsized_any ln ld mn md lo W
  have h2 := fun (W : World) => rsized_any ln ld mn md hi W
  cases k1 : (okR ln ld mn md && szB lo) with
  | false =>
    rw [k1, Bool.false_and, if_neg Bool.false_ne_true] at he
    rw [szR, if_neg (by rw [k1]; exact Bool.false_ne_true)] at h1
    subst he
    have H1 := hide0 h1
    clear h1 h2 hq k1
    go_enter Tryd.func68, Tryd.ntmps68
    go_wp2_with fail
    (refine (H1.out _).mono ?_; rintro e w1 ⟨rfl, hb1⟩; obtain ⟨hc1, hf1⟩ := bcell hb1; have hB1 : Below w.heap.size w w1 := up hb1 (by go_grown); have hz1 := hb1.size; (try simp at hz1); (try have hz1_w_p1 : w.heap.size < w1.heap.size + 1 := (by omega)); (try have hz1_w_p2 : w.heap.size < w1.heap.size + 1 + 1 := (by omega)); (try have hz1_w_p3 : w.heap.size < w1.heap.size + 1 + 1 + 1 := (by omega)); (try have hz1_w_0 : w.heap.size < w1.heap.size := (by omega)); (try have hz1_w_1 : w.heap.size + 1 < w1.heap.size := (by omega)); (try have hz1_w_2 : w.heap.size + 1 + 1 < w1.heap.size := (by omega)); (try have hz1_w_3 : w.heap.size + 1 + 1 + 1 < w1.heap.size := (by omega)); (try have hz1_w_4 : w.heap.size + 1 + 1 + 1 + 1 < w1.heap.size := (by omega)); (try have hz1_w_5 : w.heap.size + 1 + 1 + 1 + 1 + 1 < w1.heap.size := (by omega)); (try have hz1_w_6 : w.heap.size + 1 + 1 + 1 + 1 + 1 + 1 < w1.heap.size := (by omega)))
    go_wp2
    go_returns
    exact ⟨rfl, by go_grown⟩
  | true =>
    rw [szR, if_pos k1] at h1
    cases k2 : szB hi with
    | false =>
      rw [k2, Bool.and_false, if_neg Bool.false_ne_true] at he
      rw [szR, if_neg (by rw [k2, Bool.and_false]; exact Bool.false_ne_true)] at h2
      subst he
      have H1 := hide0 h1
      have H2 := hide0 h2
      clear h1 h2 hq k1 k2
      go_enter Tryd.func68, Tryd.ntmps68
      go_wp2_with fail
      (refine (H1.out _).mono ?_; rintro e w1 ⟨rfl, hb1⟩; obtain ⟨hc1, hf1⟩ := bcell hb1; have hB1 : Below w.heap.size w w1 := up hb1 (by go_grown); have hz1 := hb1.size; (try simp at hz1); (try have hz1_w_p1 : w.heap.size < w1.heap.size + 1 := (by omega)); (try have hz1_w_p2 : w.heap.size < w1.heap.size + 1 + 1 := (by omega)); (try have hz1_w_p3 : w.heap.size < w1.heap.size + 1 + 1 + 1 := (by omega)); (try have hz1_w_0 : w.heap.size < w1.heap.size := (by omega)); (try have hz1_w_1 : w.heap.size + 1 < w1.heap.size := (by omega)); (try have hz1_w_2 : w.heap.size + 1 + 1 < w1.heap.size := (by omega)); (try have hz1_w_3 : w.heap.size + 1 + 1 + 1 < w1.heap.size := (by omega)); (try have hz1_w_4 : w.heap.size + 1 + 1 + 1 + 1 < w1.heap.size := (by omega)); (try have hz1_w_5 : w.heap.size + 1 + 1 + 1 + 1 + 1 < w1.heap.size := (by omega)); (try have hz1_w_6 : w.heap.size + 1 + 1 + 1 + 1 + 1 + 1 < w1.heap.size := (by omega)))
      go_wp2_with fail
      (refine (H2.out _).mono ?_; rintro e w2 ⟨rfl, hb2⟩; obtain ⟨hc2, hf2⟩ := bcell hb2; have hB2 : Below w.heap.size w w2 := up hb2 (by go_grown); have hz2 := hb2.size; (try simp at hz2); (try have hz2_w_p1 : w.heap.size < w2.heap.size + 1 := (by omega)); (try have hz2_w_p2 : w.heap.size < w2.heap.size + 1 + 1 := (by omega)); (try have hz2_w_p3 : w.heap.size < w2.heap.size + 1 + 1 + 1 := (by omega)); (try have hz2_w1_p1 : w1.heap.size < w2.heap.size + 1 := (by omega)); (try have hz2_w1_p2 : w1.heap.size < w2.heap.size + 1 + 1 := (by omega)); (try have hz2_w1_p3 : w1.heap.size < w2.heap.size + 1 + 1 + 1 := (by omega)); (try have hz2_w_0 : w.heap.size < w2.heap.size := (by omega)); (try have hz2_w_1 : w.heap.size + 1 < w2.heap.size := (by omega)); (try have hz2_w_2 : w.heap.size + 1 + 1 < w2.heap.size := (by omega)); (try have hz2_w_3 : w.heap.size + 1 + 1 + 1 < w2.heap.size := (by omega)); (try have hz2_w_4 : w.heap.size + 1 + 1 + 1 + 1 < w2.heap.size := (by omega)); (try have hz2_w_5 : w.heap.size + 1 + 1 + 1 + 1 + 1 < w2.heap.size := (by omega)); (try have hz2_w_6 : w.heap.size + 1 + 1 + 1 + 1 + 1 + 1 < w2.heap.size := (by omega)); (try have hz2_w1_0 : w1.heap.size < w2.heap.size := (by omega)); (try have hz2_w1_1 : w1.heap.size + 1 < w2.heap.size := (by omega)); (try have hz2_w1_2 : w1.heap.size + 1 + 1 < w2.heap.size := (by omega)); (try have hz2_w1_3 : w1.heap.size + 1 + 1 + 1 < w2.heap.size := (by omega)))
      go_wp2
      go_returns
      exact ⟨rfl, by go_grown⟩
    | true =>
      rw [k1, k2, Bool.and_self, if_pos rfl] at he
      have hlt := hq (by rw [k1, k2]; rfl)
      rw [szR, if_pos (by rw [k2, Bool.and_true]; rw [Bool.and_eq_true] at k1; exact k1.1)] at h2
      subst he
      have H1 := hide0 h1
      have H2 := hide0 h2
      clear h1 h2 hq k1 k2
      go_enter Tryd.func68, Tryd.ntmps68
      go_wp2_with fail
      (refine (H1.out _).mono ?_; rintro e w1 ⟨rfl, hb1⟩; obtain ⟨hc1, hf1⟩ := bcell hb1; have hB1 : Below w.heap.size w w1 := up hb1 (by go_grown); have hz1 := hb1.size; (try simp at hz1); (try have hz1_w_p1 : w.heap.size < w1.heap.size + 1 := (by omega)); (try have hz1_w_p2 : w.heap.size < w1.heap.size + 1 + 1 := (by omega)); (try have hz1_w_p3 : w.heap.size < w1.heap.size + 1 + 1 + 1 := (by omega)); (try have hz1_w_0 : w.heap.size < w1.heap.size := (by omega)); (try have hz1_w_1 : w.heap.size + 1 < w1.heap.size := (by omega)); (try have hz1_w_2 : w.heap.size + 1 + 1 < w1.heap.size := (by omega)); (try have hz1_w_3 : w.heap.size + 1 + 1 + 1 < w1.heap.size := (by omega)); (try have hz1_w_4 : w.heap.size + 1 + 1 + 1 + 1 < w1.heap.size := (by omega)); (try have hz1_w_5 : w.heap.size + 1 + 1 + 1 + 1 + 1 < w1.heap.size := (by omega)); (try have hz1_w_6 : w.heap.size + 1 + 1 + 1 + 1 + 1 + 1 < w1.heap.size := (by omega)))
      go_wp2_with fail
      (refine (H2.out _).mono ?_; rintro e w2 ⟨rfl, hb2⟩; obtain ⟨hc2, hf2⟩ := bcell hb2; have hB2 : Below w.heap.size w w2 := up hb2 (by go_grown); have hz2 := hb2.size; (try simp at hz2); (try have hz2_w_p1 : w.heap.size < w2.heap.size + 1 := (by omega)); (try have hz2_w_p2 : w.heap.size < w2.heap.size + 1 + 1 := (by omega)); (try have hz2_w_p3 : w.heap.size < w2.heap.size + 1 + 1 + 1 := (by omega)); (try have hz2_w1_p1 : w1.heap.size < w2.heap.size + 1 := (by omega)); (try have hz2_w1_p2 : w1.heap.size < w2.heap.size + 1 + 1 := (by omega)); (try have hz2_w1_p3 : w1.heap.size < w2.heap.size + 1 + 1 + 1 := (by omega)); (try have hz2_w_0 : w.heap.size < w2.heap.size := (by omega)); (try have hz2_w_1 : w.heap.size + 1 < w2.heap.size := (by omega)); (try have hz2_w_2 : w.heap.size + 1 + 1 < w2.heap.size := (by omega)); (try have hz2_w_3 : w.heap.size + 1 + 1 + 1 < w2.heap.size := (by omega)); (try have hz2_w_4 : w.heap.size + 1 + 1 + 1 + 1 < w2.heap.size := (by omega)); (try have hz2_w_5 : w.heap.size + 1 + 1 + 1 + 1 + 1 < w2.heap.size := (by omega)); (try have hz2_w_6 : w.heap.size + 1 + 1 + 1 + 1 + 1 + 1 < w2.heap.size := (by omega)); (try have hz2_w1_0 : w1.heap.size < w2.heap.size := (by omega)); (try have hz2_w1_1 : w1.heap.size + 1 < w2.heap.size := (by omega)); (try have hz2_w1_2 : w1.heap.size + 1 + 1 < w2.heap.size := (by omega)); (try have hz2_w1_3 : w1.heap.size + 1 + 1 + 1 < w2.heap.size := (by omega)))
      go_wp2
      go_returns
      exact ⟨rfl, by go_grown⟩

set_option maxHeartbeats 4000000 in
theorem rSizes_ok (ln ld mn md lo hi L' M' : Int) (ok : Bool) (w : World) (hk : okR ln ld mn md = true) (hlo : szB lo = true) (hhi : szB hi = true) (hle : lo ≤ hi) (hS : SizesIs ln ld mn md lo hi L' M' ok) :
    Calls Tryd.prog 68 #[.agg #[.int .i64 (ln), .int .i64 (ld), .int .i64 (mn), .int .i64 (md)], .int .i64 lo, .int .i64 hi] w fun e w' => e = .returned (.tuple #[.int .i64 L', .int .i64 M', .bool ok, .int .i64 0]) ∧ Below w.heap.size w w' := by
  have h1 := fun (W : World) => rsized_any ln ld mn md lo W
  have h2 := fun (W : World) => rsized_any ln ld mn md hi W
  rw [szR, if_pos (by rw [hk, hlo]; rfl)] at h1
  rw [szR, if_pos (by rw [hk, hhi]; rfl)] at h2
  have hs := fun (n : Int) (W : World) (hn : szB n = true) => rServes_any ln ld mn md n lo hi W hk hn hlo hhi
  have H1 := hide0 h1
  have H2 := hide0 h2
  have HS := hide0 hs
  have HI := hide0 hS
  clear h1 h2 hs hS hk hlo hhi
  go_enter Tryd.func68, Tryd.ntmps68
  go_wp2_with fail
  (refine (H1.out _).mono ?_; rintro e w1 ⟨rfl, hb1⟩; obtain ⟨hc1, hf1⟩ := bcell hb1; have hB1 : Below w.heap.size w w1 := up hb1 (by go_grown); have hz1 := hb1.size; (try simp at hz1); (try have hz1_w_p1 : w.heap.size < w1.heap.size + 1 := (by omega)); (try have hz1_w_p2 : w.heap.size < w1.heap.size + 1 + 1 := (by omega)); (try have hz1_w_p3 : w.heap.size < w1.heap.size + 1 + 1 + 1 := (by omega)); (try have hz1_w_0 : w.heap.size < w1.heap.size := (by omega)); (try have hz1_w_1 : w.heap.size + 1 < w1.heap.size := (by omega)); (try have hz1_w_2 : w.heap.size + 1 + 1 < w1.heap.size := (by omega)); (try have hz1_w_3 : w.heap.size + 1 + 1 + 1 < w1.heap.size := (by omega)); (try have hz1_w_4 : w.heap.size + 1 + 1 + 1 + 1 < w1.heap.size := (by omega)); (try have hz1_w_5 : w.heap.size + 1 + 1 + 1 + 1 + 1 < w1.heap.size := (by omega)); (try have hz1_w_6 : w.heap.size + 1 + 1 + 1 + 1 + 1 + 1 < w1.heap.size := (by omega)))
  go_wp2_with fail
  (refine (H2.out _).mono ?_; rintro e w2 ⟨rfl, hb2⟩; obtain ⟨hc2, hf2⟩ := bcell hb2; have hB2 : Below w.heap.size w w2 := up hb2 (by go_grown); have hz2 := hb2.size; (try simp at hz2); (try have hz2_w_p1 : w.heap.size < w2.heap.size + 1 := (by omega)); (try have hz2_w_p2 : w.heap.size < w2.heap.size + 1 + 1 := (by omega)); (try have hz2_w_p3 : w.heap.size < w2.heap.size + 1 + 1 + 1 := (by omega)); (try have hz2_w1_p1 : w1.heap.size < w2.heap.size + 1 := (by omega)); (try have hz2_w1_p2 : w1.heap.size < w2.heap.size + 1 + 1 := (by omega)); (try have hz2_w1_p3 : w1.heap.size < w2.heap.size + 1 + 1 + 1 := (by omega)); (try have hz2_w_0 : w.heap.size < w2.heap.size := (by omega)); (try have hz2_w_1 : w.heap.size + 1 < w2.heap.size := (by omega)); (try have hz2_w_2 : w.heap.size + 1 + 1 < w2.heap.size := (by omega)); (try have hz2_w_3 : w.heap.size + 1 + 1 + 1 < w2.heap.size := (by omega)); (try have hz2_w_4 : w.heap.size + 1 + 1 + 1 + 1 < w2.heap.size := (by omega)); (try have hz2_w_5 : w.heap.size + 1 + 1 + 1 + 1 + 1 < w2.heap.size := (by omega)); (try have hz2_w_6 : w.heap.size + 1 + 1 + 1 + 1 + 1 + 1 < w2.heap.size := (by omega)); (try have hz2_w1_0 : w1.heap.size < w2.heap.size := (by omega)); (try have hz2_w1_1 : w1.heap.size + 1 < w2.heap.size := (by omega)); (try have hz2_w1_2 : w1.heap.size + 1 + 1 < w2.heap.size := (by omega)); (try have hz2_w1_3 : w1.heap.size + 1 + 1 + 1 < w2.heap.size := (by omega)))
  go_wp2_with fail
  have x0 : w2.cell? ⟨w.heap.size, 0, none⟩ = some (.int .i64 ln) := by go_cell
  have x1 : w2.cell? ⟨w.heap.size, 1, none⟩ = some (.int .i64 ld) := by go_cell
  have x2 : w2.cell? ⟨w.heap.size, 2, none⟩ = some (.int .i64 mn) := by go_cell
  have x3 : w2.cell? ⟨w.heap.size, 3, none⟩ = some (.int .i64 md) := by go_cell
  have z2 : w.heap.size < w2.heap.size := by omega
  go_loopw [11, 12, 13] (fun x y v wr => ∃ L M n : Int, x = .int .i64 L ∧ y = .int .i64 M ∧ v = .int .i64 n ∧ SzInv ln ld mn md lo hi L M n ∧ Below w2.heap.size w2 wr) (fun _ _ v _ => (1000001 - intOf v).toNat)
  case atStart => exact ⟨0, 0, 1, rfl, rfl, rfl, SzInv.start .., Below.refl _ _⟩
  case round =>
    obtain ⟨L, M, n, rfl, rfl, rfl, hI, hB⟩ := hrel
    have i1 := hI.1
    have i2 := hI.2.1
    have i3 := hI.lo
    have z3 : w.heap.size < wr.heap.size := Nat.lt_of_lt_of_le z2 hB.size
    have y0 := (hB.cell (p := ⟨w.heap.size, 0, none⟩) z2).trans x0
    have y1 := (hB.cell (p := ⟨w.heap.size, 1, none⟩) z2).trans x1
    have y2 := (hB.cell (p := ⟨w.heap.size, 2, none⟩) z2).trans x2
    have y3 := (hB.cell (p := ⟨w.heap.size, 3, none⟩) z2).trans x3
    have hBw : Below w.heap.size w wr := up hB hB2
    clear x0 x1 x2 x3
    by_cases hn : n = 1000001
    · subst hn
      obtain ⟨e1, e2, e3⟩ := hI.is HI.out
      subst e1 e2 e3
      clear hI
      go_wp2
      go_returns
      exact ⟨rfl, hBw⟩
    · have hn2 : n ≤ 1000000 := by omega
      have hz := szB_iff.2 ⟨i1, hn2⟩
      have hN := fun (W : World) => HS.out n W hz
      clear hn hz
      cases hs : servesB ln ld mn md lo hi n with
      | false =>
        rw [hs] at hN
        have HN := hide0 hN
        have HE := hide0 (hI.no hn2 hs)
        clear hN hI hs
        go_wp2_with fail
        (refine (HN.out _).mono ?_; rintro e w3 ⟨rfl, hb3⟩; obtain ⟨hc3, hf3⟩ := bcell hb3; have hB3 : Below wr.heap.size wr w3 := up hb3 (by go_grown); have hz3 := hb3.size; (try simp at hz3); (try have hz3_wr_p1 : wr.heap.size < w3.heap.size + 1 := (by omega)); (try have hz3_wr_p2 : wr.heap.size < w3.heap.size + 1 + 1 := (by omega)); (try have hz3_wr_p3 : wr.heap.size < w3.heap.size + 1 + 1 + 1 := (by omega)); (try have hz3_w1_p1 : w1.heap.size < w3.heap.size + 1 := (by omega)); (try have hz3_w1_p2 : w1.heap.size < w3.heap.size + 1 + 1 := (by omega)); (try have hz3_w1_p3 : w1.heap.size < w3.heap.size + 1 + 1 + 1 := (by omega)); (try have hz3_w2_p1 : w2.heap.size < w3.heap.size + 1 := (by omega)); (try have hz3_w2_p2 : w2.heap.size < w3.heap.size + 1 + 1 := (by omega)); (try have hz3_w2_p3 : w2.heap.size < w3.heap.size + 1 + 1 + 1 := (by omega)); (try have hz3_wr_0 : wr.heap.size < w3.heap.size := (by omega)); (try have hz3_wr_1 : wr.heap.size + 1 < w3.heap.size := (by omega)); (try have hz3_wr_2 : wr.heap.size + 1 + 1 < w3.heap.size := (by omega)); (try have hz3_wr_3 : wr.heap.size + 1 + 1 + 1 < w3.heap.size := (by omega)); (try have hz3_wr_4 : wr.heap.size + 1 + 1 + 1 + 1 < w3.heap.size := (by omega)); (try have hz3_wr_5 : wr.heap.size + 1 + 1 + 1 + 1 + 1 < w3.heap.size := (by omega)); (try have hz3_wr_6 : wr.heap.size + 1 + 1 + 1 + 1 + 1 + 1 < w3.heap.size := (by omega)); (try have hz3_w1_0 : w1.heap.size < w3.heap.size := (by omega)); (try have hz3_w1_1 : w1.heap.size + 1 < w3.heap.size := (by omega)); (try have hz3_w1_2 : w1.heap.size + 1 + 1 < w3.heap.size := (by omega)); (try have hz3_w1_3 : w1.heap.size + 1 + 1 + 1 < w3.heap.size := (by omega)); (try have hz3_w2_0 : w2.heap.size < w3.heap.size := (by omega)); (try have hz3_w2_1 : w2.heap.size + 1 < w3.heap.size := (by omega)); (try have hz3_w2_2 : w2.heap.size + 1 + 1 < w3.heap.size := (by omega)); (try have hz3_w2_3 : w2.heap.size + 1 + 1 + 1 < w3.heap.size := (by omega)))
        go_wp2
        go_roundw
        case rel => exact ⟨_, _, _, rfl, rfl, rfl, HE.out, up hB3 hB⟩
        case measure => simp [intOf]; omega
      | true =>
        rw [hs] at hN
        have HN := hide0 hN
        clear hN
        by_cases hl : L = 0
        · subst hl
          have HE := hide0 (hI.first hn2 hs)
          clear hI hs
          go_wp2_with fail
          (refine (HN.out _).mono ?_; rintro e w3 ⟨rfl, hb3⟩; obtain ⟨hc3, hf3⟩ := bcell hb3; have hB3 : Below wr.heap.size wr w3 := up hb3 (by go_grown); have hz3 := hb3.size; (try simp at hz3); (try have hz3_wr_p1 : wr.heap.size < w3.heap.size + 1 := (by omega)); (try have hz3_wr_p2 : wr.heap.size < w3.heap.size + 1 + 1 := (by omega)); (try have hz3_wr_p3 : wr.heap.size < w3.heap.size + 1 + 1 + 1 := (by omega)); (try have hz3_w1_p1 : w1.heap.size < w3.heap.size + 1 := (by omega)); (try have hz3_w1_p2 : w1.heap.size < w3.heap.size + 1 + 1 := (by omega)); (try have hz3_w1_p3 : w1.heap.size < w3.heap.size + 1 + 1 + 1 := (by omega)); (try have hz3_w2_p1 : w2.heap.size < w3.heap.size + 1 := (by omega)); (try have hz3_w2_p2 : w2.heap.size < w3.heap.size + 1 + 1 := (by omega)); (try have hz3_w2_p3 : w2.heap.size < w3.heap.size + 1 + 1 + 1 := (by omega)); (try have hz3_wr_0 : wr.heap.size < w3.heap.size := (by omega)); (try have hz3_wr_1 : wr.heap.size + 1 < w3.heap.size := (by omega)); (try have hz3_wr_2 : wr.heap.size + 1 + 1 < w3.heap.size := (by omega)); (try have hz3_wr_3 : wr.heap.size + 1 + 1 + 1 < w3.heap.size := (by omega)); (try have hz3_wr_4 : wr.heap.size + 1 + 1 + 1 + 1 < w3.heap.size := (by omega)); (try have hz3_wr_5 : wr.heap.size + 1 + 1 + 1 + 1 + 1 < w3.heap.size := (by omega)); (try have hz3_wr_6 : wr.heap.size + 1 + 1 + 1 + 1 + 1 + 1 < w3.heap.size := (by omega)); (try have hz3_w1_0 : w1.heap.size < w3.heap.size := (by omega)); (try have hz3_w1_1 : w1.heap.size + 1 < w3.heap.size := (by omega)); (try have hz3_w1_2 : w1.heap.size + 1 + 1 < w3.heap.size := (by omega)); (try have hz3_w1_3 : w1.heap.size + 1 + 1 + 1 < w3.heap.size := (by omega)); (try have hz3_w2_0 : w2.heap.size < w3.heap.size := (by omega)); (try have hz3_w2_1 : w2.heap.size + 1 < w3.heap.size := (by omega)); (try have hz3_w2_2 : w2.heap.size + 1 + 1 < w3.heap.size := (by omega)); (try have hz3_w2_3 : w2.heap.size + 1 + 1 + 1 < w3.heap.size := (by omega)))
          go_wp2
          go_roundw
          case rel => exact ⟨_, _, _, rfl, rfl, rfl, HE.out, up hB3 hB⟩
          case measure => simp [intOf]; omega
        · have HE := hide0 (hI.more hl hn2 hs)
          have hl2 : (L == 0) = false := by simpa using hl
          clear hI hs hl
          go_wp2_with fail
          (refine (HN.out _).mono ?_; rintro e w3 ⟨rfl, hb3⟩; obtain ⟨hc3, hf3⟩ := bcell hb3; have hB3 : Below wr.heap.size wr w3 := up hb3 (by go_grown); have hz3 := hb3.size; (try simp at hz3); (try have hz3_wr_p1 : wr.heap.size < w3.heap.size + 1 := (by omega)); (try have hz3_wr_p2 : wr.heap.size < w3.heap.size + 1 + 1 := (by omega)); (try have hz3_wr_p3 : wr.heap.size < w3.heap.size + 1 + 1 + 1 := (by omega)); (try have hz3_w1_p1 : w1.heap.size < w3.heap.size + 1 := (by omega)); (try have hz3_w1_p2 : w1.heap.size < w3.heap.size + 1 + 1 := (by omega)); (try have hz3_w1_p3 : w1.heap.size < w3.heap.size + 1 + 1 + 1 := (by omega)); (try have hz3_w2_p1 : w2.heap.size < w3.heap.size + 1 := (by omega)); (try have hz3_w2_p2 : w2.heap.size < w3.heap.size + 1 + 1 := (by omega)); (try have hz3_w2_p3 : w2.heap.size < w3.heap.size + 1 + 1 + 1 := (by omega)); (try have hz3_wr_0 : wr.heap.size < w3.heap.size := (by omega)); (try have hz3_wr_1 : wr.heap.size + 1 < w3.heap.size := (by omega)); (try have hz3_wr_2 : wr.heap.size + 1 + 1 < w3.heap.size := (by omega)); (try have hz3_wr_3 : wr.heap.size + 1 + 1 + 1 < w3.heap.size := (by omega)); (try have hz3_wr_4 : wr.heap.size + 1 + 1 + 1 + 1 < w3.heap.size := (by omega)); (try have hz3_wr_5 : wr.heap.size + 1 + 1 + 1 + 1 + 1 < w3.heap.size := (by omega)); (try have hz3_wr_6 : wr.heap.size + 1 + 1 + 1 + 1 + 1 + 1 < w3.heap.size := (by omega)); (try have hz3_w1_0 : w1.heap.size < w3.heap.size := (by omega)); (try have hz3_w1_1 : w1.heap.size + 1 < w3.heap.size := (by omega)); (try have hz3_w1_2 : w1.heap.size + 1 + 1 < w3.heap.size := (by omega)); (try have hz3_w1_3 : w1.heap.size + 1 + 1 + 1 < w3.heap.size := (by omega)); (try have hz3_w2_0 : w2.heap.size < w3.heap.size := (by omega)); (try have hz3_w2_1 : w2.heap.size + 1 < w3.heap.size := (by omega)); (try have hz3_w2_2 : w2.heap.size + 1 + 1 < w3.heap.size := (by omega)); (try have hz3_w2_3 : w2.heap.size + 1 + 1 + 1 < w3.heap.size := (by omega)))
          go_wp2
          go_roundw
          case rel => exact ⟨_, _, _, rfl, rfl, rfl, HE.out, up hB3 hB⟩
          case measure => simp [intOf]; omega

set_option maxRecDepth 100000 in
set_option maxHeartbeats 4000000 in
theorem sizes_core (ln ld mn md lo hi L M e : Int) (ok : Bool) (w : World) (ht : Pow10 w) (hl : AliveOk)
    (hZ : ∀ W, Calls Tryd.prog 67 #[.agg #[.int .i64 (ln), .int .i64 (ld), .int .i64 (mn), .int .i64 (md)], .int .i64 lo, .int .i64 hi] W fun e' w' => e' = .returned (.tuple #[.int .i64 L, .int .i64 M, .bool ok, .int .i64 e]) ∧ Below W.heap.size W w')
    (hR : ∀ W, Calls Tryd.prog 68 #[.agg #[.int .i64 (ln), .int .i64 (ld), .int .i64 (mn), .int .i64 (md)], .int .i64 lo, .int .i64 hi] W fun e' w' => e' = .returned (.tuple #[.int .i64 L, .int .i64 M, .bool ok, .int .i64 e]) ∧ Below W.heap.size W w') :
    Calls Tryd.prog 10 #[.agg #[.int .i64 (ln), .int .i64 (ld), .int .i64 (mn), .int .i64 (md)], .int .i64 lo, .int .i64 hi] w fun e w' => e = .returned (.bool true) ∧ Below w.heap.size w w' := by
  have HZ := Lib.hid hZ
  have HR := Lib.hid hR
  have HL := Lib.hid (hl.at ht)
  clear hZ hR hl ht
  go_enter Tryd.func10, Tryd.ntmps10
  go_wp2_with fail
  (refine (HZ.out _).mono ?_; rintro e w1 ⟨rfl, hb1⟩; obtain ⟨hc1, hf1⟩ := bcell hb1; have hB1 : Below w.heap.size w w1 := up hb1 (by go_grown); have hz1 := hb1.size; (try simp at hz1); (try have hz1_w_p1 : w.heap.size < w1.heap.size + 1 := (by omega)); (try have hz1_w_p2 : w.heap.size < w1.heap.size + 1 + 1 := (by omega)); (try have hz1_w_p3 : w.heap.size < w1.heap.size + 1 + 1 + 1 := (by omega)); (try have hz1_w_0 : w.heap.size < w1.heap.size := (by omega)); (try have hz1_w_1 : w.heap.size + 1 < w1.heap.size := (by omega)); (try have hz1_w_2 : w.heap.size + 1 + 1 < w1.heap.size := (by omega)); (try have hz1_w_3 : w.heap.size + 1 + 1 + 1 < w1.heap.size := (by omega)); (try have hz1_w_4 : w.heap.size + 1 + 1 + 1 + 1 < w1.heap.size := (by omega)); (try have hz1_w_5 : w.heap.size + 1 + 1 + 1 + 1 + 1 < w1.heap.size := (by omega)); (try have hz1_w_6 : w.heap.size + 1 + 1 + 1 + 1 + 1 + 1 < w1.heap.size := (by omega)))
  go_wp2_with fail
  (refine (HR.out _).mono ?_; rintro e w2 ⟨rfl, hb2⟩; obtain ⟨hc2, hf2⟩ := bcell hb2; have hB2 : Below w.heap.size w w2 := up hb2 (by go_grown); have hz2 := hb2.size; (try simp at hz2); (try have hz2_w_p1 : w.heap.size < w2.heap.size + 1 := (by omega)); (try have hz2_w_p2 : w.heap.size < w2.heap.size + 1 + 1 := (by omega)); (try have hz2_w_p3 : w.heap.size < w2.heap.size + 1 + 1 + 1 := (by omega)); (try have hz2_w1_p1 : w1.heap.size < w2.heap.size + 1 := (by omega)); (try have hz2_w1_p2 : w1.heap.size < w2.heap.size + 1 + 1 := (by omega)); (try have hz2_w1_p3 : w1.heap.size < w2.heap.size + 1 + 1 + 1 := (by omega)); (try have hz2_w_0 : w.heap.size < w2.heap.size := (by omega)); (try have hz2_w_1 : w.heap.size + 1 < w2.heap.size := (by omega)); (try have hz2_w_2 : w.heap.size + 1 + 1 < w2.heap.size := (by omega)); (try have hz2_w_3 : w.heap.size + 1 + 1 + 1 < w2.heap.size := (by omega)); (try have hz2_w_4 : w.heap.size + 1 + 1 + 1 + 1 < w2.heap.size := (by omega)); (try have hz2_w_5 : w.heap.size + 1 + 1 + 1 + 1 + 1 < w2.heap.size := (by omega)); (try have hz2_w_6 : w.heap.size + 1 + 1 + 1 + 1 + 1 + 1 < w2.heap.size := (by omega)); (try have hz2_w1_0 : w1.heap.size < w2.heap.size := (by omega)); (try have hz2_w1_1 : w1.heap.size + 1 < w2.heap.size := (by omega)); (try have hz2_w1_2 : w1.heap.size + 1 + 1 < w2.heap.size := (by omega)); (try have hz2_w1_3 : w1.heap.size + 1 + 1 + 1 < w2.heap.size := (by omega)))
  go_wp2_with fail
  (refine (HL.out _ (by go_grown)).mono ?_; rintro e w3 ⟨rfl, hb3⟩; obtain ⟨hc3, hf3⟩ := bcell hb3; have hB3 : Below w.heap.size w w3 := up hb3 (by go_grown); have hz3 := hb3.size; (try simp at hz3); (try have hz3_w_p1 : w.heap.size < w3.heap.size + 1 := (by omega)); (try have hz3_w_p2 : w.heap.size < w3.heap.size + 1 + 1 := (by omega)); (try have hz3_w_p3 : w.heap.size < w3.heap.size + 1 + 1 + 1 := (by omega)); (try have hz3_w1_p1 : w1.heap.size < w3.heap.size + 1 := (by omega)); (try have hz3_w1_p2 : w1.heap.size < w3.heap.size + 1 + 1 := (by omega)); (try have hz3_w1_p3 : w1.heap.size < w3.heap.size + 1 + 1 + 1 := (by omega)); (try have hz3_w2_p1 : w2.heap.size < w3.heap.size + 1 := (by omega)); (try have hz3_w2_p2 : w2.heap.size < w3.heap.size + 1 + 1 := (by omega)); (try have hz3_w2_p3 : w2.heap.size < w3.heap.size + 1 + 1 + 1 := (by omega)); (try have hz3_w_0 : w.heap.size < w3.heap.size := (by omega)); (try have hz3_w_1 : w.heap.size + 1 < w3.heap.size := (by omega)); (try have hz3_w_2 : w.heap.size + 1 + 1 < w3.heap.size := (by omega)); (try have hz3_w_3 : w.heap.size + 1 + 1 + 1 < w3.heap.size := (by omega)); (try have hz3_w_4 : w.heap.size + 1 + 1 + 1 + 1 < w3.heap.size := (by omega)); (try have hz3_w_5 : w.heap.size + 1 + 1 + 1 + 1 + 1 < w3.heap.size := (by omega)); (try have hz3_w_6 : w.heap.size + 1 + 1 + 1 + 1 + 1 + 1 < w3.heap.size := (by omega)); (try have hz3_w1_0 : w1.heap.size < w3.heap.size := (by omega)); (try have hz3_w1_1 : w1.heap.size + 1 < w3.heap.size := (by omega)); (try have hz3_w1_2 : w1.heap.size + 1 + 1 < w3.heap.size := (by omega)); (try have hz3_w1_3 : w1.heap.size + 1 + 1 + 1 < w3.heap.size := (by omega)); (try have hz3_w2_0 : w2.heap.size < w3.heap.size := (by omega)); (try have hz3_w2_1 : w2.heap.size + 1 < w3.heap.size := (by omega)); (try have hz3_w2_2 : w2.heap.size + 1 + 1 < w3.heap.size := (by omega)); (try have hz3_w2_3 : w2.heap.size + 1 + 1 + 1 < w3.heap.size := (by omega)))
  go_wp2
  go_returns
  exact ⟨rfl, by go_grown⟩

theorem sizes_of (hl : AliveOk) (ln ld mn md lo hi : Int) (w : World) (h1 : W2 ln ld) (h2 : W2 mn md) (_ : I64 lo) (_ : I64 hi) (ht : Pow10 w) :
    Calls Tryd.prog 10 #[.agg #[.int .i64 (ln), .int .i64 (ld), .int .i64 (mn), .int .i64 (md)], .int .i64 lo, .int .i64 hi] w fun e w' => e = .returned (.bool true) ∧ Below w.heap.size w w' := by
  cases hk : okR ln ld mn md with
  | false => exact sizes_core ln ld mn md lo hi 0 0 1 false w ht hl (fun W => Sizes_rule ln ld mn md lo hi W h1 h2 hk) (fun W => rSizes_err ln ld mn md lo hi 1 W (by rw [hk]; rfl) (by rw [hk]; intro h; cases h))
  | true =>
    cases z1 : szB lo with
    | false => exact sizes_core ln ld mn md lo hi 0 0 1 false w ht hl (fun W => Sizes_low ln ld mn md lo hi W hk z1) (fun W => rSizes_err ln ld mn md lo hi 1 W (by rw [hk, z1]; rfl) (by rw [hk, z1]; intro h; cases h))
    | true =>
      cases z2 : szB hi with
      | false => exact sizes_core ln ld mn md lo hi 0 0 1 false w ht hl (fun W => Sizes_high ln ld mn md lo hi W hk z1 z2) (fun W => rSizes_err ln ld mn md lo hi 1 W (by rw [hk, z1, z2]; rfl) (by rw [hk, z1, z2]; intro h; cases h))
      | true =>
        rcases Int.lt_or_le hi lo with hh | hh
        · exact sizes_core ln ld mn md lo hi 0 0 12 false w ht hl (fun W => Sizes_order ln ld mn md lo hi W hk z1 z2 hh) (fun W => rSizes_err ln ld mn md lo hi 12 W (by rw [hk, z1, z2]; rfl) (fun _ => hh))
        · have hr := RuleB.of_ok hk
          obtain ⟨r1, r2, r3, r4, r5, r6, r7, r8⟩ := id hr
          obtain ⟨L, M, ok, hS⟩ := sizes_exists (ln := ln) (ld := ld) (mn := mn) (md := md) lo hi r2 r6
          exact sizes_core ln ld mn md lo hi L M 0 ok w ht hl
            (fun W => (Sizes_ok ln ld mn md lo hi W hk z1 z2 hh).mono fun e w' ⟨L', M', ok', he, hS', hB⟩ => by
              obtain ⟨rfl, rfl, rfl⟩ := hS.unique hS'
              exact ⟨he, hB⟩)
            (fun W => rSizes_ok ln ld mn md lo hi L M ok W hk z1 z2 hh hS)
end Go.Proofs.YthoinamncekgmaaDoor
