/-
  The size with the least miss: no size misses by less, and no lesser one by as little.
-/
import Derived.Test.YthoinamncekgmaaDoorLeast
import Derived.Test.YthoinamncekgmaaDoorMissF
import Derived.Test.YthoinamncekgmaaDoorArgs
import Derived.Test.YthoinamncekgmaaDoorMedV
import Derived.Test.YthoinamncekgmaaDoorSumV
set_option linter.unusedVariables false
set_option linter.unusedSimpArgs false
namespace Go.Proofs.YthoinamncekgmaaDoor
open Go Go.RowKit

theorem first_ex (p : Int → Bool) (k : Nat) : (∀ n : Int, 1 ≤ n → n ≤ k → p n = false) ∨ ∃ r : Int, 1 ≤ r ∧ r ≤ k ∧ p r = true ∧ ∀ n, 1 ≤ n → n < r → p n = false := by
  induction k with
  | zero => left; intro n h1 h2; omega
  | succ k ih =>
    rcases ih with h | ⟨r, h1, h2, h3, h4⟩
    · cases hp : p ((k : Int) + 1) with
      | true => right; exact ⟨(k : Int) + 1, by omega, by omega, hp, fun n n1 n2 => h n n1 (by omega)⟩
      | false =>
        left; intro n n1 n2
        rcases Int.lt_or_le n ((k : Int) + 1) with hh | hh
        · exact h n n1 (by omega)
        · rw [show n = (k : Int) + 1 by omega]; exact hp
    · right; exact ⟨r, h1, by omega, h3, h4⟩
theorem best_exists (ln ld mn md want : Int) : ∃ r, BestIs ln ld mn md want r := by
  rcases first_ex (pB ln ld mn md want) 999999 with h | ⟨r, h1, h2, h3, h4⟩
  · exact ⟨1000000, by omega, by omega, fun n n1 n2 => h n n1 (by omega), fun hh => by omega⟩
  · exact ⟨r, h1, by omega, h4, fun _ => h3⟩
theorem BestIs.unique {ln ld mn md want r s : Int} (h : BestIs ln ld mn md want r) (k : BestIs ln ld mn md want s) : s = r := by
  obtain ⟨h1, h2, h3, h4⟩ := h
  obtain ⟨k1, k2, k3, k4⟩ := k
  rcases Int.lt_trichotomy r s with hh | hh | hh
  · have a := k3 r h1 hh
    rw [h4 (by omega)] at a; cases a
  · exact hh.symm
  · have a := h3 s k1 hh
    rw [k4 (by omega)] at a; cases a

theorem misM_up {ln ld mn md want : Int} (hl : 1 ≤ ld) (hm : 1 ≤ md) (h1 : ln ≤ ld) (h2 : mn ≤ md) {r : Int} (hp : misM ln ld mn md want r ≤ misM ln ld mn md want (r + 1)) (k : Nat) : misM ln ld mn md want r ≤ misM ln ld mn md want (r + k) := by
  induction k with
  | zero => simp
  | succ k ih =>
    have := misM_rises hl hm h1 h2 (n := r) (m := r + k) (by omega) hp
    rw [show r + ((k + 1 : Nat) : Int) = r + k + 1 by omega]
    omega
theorem misM_down {ln ld mn md want : Int} (hl : 1 ≤ ld) (hm : 1 ≤ md) {r : Int} (hp : ∀ n, 1 ≤ n → n < r → pB ln ld mn md want n = false) (k : Nat) : ∀ s, 1 ≤ s → s + k = r → 1 ≤ k → misM ln ld mn md want r < misM ln ld mn md want s := by
  induction k with
  | zero => intro s _ _ h; omega
  | succ k ih =>
    intro s h1 h2 _
    have a : ¬ misM ln ld mn md want s ≤ misM ln ld mn md want (s + 1) := by
      rw [← pB_iff hl hm, hp s h1 (by omega)]; exact Bool.false_ne_true
    by_cases hk : k = 0
    · subst hk
      rw [show r = s + 1 by omega]; omega
    · have := ih (s + 1) (by omega) (by omega) (by omega)
      omega
theorem best_least {ln ld mn md want r s : Int} (hr : RuleB ln ld mn md) (h : BestIs ln ld mn md want r) (h1 : 1 ≤ s) (h2 : s ≤ 1000000) : misM ln ld mn md want r ≤ misM ln ld mn md want s ∧ (s < r → misM ln ld mn md want r < misM ln ld mn md want s) := by
  obtain ⟨r1, r2, r3, r4, r5, r6, r7, r8⟩ := hr
  obtain ⟨k1, k2, k3, k4⟩ := h
  have hd : s < r → misM ln ld mn md want r < misM ln ld mn md want s := fun hs => misM_down r3 r7 k3 (r - s).toNat s h1 (by omega) (by omega)
  refine ⟨?_, hd⟩
  rcases Int.lt_trichotomy s r with hh | hh | hh
  · have := hd hh; omega
  · subst hh; exact Int.le_refl _
  · have := misM_up r3 r7 r2 r6 ((pB_iff r3 r7).1 (k4 (by omega))) (s - r).toNat
    rw [show r + ((s - r).toNat : Int) = s by omega] at this
    exact this

/-- The best size's miss fits. -/
theorem best_low {ln ld mn md want r : Int} (hr : RuleB ln ld mn md) (hw : 1 ≤ want) (hw' : want ≤ 1000000) (h : BestIs ln ld mn md want r) : lowOk (misN ln ld mn md want r) (misD ln ld mn md want r) = true := by
  obtain ⟨r1, r2, r3, r4, r5, r6, r7, r8⟩ := id hr
  have hb := (best_least hr h (s := 1) (by omega) (by omega)).1
  rw [← mis_le r3 r7] at hb
  obtain ⟨k1, k2, _, _⟩ := h
  obtain ⟨d1, d2⟩ := misD_bd (ln := ln) (mn := mn) (want := want) (s := r) r3 r7 r4 r8
  obtain ⟨d3, d4⟩ := misD_bd (ln := ln) (mn := mn) (want := want) (s := 1) r3 r7 r4 r8
  have up1 : misN ln ld mn md want 1 ≤ want * misD ln ld mn md want 1 := by
    rcases mis_parts (ln := ln) (mn := mn) (want := want) (s := 1) r3 r7 with ⟨a1, a2, _⟩ | ⟨a1, a2, _⟩ <;> rw [a1, a2]
    · have : 1 * ld ≤ want * ld := Int.mul_le_mul_of_nonneg_right hw (by omega)
      omega
    · omega
  have up : misN ln ld mn md want r ≤ want * misD ln ld mn md want r := by
    have a : misN ln ld mn md want 1 * misD ln ld mn md want r ≤ want * misD ln ld mn md want 1 * misD ln ld mn md want r := Int.mul_le_mul_of_nonneg_right up1 (by omega)
    have b : misN ln ld mn md want r * misD ln ld mn md want 1 ≤ want * misD ln ld mn md want r * misD ln ld mn md want 1 := by
      rw [Int.mul_right_comm want] at a; omega
    exact Int.le_of_mul_le_mul_right b (by omega)
  have up2 : want * misD ln ld mn md want r ≤ 1000000 * 1000 := Int.mul_le_mul hw' d2 (by omega) (by omega)
  have lo : -1000000000 ≤ misN ln ld mn md want r := by
    rcases mis_parts (ln := ln) (mn := mn) (want := want) (s := r) r3 r7 with ⟨a1, a2, _⟩ | ⟨a1, a2, _⟩ <;> rw [a1]
    · have x := Int.mul_nonneg (show 0 ≤ r by omega) (show 0 ≤ ld - ln by omega)
      have y : want * ld ≤ 1000000 * 1000 := Int.mul_le_mul hw' r4 (by omega) (by omega)
      omega
    · have x := Int.mul_nonneg (show 0 ≤ want by omega) (show 0 ≤ md by omega)
      have y : r * (md - mn) ≤ 1000000 * 1000 := Int.mul_le_mul k2 (by omega) (by omega) (by omega)
      omega
  generalize misN ln ld mn md want r = n at *
  generalize misD ln ld mn md want r = d at *
  have e1 := lowN_mul n d
  have e2 := lowD_le (n := n) (d := d) d1
  have g := gc_pos (n := n) (d := d) (by omega)
  have e3 : (lowN n d).natAbs ≤ (lowN n d * gc n d).natAbs := by rw [Int.natAbs_mul]; exact Nat.le_mul_of_pos_right _ (by omega)
  rw [e1] at e3
  exact lowOk_iff.2 ⟨by omega, by omega, by omega⟩

theorem low_cross {a b c d : Int} (hb : 1 ≤ b) (hd : 1 ≤ d) : (lowN a b * lowD c d < lowN c d * lowD a b ↔ a * d < c * b) ∧ (lowN a b = lowN c d → lowD a b = lowD c d → a * d = c * b) := by
  have a1 := lowN_mul a b
  have a2 := lowD_mul a b
  have c1 := lowN_mul c d
  have c2 := lowD_mul c d
  have ga := gc_pos (n := a) (d := b) (by omega)
  have gd := gc_pos (n := c) (d := d) (by omega)
  have hg : 1 ≤ gc a b * gc c d := Int.mul_pos (by omega) (by omega)
  have e1 : lowN a b * lowD c d * (gc a b * gc c d) = a * d := by
    calc lowN a b * lowD c d * (gc a b * gc c d) = (lowN a b * gc a b) * (lowD c d * gc c d) := by grind
      _ = a * d := by rw [a1, c2]
  have e2 : lowN c d * lowD a b * (gc a b * gc c d) = c * b := by
    calc lowN c d * lowD a b * (gc a b * gc c d) = (lowN c d * gc c d) * (lowD a b * gc a b) := by grind
      _ = c * b := by rw [c1, a2]
  refine ⟨⟨fun h => ?_, fun h => ?_⟩, fun h1 h2 => ?_⟩
  · have := Int.mul_lt_mul_of_pos_right h (show 0 < gc a b * gc c d by omega)
    omega
  · rw [← e1, ← e2] at h
    exact Int.lt_of_mul_lt_mul_right h (by omega)
  · rw [← e1, ← e2, h1, h2]

def missN (ln ld mn md s want : Int) : Int := if (okR ln ld mn md && (szB s && szB want)) = true then madeN (misN ln ld mn md want s) (misD ln ld mn md want s) else 0
def missD (ln ld mn md s want : Int) : Int := if (okR ln ld mn md && (szB s && szB want)) = true then madeD (misN ln ld mn md want s) (misD ln ld mn md want s) else 0
def missE (ln ld mn md s want : Int) : Int := if (okR ln ld mn md && (szB s && szB want)) = true then madeE (misN ln ld mn md want s) (misD ln ld mn md want s) else 1
theorem Miss_any (ln ld mn md s want : Int) (w : World) (h1 : W2 ln ld) (h2 : W2 mn md) :
    Calls Tryd.prog 59 #[.agg #[.int .i64 (ln), .int .i64 (ld), .int .i64 (mn), .int .i64 (md)], .int .i64 s, .int .i64 want] w fun e w' => e = .returned (.tuple #[.agg #[.int .i64 (missN ln ld mn md s want), .int .i64 (missD ln ld mn md s want)], .int .i64 (missE ln ld mn md s want)]) ∧ Below w.heap.size w w' := by
  unfold missN missD missE
  cases hk : okR ln ld mn md with
  | false => simp only [Bool.false_and, Bool.false_eq_true, if_false]; exact Miss_rule ln ld mn md s want w h1 h2 hk
  | true =>
    cases hs : szB s with
    | false => simp only [Bool.false_and, Bool.and_false, Bool.false_eq_true, if_false]; exact Miss_size ln ld mn md s want w hk hs
    | true =>
      cases ht : szB want with
      | false => simp only [Bool.and_false, Bool.false_eq_true, if_false]; exact Miss_want ln ld mn md s want w hk hs ht
      | true =>
        simp only [Bool.and_self, if_true]
        unfold madeN madeD madeE
        by_cases hl : lowOk (misN ln ld mn md want s) (misD ln ld mn md want s) = true
        · rw [if_pos hl, if_pos hl, if_pos hl]; exact Miss_ok ln ld mn md s want w hk hs ht hl
        · rw [if_neg hl, if_neg hl, if_neg hl]; exact Miss_bad ln ld mn md s want w hk hs ht (by simpa using hl)

theorem least_of (hl : AliveOk) (ln ld mn md want size : Int) (w : World) (h1 : W2 ln ld) (h2 : W2 mn md) (_ : I64 want) (_ : I64 size) (ht : Pow10 w) :
    Calls Tryd.prog 17 #[.agg #[.int .i64 (ln), .int .i64 (ld), .int .i64 (mn), .int .i64 (md)], .int .i64 want, .int .i64 size] w fun e w' => e = .returned (.bool true) ∧ Below w.heap.size w w' := by
  cases hk : okR ln ld mn md with
  | false => exact least_err ln ld mn md want size 1 w ht hl (by decide) (fun W => Best_rule ln ld mn md want W h1 h2 hk)
  | true =>
    cases hs : szB want with
    | false => exact least_err ln ld mn md want size 1 w ht hl (by decide) (fun W => Best_size ln ld mn md want W hk hs)
    | true =>
      have hr := RuleB.of_ok hk
      obtain ⟨r1, r2, r3, r4, r5, r6, r7, r8⟩ := id hr
      obtain ⟨w1, w2⟩ := szB_iff.1 hs
      obtain ⟨r, hb⟩ := best_exists ln ld mn md want
      obtain ⟨b1, b2, _, _⟩ := id hb
      have hlo := best_low hr w1 w2 hb
      have hd := misD_bd (ln := ln) (mn := mn) (want := want) (s := r) r3 r7 r4 r8
      have ho : okQ (lowN (misN ln ld mn md want r) (misD ln ld mn md want r)) (lowD (misN ln ld mn md want r) (misD ln ld mn md want r)) = true := by rw [okQ_low hd.1]; exact hlo
      refine least_core ln ld mn md want size r _ _ (missN ln ld mn md size want) (missD ln ld mn md size want) (missE ln ld mn md size want) ((okQ (missN ln ld mn md size want) (missD ln ld mn md size want) && okQ (lowN (misN ln ld mn md want r) (misD ln ld mn md want r)) (lowD (misN ln ld mn md want r) (misD ln ld mn md want r))) && ltB (missN ln ld mn md size want) (missD ln ld mn md size want) (lowN (misN ln ld mn md want r) (misD ln ld mn md want r)) (lowD (misN ln ld mn md want r) (misD ln ld mn md want r))) w ht hl
        (fun W => (Best_ok ln ld mn md want W hk hs).mono fun e w' ⟨q, he, hq, hB⟩ => ?_) (fun W => Miss_ok ln ld mn md r want W hk (szB_iff.2 ⟨b1, b2⟩) hs hlo) (fun W => Miss_any ln ld mn md size want W h1 h2) (fun W => less_any _ _ _ _ W ?_ (W2.of_ok ho)) ?_
      · obtain rfl := hb.unique hq
        exact ⟨he, hB⟩
      · unfold missN missD madeN madeD
        split
        · split
          · have hd' := misD_bd (ln := ln) (mn := mn) (want := want) (s := size) r3 r7 r4 r8
            exact W2.of_ok (by rw [okQ_low hd'.1]; assumption)
          · unfold W2 I64; omega
        · unfold W2 I64; omega
      · unfold LeastWay
        cases hz : szB size with
        | false => left; rw [missE, hk, hz]; rfl
        | true =>
          obtain ⟨s1, s2⟩ := szB_iff.1 hz
          have hc : (okR ln ld mn md && (szB size && szB want)) = true := by rw [hk, hz, hs]; rfl
          by_cases hlw : lowOk (misN ln ld mn md want size) (misD ln ld mn md want size) = true
          · have hd' := misD_bd (ln := ln) (mn := mn) (want := want) (s := size) r3 r7 r4 r8
            have en : missN ln ld mn md size want = lowN (misN ln ld mn md want size) (misD ln ld mn md want size) := by rw [missN, if_pos hc, madeN, if_pos hlw]
            have ed : missD ln ld mn md size want = lowD (misN ln ld mn md want size) (misD ln ld mn md want size) := by rw [missD, if_pos hc, madeD, if_pos hlw]
            have ee : missE ln ld mn md size want = 0 := by rw [missE, if_pos hc, madeE, if_pos hlw]
            rw [en, ed, ee]
            obtain ⟨l1, l2⟩ := best_least hr hb s1 s2
            have hx := low_cross (a := misN ln ld mn md want size) (b := misD ln ld mn md want size) (c := misN ln ld mn md want r) (d := misD ln ld mn md want r) hd'.1 hd.1
            have hle := (mis_le (ln := ln) (mn := mn) (want := want) (s := r) (t := size) r3 r7).2 l1
            have hlt : ltB (lowN (misN ln ld mn md want size) (misD ln ld mn md want size)) (lowD (misN ln ld mn md want size) (misD ln ld mn md want size)) (lowN (misN ln ld mn md want r) (misD ln ld mn md want r)) (lowD (misN ln ld mn md want r) (misD ln ld mn md want r)) = false := by
              unfold ltB
              rw [decide_eq_false_iff_not]
              intro h
              have := hx.1.1 (by omega)
              omega
            rw [hlt, Bool.and_false]
            right
            by_cases e1 : lowN (misN ln ld mn md want size) (misD ln ld mn md want size) = lowN (misN ln ld mn md want r) (misD ln ld mn md want r)
            · by_cases e2 : lowD (misN ln ld mn md want size) (misD ln ld mn md want size) = lowD (misN ln ld mn md want r) (misD ln ld mn md want r)
              · right
                refine ⟨rfl, rfl, e1, e2, ?_⟩
                have heq := hx.2 e1 e2
                rcases Int.lt_or_le size r with hh | hh
                · have l3 := l2 hh
                  have : ¬ misM ln ld mn md want size ≤ misM ln ld mn md want r := by omega
                  rw [← mis_le r3 r7] at this
                  omega
                · exact hh
              · left; exact ⟨rfl, rfl, .inr ⟨e1, by simpa using e2⟩⟩
            · left; exact ⟨rfl, rfl, .inl (by simpa using e1)⟩
          · left
            rw [missE, if_pos hc, madeE, if_neg hlw]; rfl
end Go.Proofs.YthoinamncekgmaaDoor
