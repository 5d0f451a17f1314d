/-
  Plain mathematics of planes: their bits one after the other, the cells of a solid.
-/
import Derived.Test.YtoajocgfmbakjaaGreatDoorPbA
import Derived.Lib.TrailingZeros
set_option linter.unusedVariables false
set_option linter.unusedSimpArgs false
namespace Go.Proofs.YtoajocgfmbakjaaGreatDoor
open Go Go.RowKit

/-- The lowest bit of a number above 0: its place. -/
def low (p : Nat) : Nat := if h : p = 0 then 0 else if p % 2 = 1 then 0 else low (p / 2) + 1
termination_by p
decreasing_by omega
theorem and_pred (p : Nat) (h : p ≠ 0) : ∀ i, (p &&& (p - 1)).testBit i = (p.testBit i && decide (i ≠ low p)) := by
  induction p using Nat.strongRecOn with
  | ind p ih =>
    intro i
    rw [low]
    rw [dif_neg h]
    by_cases h1 : p % 2 = 1
    · rw [if_pos h1, Nat.testBit_and]
      cases i with
      | zero => simp [Nat.testBit_zero]; omega
      | succ i =>
        rw [Nat.testBit_succ, Nat.testBit_succ, show (p - 1) / 2 = p / 2 by omega]
        simp
    · rw [if_neg h1, Nat.testBit_and]
      cases i with
      | zero => simp [Nat.testBit_zero]; omega
      | succ i =>
        have := ih (p / 2) (by omega) (by omega) i
        rw [Nat.testBit_and] at this
        rw [Nat.testBit_succ, Nat.testBit_succ, show (p - 1) / 2 = p / 2 - 1 by omega, this]
        simp
/-- The places of the bits of a number below 2^n, ascending. -/
def bitsOf (n p : Nat) : List Nat := (List.range n).filter fun i => p.testBit i
theorem low_bit (p : Nat) (h : p ≠ 0) : p.testBit (low p) = true ∧ ∀ i, i < low p → p.testBit i = false := by
  induction p using Nat.strongRecOn with
  | ind p ih =>
    rw [low, dif_neg h]
    by_cases h1 : p % 2 = 1
    · rw [if_pos h1]
      exact ⟨by simp [Nat.testBit_zero, h1], fun i hi => absurd hi (by omega)⟩
    · rw [if_neg h1]
      obtain ⟨a, b⟩ := ih (p / 2) (by omega) (by omega)
      refine ⟨by rw [Nat.testBit_succ]; exact a, fun i hi => ?_⟩
      cases i with
      | zero => simp [Nat.testBit_zero]; omega
      | succ i => rw [Nat.testBit_succ]; exact b i (by omega)
theorem low_lt (p n : Nat) (h : p ≠ 0) (hp : p < 2 ^ n) : low p < n := by
  have := (low_bit p h).1
  rcases Nat.lt_or_ge (low p) n with h1 | h1
  · exact h1
  · rw [Nat.testBit_lt_two_pow (Nat.lt_of_lt_of_le hp (Nat.pow_le_pow_right (by omega) h1))] at this
    cases this
theorem bitsOf_zero (n : Nat) : bitsOf n 0 = [] := by simp [bitsOf]
theorem filter_first {α} (l : List α) (f g : α → Bool) (a : α) : ∀ (k : Nat), l[k]? = some a → (∀ i b, i < k → l[i]? = some b → f b = false) → f a = true → (∀ i b, k < i → l[i]? = some b → g b = f b) → (∀ i b, i ≤ k → l[i]? = some b → g b = false) → l.filter f = a :: l.filter g := by
  induction l with
  | nil => intro k h; simp at h
  | cons x l ih =>
    intro k h0 h1 h2 h3 h4
    cases k with
    | zero =>
      simp at h0
      subst h0
      rw [List.filter_cons_of_pos h2, List.filter_cons_of_neg (by rw [h4 0 x (by omega) rfl]; simp)]
      congr 1
      refine List.filter_congr fun b hb => ?_
      obtain ⟨i, hi⟩ := List.mem_iff_getElem?.1 hb
      exact (h3 (i + 1) b (by omega) (by simpa using hi)).symm
    | succ k =>
      rw [List.filter_cons_of_neg (by rw [h1 0 x (by omega) rfl]; simp), List.filter_cons_of_neg (by rw [h4 0 x (by omega) rfl]; simp)]
      exact ih k (by simpa using h0) (fun i b hi hb => h1 (i + 1) b (by omega) (by simpa using hb)) h2 (fun i b hi hb => h3 (i + 1) b (by omega) (by simpa using hb)) (fun i b hi hb => h4 (i + 1) b (by omega) (by simpa using hb))
theorem bitsOf_pos (n p : Nat) (h : p ≠ 0) (hp : p < 2 ^ n) : bitsOf n p = low p :: bitsOf n (p &&& (p - 1)) := by
  have hl := low_lt p n h hp
  have hb := low_bit p h
  refine filter_first _ _ _ (low p) (low p) (by simp [hl]) (fun i b hi hx => ?_) hb.1 (fun i b hi hx => ?_) (fun i b hi hx => ?_)
  all_goals
    have hx' : i < n ∧ i = b := by
      obtain ⟨h1, h2⟩ := List.getElem?_eq_some_iff.1 hx
      exact ⟨by simpa using h1, by simpa using h2⟩
    obtain ⟨_, rfl⟩ := hx'
  · exact hb.2 i hi
  · rw [and_pred p h, decide_eq_true (by omega)]; simp
  · rw [and_pred p h]
    rcases Nat.lt_or_ge i (low p) with h | h
    · rw [hb.2 i h]; rfl
    · rw [decide_eq_false (by omega)]; simp

theorem ctzFrom_low : ∀ (n p : Nat), p ≠ 0 → p < 2 ^ n → Lib.ctzFrom n p = low p
  | 0, p, h, hp => by simp at hp; omega
  | n + 1, p, h, hp => by
    rw [low, dif_neg h]
    unfold Lib.ctzFrom
    by_cases h1 : p % 2 = 1
    · rw [if_pos h1, if_pos h1]
    · rw [if_neg h1, if_neg h1, ctzFrom_low n (p / 2) (by omega) (by rw [Nat.pow_succ] at hp; omega), Nat.add_comm]
theorem ctz_low {p : Nat} (h : p ≠ 0) (hp : p < 18446744073709551616) : Lib.ctz 64 p = low p := by
  unfold Lib.ctz
  rw [if_neg h]
  exact ctzFrom_low 64 p h hp
theorem pred_lt {p : Nat} (hp : p < 18446744073709551616) : p &&& (p - 1) < 18446744073709551616 := Nat.lt_of_le_of_lt Nat.and_le_left hp

/-- A cell by its number: 64 z + 8 y + x. -/
abbrev Cl := Fin 512
def cX (c : Cl) : Nat := c.1 % 8
def cY (c : Cl) : Nat := c.1 / 8 % 8
def cZ (c : Cl) : Nat := c.1 / 64
abbrev cell (c : Cl) : Value := .agg #[.int .i64 (((cX c : Nat) : Int)), .int .i64 (((cY c : Nat) : Int)), .int .i64 (((cZ c : Nat) : Int))]
def ci (k b : Nat) : Cl := ⟨(64 * k + b) % 512, Nat.mod_lt _ (by omega)⟩
def planeL (k p : Nat) : List Cl := (bitsOf 64 p).map (ci k)
/-- The cells of the planes from k on. -/
def restL (f : Sol) (k : Nat) : List Cl := (List.range' k (8 - k)).flatMap fun i => planeL i (f i)
def cellsL (f : Sol) : List Cl := restL f 0
theorem restL_succ (f : Sol) {k : Nat} (h : k < 8) : restL f k = planeL k (f k) ++ restL f (k + 1) := by
  unfold restL
  rw [show 8 - k = (8 - (k + 1)) + 1 by omega, List.range'_succ, List.flatMap_cons]
theorem restL_end (f : Sol) : restL f 8 = [] := rfl
theorem planeL_zero (k : Nat) : planeL k 0 = [] := by unfold planeL; rw [bitsOf_zero]; rfl
theorem planeL_pos (k : Nat) {p : Nat} (h : p ≠ 0) (hp : p < 18446744073709551616) : planeL k p = ci k (low p) :: planeL k (p &&& (p - 1)) := by
  unfold planeL
  rw [bitsOf_pos 64 p h hp]
  rfl
theorem low64 {p : Nat} (h : p ≠ 0) (hp : p < 18446744073709551616) : low p < 64 := low_lt p 64 h hp
theorem ci_val {k b : Nat} (hk : k < 8) (hb : b < 64) : (ci k b).1 = 64 * k + b := Nat.mod_eq_of_lt (by omega)
theorem ci_x {k b : Nat} (hk : k < 8) (hb : b < 64) : cX (ci k b) = b % 8 := by unfold cX; rw [ci_val hk hb]; omega
theorem ci_y {k b : Nat} (hk : k < 8) (hb : b < 64) : cY (ci k b) = b / 8 := by unfold cY; rw [ci_val hk hb]; omega
theorem ci_z {k b : Nat} (hk : k < 8) (hb : b < 64) : cZ (ci k b) = k := by unfold cZ; rw [ci_val hk hb]; omega
theorem cellsL_len (f : Sol) : (cellsL f).length ≤ 512 := by
  have h : ∀ k p, (planeL k p).length ≤ 64 := fun k p => by
    unfold planeL bitsOf
    rw [List.length_map]
    exact Nat.le_trans (List.length_filter_le _ _) (by simp)
  have h2 : ∀ n k, ((List.range' k n).flatMap fun i => planeL i (f i)).length ≤ 64 * n := by
    intro n
    induction n with
    | zero => intro k; simp
    | succ n ih =>
      intro k
      rw [List.range'_succ, List.flatMap_cons, List.length_append]
      have := h k (f k)
      have := ih (k + 1)
      omega
  exact h2 8 0
theorem X_le (c : Cl) : cX c ≤ 7 := by unfold cX; omega
theorem Y_le (c : Cl) : cY c ≤ 7 := by unfold cY; omega
theorem Z_le (c : Cl) : cZ c ≤ 7 := by unfold cZ; omega
end Go.Proofs.YtoajocgfmbakjaaGreatDoor
/-
  The bits of a number of 64 bits, counted in fields side by side.
-/
set_option linter.unusedVariables false
set_option linter.unusedSimpArgs false
set_option maxRecDepth 100000
namespace Go.Proofs.YtoajocgfmbakjaaGreatDoor
open Go Go.RowKit

/-- A number by its bytes. -/
def fromB : List Nat → Nat
  | [] => 0
  | b :: l => b + 256 * fromB l
theorem and_split {a b M m : Nat} (hb : b < 256) (hm : m < 256) : (256 * a + b) &&& (256 * M + m) = 256 * (a &&& M) + (b &&& m) := by
  have h1 : b &&& m < 2 ^ 8 := Nat.lt_of_le_of_lt Nat.and_le_left hb
  apply Nat.eq_of_testBit_eq
  intro i
  rw [show 256 * a + b = 2 ^ 8 * a + b by omega, show 256 * M + m = 2 ^ 8 * M + m by omega, show 256 * (a &&& M) + (b &&& m) = 2 ^ 8 * (a &&& M) + (b &&& m) by omega]
  rw [Nat.testBit_and, Nat.testBit_two_pow_mul_add _ hb, Nat.testBit_two_pow_mul_add _ hm, Nat.testBit_two_pow_mul_add _ h1]
  split <;> rw [Nat.testBit_and]
theorem and_mask (s m : Nat) (hs : s ≤ 8) (hm : m * 2 ^ s < 256) : ∀ l : List Nat, (∀ b ∈ l, b < 256) → (fromB l / 2 ^ s) &&& fromB (List.replicate l.length m) = fromB (l.map fun b => (b / 2 ^ s) &&& m)
  | [], _ => by simp [fromB]
  | b :: l, h => by
    have ih := and_mask s m hs hm l fun c hc => h c (List.mem_cons_of_mem _ hc)
    have hb := h b List.mem_cons_self
    have hm2 : m < 256 := Nat.lt_of_le_of_lt (Nat.le_mul_of_pos_right _ (Nat.two_pow_pos s)) hm
    rw [List.length_cons, List.replicate_succ, List.map_cons]
    unfold fromB
    rw [← ih]
    apply Nat.eq_of_testBit_eq
    intro i
    have h1 : (b / 2 ^ s) &&& m < 2 ^ 8 := Nat.lt_of_le_of_lt Nat.and_le_right hm2
    rw [show b + 256 * fromB l = 2 ^ 8 * fromB l + b by omega, show m + 256 * fromB (List.replicate l.length m) = 2 ^ 8 * fromB (List.replicate l.length m) + m by omega, show ((b / 2 ^ s) &&& m) + 256 * ((fromB l / 2 ^ s) &&& fromB (List.replicate l.length m)) = 2 ^ 8 * ((fromB l / 2 ^ s) &&& fromB (List.replicate l.length m)) + ((b / 2 ^ s) &&& m) by omega]
    rw [Nat.testBit_and, Nat.testBit_div_two_pow, Nat.testBit_two_pow_mul_add _ hb, Nat.testBit_two_pow_mul_add _ hm2, Nat.testBit_two_pow_mul_add _ h1]
    by_cases hi : i < 8
    · rw [if_pos hi, if_pos hi, Nat.testBit_and, Nat.testBit_div_two_pow]
      cases hmi : m.testBit i with
      | false => simp
      | true =>
        have : i + s < 8 := by
          refine Nat.lt_of_not_le fun hc => ?_
          have h2 : (m * 2 ^ s).testBit (i + s) = true := by rw [Nat.testBit_mul_two_pow]; simp [hmi]
          rw [Nat.testBit_lt_two_pow (Nat.lt_of_lt_of_le hm (by rw [show (256 : Nat) = 2 ^ 8 by decide]; exact Nat.pow_le_pow_right (by omega) hc))] at h2
          cases h2
        rw [if_pos this]
    · rw [if_neg hi, if_neg hi, if_neg (by omega), Nat.testBit_and, Nat.testBit_div_two_pow, show i + s - 8 = i - 8 + s by omega]
theorem fromB_add (f g : Nat → Nat) : ∀ l : List Nat, fromB (l.map f) + fromB (l.map g) = fromB (l.map fun b => f b + g b)
  | [] => rfl
  | b :: l => by
    have ih := fromB_add f g l
    simp only [List.map_cons]
    unfold fromB
    omega
def b1 (b : Nat) : Nat := (b / 2 ^ 1 &&& 85) + (b / 2 ^ 0 &&& 85)
def b2 (b : Nat) : Nat := (b / 2 ^ 2 &&& 51) + (b / 2 ^ 0 &&& 51)
def b3 (b : Nat) : Nat := b / 16 + b % 16
theorem b1_lt : ∀ b : Fin 256, b1 b.1 < 256 := by decide +kernel
theorem b2_le : ∀ b : Fin 256, b2 (b1 b.1) ≤ 68 ∧ b2 (b1 b.1) % 16 ≤ 4 ∧ b2 (b1 b.1) / 16 ≤ 4 := by decide +kernel
theorem b3_pop : ∀ b : Fin 256, b3 (b2 (b1 b.1)) = (bitsOf 8 b.1).length := by decide +kernel
theorem mask4 : ∀ l : List Nat, (∀ c ∈ l, c ≤ 68 ∧ c % 16 ≤ 4 ∧ c / 16 ≤ 4) → (fromB l / 16 + fromB l) &&& fromB (List.replicate l.length 15) = fromB (l.map b3) ∧ fromB l % 16 ≤ 4
  | [], _ => by simp [fromB]
  | c :: l, h => by
    obtain ⟨ih, hr⟩ := mask4 l fun d hd => h d (List.mem_cons_of_mem _ hd)
    obtain ⟨h1, h2, h3⟩ := h c List.mem_cons_self
    rw [List.length_cons, List.replicate_succ, List.map_cons]
    unfold fromB
    obtain ⟨L, hL⟩ : ∃ L, L = fromB l := ⟨_, rfl⟩
    rw [← hL] at ih hr ⊢
    refine ⟨?_, by omega⟩
    have e1 : (c + 256 * L) / 16 + (c + 256 * L) = 256 * (L / 16 + L) + (16 * (L % 16) + c / 16 + c) := by omega
    rw [e1, show 15 + 256 * fromB (List.replicate l.length 15) = 256 * fromB (List.replicate l.length 15) + 15 by omega, and_split (by omega) (by omega), ih]
    have e2 : (16 * (L % 16) + c / 16 + c) &&& 15 = b3 c := by
      rw [show (15 : Nat) = 2 ^ 4 - 1 by decide, Nat.and_two_pow_sub_one_eq_mod]
      unfold b3
      omega
    rw [e2]
    omega
def bytes8 (x : Nat) : List Nat := [x % 256, x / 256 % 256, x / 65536 % 256, x / 16777216 % 256, x / 4294967296 % 256, x / 1099511627776 % 256, x / 281474976710656 % 256, x / 72057594037927936 % 256]
theorem bytes_from {x : Nat} (h : x < 18446744073709551616) : fromB (bytes8 x) = x := by
  unfold bytes8 fromB fromB fromB fromB fromB fromB fromB fromB fromB
  omega
theorem bytes_lt (x : Nat) : ∀ b ∈ bytes8 x, b < 256 := by
  intro b hb
  unfold bytes8 at hb
  simp only [List.mem_cons, List.not_mem_nil, or_false] at hb
  rcases hb with rfl | rfl | rfl | rfl | rfl | rfl | rfl | rfl <;> exact Nat.mod_lt _ (by omega)
theorem bits_split (n b q : Nat) (hb : b < 256) : (bitsOf (8 + n) (b + 256 * q)).length = (bitsOf 8 b).length + (bitsOf n q).length := by
  unfold bitsOf
  rw [List.range_add, List.filter_append, List.length_append]
  congr 1
  · congr 1
    refine List.filter_congr fun i hi => ?_
    rw [show b + 256 * q = 2 ^ 8 * q + b by omega, Nat.testBit_two_pow_mul_add _ hb, if_pos (List.mem_range.1 hi)]
  · rw [List.filter_map, List.length_map]
    congr 1
    refine List.filter_congr fun i hi => ?_
    simp only [Function.comp]
    rw [show b + 256 * q = 2 ^ 8 * q + b by omega, Nat.testBit_two_pow_mul_add _ hb, if_neg (by omega), show 8 + i - 8 = i by omega]
theorem bits_from : ∀ l : List Nat, (∀ b ∈ l, b < 256) → (bitsOf (8 * l.length) (fromB l)).length = (l.map fun b => (bitsOf 8 b).length).sum
  | [], _ => rfl
  | b :: l, h => by
    rw [List.length_cons, show 8 * (l.length + 1) = 8 + 8 * l.length by omega]
    unfold fromB
    rw [bits_split _ _ _ (h b List.mem_cons_self), bits_from l fun c hc => h c (List.mem_cons_of_mem _ hc), List.map_cons, List.sum_cons]
def pop1 (x : Nat) : Nat := (x / 2 &&& 6148914691236517205) + (x &&& 6148914691236517205)
def pop2 (x : Nat) : Nat := (x / 4 &&& 3689348814741910323) + (x &&& 3689348814741910323)
def pop3 (x : Nat) : Nat := (x / 16 + x) &&& 1085102592571150095
theorem pop1_is (l : List Nat) (h8 : l.length = 8) (h : ∀ b ∈ l, b < 256) : pop1 (fromB l) = fromB (l.map b1) := by
  have a1 := and_mask 1 85 (by omega) (by omega) l h
  have a0 := and_mask 0 85 (by omega) (by omega) l h
  rw [h8] at a1 a0
  rw [show fromB (List.replicate 8 85) = 6148914691236517205 by decide] at a1 a0
  unfold pop1
  rw [show fromB l / 2 = fromB l / 2 ^ 1 by rw [Nat.pow_one], a1]
  have e : fromB l &&& 6148914691236517205 = fromB (l.map fun b => (b / 2 ^ 0) &&& 85) := by rw [← a0, Nat.pow_zero, Nat.div_one]
  rw [e, fromB_add]
  rfl
theorem pop2_is (l : List Nat) (h8 : l.length = 8) (h : ∀ b ∈ l, b < 256) : pop2 (fromB l) = fromB (l.map b2) := by
  have a1 := and_mask 2 51 (by omega) (by omega) l h
  have a0 := and_mask 0 51 (by omega) (by omega) l h
  rw [h8] at a1 a0
  rw [show fromB (List.replicate 8 51) = 3689348814741910323 by decide] at a1 a0
  unfold pop2
  rw [show fromB l / 4 = fromB l / 2 ^ 2 by rfl, a1]
  have e : fromB l &&& 3689348814741910323 = fromB (l.map fun b => (b / 2 ^ 0) &&& 51) := by rw [← a0, Nat.pow_zero, Nat.div_one]
  rw [e, fromB_add]
  rfl
theorem pop3_is (l : List Nat) (h8 : l.length = 8) (h : ∀ c ∈ l, c ≤ 68 ∧ c % 16 ≤ 4 ∧ c / 16 ≤ 4) : pop3 (fromB l) = fromB (l.map b3) := by
  have a := (mask4 l h).1
  rw [h8, show fromB (List.replicate 8 15) = 1085102592571150095 by decide] at a
  exact a
theorem eight (m : List Nat) (h : m.length = 8) (h8 : ∀ d ∈ m, d ≤ 8) : ∃ d0 d1 d2 d3 d4 d5 d6 d7 : Nat, (d0 ≤ 8 ∧ d1 ≤ 8 ∧ d2 ≤ 8 ∧ d3 ≤ 8 ∧ d4 ≤ 8 ∧ d5 ≤ 8 ∧ d6 ≤ 8 ∧ d7 ≤ 8) ∧
    fromB m = d0 + 256 * d1 + 65536 * d2 + 16777216 * d3 + 4294967296 * d4 + 1099511627776 * d5 + 281474976710656 * d6 + 72057594037927936 * d7 ∧ m.sum = d0 + d1 + d2 + d3 + d4 + d5 + d6 + d7 := by
  match m, h, h8 with
  | [c0, c1, c2, c3, c4, c5, c6, c7], _, pl =>
    refine ⟨c0, c1, c2, c3, c4, c5, c6, c7, ⟨pl c0 (by simp), pl c1 (by simp), pl c2 (by simp), pl c3 (by simp), pl c4 (by simp), pl c5 (by simp), pl c6 (by simp), pl c7 (by simp)⟩, ?_, ?_⟩
    · simp only [fromB]
      omega
    · simp only [List.sum_cons, List.sum_nil]
      omega
/-- The bits of a number of 64 bits, as its bytes' numbers of bits. -/
theorem pops {x : Nat} (hx : x < 18446744073709551616) : ∃ d0 d1 d2 d3 d4 d5 d6 d7 : Nat, (d0 ≤ 8 ∧ d1 ≤ 8 ∧ d2 ≤ 8 ∧ d3 ≤ 8 ∧ d4 ≤ 8 ∧ d5 ≤ 8 ∧ d6 ≤ 8 ∧ d7 ≤ 8) ∧
    pop3 (pop2 (pop1 x)) = d0 + 256 * d1 + 65536 * d2 + 16777216 * d3 + 4294967296 * d4 + 1099511627776 * d5 + 281474976710656 * d6 + 72057594037927936 * d7 ∧ (bitsOf 64 x).length = d0 + d1 + d2 + d3 + d4 + d5 + d6 + d7 := by
  obtain ⟨l, hl⟩ : ∃ l, l = bytes8 x := ⟨_, rfl⟩
  have h8 : l.length = 8 := by rw [hl]; rfl
  have hb : ∀ b ∈ l, b < 256 := by rw [hl]; exact bytes_lt x
  have hx2 : fromB l = x := by rw [hl]; exact bytes_from hx
  have p1 := pop1_is l h8 hb
  have p2 := pop2_is (l.map b1) (by rw [List.length_map]; exact h8) fun c hc => by
    obtain ⟨b, hb2, rfl⟩ := List.mem_map.1 hc
    exact b1_lt ⟨b, hb b hb2⟩
  have p3 := pop3_is ((l.map b1).map b2) (by rw [List.length_map, List.length_map]; exact h8) fun c hc => by
    obtain ⟨d, hd, rfl⟩ := List.mem_map.1 hc
    obtain ⟨b, hb2, rfl⟩ := List.mem_map.1 hd
    exact b2_le ⟨b, hb b hb2⟩
  have pl : ∀ b ∈ l, (bitsOf 8 b).length ≤ 8 := fun b _ => by
    unfold bitsOf
    exact Nat.le_trans (List.length_filter_le _ _) (by simp)
  have e : ((l.map b1).map b2).map b3 = l.map fun b => (bitsOf 8 b).length := by
    rw [List.map_map, List.map_map]
    refine List.map_congr_left fun b hb2 => ?_
    exact b3_pop ⟨b, hb b hb2⟩
  have hs := bits_from l hb
  rw [h8, hx2] at hs
  rw [hx2] at p1
  rw [p1, p2, p3, e, hs]
  exact eight (l.map fun b => (bitsOf 8 b).length) (by rw [List.length_map]; exact h8) fun d hd => by
    obtain ⟨b, hb2, rfl⟩ := List.mem_map.1 hd
    exact pl b hb2
set_option maxHeartbeats 1000000 in
theorem pop_end {a d0 d1 d2 d3 d4 d5 d6 d7 : Nat} (h : d0 ≤ 8 ∧ d1 ≤ 8 ∧ d2 ≤ 8 ∧ d3 ≤ 8 ∧ d4 ≤ 8 ∧ d5 ≤ 8 ∧ d6 ≤ 8 ∧ d7 ≤ 8)
    (ha : a = d0 + 256 * d1 + 65536 * d2 + 16777216 * d3 + 4294967296 * d4 + 1099511627776 * d5 + 281474976710656 * d6 + 72057594037927936 * d7) :
    ∃ n4 n5 n6 : Nat, n4 = a + a / 256 ∧ n5 = n4 + n4 / 65536 ∧ n6 = n5 + n5 / 4294967296 ∧ n6 < 4611686018427387904 ∧ a < 4611686018427387904 ∧ n6 % 128 = d0 + d1 + d2 + d3 + d4 + d5 + d6 + d7 := by
  have h1 : a / 256 = d1 + 256 * d2 + 65536 * d3 + 16777216 * d4 + 4294967296 * d5 + 1099511627776 * d6 + 281474976710656 * d7 := by omega
  obtain ⟨n4, e4⟩ : ∃ n4, n4 = a + a / 256 := ⟨_, rfl⟩
  have f4 : n4 = (d0 + d1) + 256 * (d1 + d2) + 65536 * (d2 + d3) + 16777216 * (d3 + d4) + 4294967296 * (d4 + d5) + 1099511627776 * (d5 + d6) + 281474976710656 * (d6 + d7) + 72057594037927936 * d7 := by omega
  have h2 : n4 / 65536 = (d2 + d3) + 256 * (d3 + d4) + 65536 * (d4 + d5) + 16777216 * (d5 + d6) + 4294967296 * (d6 + d7) + 1099511627776 * d7 := by omega
  obtain ⟨n5, e5⟩ : ∃ n5, n5 = n4 + n4 / 65536 := ⟨_, rfl⟩
  have f5 : n5 = (d0 + d1 + d2 + d3) + 256 * (d1 + d2 + d3 + d4) + 65536 * (d2 + d3 + d4 + d5) + 16777216 * (d3 + d4 + d5 + d6) + 4294967296 * (d4 + d5 + d6 + d7) + 1099511627776 * (d5 + d6 + d7) + 281474976710656 * (d6 + d7) + 72057594037927936 * d7 := by omega
  have h3 : n5 / 4294967296 = (d4 + d5 + d6 + d7) + 256 * (d5 + d6 + d7) + 65536 * (d6 + d7) + 16777216 * d7 := by omega
  have hB : n5 + n5 / 4294967296 < 4611686018427387904 := by
    rw [h3, f5]
    clear h1 f4 h2 e4 e5 ha h3 f5
    omega
  have hA : a < 4611686018427387904 := by
    rw [ha]
    clear h1 f4 h2 e4 e5 ha h3 f5 hB
    omega
  refine ⟨n4, n5, n5 + n5 / 4294967296, e4, e5, rfl, hB, hA, ?_⟩
  obtain ⟨B, hB'⟩ : ∃ B, B = (d1 + d2 + d3 + d4) + 256 * (d2 + d3 + d4 + d5) + 65536 * (d3 + d4 + d5 + d6) + 16777216 * (d4 + d5 + d6 + d7) + 4294967296 * (d5 + d6 + d7) + 1099511627776 * (d6 + d7) + 281474976710656 * d7 := ⟨_, rfl⟩
  obtain ⟨C, hC⟩ : ∃ C, C = (d5 + d6 + d7) + 256 * (d6 + d7) + 65536 * d7 := ⟨_, rfl⟩
  have g5 : n5 = (d0 + d1 + d2 + d3) + 256 * B := by
    rw [f5, hB']
    clear h1 f4 h2 e4 e5 ha h3 f5 hB hC hA h hB'
    omega
  have g3 : n5 / 4294967296 = (d4 + d5 + d6 + d7) + 256 * C := by
    rw [h3, hC]
    clear h1 f4 h2 e4 e5 ha h3 f5 hB hC hA h hB' g5
    omega
  rw [g3, g5]
  clear hB hC g3 g5 f4 f5 h1 h2 h3 e4 e5 hA ha hB'
  omega
end Go.Proofs.YtoajocgfmbakjaaGreatDoor
/-
  math/bits.OnesCount64.
-/
set_option linter.unusedVariables false
set_option linter.unusedSimpArgs false
namespace Go.Proofs.YtoajocgfmbakjaaGreatDoor
open Go Go.RowKit

theorem pw1 (x : Nat) (h : x < 18446744073709551616) : IntKind.u64.wrap (bits .and .u64 ((x : Int) / 2) 6148914691236517205 + bits .and .u64 (x : Int) 6148914691236517205) = ((pop1 x : Nat) : Int) := by
  have a : bits .and .u64 ((x : Int) / 2) 6148914691236517205 = ((x / 2 &&& 6148914691236517205 : Nat) : Int) := by
    rw [show (x : Int) / 2 = ((x / 2 : Nat) : Int) by omega]
    exact bits_and (by omega) (by decide)
  have b : bits .and .u64 (x : Int) 6148914691236517205 = ((x &&& 6148914691236517205 : Nat) : Int) := bits_and h (by decide)
  have c : x / 2 &&& 6148914691236517205 ≤ 6148914691236517205 := Nat.and_le_right
  have d : x &&& 6148914691236517205 ≤ 6148914691236517205 := Nat.and_le_right
  rw [a, b, IntKind.wrap_u64]
  unfold pop1
  omega
theorem pw2 (x : Nat) (h : x < 18446744073709551616) : IntKind.u64.wrap (bits .and .u64 ((x : Int) / 4) 3689348814741910323 + bits .and .u64 (x : Int) 3689348814741910323) = ((pop2 x : Nat) : Int) := by
  have a : bits .and .u64 ((x : Int) / 4) 3689348814741910323 = ((x / 4 &&& 3689348814741910323 : Nat) : Int) := by
    rw [show (x : Int) / 4 = ((x / 4 : Nat) : Int) by omega]
    exact bits_and (by omega) (by decide)
  have b : bits .and .u64 (x : Int) 3689348814741910323 = ((x &&& 3689348814741910323 : Nat) : Int) := bits_and h (by decide)
  have c : x / 4 &&& 3689348814741910323 ≤ 3689348814741910323 := Nat.and_le_right
  have d : x &&& 3689348814741910323 ≤ 3689348814741910323 := Nat.and_le_right
  rw [a, b, IntKind.wrap_u64]
  unfold pop2
  omega
theorem pop1_lt (x : Nat) : pop1 x < 18446744073709551616 := by
  have c : x / 2 &&& 6148914691236517205 ≤ 6148914691236517205 := Nat.and_le_right
  have d : x &&& 6148914691236517205 ≤ 6148914691236517205 := Nat.and_le_right
  unfold pop1
  omega
theorem pop2_lt (x : Nat) : pop2 x ≤ 7378697629483820646 := by
  have c : x / 4 &&& 3689348814741910323 ≤ 3689348814741910323 := Nat.and_le_right
  have d : x &&& 3689348814741910323 ≤ 3689348814741910323 := Nat.and_le_right
  unfold pop2
  omega
theorem pw3 (x : Nat) (h : x ≤ 7378697629483820646) : bits .and .u64 (IntKind.u64.wrap ((x : Int) / 16 + (x : Int))) 1085102592571150095 = ((pop3 x : Nat) : Int) := by
  rw [show IntKind.u64.wrap ((x : Int) / 16 + (x : Int)) = ((x / 16 + x : Nat) : Int) by rw [IntKind.wrap_u64]; omega]
  exact bits_and (by omega) (by decide)
theorem bits_and_small (a b : Nat) (ha : a < 9223372036854775808) (hb : b < 9223372036854775808) : bits .and .i64 (a : Int) (b : Int) = ((a &&& b : Nat) : Int) := by
  have hx : a &&& b < 2 ^ 63 := Nat.and_lt_two_pow _ (by omega)
  have h1 : (BitVec.ofInt 64 (a : Int)).toNat = a := by
    rw [BitVec.ofInt_natCast, BitVec.toNat_ofNat]; exact Nat.mod_eq_of_lt (by omega)
  have h2 : (BitVec.ofInt 64 (b : Int)).toNat = b := by
    rw [BitVec.ofInt_natCast, BitVec.toNat_ofNat]; exact Nat.mod_eq_of_lt (by omega)
  show IntKind.i64.wrap ((BitVec.ofInt 64 (a : Int) &&& BitVec.ofInt 64 (b : Int)).toNat : Int) = _
  rw [BitVec.toNat_and, h1, h2]
  exact IntWalk.i64_in _ (by omega)
theorem pw_end {n : Nat} (h : n < 4611686018427387904) : bits .and .i64 (IntKind.i64.wrap (n : Int)) 127 = ((n % 128 : Nat) : Int) := by
  rw [IntWalk.i64_in _ (by omega), show bits .and .i64 (n : Int) 127 = ((n &&& 127 : Nat) : Int) from bits_and_small n 127 (by omega) (by decide), show (127 : Nat) = 2 ^ 7 - 1 by decide, Nat.and_two_pow_sub_one_eq_mod]
theorem pw_add {a b : Nat} (k : Nat) (hb : b = a + a / k) (h : b < 4611686018427387904) : IntKind.u64.wrap ((a : Int) + (a : Int) / (k : Int)) = (b : Int) := by
  rw [show (a : Int) / (k : Int) = ((a / k : Nat) : Int) from (Int.natCast_ediv a k).symm, IntKind.wrap_u64, hb]
  rw [hb] at h
  omega
set_option maxRecDepth 100000 in
set_option maxHeartbeats 2000000 in
theorem ones_ok (x : Nat) (w : World) (hx : x < 18446744073709551616) :
    Calls Tryz.prog 167 #[.int .u64 x] w fun e w' => e = .returned (.int .i64 ((bitsOf 64 x).length : Nat)) ∧ Below w.heap.size w w' := by
  obtain ⟨d0, d1, d2, d3, d4, d5, d6, d7, hd, hp, hn⟩ := pops hx
  obtain ⟨n4, n5, n6, e4, e5, e6, h6, ha, hs⟩ := pop_end hd rfl
  rw [← hp] at e4 ha
  have E1 := pw1 x hx
  have E2 := pw2 (pop1 x) (pop1_lt x)
  have E3 := pw3 (pop2 (pop1 x)) (pop2_lt _)
  have b6 : n5 ≤ n6 := by rw [e6]; exact Nat.le_add_right _ _
  have b5 : n4 ≤ n5 := by rw [e5]; exact Nat.le_add_right _ _
  have E4 : IntKind.u64.wrap (((pop3 (pop2 (pop1 x)) : Nat) : Int) + ((pop3 (pop2 (pop1 x)) : Nat) : Int) / 256) = (n4 : Int) := pw_add 256 e4 (by omega)
  have E5 : IntKind.u64.wrap ((n4 : Int) + (n4 : Int) / 65536) = (n5 : Int) := pw_add 65536 e5 (by omega)
  have E6 : IntKind.u64.wrap ((n5 : Int) + (n5 : Int) / 4294967296) = (n6 : Int) := pw_add 4294967296 e6 h6
  have E7 := pw_end h6
  have HE := Lib.hid (And.intro E1 (And.intro E2 (And.intro E3 (And.intro E4 (And.intro E5 (And.intro E6 E7))))))
  rw [hs, ← hn] at HE
  clear E1 E2 E3 E4 E5 E6 E7 hd hp hn e4 e5 e6 h6 ha hs b6 b5
  go_enter Tryz.func167, Tryz.ntmps167
  go_wp2
  obtain ⟨E1, E2, E3, E4, E5, E6, E7⟩ := HE.out
  simp only [E1, E2, E3, E4, E5, E6]
  go_ret
  exact ⟨retI (by rw [← IntWalk.i64_left]; exact E7), Below.refl _ _⟩
end Go.Proofs.YtoajocgfmbakjaaGreatDoor
