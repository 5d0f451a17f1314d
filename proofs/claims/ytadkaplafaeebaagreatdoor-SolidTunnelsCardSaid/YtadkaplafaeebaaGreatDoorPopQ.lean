/-
  The bits of a number of 64 bits, counted in fields side by side.
-/
import Derived.Test.YtadkaplafaeebaaGreatDoorPkAQ
set_option linter.unusedVariables false
set_option linter.unusedSimpArgs false
set_option maxRecDepth 100000
namespace Go.Proofs.YtadkaplafaeebaaGreatDoor
open Go Go.RowKit

/-- A number by its bytes. -/
def fromB : List Nat → Nat
  | [] => 0
  | b :: l => b + 256 * fromB l
theorem and_split {a b M m : Nat} (hb : b < 256) (hm : m < 256) : (256 * a + b) &&& (256 * M + m) = 256 * (a &&& M) + (b &&& m) := by
  have h1 : b &&& m < 2 ^ 8 := Nat.lt_of_le_of_lt Nat.and_le_left hb
  apply Nat.eq_of_testBit_eq
  intro i
  rw [show 256 * a + b = 2 ^ 8 * a + b by omega, show 256 * M + m = 2 ^ 8 * M + m by omega, show 256 * (a &&& M) + (b &&& m) = 2 ^ 8 * (a &&& M) + (b &&& m) by omega]
  rw [Nat.testBit_and, Nat.testBit_two_pow_mul_add _ hb, Nat.testBit_two_pow_mul_add _ hm, Nat.testBit_two_pow_mul_add _ h1]
  split <;> rw [Nat.testBit_and]
theorem and_mask (s m : Nat) (hs : s ≤ 8) (hm : m * 2 ^ s < 256) : ∀ l : List Nat, (∀ b ∈ l, b < 256) → (fromB l / 2 ^ s) &&& fromB (List.replicate l.length m) = fromB (l.map fun b => (b / 2 ^ s) &&& m)
  | [], _ => by simp [fromB]
  | b :: l, h => by
    have ih := and_mask s m hs hm l fun c hc => h c (List.mem_cons_of_mem _ hc)
    have hb := h b List.mem_cons_self
    have hm2 : m < 256 := Nat.lt_of_le_of_lt (Nat.le_mul_of_pos_right _ (Nat.two_pow_pos s)) hm
    rw [List.length_cons, List.replicate_succ, List.map_cons]
    unfold fromB
    rw [← ih]
    apply Nat.eq_of_testBit_eq
    intro i
    have h1 : (b / 2 ^ s) &&& m < 2 ^ 8 := Nat.lt_of_le_of_lt Nat.and_le_right hm2
    rw [show b + 256 * fromB l = 2 ^ 8 * fromB l + b by omega, show m + 256 * fromB (List.replicate l.length m) = 2 ^ 8 * fromB (List.replicate l.length m) + m by omega, show ((b / 2 ^ s) &&& m) + 256 * ((fromB l / 2 ^ s) &&& fromB (List.replicate l.length m)) = 2 ^ 8 * ((fromB l / 2 ^ s) &&& fromB (List.replicate l.length m)) + ((b / 2 ^ s) &&& m) by omega]
    rw [Nat.testBit_and, Nat.testBit_div_two_pow, Nat.testBit_two_pow_mul_add _ hb, Nat.testBit_two_pow_mul_add _ hm2, Nat.testBit_two_pow_mul_add _ h1]
    by_cases hi : i < 8
    · rw [if_pos hi, if_pos hi, Nat.testBit_and, Nat.testBit_div_two_pow]
      cases hmi : m.testBit i with
      | false => simp
      | true =>
        have : i + s < 8 := by
          refine Nat.lt_of_not_le fun hc => ?_
          have h2 : (m * 2 ^ s).testBit (i + s) = true := by rw [Nat.testBit_mul_two_pow]; simp [hmi]
          rw [Nat.testBit_lt_two_pow (Nat.lt_of_lt_of_le hm (by rw [show (256 : Nat) = 2 ^ 8 by decide]; exact Nat.pow_le_pow_right (by omega) hc))] at h2
          cases h2
        rw [if_pos this]
    · rw [if_neg hi, if_neg hi, if_neg (by omega), Nat.testBit_and, Nat.testBit_div_two_pow, show i + s - 8 = i - 8 + s by omega]
theorem fromB_add (f g : Nat → Nat) : ∀ l : List Nat, fromB (l.map f) + fromB (l.map g) = fromB (l.map fun b => f b + g b)
  | [] => rfl
  | b :: l => by
    have ih := fromB_add f g l
    simp only [List.map_cons]
    unfold fromB
    omega
def b1 (b : Nat) : Nat := (b / 2 ^ 1 &&& 85) + (b / 2 ^ 0 &&& 85)
def b2 (b : Nat) : Nat := (b / 2 ^ 2 &&& 51) + (b / 2 ^ 0 &&& 51)
def b3 (b : Nat) : Nat := b / 16 + b % 16
theorem b1_lt : ∀ b : Fin 256, b1 b.1 < 256 := by decide +kernel
theorem b2_le : ∀ b : Fin 256, b2 (b1 b.1) ≤ 68 ∧ b2 (b1 b.1) % 16 ≤ 4 ∧ b2 (b1 b.1) / 16 ≤ 4 := by decide +kernel
theorem b3_pop : ∀ b : Fin 256, b3 (b2 (b1 b.1)) = (bitsOf 8 b.1).length := by decide +kernel
theorem mask4 : ∀ l : List Nat, (∀ c ∈ l, c ≤ 68 ∧ c % 16 ≤ 4 ∧ c / 16 ≤ 4) → (fromB l / 16 + fromB l) &&& fromB (List.replicate l.length 15) = fromB (l.map b3) ∧ fromB l % 16 ≤ 4
  | [], _ => by simp [fromB]
  | c :: l, h => by
    obtain ⟨ih, hr⟩ := mask4 l fun d hd => h d (List.mem_cons_of_mem _ hd)
    obtain ⟨h1, h2, h3⟩ := h c List.mem_cons_self
    rw [List.length_cons, List.replicate_succ, List.map_cons]
    unfold fromB
    obtain ⟨L, hL⟩ : ∃ L, L = fromB l := ⟨_, rfl⟩
    rw [← hL] at ih hr ⊢
    refine ⟨?_, by omega⟩
    have e1 : (c + 256 * L) / 16 + (c + 256 * L) = 256 * (L / 16 + L) + (16 * (L % 16) + c / 16 + c) := by omega
    rw [e1, show 15 + 256 * fromB (List.replicate l.length 15) = 256 * fromB (List.replicate l.length 15) + 15 by omega, and_split (by omega) (by omega), ih]
    have e2 : (16 * (L % 16) + c / 16 + c) &&& 15 = b3 c := by
      rw [show (15 : Nat) = 2 ^ 4 - 1 by decide, Nat.and_two_pow_sub_one_eq_mod]
      unfold b3
      omega
    rw [e2]
    omega
def bytes8 (x : Nat) : List Nat := [x % 256, x / 256 % 256, x / 65536 % 256, x / 16777216 % 256, x / 4294967296 % 256, x / 1099511627776 % 256, x / 281474976710656 % 256, x / 72057594037927936 % 256]
theorem bytes_from {x : Nat} (h : x < 18446744073709551616) : fromB (bytes8 x) = x := by
  unfold bytes8 fromB fromB fromB fromB fromB fromB fromB fromB fromB
  omega
theorem bytes_lt (x : Nat) : ∀ b ∈ bytes8 x, b < 256 := by
  intro b hb
  unfold bytes8 at hb
  simp only [List.mem_cons, List.not_mem_nil, or_false] at hb
  rcases hb with rfl | rfl | rfl | rfl | rfl | rfl | rfl | rfl <;> exact Nat.mod_lt _ (by omega)
theorem bits_split (n b q : Nat) (hb : b < 256) : (bitsOf (8 + n) (b + 256 * q)).length = (bitsOf 8 b).length + (bitsOf n q).length := by
  unfold bitsOf
  rw [List.range_add, List.filter_append, List.length_append]
  congr 1
  · congr 1
    refine List.filter_congr fun i hi => ?_
    rw [show b + 256 * q = 2 ^ 8 * q + b by omega, Nat.testBit_two_pow_mul_add _ hb, if_pos (List.mem_range.1 hi)]
  · rw [List.filter_map, List.length_map]
    congr 1
    refine List.filter_congr fun i hi => ?_
    simp only [Function.comp]
    rw [show b + 256 * q = 2 ^ 8 * q + b by omega, Nat.testBit_two_pow_mul_add _ hb, if_neg (by omega), show 8 + i - 8 = i by omega]
theorem bits_from : ∀ l : List Nat, (∀ b ∈ l, b < 256) → (bitsOf (8 * l.length) (fromB l)).length = (l.map fun b => (bitsOf 8 b).length).sum
  | [], _ => rfl
  | b :: l, h => by
    rw [List.length_cons, show 8 * (l.length + 1) = 8 + 8 * l.length by omega]
    unfold fromB
    rw [bits_split _ _ _ (h b List.mem_cons_self), bits_from l fun c hc => h c (List.mem_cons_of_mem _ hc), List.map_cons, List.sum_cons]
def pop1 (x : Nat) : Nat := (x / 2 &&& 6148914691236517205) + (x &&& 6148914691236517205)
def pop2 (x : Nat) : Nat := (x / 4 &&& 3689348814741910323) + (x &&& 3689348814741910323)
def pop3 (x : Nat) : Nat := (x / 16 + x) &&& 1085102592571150095
theorem pop1_is (l : List Nat) (h8 : l.length = 8) (h : ∀ b ∈ l, b < 256) : pop1 (fromB l) = fromB (l.map b1) := by
  have a1 := and_mask 1 85 (by omega) (by omega) l h
  have a0 := and_mask 0 85 (by omega) (by omega) l h
  rw [h8] at a1 a0
  rw [show fromB (List.replicate 8 85) = 6148914691236517205 by decide] at a1 a0
  unfold pop1
  rw [show fromB l / 2 = fromB l / 2 ^ 1 by rw [Nat.pow_one], a1]
  have e : fromB l &&& 6148914691236517205 = fromB (l.map fun b => (b / 2 ^ 0) &&& 85) := by rw [← a0, Nat.pow_zero, Nat.div_one]
  rw [e, fromB_add]
  rfl
theorem pop2_is (l : List Nat) (h8 : l.length = 8) (h : ∀ b ∈ l, b < 256) : pop2 (fromB l) = fromB (l.map b2) := by
  have a1 := and_mask 2 51 (by omega) (by omega) l h
  have a0 := and_mask 0 51 (by omega) (by omega) l h
  rw [h8] at a1 a0
  rw [show fromB (List.replicate 8 51) = 3689348814741910323 by decide] at a1 a0
  unfold pop2
  rw [show fromB l / 4 = fromB l / 2 ^ 2 by rfl, a1]
  have e : fromB l &&& 3689348814741910323 = fromB (l.map fun b => (b / 2 ^ 0) &&& 51) := by rw [← a0, Nat.pow_zero, Nat.div_one]
  rw [e, fromB_add]
  rfl
theorem pop3_is (l : List Nat) (h8 : l.length = 8) (h : ∀ c ∈ l, c ≤ 68 ∧ c % 16 ≤ 4 ∧ c / 16 ≤ 4) : pop3 (fromB l) = fromB (l.map b3) := by
  have a := (mask4 l h).1
  rw [h8, show fromB (List.replicate 8 15) = 1085102592571150095 by decide] at a
  exact a
theorem eight (m : List Nat) (h : m.length = 8) (h8 : ∀ d ∈ m, d ≤ 8) : ∃ d0 d1 d2 d3 d4 d5 d6 d7 : Nat, (d0 ≤ 8 ∧ d1 ≤ 8 ∧ d2 ≤ 8 ∧ d3 ≤ 8 ∧ d4 ≤ 8 ∧ d5 ≤ 8 ∧ d6 ≤ 8 ∧ d7 ≤ 8) ∧
    fromB m = d0 + 256 * d1 + 65536 * d2 + 16777216 * d3 + 4294967296 * d4 + 1099511627776 * d5 + 281474976710656 * d6 + 72057594037927936 * d7 ∧ m.sum = d0 + d1 + d2 + d3 + d4 + d5 + d6 + d7 := by
  match m, h, h8 with
  | [c0, c1, c2, c3, c4, c5, c6, c7], _, pl =>
    refine ⟨c0, c1, c2, c3, c4, c5, c6, c7, ⟨pl c0 (by simp), pl c1 (by simp), pl c2 (by simp), pl c3 (by simp), pl c4 (by simp), pl c5 (by simp), pl c6 (by simp), pl c7 (by simp)⟩, ?_, ?_⟩
    · simp only [fromB]
      omega
    · simp only [List.sum_cons, List.sum_nil]
      omega
/-- The bits of a number of 64 bits, as its bytes' numbers of bits. -/
theorem pops {x : Nat} (hx : x < 18446744073709551616) : ∃ d0 d1 d2 d3 d4 d5 d6 d7 : Nat, (d0 ≤ 8 ∧ d1 ≤ 8 ∧ d2 ≤ 8 ∧ d3 ≤ 8 ∧ d4 ≤ 8 ∧ d5 ≤ 8 ∧ d6 ≤ 8 ∧ d7 ≤ 8) ∧
    pop3 (pop2 (pop1 x)) = d0 + 256 * d1 + 65536 * d2 + 16777216 * d3 + 4294967296 * d4 + 1099511627776 * d5 + 281474976710656 * d6 + 72057594037927936 * d7 ∧ (bitsOf 64 x).length = d0 + d1 + d2 + d3 + d4 + d5 + d6 + d7 := by
  obtain ⟨l, hl⟩ : ∃ l, l = bytes8 x := ⟨_, rfl⟩
  have h8 : l.length = 8 := by rw [hl]; rfl
  have hb : ∀ b ∈ l, b < 256 := by rw [hl]; exact bytes_lt x
  have hx2 : fromB l = x := by rw [hl]; exact bytes_from hx
  have p1 := pop1_is l h8 hb
  have p2 := pop2_is (l.map b1) (by rw [List.length_map]; exact h8) fun c hc => by
    obtain ⟨b, hb2, rfl⟩ := List.mem_map.1 hc
    exact b1_lt ⟨b, hb b hb2⟩
  have p3 := pop3_is ((l.map b1).map b2) (by rw [List.length_map, List.length_map]; exact h8) fun c hc => by
    obtain ⟨d, hd, rfl⟩ := List.mem_map.1 hc
    obtain ⟨b, hb2, rfl⟩ := List.mem_map.1 hd
    exact b2_le ⟨b, hb b hb2⟩
  have pl : ∀ b ∈ l, (bitsOf 8 b).length ≤ 8 := fun b _ => by
    unfold bitsOf
    exact Nat.le_trans (List.length_filter_le _ _) (by simp)
  have e : ((l.map b1).map b2).map b3 = l.map fun b => (bitsOf 8 b).length := by
    rw [List.map_map, List.map_map]
    refine List.map_congr_left fun b hb2 => ?_
    exact b3_pop ⟨b, hb b hb2⟩
  have hs := bits_from l hb
  rw [h8, hx2] at hs
  rw [hx2] at p1
  rw [p1, p2, p3, e, hs]
  exact eight (l.map fun b => (bitsOf 8 b).length) (by rw [List.length_map]; exact h8) fun d hd => by
    obtain ⟨b, hb2, rfl⟩ := List.mem_map.1 hd
    exact pl b hb2
set_option maxHeartbeats 1000000 in
theorem pop_end {a d0 d1 d2 d3 d4 d5 d6 d7 : Nat} (h : d0 ≤ 8 ∧ d1 ≤ 8 ∧ d2 ≤ 8 ∧ d3 ≤ 8 ∧ d4 ≤ 8 ∧ d5 ≤ 8 ∧ d6 ≤ 8 ∧ d7 ≤ 8)
    (ha : a = d0 + 256 * d1 + 65536 * d2 + 16777216 * d3 + 4294967296 * d4 + 1099511627776 * d5 + 281474976710656 * d6 + 72057594037927936 * d7) :
    ∃ n4 n5 n6 : Nat, n4 = a + a / 256 ∧ n5 = n4 + n4 / 65536 ∧ n6 = n5 + n5 / 4294967296 ∧ n6 < 4611686018427387904 ∧ a < 4611686018427387904 ∧ n6 % 128 = d0 + d1 + d2 + d3 + d4 + d5 + d6 + d7 := by
  have h1 : a / 256 = d1 + 256 * d2 + 65536 * d3 + 16777216 * d4 + 4294967296 * d5 + 1099511627776 * d6 + 281474976710656 * d7 := by omega
  obtain ⟨n4, e4⟩ : ∃ n4, n4 = a + a / 256 := ⟨_, rfl⟩
  have f4 : n4 = (d0 + d1) + 256 * (d1 + d2) + 65536 * (d2 + d3) + 16777216 * (d3 + d4) + 4294967296 * (d4 + d5) + 1099511627776 * (d5 + d6) + 281474976710656 * (d6 + d7) + 72057594037927936 * d7 := by omega
  have h2 : n4 / 65536 = (d2 + d3) + 256 * (d3 + d4) + 65536 * (d4 + d5) + 16777216 * (d5 + d6) + 4294967296 * (d6 + d7) + 1099511627776 * d7 := by omega
  obtain ⟨n5, e5⟩ : ∃ n5, n5 = n4 + n4 / 65536 := ⟨_, rfl⟩
  have f5 : n5 = (d0 + d1 + d2 + d3) + 256 * (d1 + d2 + d3 + d4) + 65536 * (d2 + d3 + d4 + d5) + 16777216 * (d3 + d4 + d5 + d6) + 4294967296 * (d4 + d5 + d6 + d7) + 1099511627776 * (d5 + d6 + d7) + 281474976710656 * (d6 + d7) + 72057594037927936 * d7 := by omega
  have h3 : n5 / 4294967296 = (d4 + d5 + d6 + d7) + 256 * (d5 + d6 + d7) + 65536 * (d6 + d7) + 16777216 * d7 := by omega
  have hB : n5 + n5 / 4294967296 < 4611686018427387904 := by
    rw [h3, f5]
    clear h1 f4 h2 e4 e5 ha h3 f5
    omega
  have hA : a < 4611686018427387904 := by
    rw [ha]
    clear h1 f4 h2 e4 e5 ha h3 f5 hB
    omega
  refine ⟨n4, n5, n5 + n5 / 4294967296, e4, e5, rfl, hB, hA, ?_⟩
  obtain ⟨B, hB'⟩ : ∃ B, B = (d1 + d2 + d3 + d4) + 256 * (d2 + d3 + d4 + d5) + 65536 * (d3 + d4 + d5 + d6) + 16777216 * (d4 + d5 + d6 + d7) + 4294967296 * (d5 + d6 + d7) + 1099511627776 * (d6 + d7) + 281474976710656 * d7 := ⟨_, rfl⟩
  obtain ⟨C, hC⟩ : ∃ C, C = (d5 + d6 + d7) + 256 * (d6 + d7) + 65536 * d7 := ⟨_, rfl⟩
  have g5 : n5 = (d0 + d1 + d2 + d3) + 256 * B := by
    rw [f5, hB']
    clear h1 f4 h2 e4 e5 ha h3 f5 hB hC hA h hB'
    omega
  have g3 : n5 / 4294967296 = (d4 + d5 + d6 + d7) + 256 * C := by
    rw [h3, hC]
    clear h1 f4 h2 e4 e5 ha h3 f5 hB hC hA h hB' g5
    omega
  rw [g3, g5]
  clear hB hC g3 g5 f4 f5 h1 h2 h3 e4 e5 hA ha hB'
  omega
end Go.Proofs.YtadkaplafaeebaaGreatDoor
