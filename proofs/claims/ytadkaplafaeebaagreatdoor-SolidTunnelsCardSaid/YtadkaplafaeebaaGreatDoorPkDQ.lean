/-
  Has.
-/
import Derived.Test.YtadkaplafaeebaaGreatDoorPkCQ
import Derived.Deep.QuietTactic
import Derived.BigQuiet
import Derived.Test.YtadkaplafaeebaaGreatDoorShelf
import Derived.WalkLawsBesides
set_option linter.unusedVariables false
set_option linter.unusedSimpArgs false
namespace Go.Proofs.YtadkaplafaeebaaGreatDoor
open Go Go.RowKit

/-- A cell of a solid. -/
def hasC (f : Sol) (c : Cl) : Bool := (f (cZ c)).testBit (8 * cY c + cX c)
theorem and_pow_ne (p i : Nat) : decide (p &&& 2 ^ i = 0) = !p.testBit i := by
  cases h : p.testBit i with
  | true =>
    refine decide_eq_false fun h0 => ?_
    have := congrArg (fun n => n.testBit i) h0
    simp [Nat.testBit_and, h, Nat.testBit_two_pow] at this
  | false =>
    refine decide_eq_true (Nat.eq_of_testBit_eq fun j => ?_)
    rw [Nat.testBit_and, Nat.testBit_two_pow, Nat.zero_testBit]
    by_cases hj : i = j
    · subst hj; simp [h]
    · simp [hj]
theorem and_bit_ne (p x y : Nat) : (((p &&& bitN x y : Nat) : Int) != 0) = p.testBit (8 * y + x) := by
  have h := and_pow_ne p (8 * y + x)
  have e : (((p &&& bitN x y : Nat) : Int) != 0) = !decide (p &&& 2 ^ (8 * y + x) = 0) := by
    unfold bitN
    rw [Bool.eq_iff_iff]
    simp
  rw [e, h]
  exact Bool.not_not _
theorem inGrid_is {x y z : Int} {b : Bool} (h : inG x y z = b) (w : World) : Calls Tryz.prog 90 #[.agg #[.int .i64 (x), .int .i64 (y), .int .i64 (z)]] w fun e w' => e = .returned (.bool b) ∧ Below w.heap.size w w' := by
  subst h
  exact inGrid_ok x y z w
set_option maxRecDepth 100000 in
set_option maxHeartbeats 4000000 in
theorem has_no (f : Sol) (x y z : Int) (w : World) (h : inG x y z = false) :
    Calls Tryz.prog 23 #[sol f, .agg #[.int .i64 (x), .int .i64 (y), .int .i64 (z)]] w fun e w' => e = .returned (.bool false) ∧ Below w.heap.size w w' := by
  have H := Lib.hid h
  clear h
  have bC : BoxC ((w.alloc (.cells (solC f) 24)).alloc (.cells #[.int .i64 x, .int .i64 y, .int .i64 z] 26)) (w.heap.size + 1) x y z := BoxC.new (by simp)
  have d0 := bC.c0
  have d1 := bC.c1
  have d2 := bC.c2
  go_enter Tryz.func23, Tryz.ntmps23
  go_wp2
  obtain ⟨W, hW⟩ : ∃ W, W = ((w.alloc (.cells (solC f) 24)).alloc (.cells #[.int .i64 x, .int .i64 y, .int .i64 z] 26)) := ⟨_, rfl⟩
  have hBW : Below w.heap.size w W := by rw [hW]; repeat' (first | (with_reducible exact Below.refl _ _) | (with_reducible assumption) | (with_reducible refine Below.alloc ?_ ?_ _) | (with_reducible refine Below.drew ?_) | (with_reducible refine below_drewN ?_ _) | (with_reducible refine Below.setCell ?_ ?_ _) | go_size)
  rw [← hW] at d0 d1 d2 ⊢
  have lC : w.heap.size + 1 < W.heap.size := by rw [hW]; simp <;> omega
  clear hW bC
  (refine wp_region_quiet (C := fun w' => Below W.heap.size W w') (by kernel_rfl) (by kernel_rfl) (Below.drew (Below.refl _ _)) ?_; (iterate 13 (refine wpQuiet_step (fun K hK => ?_); go_simp; first | (refine hK _ ?_; clear hK K) | (apply Exists.intro; refine ⟨fun W' hW' => ?_, hK _ ?_⟩; (focus (first | (with_reducible exact rfl) | (with_reducible exact ⟨rfl, rfl⟩) | (obtain ⟨hcq, hfq⟩ := bcell hW'; have hzq := hW'.size; (try go_simp); first | (with_reducible exact rfl) | (with_reducible exact ⟨rfl, rfl⟩) | (refine (inGrid_is H.out _).mono ?_; rintro e w2 ⟨rfl, hb2⟩; exact ⟨rfl, hW'.trans (hb2.mono hW'.size)⟩)))); clear hK K))); refine wpQuiet_nil ?_; intro w1q hb1q)
  go_wp2
  go_ret
  exact ⟨rfl, hBW.trans (hb1q.mono hBW.size)⟩
theorem inG_cell (c : Cl) : inG (cX c : Nat) (cY c : Nat) (cZ c : Nat) = true := by
  have := X_le c
  have := Y_le c
  have := Z_le c
  unfold inG
  exact decide_eq_true (by omega)
set_option maxRecDepth 100000 in
set_option maxHeartbeats 4000000 in
theorem has_yes (f : Sol) (c : Cl) (w : World) (hf : Fit f) :
    Calls Tryz.prog 23 #[sol f, cell c] w fun e w' => e = .returned (.bool (hasC f c)) ∧ Below w.heap.size w w' := by
  have hx := X_le c
  have hy := Y_le c
  have hz := Z_le c
  have hzi : ((cZ c : Nat) : Int) < 8 := by omega
  have b1 := hf (cZ c)
  have hand := bits_and b1 (bit_lt hx hy)
  have hne := and_bit_ne (f (cZ c)) (cX c) (cY c)
  have bS : BoxS ((w.alloc (.cells (solC f) 24)).alloc (.cells #[.int .i64 ((cX c : Nat) : Int), .int .i64 ((cY c : Nat) : Int), .int .i64 ((cZ c : Nat) : Int)] 26)) w.heap.size f := (BoxS.new w f).alloc _
  have bC : BoxC ((w.alloc (.cells (solC f) 24)).alloc (.cells #[.int .i64 ((cX c : Nat) : Int), .int .i64 ((cY c : Nat) : Int), .int .i64 ((cZ c : Nat) : Int)] 26)) (w.heap.size + 1) (cX c : Nat) (cY c : Nat) (cZ c : Nat) := BoxC.new (by simp)
  have d0 := bC.c0
  have d1 := bC.c1
  have d2 := bC.c2
  have v1 := bS.cell (k := cZ c) (by omega)
  unfold hasC
  clear hf
  go_enter Tryz.func23, Tryz.ntmps23
  go_wp2
  obtain ⟨W, hW⟩ : ∃ W, W = ((w.alloc (.cells (solC f) 24)).alloc (.cells #[.int .i64 ((cX c : Nat) : Int), .int .i64 ((cY c : Nat) : Int), .int .i64 ((cZ c : Nat) : Int)] 26)) := ⟨_, rfl⟩
  have hBW : Below w.heap.size w W := by rw [hW]; repeat' (first | (with_reducible exact Below.refl _ _) | (with_reducible assumption) | (with_reducible refine Below.alloc ?_ ?_ _) | (with_reducible refine Below.drew ?_) | (with_reducible refine below_drewN ?_ _) | (with_reducible refine Below.setCell ?_ ?_ _) | go_size)
  rw [← hW] at d0 d1 d2 v1 ⊢
  have lC : w.heap.size + 1 < W.heap.size := by rw [hW]; simp <;> omega
  have lS : w.heap.size < W.heap.size := by omega
  clear hW bC bS
  (refine wp_region_quiet (C := fun w' => Below W.heap.size W w') (by kernel_rfl) (by kernel_rfl) (Below.drew (Below.refl _ _)) ?_; (iterate 13 (refine wpQuiet_step (fun K hK => ?_); go_simp; first | (refine hK _ ?_; clear hK K) | (apply Exists.intro; refine ⟨fun W' hW' => ?_, hK _ ?_⟩; (focus (first | (with_reducible exact rfl) | (with_reducible exact ⟨rfl, rfl⟩) | (obtain ⟨hcq, hfq⟩ := bcell hW'; have hzq := hW'.size; (try go_simp); first | (with_reducible exact rfl) | (with_reducible exact ⟨rfl, rfl⟩) | (first | (refine (inGrid_is (inG_cell c) _).mono ?_; rintro e w2 ⟨rfl, hb2⟩; exact ⟨rfl, hW'.trans (hb2.mono hW'.size)⟩) | (refine (bit_ok (cX c) (cY c) _ _ hx hy).mono ?_; rintro e w2 ⟨rfl, hb2⟩; exact ⟨rfl, hW'.trans (hb2.mono hW'.size)⟩))))); clear hK K))); refine wpQuiet_nil ?_; intro w1q hb1q)
  go_wp2
  go_ret
  exact ⟨rfl, hBW.trans (hb1q.mono hBW.size)⟩
end Go.Proofs.YtadkaplafaeebaaGreatDoor
/-
  shifted: a solid moved by numbers with which no cell leaves the grid.
-/
set_option linter.unusedVariables false
set_option linter.unusedSimpArgs false
namespace Go.Proofs.YtadkaplafaeebaaGreatDoor
open Go Go.RowKit

/-- A plane moved by a number of places. -/
def shl (by_ : Int) (p : Nat) : Nat := if by_ < 0 then p / 2 ^ (-by_).toNat else p * 2 ^ by_.toNat % 18446744073709551616
/-- Where the planes go. -/
def shiftF (f : Sol) (x y z : Int) : Nat → Sol
  | 0 => fun _ => 0
  | k + 1 => if f k = 0 then shiftF f x y z k else up8 (shiftF f x y z k) ((k : Int) + z).toNat (shl (8 * y + x) (f k))
set_option maxRecDepth 100000 in
set_option maxHeartbeats 4000000 in
theorem shifted_ok (f : Sol) (x y z : Int) (w : World) (hf : Fit f) (hx : -7 ≤ x ∧ x ≤ 7) (hy : -7 ≤ y ∧ y ≤ 7) (hz : ∀ k : Nat, k < 8 → f k ≠ 0 → 0 ≤ (k : Int) + z ∧ (k : Int) + z ≤ 7) :
    Calls Tryz.prog 102 #[sol f, .agg #[.int .i64 (x), .int .i64 (y), .int .i64 (z)]] w fun e w' => e = .returned (sol (shiftF f x y z 8)) ∧ Below w.heap.size w w' := by
  have HZ := Lib.hid hz
  have HF := Lib.hid hf
  clear hz hf
  obtain ⟨hx1, hx2⟩ := hx
  obtain ⟨hy1, hy2⟩ := hy
  go_enter Tryz.func102, Tryz.ntmps102
  go_wp2
  go_loopw [16] (fun c wr => ∃ k : Nat, k ≤ 8 ∧ c = .int .i64 k ∧ BoxS wr (w.heap.size + 1 + 1 + 1) (shiftF f x y z k) ∧ BoxC wr (w.heap.size + 1) x y z ∧ BoxS wr (w.heap.size + 1 + 1) (fun _ => 0) ∧ Below w.heap.size w wr) (fun c _ => 8 - (intOf c).toNat)
  case atStart => exact ⟨0, by omega, rfl, BoxS.zero (by simp), ((BoxC.new (by simp)).alloc _).alloc _, (BoxS.zero (by simp)).alloc _, by repeat' (first | (with_reducible exact Below.refl _ _) | (with_reducible assumption) | (with_reducible refine Below.alloc ?_ ?_ _) | (with_reducible refine Below.drew ?_) | (with_reducible refine below_drewN ?_ _) | (with_reducible refine Below.setCell ?_ ?_ _) | go_size)⟩
  case round =>
    obtain ⟨k, hk, rfl, hA, hC, hR, hw⟩ := hrel
    have a0 := hC.c0
    have a1 := hC.c1
    have a2 := hC.c2
    by_cases hlt : k < 8
    · have hd : decide ((k : Int) < 8) = true := decide_eq_true (by omega)
      have hix := run_index_sol f k hlt
      by_cases hp : f k = 0
      · have hp2 : ((f k : Int) == 0) = true := by simp [hp]
        go_wp2
        go_roundw
        case rel => exact ⟨k + 1, by omega, by go_num, by unfold shiftF; rw [if_pos hp]; exact hA, hC, hR, hw⟩
        case measure => simp [intOf]; omega
      · have hp2 : ((f k : Int) == 0) = false := by simp [hp]
        obtain ⟨z1, z2⟩ := HZ.out k hlt hp
        obtain ⟨j, hj⟩ : ∃ j : Nat, (j : Int) = (k : Int) + z := ⟨((k : Int) + z).toNat, by omega⟩
        have hj8 : j < 8 := by omega
        have hjn : ((k : Int) + z).toNat = j := by omega
        have cA := hA.cell hj8
        have fA := hA.free j
        have hjr := hj.symm
        clear hj z1 z2
        by_cases hby : 8 * y + x < 0
        · have hd2 : decide (8 * y + x < 0) = true := decide_eq_true hby
          go_wp2
          go_region
          rw [show ((f k : Int) / 2 ^ (-(8 * y + x)).toNat) = ((shl (8 * y + x) (f k) : Nat) : Int) by unfold shl; rw [if_pos hby]; simp]
          have hA2 := hA.set hj8 (shl (8 * y + x) (f k))
          have hC2 := hC.other (b := w.heap.size + 1 + 1 + 1) (o := j) (by omega) (.int .u64 ((shl (8 * y + x) (f k) : Nat) : Int))
          have hR2 := hR.other (b := w.heap.size + 1 + 1 + 1) (o := j) (by omega) (.int .u64 ((shl (8 * y + x) (f k) : Nat) : Int))
          have hw2 := hw.setCell (p := ⟨w.heap.size + 1 + 1 + 1, j, none⟩) (by simp; omega) (.int .u64 ((shl (8 * y + x) (f k) : Nat) : Int))
          go_wp2
          go_roundw
          case rel => exact ⟨k + 1, by omega, by go_num, by unfold shiftF; rw [if_neg hp, hjn]; exact hA2, hC2, hR2, hw2.drew⟩
          case measure => simp [intOf]; omega
        · have hd2 : decide (8 * y + x < 0) = false := decide_eq_false hby
          go_wp2
          go_region
          rw [show IntKind.u64.wrap ((f k : Int) * 2 ^ (8 * y + x).toNat) = ((shl (8 * y + x) (f k) : Nat) : Int) by unfold shl; rw [if_neg (by omega), IntKind.wrap_u64]; simp]
          have hA2 := hA.set hj8 (shl (8 * y + x) (f k))
          have hC2 := hC.other (b := w.heap.size + 1 + 1 + 1) (o := j) (by omega) (.int .u64 ((shl (8 * y + x) (f k) : Nat) : Int))
          have hR2 := hR.other (b := w.heap.size + 1 + 1 + 1) (o := j) (by omega) (.int .u64 ((shl (8 * y + x) (f k) : Nat) : Int))
          have hw2 := hw.setCell (p := ⟨w.heap.size + 1 + 1 + 1, j, none⟩) (by simp; omega) (.int .u64 ((shl (8 * y + x) (f k) : Nat) : Int))
          go_wp2
          go_roundw
          case rel => exact ⟨k + 1, by omega, by go_num, by unfold shiftF; rw [if_neg hp, hjn]; exact hA2, hC2, hR2, hw2.drew⟩
          case measure => simp [intOf]; omega
    · obtain rfl : k = 8 := by omega
      have hd : decide ((8 : Int) < 8) = false := by decide
      have c0 := (hA).cell (k := 0) (by omega); have c1 := (hA).cell (k := 1) (by omega); have c2 := (hA).cell (k := 2) (by omega); have c3 := (hA).cell (k := 3) (by omega); have c4 := (hA).cell (k := 4) (by omega); have c5 := (hA).cell (k := 5) (by omega); have c6 := (hA).cell (k := 6) (by omega); have c7 := (hA).cell (k := 7) (by omega)
      have r0 := (hR).cell (k := 0) (by omega); have r1 := (hR).cell (k := 1) (by omega); have r2 := (hR).cell (k := 2) (by omega); have r3 := (hR).cell (k := 3) (by omega); have r4 := (hR).cell (k := 4) (by omega); have r5 := (hR).cell (k := 5) (by omega); have r6 := (hR).cell (k := 6) (by omega); have r7 := (hR).cell (k := 7) (by omega)
      have q0 := (hR).free 0; have q1 := (hR).free 1; have q2 := (hR).free 2; have q3 := (hR).free 3; have q4 := (hR).free 4; have q5 := (hR).free 5; have q6 := (hR).free 6; have q7 := (hR).free 7
      go_wp2
      refine bodyPost_ret (res_s (hR.put (shiftF f x y z 8)) Tryz.results102 rfl) rfl ⟨rfl, ?_⟩
      repeat' (first | (with_reducible exact Below.refl _ _) | (with_reducible assumption) | (with_reducible refine Below.alloc ?_ ?_ _) | (with_reducible refine Below.drew ?_) | (with_reducible refine below_drewN ?_ _) | (with_reducible refine Below.setCell ?_ ?_ _) | go_size)
end Go.Proofs.YtadkaplafaeebaaGreatDoor
/-
  Bounds: the least box with all cells.
-/
set_option linter.unusedVariables false
set_option linter.unusedSimpArgs false
namespace Go.Proofs.YtadkaplafaeebaaGreatDoor
open Go Go.RowKit

/-- All planes in one. -/
def shadow (f : Sol) : Nat → Nat
  | 0 => 0
  | k + 1 => shadow f k ||| f k
/-- Which planes have cells. -/
def levels (f : Sol) : Nat → Nat
  | 0 => 0
  | k + 1 => if f k = 0 then levels f k else levels f k ||| 2 ^ k
def rowAt (s k : Nat) : Nat := s / 2 ^ (8 * k) % 256
def rowX (s : Nat) : Nat → Nat
  | 0 => 0
  | k + 1 => rowX s k ||| rowAt s k
def rowsY (s : Nat) : Nat → Nat
  | 0 => 0
  | k + 1 => if rowAt s k = 0 then rowsY s k else rowsY s k ||| 2 ^ k
theorem shadow_lt {f : Sol} (hf : Fit f) : ∀ k, shadow f k < 18446744073709551616
  | 0 => show 0 < 18446744073709551616 by omega
  | k + 1 => Nat.or_lt_two_pow (n := 64) (shadow_lt hf k) (hf k)
theorem levels_lt (f : Sol) : ∀ k, k ≤ 8 → levels f k < 256
  | 0, _ => show 0 < 256 by omega
  | k + 1, h => by
    have := levels_lt f k (by omega)
    unfold levels
    split
    · exact this
    · exact Nat.or_lt_two_pow (n := 8) this (Nat.pow_lt_pow_right (by omega) (by omega))
theorem rowX_lt (s : Nat) : ∀ k, rowX s k < 256
  | 0 => show 0 < 256 by omega
  | k + 1 => Nat.or_lt_two_pow (n := 8) (rowX_lt s k) (Nat.mod_lt _ (by omega))
theorem rowsY_lt (s : Nat) : ∀ k, k ≤ 8 → rowsY s k < 256
  | 0, _ => show 0 < 256 by omega
  | k + 1, h => by
    have := rowsY_lt s k (by omega)
    unfold rowsY
    split
    · exact this
    · exact Nat.or_lt_two_pow (n := 8) this (Nat.pow_lt_pow_right (by omega) (by omega))
/-- The highest bit's place, one more. -/
abbrev top (x : Nat) : Nat := Lib.bitLen x
theorem tz8_low : ∀ x : Fin 256, x.1 ≠ 0 → Lib.trailingZeros8 x.1 = Lib.ctz 8 x.1 := by decide +kernel
theorem tz8_ok (x : Nat) (w : World) (h : x < 256) (h0 : x ≠ 0) : Calls Tryz.prog 97 #[.int .u8 x] w fun e w' => e = .returned (.int .i64 (low x : Nat)) ∧ w = w' := by
  refine (Tryz.bits_TrailingZeros8 (x : Int) w (by omega) (by omega)).mono ?_
  rintro e w' ⟨rfl, rfl⟩
  refine ⟨?_, rfl⟩
  have h1 := tz8_low ⟨x, h⟩ h0
  have h2 : Lib.ctz 8 x = low x := by unfold Lib.ctz; rw [if_neg h0]; exact ctzFrom_low 8 x h0 h
  simp only at h1
  rw [Int.toNat_natCast, h1, h2]
theorem len8_ok (x : Nat) (w : World) (h : x < 256) : Calls Tryz.prog 98 #[.int .u8 x] w fun e w' => e = .returned (.int .i64 (top x : Nat)) ∧ w = w' := by
  refine (Tryz.bits_Len8 (x : Int) w (by omega) (by omega)).mono ?_
  rintro e w' ⟨rfl, rfl⟩
  exact ⟨by rw [Int.toNat_natCast], rfl⟩
theorem empty_iff (f : Sol) : emptyS f = true ↔ ∀ k, k < 8 → f k = 0 := by
  unfold emptyS eqS
  constructor
  · intro h k hk
    have h := of_decide_eq_true h
    rcases lt8 hk with rfl | rfl | rfl | rfl | rfl | rfl | rfl | rfl <;> simp_all
  · intro h
    exact decide_eq_true ⟨h 0 (by omega), h 1 (by omega), h 2 (by omega), h 3 (by omega), h 4 (by omega), h 5 (by omega), h 6 (by omega), h 7 (by omega)⟩
theorem or_ne {a b : Nat} (h : a ≠ 0 ∨ b ≠ 0) : a ||| b ≠ 0 := fun h0 => by
  have h1 : a = 0 := Nat.eq_of_testBit_eq fun i => by have := congrArg (fun n => n.testBit i) h0; simp [Nat.testBit_or] at this; simp [this.1]
  have h2 : b = 0 := Nat.eq_of_testBit_eq fun i => by have := congrArg (fun n => n.testBit i) h0; simp [Nat.testBit_or] at this; simp [this.2]
  omega
theorem shadow_ne (f : Sol) {k : Nat} (hk : f k ≠ 0) : ∀ n, k < n → shadow f n ≠ 0
  | n + 1, h => by
    unfold shadow
    by_cases e : k = n
    · subst e; exact or_ne (.inr hk)
    · exact or_ne (.inl (shadow_ne f hk n (by omega)))
theorem levels_ne (f : Sol) {k : Nat} (hk : f k ≠ 0) : ∀ n, k < n → levels f n ≠ 0
  | n + 1, h => by
    unfold levels
    by_cases e : k = n
    · subst e; rw [if_neg hk]; exact or_ne (.inr (Nat.pos_iff_ne_zero.1 (Nat.two_pow_pos _)))
    · split
      · exact levels_ne f hk n (by omega)
      · exact or_ne (.inl (levels_ne f hk n (by omega)))
theorem rowX_ne (s : Nat) {k : Nat} (hk : rowAt s k ≠ 0) : ∀ n, k < n → rowX s n ≠ 0
  | n + 1, h => by
    unfold rowX
    by_cases e : k = n
    · subst e; exact or_ne (.inr hk)
    · exact or_ne (.inl (rowX_ne s hk n (by omega)))
theorem rowsY_ne (s : Nat) {k : Nat} (hk : rowAt s k ≠ 0) : ∀ n, k < n → rowsY s n ≠ 0
  | n + 1, h => by
    unfold rowsY
    by_cases e : k = n
    · subst e; rw [if_neg hk]; exact or_ne (.inr (Nat.pos_iff_ne_zero.1 (Nat.two_pow_pos _)))
    · split
      · exact rowsY_ne s hk n (by omega)
      · exact or_ne (.inl (rowsY_ne s hk n (by omega)))
theorem rowAt_ne {s : Nat} (h : s ≠ 0) (hs : s < 18446744073709551616) : ∃ k, k < 8 ∧ rowAt s k ≠ 0 := by
  have hb := (low_bit s h).1
  have hl := low64 h hs
  refine ⟨low s / 8, by omega, fun h0 => ?_⟩
  unfold rowAt at h0
  have : (s / 2 ^ (8 * (low s / 8)) % 2 ^ 8).testBit (low s % 8) = true := by
    rw [Nat.testBit_mod_two_pow, Nat.testBit_div_two_pow]
    rw [show low s % 8 + 8 * (low s / 8) = low s by omega, hb]
    simp
    omega
  rw [show (2 : Nat) ^ 8 = 256 from rfl, h0] at this
  simp at this
end Go.Proofs.YtadkaplafaeebaaGreatDoor
