/-
  math/bits.OnesCount64.
-/
import Derived.Test.YtadkaplafaeebaaGreatDoorPopQ
set_option linter.unusedVariables false
set_option linter.unusedSimpArgs false
namespace Go.Proofs.YtadkaplafaeebaaGreatDoor
open Go Go.RowKit

theorem pw1 (x : Nat) (h : x < 18446744073709551616) : IntKind.u64.wrap (bits .and .u64 ((x : Int) / 2) 6148914691236517205 + bits .and .u64 (x : Int) 6148914691236517205) = ((pop1 x : Nat) : Int) := by
  have a : bits .and .u64 ((x : Int) / 2) 6148914691236517205 = ((x / 2 &&& 6148914691236517205 : Nat) : Int) := by
    rw [show (x : Int) / 2 = ((x / 2 : Nat) : Int) by omega]
    exact bits_and (by omega) (by decide)
  have b : bits .and .u64 (x : Int) 6148914691236517205 = ((x &&& 6148914691236517205 : Nat) : Int) := bits_and h (by decide)
  have c : x / 2 &&& 6148914691236517205 ≤ 6148914691236517205 := Nat.and_le_right
  have d : x &&& 6148914691236517205 ≤ 6148914691236517205 := Nat.and_le_right
  rw [a, b, IntKind.wrap_u64]
  unfold pop1
  omega
theorem pw2 (x : Nat) (h : x < 18446744073709551616) : IntKind.u64.wrap (bits .and .u64 ((x : Int) / 4) 3689348814741910323 + bits .and .u64 (x : Int) 3689348814741910323) = ((pop2 x : Nat) : Int) := by
  have a : bits .and .u64 ((x : Int) / 4) 3689348814741910323 = ((x / 4 &&& 3689348814741910323 : Nat) : Int) := by
    rw [show (x : Int) / 4 = ((x / 4 : Nat) : Int) by omega]
    exact bits_and (by omega) (by decide)
  have b : bits .and .u64 (x : Int) 3689348814741910323 = ((x &&& 3689348814741910323 : Nat) : Int) := bits_and h (by decide)
  have c : x / 4 &&& 3689348814741910323 ≤ 3689348814741910323 := Nat.and_le_right
  have d : x &&& 3689348814741910323 ≤ 3689348814741910323 := Nat.and_le_right
  rw [a, b, IntKind.wrap_u64]
  unfold pop2
  omega
theorem pop1_lt (x : Nat) : pop1 x < 18446744073709551616 := by
  have c : x / 2 &&& 6148914691236517205 ≤ 6148914691236517205 := Nat.and_le_right
  have d : x &&& 6148914691236517205 ≤ 6148914691236517205 := Nat.and_le_right
  unfold pop1
  omega
theorem pop2_lt (x : Nat) : pop2 x ≤ 7378697629483820646 := by
  have c : x / 4 &&& 3689348814741910323 ≤ 3689348814741910323 := Nat.and_le_right
  have d : x &&& 3689348814741910323 ≤ 3689348814741910323 := Nat.and_le_right
  unfold pop2
  omega
theorem pw3 (x : Nat) (h : x ≤ 7378697629483820646) : bits .and .u64 (IntKind.u64.wrap ((x : Int) / 16 + (x : Int))) 1085102592571150095 = ((pop3 x : Nat) : Int) := by
  rw [show IntKind.u64.wrap ((x : Int) / 16 + (x : Int)) = ((x / 16 + x : Nat) : Int) by rw [IntKind.wrap_u64]; omega]
  exact bits_and (by omega) (by decide)
theorem bits_and_small (a b : Nat) (ha : a < 9223372036854775808) (hb : b < 9223372036854775808) : bits .and .i64 (a : Int) (b : Int) = ((a &&& b : Nat) : Int) := by
  have hx : a &&& b < 2 ^ 63 := Nat.and_lt_two_pow _ (by omega)
  have h1 : (BitVec.ofInt 64 (a : Int)).toNat = a := by
    rw [BitVec.ofInt_natCast, BitVec.toNat_ofNat]; exact Nat.mod_eq_of_lt (by omega)
  have h2 : (BitVec.ofInt 64 (b : Int)).toNat = b := by
    rw [BitVec.ofInt_natCast, BitVec.toNat_ofNat]; exact Nat.mod_eq_of_lt (by omega)
  show IntKind.i64.wrap ((BitVec.ofInt 64 (a : Int) &&& BitVec.ofInt 64 (b : Int)).toNat : Int) = _
  rw [BitVec.toNat_and, h1, h2]
  exact IntWalk.i64_in _ (by omega)
theorem pw_end {n : Nat} (h : n < 4611686018427387904) : bits .and .i64 (IntKind.i64.wrap (n : Int)) 127 = ((n % 128 : Nat) : Int) := by
  rw [IntWalk.i64_in _ (by omega), show bits .and .i64 (n : Int) 127 = ((n &&& 127 : Nat) : Int) from bits_and_small n 127 (by omega) (by decide), show (127 : Nat) = 2 ^ 7 - 1 by decide, Nat.and_two_pow_sub_one_eq_mod]
theorem pw_add {a b : Nat} (k : Nat) (hb : b = a + a / k) (h : b < 4611686018427387904) : IntKind.u64.wrap ((a : Int) + (a : Int) / (k : Int)) = (b : Int) := by
  rw [show (a : Int) / (k : Int) = ((a / k : Nat) : Int) from (Int.natCast_ediv a k).symm, IntKind.wrap_u64, hb]
  rw [hb] at h
  omega
set_option maxRecDepth 100000 in
set_option maxHeartbeats 2000000 in
theorem ones_ok (x : Nat) (w : World) (hx : x < 18446744073709551616) :
    Calls Tryz.prog 95 #[.int .u64 x] w fun e w' => e = .returned (.int .i64 ((bitsOf 64 x).length : Nat)) ∧ Below w.heap.size w w' := by
  obtain ⟨d0, d1, d2, d3, d4, d5, d6, d7, hd, hp, hn⟩ := pops hx
  obtain ⟨n4, n5, n6, e4, e5, e6, h6, ha, hs⟩ := pop_end hd rfl
  rw [← hp] at e4 ha
  have E1 := pw1 x hx
  have E2 := pw2 (pop1 x) (pop1_lt x)
  have E3 := pw3 (pop2 (pop1 x)) (pop2_lt _)
  have b6 : n5 ≤ n6 := by rw [e6]; exact Nat.le_add_right _ _
  have b5 : n4 ≤ n5 := by rw [e5]; exact Nat.le_add_right _ _
  have E4 : IntKind.u64.wrap (((pop3 (pop2 (pop1 x)) : Nat) : Int) + ((pop3 (pop2 (pop1 x)) : Nat) : Int) / 256) = (n4 : Int) := pw_add 256 e4 (by omega)
  have E5 : IntKind.u64.wrap ((n4 : Int) + (n4 : Int) / 65536) = (n5 : Int) := pw_add 65536 e5 (by omega)
  have E6 : IntKind.u64.wrap ((n5 : Int) + (n5 : Int) / 4294967296) = (n6 : Int) := pw_add 4294967296 e6 h6
  have E7 := pw_end h6
  have HE := Lib.hid (And.intro E1 (And.intro E2 (And.intro E3 (And.intro E4 (And.intro E5 (And.intro E6 E7))))))
  rw [hs, ← hn] at HE
  clear E1 E2 E3 E4 E5 E6 E7 hd hp hn e4 e5 e6 h6 ha hs b6 b5
  go_enter Tryz.func95, Tryz.ntmps95
  go_wp2
  obtain ⟨E1, E2, E3, E4, E5, E6, E7⟩ := HE.out
  simp only [E1, E2, E3, E4, E5, E6]
  go_ret
  exact ⟨retI (by rw [← IntWalk.i64_left]; exact E7), Below.refl _ _⟩
end Go.Proofs.YtadkaplafaeebaaGreatDoor
