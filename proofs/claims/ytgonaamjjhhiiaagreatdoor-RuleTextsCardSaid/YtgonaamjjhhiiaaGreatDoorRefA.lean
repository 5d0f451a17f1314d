/-
  Walks of the reference's functions on fractions.
-/
import Derived.Test.YtgonaamjjhhiiaaGreatDoorSumV
import Derived.Test.YtgonaamjjhhiiaaGreatDoorRule2
set_option linter.unusedVariables false
set_option linter.unusedSimpArgs false
namespace Go.Proofs.YtgonaamjjhhiiaaGreatDoor
open Go Go.RowKit

theorem undrew {a w : World} (h : Below a.drew.heap.size a.drew w) : Below a.heap.size a w := ⟨h.os, h.tape, h.output, h.size, h.block⟩
/-- Is a number in a range? -/
def inB (n lo hi : Int) : Bool := decide (lo ≤ n ∧ n ≤ hi)
theorem inB_iff {n lo hi : Int} : inB n lo hi = true ↔ lo ≤ n ∧ n ≤ hi := by unfold inB; exact decide_eq_true_iff
theorem inB_no {n lo hi : Int} : inB n lo hi = false ↔ ¬ (lo ≤ n ∧ n ≤ hi) := by unfold inB; exact decide_eq_false_iff_not
theorem within_any (n lo hi : Int) (w : World) : Calls Tryz.prog 73 #[.int .i64 n, .int .i64 lo, .int .i64 hi] w fun e w' => e = .returned (.bool (inB n lo hi)) ∧ w' = w := by
  by_cases h1 : lo ≤ n
  · by_cases h2 : n ≤ hi
    · have h := hide0 (inB_iff.2 ⟨h1, h2⟩)
      go_enter Tryz.func73, Tryz.ntmps73
      go_wp2
      go_ret
      exact ⟨retB (by rw [h]), rfl⟩
    · have h2' : hi < n := by omega
      have h := hide0 (inB_no.2 (fun x : lo ≤ n ∧ n ≤ hi => h2 x.2))
      clear h2
      go_enter Tryz.func73, Tryz.ntmps73
      go_wp2
      go_ret
      exact ⟨retB (by rw [h]; exact decide_eq_false (by omega)), rfl⟩
  · have h1' : n < lo := by omega
    have h := hide0 (inB_no.2 (fun x : lo ≤ n ∧ n ≤ hi => h1 x.1))
    clear h1
    go_enter Tryz.func73, Tryz.ntmps73
    go_wp2
    go_ret
    exact ⟨retB (by rw [h]), rfl⟩
theorem rsize_any (n : Int) (w : World) (h1 : -4000000000000000000 ≤ n) (h2 : n ≤ 4000000000000000000) : Calls Tryz.prog 25 #[.int .i64 n] w fun e w' => e = .returned (.int .i64 (max n (-n))) ∧ w' = w := by
  by_cases h : n < 0
  · go_enter Tryz.func25, Tryz.ntmps25
    go_wp2
    go_ret
    exact ⟨retI (by omega), rfl⟩
  · have h' : 0 ≤ n := by omega
    clear h
    go_enter Tryz.func25, Tryz.ntmps25
    go_wp2
    go_ret
    exact ⟨retI (by omega), rfl⟩
theorem rdiv_any (k : Nat) : ∀ (a b : Int) (w : World), b.toNat ≤ k → 0 ≤ a → a ≤ 4000000000000000000 → 0 ≤ b → b ≤ 4000000000000000000 →
    Calls Tryz.prog 74 #[.int .i64 a, .int .i64 b] w fun e w' => e = .returned (.int .i64 (gc a b)) ∧ w' = w := by
  induction k with
  | zero =>
    intro a b w hk a0 a1 b0 b1
    obtain rfl : b = 0 := by omega
    have h := hide0 (gc_zero a)
    go_enter Tryz.func74, Tryz.ntmps74
    go_wp2_with fail
    go_ret
    exact ⟨retI (by rw [h]; omega), rfl⟩
  | succ k ih =>
    intro a b w hk a0 a1 b0 b1
    by_cases hb : b = 0
    · subst hb
      have h := hide0 (gc_zero a)
      go_enter Tryz.func74, Tryz.ntmps74
      go_wp2_with fail
      go_ret
      exact ⟨retI (by rw [h]; omega), rfl⟩
    · have hb1 : 1 ≤ b := by omega
      have hm0 := Int.emod_nonneg a (b := b) hb
      have hm1 := Int.emod_lt_of_pos a (b := b) (by omega)
      have hg : gc b (a % b) = gc a b := by rw [← Int.tmod_eq_emod_of_nonneg a0]; exact gc_tmod a b
      have hi := hide0 fun (W : World) => ih b (a % b) W (by omega) (by omega) (by omega) hm0 (by omega)
      have HG := hide0 hg
      have hne : (b == 0) = false := by simpa using hb
      clear hg ih
      go_enter Tryz.func74, Tryz.ntmps74
      go_wp2_with fail
      refine (hi.out _).mono ?_
      rintro e w' ⟨rfl, rfl⟩
      go_wp2
      go_ret
      exact ⟨retI HG.out, rfl⟩
theorem rdiv_ok (a b : Int) (w : World) (h1 : 0 ≤ a) (h2 : a ≤ 4000000000000000000) (h3 : 0 ≤ b) (h4 : b ≤ 4000000000000000000) :
    Calls Tryz.prog 74 #[.int .i64 a, .int .i64 b] w fun e w' => e = .returned (.int .i64 (gc a b)) ∧ w' = w := rdiv_any b.toNat a b w (Nat.le_refl _) h1 h2 h3 h4

theorem okQ_in {n d : Int} : okQ n d = (inB d 1 1000000 && (inB n (-1000000000) 1000000000 && (gc (max n (-n)) d == 1))) := by
  rw [gc_natAbs, Bool.eq_iff_iff, okQ_iff]
  simp only [Bool.and_eq_true, inB_iff, beq_iff_eq]
  constructor
  · rintro ⟨h1, h2, h3, h4, h5⟩; exact ⟨⟨h1, h2⟩, ⟨h3, h4⟩, h5⟩
  · rintro ⟨⟨h1, h2⟩, ⟨h3, h4⟩, h5⟩; exact ⟨h1, h2, h3, h4, h5⟩

set_option maxHeartbeats 1000000 in
theorem Right_any (n d : Int) (w : World) : Calls Tryz.prog 54 #[.agg #[.int .i64 (n), .int .i64 (d)]] w fun e w' => e = .returned (.bool (okQ n d)) ∧ Below w.heap.size w w' := by
  have ho := hide0 (@okQ_in n d)
  by_cases h1 : inB d 1 1000000 = true
  · obtain ⟨d1, d2⟩ := inB_iff.1 h1
    by_cases h2 : inB n (-1000000000) 1000000000 = true
    · obtain ⟨n1, n2⟩ := inB_iff.1 h2
      have hs := hide0 fun (W : World) => rsize_any n W (by omega) (by omega)
      have hd := hide0 fun (W : World) => rdiv_ok (max n (-n)) d W (by omega) (by omega) (by omega) (by omega)
      go_enter Tryz.func54, Tryz.ntmps54
      go_wp2
      go_quiet ((first | (go_at_call 73; exact Calls.quiet_of_same (within_any _ _ _ _)) | (go_at_call 25; exact Calls.quiet_of_same (hs.out _)) | (go_at_call 74; exact Calls.quiet_of_same (hd.out _))))
      go_wp2
      go_returns
      exact ⟨retB (by rw [ho.out, h1, h2]; simp), by repeat' (first | (with_reducible exact Below.refl _ _) | (with_reducible assumption) | (with_reducible refine Below.alloc ?_ ?_ _) | (with_reducible refine Below.drew ?_) | (with_reducible refine below_drewN ?_ _) | (with_reducible refine Below.setCell ?_ ?_ _) | go_size)⟩
    · have h2' : inB n (-1000000000) 1000000000 = false := by simpa using h2
      clear h2
      go_enter Tryz.func54, Tryz.ntmps54
      go_wp2
      go_quiet ((first | (go_at_call 73; exact Calls.quiet_of_same (within_any _ _ _ _))))
      go_wp2
      go_returns
      exact ⟨retB (by rw [ho.out, h1, h2']; simp), by repeat' (first | (with_reducible exact Below.refl _ _) | (with_reducible assumption) | (with_reducible refine Below.alloc ?_ ?_ _) | (with_reducible refine Below.drew ?_) | (with_reducible refine below_drewN ?_ _) | (with_reducible refine Below.setCell ?_ ?_ _) | go_size)⟩
  · have h1' : inB d 1 1000000 = false := by simpa using h1
    clear h1
    go_enter Tryz.func54, Tryz.ntmps54
    go_wp2
    go_quiet ((first | (go_at_call 73; exact Calls.quiet_of_same (within_any _ _ _ _))))
    go_wp2
    go_returns
    exact ⟨retB (by rw [ho.out, h1']; simp), by repeat' (first | (with_reducible exact Below.refl _ _) | (with_reducible assumption) | (with_reducible refine Below.alloc ?_ ?_ _) | (with_reducible refine Below.drew ?_) | (with_reducible refine below_drewN ?_ _) | (with_reducible refine Below.setCell ?_ ?_ _) | go_size)⟩

theorem rCheck_any (n d : Int) (w : World) : Calls Tryz.prog 23 #[.agg #[.int .i64 (n), .int .i64 (d)]] w fun e w' => e = .returned (.int .i64 (if okQ n d = true then 0 else 1)) ∧ Below w.heap.size w w' := by
  cases h : okQ n d with
  | true =>
    have H := hide0 h
    have hr := hide0 fun (W : World) => Right_any n d W
    clear h
    go_enter Tryz.func23, Tryz.ntmps23
    go_wp2_with fail
    refine (hr.out _).mono ?_
    rintro e w1 ⟨rfl, hb1⟩
    rw [H.out]
    have hB1 : Below w.heap.size w w1 := up hb1 (by go_grown)
    go_wp2
    go_returns
    exact ⟨rfl, hB1⟩
  | false =>
    have H := hide0 h
    have hr := hide0 fun (W : World) => Right_any n d W
    clear h
    go_enter Tryz.func23, Tryz.ntmps23
    go_wp2_with fail
    refine (hr.out _).mono ?_
    rintro e w1 ⟨rfl, hb1⟩
    rw [H.out]
    have hB1 : Below w.heap.size w w1 := up hb1 (by go_grown)
    go_wp2
    go_returns
    exact ⟨rfl, hB1⟩
end Go.Proofs.YtgonaamjjhhiiaaGreatDoor
