/-
  The reference's Count.
-/
import Derived.Test.YtadkaplafaeebaaGreatDoorPkRAQ
import Derived.Test.YtadkaplafaeebaaGreatDoorPkXBQ
import Derived.Test.YtadkaplafaeebaaGreatDoorPkRBQ
set_option linter.unusedVariables false
set_option linter.unusedSimpArgs false
namespace Go.Proofs.YtadkaplafaeebaaGreatDoor
open Go Go.RowKit

theorem own_len {W : World} {b size : Nat} {e : TypeId} {v : Value} {n : Nat} {xs : List Value} (h : W.ownsRow b e size v n xs) : ∃ p cap, v = .slice p n cap := by
  rcases h.2 with ⟨e1, e2⟩ | ⟨g, cap, cur, e1, _⟩
  · exact ⟨none, 0, by rw [e1, e2]⟩
  · exact ⟨_, _, e1⟩
theorem rcount_ok (f : Sol) (w : World) (hf : Fit f) : Calls Tryz.prog 29 #[sol f] w fun e w' => e = .returned (.int .i64 (numF f : Nat)) ∧ Below w.heap.size w w' := by
  have HF := Lib.hid hf
  clear hf
  have hB0 : Below w.heap.size w (w.alloc (.cells (solC f) 24)) := (Below.refl _ _).alloc (Nat.le_refl _) _
  go_enter Tryz.func29, Tryz.ntmps29
  go_wp2_with fail
  refine (rcells_ok f _ HF.out).mono ?_
  rintro e w1 ⟨v, rfl, hrow, _, hb1⟩
  obtain ⟨p, cap, rfl⟩ := own_len hrow
  have hB1 : Below w.heap.size w w1 := up hb1 hB0
  clear hrow
  go_wp2_with fail
  go_ret
  exact ⟨rfl, hB1⟩
end Go.Proofs.YtadkaplafaeebaaGreatDoor
/-
  The least and the greatest coordinates of the cells of a solid: mathematics.
-/
set_option linter.unusedVariables false
set_option linter.unusedSimpArgs false
namespace Go.Proofs.YtadkaplafaeebaaGreatDoor
open Go Go.RowKit

end Go.Proofs.YtadkaplafaeebaaGreatDoor
/-
  Block.
-/
set_option linter.unusedVariables false
set_option linter.unusedSimpArgs false
namespace Go.Proofs.YtadkaplafaeebaaGreatDoor
open Go Go.RowKit

/-- The cells of a box, row by row, level by level, put into a solid. -/
def blkX (f : Sol) (x y z : Nat) : Nat → Sol
  | 0 => f
  | n + 1 => setC (blkX f x y z n) (mkC (64 * z + 8 * y + (x + n)))
def blkY (f : Sol) (x y z nx : Nat) : Nat → Sol
  | 0 => f
  | n + 1 => blkX (blkY f x y z nx n) x (y + n) z nx
def blkZ (f : Sol) (x y z nx ny : Nat) : Nat → Sol
  | 0 => f
  | n + 1 => blkY (blkZ f x y z nx ny n) x y (z + n) nx ny
theorem blkX_fit {f : Sol} (h : Fit f) (x y z : Nat) : ∀ n, Fit (blkX f x y z n)
  | 0 => h
  | n + 1 => setC_fit (blkX_fit h x y z n) _
theorem blkY_fit {f : Sol} (h : Fit f) (x y z nx : Nat) : ∀ n, Fit (blkY f x y z nx n)
  | 0 => h
  | n + 1 => blkX_fit (blkY_fit h x y z nx n) _ _ _ nx
theorem blkZ_fit {f : Sol} (h : Fit f) (x y z nx ny : Nat) : ∀ n, Fit (blkZ f x y z nx ny n)
  | 0 => h
  | n + 1 => blkY_fit (blkZ_fit h x y z nx ny n) _ _ _ nx ny
/-- The cells of a box. -/
def blkF (a b c d e g : Nat) : Sol := blkZ (fun _ => 0) a b c (d + 1 - a) (e + 1 - b) (g + 1 - c)
end Go.Proofs.YtadkaplafaeebaaGreatDoor
/-
  The reference's Block.
-/
set_option linter.unusedVariables false
set_option linter.unusedSimpArgs false
namespace Go.Proofs.YtadkaplafaeebaaGreatDoor
open Go Go.RowKit

set_option maxRecDepth 100000 in
set_option maxHeartbeats 4000000 in
theorem rblock_in (a b c d e g : Nat) (w : World) (hd : a ≤ d ∧ d ≤ 7) (he : b ≤ e ∧ e ≤ 7) (hg : c ≤ g ∧ g ≤ 7) :
    Calls Tryz.prog 41 #[.agg #[.int .i64 ((a : Int)), .int .i64 ((b : Int)), .int .i64 ((c : Int)), .int .i64 ((d : Int)), .int .i64 ((e : Int)), .int .i64 ((g : Int))]] w fun e' w' => e' = .returned (.tuple #[sol (blkF a b c d e g), .int .i64 0]) ∧ Below w.heap.size w w' := by
  have i1 : inG (a : Int) (b : Int) (c : Int) = true := decide_eq_true (by omega)
  have i2 : inG (d : Int) (e : Int) (g : Int) = true := decide_eq_true (by omega)
  have I1 := Lib.hid i1
  have I2 := Lib.hid i2
  have q1 : decide (d < a) = false := decide_eq_false (by omega)
  have q2 : decide (e < b) = false := decide_eq_false (by omega)
  have q3 : decide (g < c) = false := decide_eq_false (by omega)
  have X0 : Box6 ((w.alloc (.cells #[.int .i64 (a), .int .i64 (b), .int .i64 (c), .int .i64 (d), .int .i64 (e), .int .i64 (g)] 40)).alloc (.cells (solC fun _ => 0) 24)) w.heap.size a b c d e g := blk_alloc (blk_new rfl) _
  have R0 : BoxS ((w.alloc (.cells #[.int .i64 (a), .int .i64 (b), .int .i64 (c), .int .i64 (d), .int .i64 (e), .int .i64 (g)] 40)).alloc (.cells (solC fun _ => 0) 24)) (w.heap.size + 1) (fun _ => 0) := BoxS.zero (by simp)
  have hB0 : Below w.heap.size w ((w.alloc (.cells #[.int .i64 (a), .int .i64 (b), .int .i64 (c), .int .i64 (d), .int .i64 (e), .int .i64 (g)] 40)).alloc (.cells (solC fun _ => 0) 24)) := by repeat' (first | (with_reducible exact Below.refl _ _) | (with_reducible assumption) | (with_reducible refine Below.alloc ?_ ?_ _) | (with_reducible refine Below.drew ?_) | (with_reducible refine below_drewN ?_ _) | (with_reducible refine Below.setCell ?_ ?_ _) | go_size)
  clear i1 i2
  go_enter Tryz.func41, Tryz.ntmps41
  go_wp2_with fail
  refine (rinGrid_is I1.out _).mono ?_
  rintro e' w1 ⟨rfl, b1⟩
  have X1 := blk_below X0 b1 (blk_lt X0)
  have R1 := R0.below b1 R0.lt
  have hB1 : Below w.heap.size w w1 := up b1 hB0
  have lX := blk_lt X1
  obtain ⟨x0, x1, x2, x3, x4, x5⟩ := Box6.cells X1
  go_wp2_with fail
  refine (rinGrid_is I2.out _).mono ?_
  rintro e' w2 ⟨rfl, b2⟩
  have X2 := blk_below X1 b2 lX
  have R2 := R1.below b2 R1.lt
  have hB2 : Below w.heap.size w w2 := up b2 hB1
  clear x0 x1 x2 x3 x4 x5 lX X0 X1 R0 R1 hB0 hB1 b1 b2
  have lX : w.heap.size < w2.heap.size := blk_lt X2
  have lR : w.heap.size + 1 < w2.heap.size := R2.lt
  obtain ⟨x0, x1, x2, x3, x4, x5⟩ := Box6.cells X2
  go_wp2_with fail
  have S0 : BoxS (w2.alloc (.cells (solC fun _ => 0) 24)) w2.heap.size (fun _ => 0) := BoxS.zero rfl
  have X3 := blk_alloc X2 (.cells (solC fun _ => 0) 24)
  have R3 := R2.alloc (.cells (solC fun _ => 0) 24)
  have hB3 := hB2.alloc hB2.size (.cells (solC fun _ => 0) 24)
  clear x0 x1 x2 x3 x4 x5 X2 R2 hB2
  go_loopw [5] (fun c5 wr => ∃ Z : Nat, c ≤ Z ∧ Z ≤ g + 1 ∧ c5 = .int .i64 Z ∧ Box6 wr w.heap.size a b c d e g ∧ BoxS wr (w.heap.size + 1) (fun _ => 0) ∧ BoxS wr w2.heap.size (blkZ (fun _ => 0) a b c (d + 1 - a) (e + 1 - b) (Z - c)) ∧ Below w.heap.size w wr) (fun c5 _ => g + 1 - (intOf c5).toNat)
  case atStart => exact ⟨c, Nat.le_refl _, by omega, rfl, X3, R3, by rw [Nat.sub_self]; exact S0, hB3⟩
  case round =>
    clear X3 R3 S0 hB3
    obtain ⟨Z, hZ0, hZ, rfl, X, R, S, hB⟩ := hrel
    have lX' := blk_lt X
    have hs := hB.size
    obtain ⟨x0, x1, x2, x3, x4, x5⟩ := Box6.cells X
    by_cases hlt : Z ≤ g
    · have hdz : decide (Z ≤ g) = true := decide_eq_true (by omega)
      have HZ := Lib.hid (show blkZ (fun _ => 0) a b c (d + 1 - a) (e + 1 - b) (Z + 1 - c) = blkY (blkZ (fun _ => 0) a b c (d + 1 - a) (e + 1 - b) (Z - c)) a b Z (d + 1 - a) (e + 1 - b) by rw [show Z + 1 - c = (Z - c) + 1 by omega]; show blkY _ a b (c + (Z - c)) _ _ = _; rw [show c + (Z - c) = Z by omega])
      obtain ⟨F, hF⟩ : ∃ F, F = blkZ (fun _ => 0) a b c (d + 1 - a) (e + 1 - b) (Z - c) := ⟨_, rfl⟩
      have hFf : Fit F := by rw [hF]; exact blkZ_fit fit0 _ _ _ _ _ _
      rw [← hF] at S HZ
      clear hF
      go_wp2_with fail
      go_loopw [6] (fun c6 wr => ∃ Y : Nat, b ≤ Y ∧ Y ≤ e + 1 ∧ c6 = .int .i64 Y ∧ Box6 wr w.heap.size a b c d e g ∧ BoxS wr (w.heap.size + 1) (fun _ => 0) ∧ BoxS wr w2.heap.size (blkY F a b Z (d + 1 - a) (Y - b)) ∧ Below w.heap.size w wr) (fun c6 _ => e + 1 - (intOf c6).toNat)
      case atStart => exact ⟨b, Nat.le_refl _, by omega, rfl, X, R, by rw [Nat.sub_self]; exact S, hB⟩
      case round =>
        clear X R S hB x0 x1 x2 x3 x4 x5 lX' hs
        obtain ⟨Y, hY0, hY, rfl, X, R, S, hB⟩ := hrel
        have lX' := blk_lt X
        have hs := hB.size
        obtain ⟨x0, x1, x2, x3, x4, x5⟩ := Box6.cells X
        by_cases hly : Y ≤ e
        · have hdy : decide (Y ≤ e) = true := decide_eq_true (by omega)
          have HY := Lib.hid (show blkY F a b Z (d + 1 - a) (Y + 1 - b) = blkX (blkY F a b Z (d + 1 - a) (Y - b)) a Y Z (d + 1 - a) by rw [show Y + 1 - b = (Y - b) + 1 by omega]; show blkX _ a (b + (Y - b)) Z _ = _; rw [show b + (Y - b) = Y by omega])
          obtain ⟨G, hG⟩ : ∃ G, G = blkY F a b Z (d + 1 - a) (Y - b) := ⟨_, rfl⟩
          have hGf : Fit G := by rw [hG]; exact blkY_fit hFf _ _ _ _ _
          rw [← hG] at S HY
          clear hG
          go_wp2_with fail
          go_loopw [7] (fun c7 wr => ∃ V : Nat, a ≤ V ∧ V ≤ d + 1 ∧ c7 = .int .i64 V ∧ Box6 wr w.heap.size a b c d e g ∧ BoxS wr (w.heap.size + 1) (fun _ => 0) ∧ BoxS wr w2.heap.size (blkX G a Y Z (V - a)) ∧ Below w.heap.size w wr) (fun c7 _ => d + 1 - (intOf c7).toNat)
          case atStart => exact ⟨a, Nat.le_refl _, by omega, rfl, X, R, by rw [Nat.sub_self]; exact S, hB⟩
          case round =>
            clear X R S hB x0 x1 x2 x3 x4 x5 lX' hs
            obtain ⟨V, hV0, hV, rfl, X, R, S, hB⟩ := hrel
            have lX' := blk_lt X
            have hs := hB.size
            obtain ⟨x0, x1, x2, x3, x4, x5⟩ := Box6.cells X
            by_cases hlv : V ≤ d
            · have hdv : decide (V ≤ d) = true := decide_eq_true (by omega)
              have hV7 : V ≤ 7 := by omega
              have hY7 : Y ≤ 7 := by omega
              have hZ7 : (Z : Int) < 8 := by omega
              obtain ⟨cc, hcx, hcy, hcz, hmk⟩ := cell_of (show V < 8 by omega) (show Y < 8 by omega) (show Z < 8 by omega)
              have HV := Lib.hid (show blkX G a Y Z (V + 1 - a) = setC (blkX G a Y Z (V - a)) cc by
                rw [show V + 1 - a = (V - a) + 1 by omega]
                show setC _ (mkC (64 * Z + 8 * Y + (a + (V - a)))) = _
                rw [show a + (V - a) = V by omega, hmk])
              obtain ⟨K, hK⟩ : ∃ K, K = blkX G a Y Z (V - a) := ⟨_, rfl⟩
              have hKf : Fit K := by rw [hK]; exact blkX_fit hGf _ _ _ _
              rw [← hK] at S HV
              have HW := Lib.hid (fun (W : World) => rwith_ok K cc W hKf)
              unfold cell at HW
              rw [hcx, hcy, hcz] at HW
              clear hK hmk hcx hcy hcz
              have lS := S.lt
              have lR' := R.lt
              have lS2 : w2.heap.size < wr.heap.size := lS
              have o0 := (S).cell (k := 0) (by omega); have o1 := (S).cell (k := 1) (by omega); have o2 := (S).cell (k := 2) (by omega); have o3 := (S).cell (k := 3) (by omega); have o4 := (S).cell (k := 4) (by omega); have o5 := (S).cell (k := 5) (by omega); have o6 := (S).cell (k := 6) (by omega); have o7 := (S).cell (k := 7) (by omega)
              go_wp2_with fail
              (with_reducible refine Calls.mono (HW.out _) ?_)
              rintro e' w1q ⟨rfl, hb1q⟩
              have S1 := S.below hb1q lS
              have R1 := R.below hb1q lR'
              have X1 := blk_below X hb1q lX'
              have hB1 : Below w.heap.size w w1q := up hb1q hB
              have lS1 := S1.lt
              clear S R X hB x0 x1 x2 x3 x4 x5 o0 o1 o2 o3 o4 o5 o6 o7
              have o0 := (S1).cell (k := 0) (by omega); have o1 := (S1).cell (k := 1) (by omega); have o2 := (S1).cell (k := 2) (by omega); have o3 := (S1).cell (k := 3) (by omega); have o4 := (S1).cell (k := 4) (by omega); have o5 := (S1).cell (k := 5) (by omega); have o6 := (S1).cell (k := 6) (by omega); have o7 := (S1).cell (k := 7) (by omega)
              have q0 := (S1).free 0; have q1 := (S1).free 1; have q2 := (S1).free 2; have q3 := (S1).free 3; have q4 := (S1).free 4; have q5 := (S1).free 5; have q6 := (S1).free 6; have q7 := (S1).free 7
              go_wp2_with fail
              go_roundw
              case rel => exact ⟨V + 1, by omega, by omega, by go_num, (heap_put8 _ _ (by omega)).trans X1, R1.putOther (by omega) _, by rw [HV.out]; exact S1.put (setC K cc), below_put8 hB1 (by omega) _⟩
              case measure => simp [intOf]; omega
            · obtain rfl : V = d + 1 := by omega
              have hdv : decide (d + 1 ≤ d) = false := decide_eq_false (by omega)
              go_wp2_with fail
              go_roundw
              case rel => exact ⟨Y + 1, by omega, by omega, by go_num, X, R, by rw [HY.out]; exact S, hB⟩
              case measure => simp [intOf]; omega
        · obtain rfl : Y = e + 1 := by omega
          have hdy : decide (e + 1 ≤ e) = false := decide_eq_false (by omega)
          go_wp2_with fail
          go_roundw
          case rel => exact ⟨Z + 1, by omega, by omega, by go_num, X, R, by rw [HZ.out]; exact S, hB⟩
          case measure => simp [intOf]; omega
    · obtain rfl : Z = g + 1 := by omega
      have hdz : decide (g + 1 ≤ g) = false := decide_eq_false (by omega)
      have lS := S.lt
      have lR' := R.lt
      have o0 := (S).cell (k := 0) (by omega); have o1 := (S).cell (k := 1) (by omega); have o2 := (S).cell (k := 2) (by omega); have o3 := (S).cell (k := 3) (by omega); have o4 := (S).cell (k := 4) (by omega); have o5 := (S).cell (k := 5) (by omega); have o6 := (S).cell (k := 6) (by omega); have o7 := (S).cell (k := 7) (by omega)
      have r0 := (R).cell (k := 0) (by omega); have r1 := (R).cell (k := 1) (by omega); have r2 := (R).cell (k := 2) (by omega); have r3 := (R).cell (k := 3) (by omega); have r4 := (R).cell (k := 4) (by omega); have r5 := (R).cell (k := 5) (by omega); have r6 := (R).cell (k := 6) (by omega); have r7 := (R).cell (k := 7) (by omega)
      have q0 := (R).free 0; have q1 := (R).free 1; have q2 := (R).free 2; have q3 := (R).free 3; have q4 := (R).free 4; have q5 := (R).free 5; have q6 := (R).free 6; have q7 := (R).free 7
      go_wp2_with fail
      refine bodyPost_ret (res_se (R.put (blkF a b c d e g)) Tryz.results41 rfl) rfl ⟨rfl, ?_⟩
      exact below_put8 hB (by omega) _
end Go.Proofs.YtadkaplafaeebaaGreatDoor
/-
  Block, and the reference's Block, of what is no box.
-/
set_option linter.unusedVariables false
set_option linter.unusedSimpArgs false
namespace Go.Proofs.YtadkaplafaeebaaGreatDoor
open Go Go.RowKit

end Go.Proofs.YtadkaplafaeebaaGreatDoor
