/-
  The law of turns: its walk, the contracts of its callees given.
-/
import Derived.Test.YtadkaplafaeebaaGreatDoorPkW
set_option linter.unusedVariables false
set_option linter.unusedSimpArgs false
namespace Go.Proofs.YtadkaplafaeebaaGreatDoor
open Go Go.RowKit

set_option maxRecDepth 100000 in
set_option maxHeartbeats 2000000 in
theorem turns_core (f p g q v : Sol) (rs : Nat → Sol) (t u T e1 e2 e3 : Int) (w : World) (hT : Tab64 w)
    (HA : Hid (∀ W, Tab64 W → Calls Tryz.prog 42 #[sol f, .int .i64 t] W (RetB (.tuple #[sol p, .int .i64 e1]) W)))
    (HP : Hid (∀ W, Tab64 W → Calls Tryz.prog 48 #[sol f, .agg #[.int .i64 (t), .int .i64 (0), .int .i64 (0), .int .i64 (0)]] W (RetB (.tuple #[sol g, .int .i64 e1]) W)))
    (hpg : eqS p g = true)
    (HR : Hid (∀ k W, k < 4 → Tab64 W → Calls Tryz.prog 42 #[sol (rs k), .int .i64 1] W (RetB (.tuple #[sol (rs (k + 1)), .int .i64 0]) W)))
    (hr0 : rs 0 = f) (hr4 : eqS (rs 4) f = true)
    (HN : Hid (∀ W, Calls Tryz.prog 50 #[.agg #[.int .i64 (t), .int .i64 (0), .int .i64 (0), .int .i64 (0)], .agg #[.int .i64 (u), .int .i64 (0), .int .i64 (0), .int .i64 (0)]] W (RetB (.tuple #[.agg #[.int .i64 (T), .int .i64 (0), .int .i64 (0), .int .i64 (0)], .int .i64 e2]) W)))
    (HU : Hid (∀ W, Tab64 W → Calls Tryz.prog 42 #[sol p, .int .i64 u] W (RetB (.tuple #[sol q, .int .i64 e3]) W)))
    (HC : Hid (∀ W, Tab64 W → Calls Tryz.prog 20 #[] W (RetB (.bool true) W)))
    (HV : Hid (e2 = 1 ∨ e2 = 0 ∧ e3 = 0 ∧ eqS v q = true ∧ ∀ W, Tab64 W → Calls Tryz.prog 42 #[sol f, .int .i64 T] W (RetB (.tuple #[sol v, .int .i64 0]) W))) :
    Calls Tryz.prog 17 #[sol f, .int .i64 t, .int .i64 u] w (RetB (.bool true) w) := by
  have HT := Lib.hid hT
  clear hT
  have hB0 : Below w.heap.size w (w.alloc (.cells (solC f) 24)) := (Below.refl _ _).alloc (Nat.le_refl _) _
  go_enter Tryz.func17, Tryz.ntmps17
  go_wp2_with fail
  refine (HA.out _ (HT.out.below hB0 (Nat.le_refl _))).mono ?_
  rintro e w1 ⟨rfl, b1⟩
  have hB1 : Below w.heap.size w w1 := up b1 hB0
  have S1 : BoxS w1 w.heap.size f := (BoxS.new w f).below b1 (by simp)
  have P1 : BoxS (w1.alloc (.cells (solC p) 24)) w1.heap.size p := BoxS.new w1 p
  have S1' := S1.alloc (.cells (solC p) 24)
  have hB1' := hB1.alloc hB1.size (.cells (solC p) 24)
  have lS := S1'.lt
  have lP := P1.lt
  have c0 := (S1').cell (k := 0) (by omega); have c1 := (S1').cell (k := 1) (by omega); have c2 := (S1').cell (k := 2) (by omega); have c3 := (S1').cell (k := 3) (by omega); have c4 := (S1').cell (k := 4) (by omega); have c5 := (S1').cell (k := 5) (by omega); have c6 := (S1').cell (k := 6) (by omega); have c7 := (S1').cell (k := 7) (by omega)
  go_wp2_with fail
  refine (HP.out _ (HT.out.below hB1' (Nat.le_refl _))).mono ?_
  rintro e w2 ⟨rfl, b2⟩
  have hB2 : Below w.heap.size w w2 := up b2 hB1'
  have S2 := S1'.below b2 lS
  have P2 := P1.below b2 lP
  have G2 : BoxS (w2.alloc (.cells (solC g) 24)) w2.heap.size g := BoxS.new w2 g
  have S2' := S2.alloc (.cells (solC g) 24)
  have P2' := P2.alloc (.cells (solC g) 24)
  have hB2' := hB2.alloc hB2.size (.cells (solC g) 24)
  have z1 : w.heap.size < w1.heap.size := by have := b1.size; simp at this; omega
  have z2 : w1.heap.size < w2.heap.size := by have := b2.size; simp at this; omega
  clear c0 c1 c2 c3 c4 c5 c6 c7 S1 S1' P1 b1 b2 hB1 hB1' lS lP
  have c0 := (S2').cell (k := 0) (by omega); have c1 := (S2').cell (k := 1) (by omega); have c2 := (S2').cell (k := 2) (by omega); have c3 := (S2').cell (k := 3) (by omega); have c4 := (S2').cell (k := 4) (by omega); have c5 := (S2').cell (k := 5) (by omega); have c6 := (S2').cell (k := 6) (by omega); have c7 := (S2').cell (k := 7) (by omega)
  have p0 := (P2').cell (k := 0) (by omega); have p1 := (P2').cell (k := 1) (by omega); have p2 := (P2').cell (k := 2) (by omega); have p3 := (P2').cell (k := 3) (by omega); have p4 := (P2').cell (k := 4) (by omega); have p5 := (P2').cell (k := 5) (by omega); have p6 := (P2').cell (k := 6) (by omega); have p7 := (P2').cell (k := 7) (by omega)
  have g0 := (G2).cell (k := 0) (by omega); have g1 := (G2).cell (k := 1) (by omega); have g2 := (G2).cell (k := 2) (by omega); have g3 := (G2).cell (k := 3) (by omega); have g4 := (G2).cell (k := 4) (by omega); have g5 := (G2).cell (k := 5) (by omega); have g6 := (G2).cell (k := 6) (by omega); have g7 := (G2).cell (k := 7) (by omega)
  go_wp2_with fail
  have lS := S2'.lt
  have lP := P2'.lt
  have lG := G2.lt
  go_loopw [12] (fun c wr => ∃ k : Nat, k ≤ 4 ∧ c = .int .i64 k ∧ BoxS wr w.heap.size f ∧ BoxS wr w1.heap.size p ∧ BoxS wr (w2.heap.size + 1) (rs k) ∧ Below w.heap.size w wr) (fun c _ => 4 - (intOf c).toNat)
  case atStart => exact ⟨0, by omega, rfl, S2'.alloc _, P2'.alloc _, by rw [hr0]; exact BoxS.new' (by simp), hB2'.alloc hB2'.size _⟩
  case round =>
    clear S2' P2' G2 hB2' S2 P2 hB2 c0 c1 c2 c3 c4 c5 c6 c7 p0 p1 p2 p3 p4 p5 p6 p7 g0 g1 g2 g3 g4 g5 g6 g7 lS lP lG
    obtain ⟨k, hk, rfl, S, Q, R, hB⟩ := hrel
    have lS := S.lt
    have lQ := Q.lt
    have lR := R.lt
    have c0 := (R).cell (k := 0) (by omega); have c1 := (R).cell (k := 1) (by omega); have c2 := (R).cell (k := 2) (by omega); have c3 := (R).cell (k := 3) (by omega); have c4 := (R).cell (k := 4) (by omega); have c5 := (R).cell (k := 5) (by omega); have c6 := (R).cell (k := 6) (by omega); have c7 := (R).cell (k := 7) (by omega)
    by_cases hlt : k < 4
    · have hd : decide ((k : Int) < 4) = true := decide_eq_true (by omega)
      go_wp2_with fail
      refine (HR.out k _ hlt (HT.out.below hB (Nat.le_refl _))).mono ?_
      rintro e w3 ⟨rfl, b3⟩
      have S3 := S.below b3 lS
      have Q3 := Q.below b3 lQ
      have R3 := R.below b3 lR
      have N3 : BoxS (w3.alloc (.cells (solC (rs (k + 1))) 24)) w3.heap.size (rs (k + 1)) := BoxS.new w3 _
      have S3' := S3.alloc (.cells (solC (rs (k + 1))) 24)
      have Q3' := Q3.alloc (.cells (solC (rs (k + 1))) 24)
      have R3' := R3.alloc (.cells (solC (rs (k + 1))) 24)
      have hB3 : Below w.heap.size w w3 := up b3 hB
      have hB3' := hB3.alloc hB3.size (.cells (solC (rs (k + 1))) 24)
      have s3 := b3.size
      clear S Q R c0 c1 c2 c3 c4 c5 c6 c7 hB lS lQ lR b3 S3 Q3 R3
      have lS := S3'.lt
      have lQ := Q3'.lt
      have lR := R3'.lt
      obtain ⟨U, hU⟩ : ∃ U, U = w3.alloc (.cells (solC (rs (k + 1))) 24) := ⟨_, rfl⟩
      go_upto_region 12 with fail
      rw [← hU] at N3 S3' Q3' R3' hB3' lS lQ lR ⊢
      clear hU
      have lN := N3.lt
      have c0 := (N3).cell (k := 0) (by omega); have c1 := (N3).cell (k := 1) (by omega); have c2 := (N3).cell (k := 2) (by omega); have c3 := (N3).cell (k := 3) (by omega); have c4 := (N3).cell (k := 4) (by omega); have c5 := (N3).cell (k := 5) (by omega); have c6 := (N3).cell (k := 6) (by omega); have c7 := (N3).cell (k := 7) (by omega)
      have r0 := (R3').cell (k := 0) (by omega); have r1 := (R3').cell (k := 1) (by omega); have r2 := (R3').cell (k := 2) (by omega); have r3 := (R3').cell (k := 3) (by omega); have r4 := (R3').cell (k := 4) (by omega); have r5 := (R3').cell (k := 5) (by omega); have r6 := (R3').cell (k := 6) (by omega); have r7 := (R3').cell (k := 7) (by omega)
      have q0 := (R3').free 0; have q1 := (R3').free 1; have q2 := (R3').free 2; have q3 := (R3').free 3; have q4 := (R3').free 4; have q5 := (R3').free 5; have q6 := (R3').free 6; have q7 := (R3').free 7
      go_wp2_with fail
      case roundEnd => exact ⟨⟨k + 1, by omega, by simp, S3'.putOther (by omega) (rs (k + 1)), Q3'.putOther (by omega) (rs (k + 1)), R3'.put (rs (k + 1)), below_put8 hB3' (by omega) (rs (k + 1))⟩, by simp [intOf]; omega⟩
    · obtain rfl : k = 4 := by omega
      have hd : decide (((4 : Nat) : Int) < 4) = false := by decide
      have d0 := (S).cell (k := 0) (by omega); have d1 := (S).cell (k := 1) (by omega); have d2 := (S).cell (k := 2) (by omega); have d3 := (S).cell (k := 3) (by omega); have d4 := (S).cell (k := 4) (by omega); have d5 := (S).cell (k := 5) (by omega); have d6 := (S).cell (k := 6) (by omega); have d7 := (S).cell (k := 7) (by omega)
      have q0 := (Q).cell (k := 0) (by omega); have q1 := (Q).cell (k := 1) (by omega); have q2 := (Q).cell (k := 2) (by omega); have q3 := (Q).cell (k := 3) (by omega); have q4 := (Q).cell (k := 4) (by omega); have q5 := (Q).cell (k := 5) (by omega); have q6 := (Q).cell (k := 6) (by omega); have q7 := (Q).cell (k := 7) (by omega)
      go_wp2_with fail
      refine (HN.out _).mono ?_
      rintro e w3 ⟨rfl, b3⟩
      have Q3 := Q.below b3 lQ
      have S3 := S.below b3 lS
      have hB3 : Below w.heap.size w w3 := up b3 hB
      have M3 : Q4 (w3.alloc (.cells #[.int .i64 (T), .int .i64 (0), .int .i64 (0), .int .i64 (0)] 46)) w3.heap.size T 0 0 0 := blk_new rfl
      have Q3' := Q3.alloc (.cells #[.int .i64 (T), .int .i64 (0), .int .i64 (0), .int .i64 (0)] 46)
      have S3' := S3.alloc (.cells #[.int .i64 (T), .int .i64 (0), .int .i64 (0), .int .i64 (0)] 46)
      have hB3' := hB3.alloc hB3.size (.cells #[.int .i64 (T), .int .i64 (0), .int .i64 (0), .int .i64 (0)] 46)
      clear S Q R c0 c1 c2 c3 c4 c5 c6 c7 d0 d1 d2 d3 d4 d5 d6 d7 q0 q1 q2 q3 q4 q5 q6 q7 hB lS lQ lR b3 S3 Q3 hB3
      have q0 := (Q3').cell (k := 0) (by omega); have q1 := (Q3').cell (k := 1) (by omega); have q2 := (Q3').cell (k := 2) (by omega); have q3 := (Q3').cell (k := 3) (by omega); have q4 := (Q3').cell (k := 4) (by omega); have q5 := (Q3').cell (k := 5) (by omega); have q6 := (Q3').cell (k := 6) (by omega); have q7 := (Q3').cell (k := 7) (by omega)
      go_wp2_with fail
      refine (HU.out _ (HT.out.below hB3' (Nat.le_refl _))).mono ?_
      rintro e w4 ⟨rfl, b4⟩
      skip
      have S4 := S3'.below b4 S3'.lt
      have M4 := blk_below M3 b4 (blk_lt M3)
      have hB4 : Below w.heap.size w w4 := up b4 hB3'
      have V4 : BoxS (w4.alloc (.cells (solC q) 24)) w4.heap.size q := BoxS.new w4 q
      have S4' := S4.alloc (.cells (solC q) 24)
      have M4' := blk_alloc M4 (.cells (solC q) 24)
      have hB4' := hB4.alloc hB4.size (.cells (solC q) 24)
      clear Q3' S3' M3 hB3' q0 q1 q2 q3 q4 q5 q6 q7 b4 S4 M4 hB4
      rcases HV.out with he | ⟨he, he3, hvq, HW⟩
      · subst he
        go_wp2_with fail
        refine (HC.out _ (HT.out.below hB4' (Nat.le_refl _))).mono ?_
        rintro e w5 ⟨rfl, b5⟩
        have hB5 : Below w.heap.size w w5 := up b5 hB4'
        go_wp2_with fail
        go_ret
        exact ⟨rfl, hB5⟩
      · subst he
        subst he3
        have HWW := Lib.hid HW
        clear HW
        have c0 := (S4').cell (k := 0) (by omega); have c1 := (S4').cell (k := 1) (by omega); have c2 := (S4').cell (k := 2) (by omega); have c3 := (S4').cell (k := 3) (by omega); have c4 := (S4').cell (k := 4) (by omega); have c5 := (S4').cell (k := 5) (by omega); have c6 := (S4').cell (k := 6) (by omega); have c7 := (S4').cell (k := 7) (by omega)
        obtain ⟨t0, t1, t2, t3⟩ := Q4.cells M4'
        go_wp2_with fail
        refine (HWW.out _ (HT.out.below hB4' (Nat.le_refl _))).mono ?_
        rintro e w5 ⟨rfl, b5⟩
        have hB5 : Below w.heap.size w w5 := up b5 hB4'
        have M5 := blk_below M4' b5 (blk_lt M4')
        have V5 := V4.below b5 V4.lt
        have X5 : BoxS (w5.alloc (.cells (solC v) 24)) w5.heap.size v := BoxS.new w5 v
        have M5' := blk_alloc M5 (.cells (solC v) 24)
        have V5' := V5.alloc (.cells (solC v) 24)
        have hB5' := hB5.alloc hB5.size (.cells (solC v) 24)
        clear S4' M4' V4 hB4' c0 c1 c2 c3 c4 c5 c6 c7 t0 t1 t2 t3 b5 M5 V5 hB5
        have c0 := (X5).cell (k := 0) (by omega); have c1 := (X5).cell (k := 1) (by omega); have c2 := (X5).cell (k := 2) (by omega); have c3 := (X5).cell (k := 3) (by omega); have c4 := (X5).cell (k := 4) (by omega); have c5 := (X5).cell (k := 5) (by omega); have c6 := (X5).cell (k := 6) (by omega); have c7 := (X5).cell (k := 7) (by omega)
        have q0 := (V5').cell (k := 0) (by omega); have q1 := (V5').cell (k := 1) (by omega); have q2 := (V5').cell (k := 2) (by omega); have q3 := (V5').cell (k := 3) (by omega); have q4 := (V5').cell (k := 4) (by omega); have q5 := (V5').cell (k := 5) (by omega); have q6 := (V5').cell (k := 6) (by omega); have q7 := (V5').cell (k := 7) (by omega)
        obtain ⟨t0, t1, t2, t3⟩ := Q4.cells M5'
        go_wp2_with fail
        refine (HC.out _ (HT.out.below hB5' (Nat.le_refl _))).mono ?_
        rintro e w6 ⟨rfl, b6⟩
        have hB6 : Below w.heap.size w w6 := up b6 hB5'
        have V6 := V5'.below b6 V5'.lt
        have X6 := X5.below b6 X5.lt
        have M6 := blk_below M5' b6 (blk_lt M5')
        clear V5' X5 M5' hB5' c0 c1 c2 c3 c4 c5 c6 c7 q0 q1 q2 q3 q4 q5 q6 q7 t0 t1 t2 t3 b6
        have c0 := (X6).cell (k := 0) (by omega); have c1 := (X6).cell (k := 1) (by omega); have c2 := (X6).cell (k := 2) (by omega); have c3 := (X6).cell (k := 3) (by omega); have c4 := (X6).cell (k := 4) (by omega); have c5 := (X6).cell (k := 5) (by omega); have c6 := (X6).cell (k := 6) (by omega); have c7 := (X6).cell (k := 7) (by omega)
        have q0 := (V6).cell (k := 0) (by omega); have q1 := (V6).cell (k := 1) (by omega); have q2 := (V6).cell (k := 2) (by omega); have q3 := (V6).cell (k := 3) (by omega); have q4 := (V6).cell (k := 4) (by omega); have q5 := (V6).cell (k := 5) (by omega); have q6 := (V6).cell (k := 6) (by omega); have q7 := (V6).cell (k := 7) (by omega)
        obtain ⟨t0, t1, t2, t3⟩ := Q4.cells M6
        go_wp2_with fail
        go_ret
        exact ⟨rfl, hB6⟩
end Go.Proofs.YtadkaplafaeebaaGreatDoor
