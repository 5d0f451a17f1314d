/-
  The law of motions: its walk, the contracts of its callees given.
-/
import Derived.Test.YtadkaplafaeebaaGreatDoorPkW
import Derived.Test.YtadkaplafaeebaaGreatDoorPkG
import Derived.Deep.Cut
import Derived.Test.YtadkaplafaeebaaGreatDoorPkRB
import Derived.Test.YtadkaplafaeebaaGreatDoorPkY
import Derived.Test.YtadkaplafaeebaaGreatDoorPkYM
import Derived.Test.YtadkaplafaeebaaGreatDoorPkU
import Derived.Test.YtadkaplafaeebaaGreatDoorPkTA
set_option linter.unusedVariables false
set_option linter.unusedSimpArgs false
namespace Go.Proofs.YtadkaplafaeebaaGreatDoor
open Go Go.RowKit

theorem heap_put8' (W : World) {B g : Nat} (f : Sol) (h : g ≠ B) : (put8 W B f).heap[g]? = W.heap[g]? :=
  ((Below.heap_setCell _ ⟨B, 7, none⟩ _ g h).trans ((Below.heap_setCell _ ⟨B, 6, none⟩ _ g h).trans ((Below.heap_setCell _ ⟨B, 5, none⟩ _ g h).trans ((Below.heap_setCell _ ⟨B, 4, none⟩ _ g h).trans ((Below.heap_setCell _ ⟨B, 3, none⟩ _ g h).trans ((Below.heap_setCell _ ⟨B, 2, none⟩ _ g h).trans ((Below.heap_setCell _ ⟨B, 1, none⟩ _ g h).trans (Below.heap_setCell _ ⟨B, 0, none⟩ _ g h))))))))
set_option maxRecDepth 100000 in
set_option maxHeartbeats 4000000 in
theorem motions_core (f a1 a2 c1 c2 m1 m2 p1 p2 : Sol) (turn axis x y z t u v s ea ec em ep : Int) (w : World) (hT : Tab64 w)
    (H1 : Hid (∀ W, Tab64 W → Calls Tryz.prog 42 #[sol f, .int .i64 turn] W (RetB (.tuple #[sol a1, .int .i64 ea]) W)))
    (H2 : Hid (∀ W, Calls Tryz.prog 43 #[sol f, .int .i64 turn] W (RetB (.tuple #[sol a2, .int .i64 ea]) W)))
    (H3 : Hid (∀ W, Calls Tryz.prog 44 #[sol f, .int .i64 x, .int .i64 y, .int .i64 z] W (RetB (.tuple #[sol c1, .int .i64 ec]) W)))
    (H4 : Hid (∀ W, Calls Tryz.prog 45 #[sol f, .int .i64 x, .int .i64 y, .int .i64 z] W (RetB (.tuple #[sol c2, .int .i64 ec]) W)))
    (H5 : Hid (∀ W, Tab64 W → Calls Tryz.prog 46 #[sol f, .int .i64 axis] W (RetB (.tuple #[sol m1, .int .i64 em]) W)))
    (H6 : Hid (∀ W, Calls Tryz.prog 47 #[sol f, .int .i64 axis] W (RetB (.tuple #[sol m2, .int .i64 em]) W)))
    (H7 : Hid (∀ W, Tab64 W → Calls Tryz.prog 48 #[sol f, .agg #[.int .i64 (t), .int .i64 (u), .int .i64 (v), .int .i64 (s)]] W (RetB (.tuple #[sol p1, .int .i64 ep]) W)))
    (H8 : Hid (∀ W, Calls Tryz.prog 49 #[sol f, .agg #[.int .i64 (t), .int .i64 (u), .int .i64 (v), .int .i64 (s)]] W (RetB (.tuple #[sol p2, .int .i64 ep]) W)))
    (HC : Hid (∀ W, Tab64 W → Calls Tryz.prog 20 #[] W (RetB (.bool true) W)))
    (ha : eqS a1 a2 = true) (hc : eqS c1 c2 = true) (hm : eqS m1 m2 = true) (hp : eqS p1 p2 = true) :
    Calls Tryz.prog 5 #[sol f, .int .i64 turn, .int .i64 axis, .int .i64 x, .int .i64 y, .int .i64 z, .agg #[.int .i64 (t), .int .i64 (u), .int .i64 (v), .int .i64 (s)]] w (RetB (.bool true) w) := by
  have HT := Lib.hid hT
  clear hT
  have S0 : BoxS ((w.alloc (.cells (solC f) 24)).alloc (.cells #[.int .i64 (t), .int .i64 (u), .int .i64 (v), .int .i64 (s)] 46)) w.heap.size f := (BoxS.new w f).alloc _
  have M0 : Q4 ((w.alloc (.cells (solC f) 24)).alloc (.cells #[.int .i64 (t), .int .i64 (u), .int .i64 (v), .int .i64 (s)] 46)) (w.heap.size + 1) t u v s := blk_new (by simp)
  have hB0 : Below w.heap.size w ((w.alloc (.cells (solC f) 24)).alloc (.cells #[.int .i64 (t), .int .i64 (u), .int .i64 (v), .int .i64 (s)] 46)) := by repeat' (first | (with_reducible exact Below.refl _ _) | (with_reducible assumption) | (with_reducible refine Below.alloc ?_ ?_ _) | (with_reducible refine Below.drew ?_) | (with_reducible refine below_drewN ?_ _) | (with_reducible refine Below.setCell ?_ ?_ _) | go_size)
  go_enter Tryz.func5, Tryz.ntmps5
  go_wp2_with fail
  refine (H1.out _ (HT.out.below hB0 (Nat.le_refl _))).mono ?_
  rintro e w1 ⟨rfl, b1⟩
  obtain ⟨N1, hN1⟩ : ∃ N, N = w1.heap.size := ⟨_, rfl⟩
  obtain ⟨W1, hW1⟩ : ∃ W, W = w1.alloc (.cells (solC a1) 24) := ⟨_, rfl⟩
  have S1 : BoxS W1 w.heap.size f := by rw [hW1]; exact (S0.below b1 S0.lt).alloc _
  have M1 : Q4 W1 (w.heap.size + 1) t u v s := by rw [hW1]; exact blk_alloc (blk_below M0 b1 (blk_lt M0)) _
  have X1_1 : BoxS W1 N1 a1 := by rw [hW1, hN1]; exact BoxS.new _ _
  have hB1' : Below w.heap.size w w1 := up b1 hB0
  have hB1 : Below w.heap.size w W1 := by rw [hW1]; exact hB1'.alloc hB1'.size _
  have l1 : w.heap.size + 1 < N1 := by rw [hN1]; exact blk_lt (blk_below M0 b1 (blk_lt M0))
  go_upto_region 2 with fail
  rw [← hW1, ← hN1]
  clear hW1 hN1 b1 hB1' S0 M0 hB0 
  have c0 := (S1).cell (k := 0) (by omega); have c1 := (S1).cell (k := 1) (by omega); have c2 := (S1).cell (k := 2) (by omega); have c3 := (S1).cell (k := 3) (by omega); have c4 := (S1).cell (k := 4) (by omega); have c5 := (S1).cell (k := 5) (by omega); have c6 := (S1).cell (k := 6) (by omega); have c7 := (S1).cell (k := 7) (by omega)
  go_wp2_with fail
  clear c0 c1 c2 c3 c4 c5 c6 c7
  refine (H2.out _).mono ?_
  rintro e w2 ⟨rfl, b2⟩
  obtain ⟨N2, hN2⟩ : ∃ N, N = w2.heap.size := ⟨_, rfl⟩
  obtain ⟨W2, hW2⟩ : ∃ W, W = w2.alloc (.cells (solC a2) 24) := ⟨_, rfl⟩
  have S2 : BoxS W2 w.heap.size f := by rw [hW2]; exact (S1.below b2 S1.lt).alloc _
  have M2 : Q4 W2 (w.heap.size + 1) t u v s := by rw [hW2]; exact blk_alloc (blk_below M1 b2 (blk_lt M1)) _
  have X2_2 : BoxS W2 N2 a2 := by rw [hW2, hN2]; exact BoxS.new _ _
  have X1_2 : BoxS W2 N1 a1 := by rw [hW2]; exact (X1_1.below b2 X1_1.lt).alloc _
  have hB2' : Below w.heap.size w w2 := up b2 hB1
  have hB2 : Below w.heap.size w W2 := by rw [hW2]; exact hB2'.alloc hB2'.size _
  have l2 : N1 < N2 := by rw [hN2]; exact (X1_1.below b2 X1_1.lt).lt
  go_upto_region 3 with fail
  rw [← hW2, ← hN2]
  clear hW2 hN2 b2 hB2' S1 M1 hB1 X1_1
  have c0 := (S2).cell (k := 0) (by omega); have c1 := (S2).cell (k := 1) (by omega); have c2 := (S2).cell (k := 2) (by omega); have c3 := (S2).cell (k := 3) (by omega); have c4 := (S2).cell (k := 4) (by omega); have c5 := (S2).cell (k := 5) (by omega); have c6 := (S2).cell (k := 6) (by omega); have c7 := (S2).cell (k := 7) (by omega)
  go_wp2_with fail
  clear c0 c1 c2 c3 c4 c5 c6 c7
  refine (H3.out _).mono ?_
  rintro e w3 ⟨rfl, b3⟩
  obtain ⟨N3, hN3⟩ : ∃ N, N = w3.heap.size := ⟨_, rfl⟩
  obtain ⟨W3, hW3⟩ : ∃ W, W = w3.alloc (.cells (solC c1) 24) := ⟨_, rfl⟩
  have S3 : BoxS W3 w.heap.size f := by rw [hW3]; exact (S2.below b3 S2.lt).alloc _
  have M3 : Q4 W3 (w.heap.size + 1) t u v s := by rw [hW3]; exact blk_alloc (blk_below M2 b3 (blk_lt M2)) _
  have X3_3 : BoxS W3 N3 c1 := by rw [hW3, hN3]; exact BoxS.new _ _
  have X1_3 : BoxS W3 N1 a1 := by rw [hW3]; exact (X1_2.below b3 X1_2.lt).alloc _
  have X2_3 : BoxS W3 N2 a2 := by rw [hW3]; exact (X2_2.below b3 X2_2.lt).alloc _
  have hB3' : Below w.heap.size w w3 := up b3 hB2
  have hB3 : Below w.heap.size w W3 := by rw [hW3]; exact hB3'.alloc hB3'.size _
  have l3 : N2 < N3 := by rw [hN3]; exact (X2_2.below b3 X2_2.lt).lt
  go_upto_region 4 with fail
  rw [← hW3, ← hN3]
  clear hW3 hN3 b3 hB3' S2 M2 hB2 X1_2 X2_2
  have c0 := (S3).cell (k := 0) (by omega); have c1 := (S3).cell (k := 1) (by omega); have c2 := (S3).cell (k := 2) (by omega); have c3 := (S3).cell (k := 3) (by omega); have c4 := (S3).cell (k := 4) (by omega); have c5 := (S3).cell (k := 5) (by omega); have c6 := (S3).cell (k := 6) (by omega); have c7 := (S3).cell (k := 7) (by omega)
  go_wp2_with fail
  clear c0 c1 c2 c3 c4 c5 c6 c7
  refine (H4.out _).mono ?_
  rintro e w4 ⟨rfl, b4⟩
  obtain ⟨N4, hN4⟩ : ∃ N, N = w4.heap.size := ⟨_, rfl⟩
  obtain ⟨W4, hW4⟩ : ∃ W, W = w4.alloc (.cells (solC c2) 24) := ⟨_, rfl⟩
  have S4 : BoxS W4 w.heap.size f := by rw [hW4]; exact (S3.below b4 S3.lt).alloc _
  have M4 : Q4 W4 (w.heap.size + 1) t u v s := by rw [hW4]; exact blk_alloc (blk_below M3 b4 (blk_lt M3)) _
  have X4_4 : BoxS W4 N4 c2 := by rw [hW4, hN4]; exact BoxS.new _ _
  have X1_4 : BoxS W4 N1 a1 := by rw [hW4]; exact (X1_3.below b4 X1_3.lt).alloc _
  have X2_4 : BoxS W4 N2 a2 := by rw [hW4]; exact (X2_3.below b4 X2_3.lt).alloc _
  have X3_4 : BoxS W4 N3 c1 := by rw [hW4]; exact (X3_3.below b4 X3_3.lt).alloc _
  have hB4' : Below w.heap.size w w4 := up b4 hB3
  have hB4 : Below w.heap.size w W4 := by rw [hW4]; exact hB4'.alloc hB4'.size _
  have l4 : N3 < N4 := by rw [hN4]; exact (X3_3.below b4 X3_3.lt).lt
  go_upto_region 5 with fail
  rw [← hW4, ← hN4]
  clear hW4 hN4 b4 hB4' S3 M3 hB3 X1_3 X2_3 X3_3
  have c0 := (S4).cell (k := 0) (by omega); have c1 := (S4).cell (k := 1) (by omega); have c2 := (S4).cell (k := 2) (by omega); have c3 := (S4).cell (k := 3) (by omega); have c4 := (S4).cell (k := 4) (by omega); have c5 := (S4).cell (k := 5) (by omega); have c6 := (S4).cell (k := 6) (by omega); have c7 := (S4).cell (k := 7) (by omega)
  have xp0 := (X1_4).cell (k := 0) (by omega); have xp1 := (X1_4).cell (k := 1) (by omega); have xp2 := (X1_4).cell (k := 2) (by omega); have xp3 := (X1_4).cell (k := 3) (by omega); have xp4 := (X1_4).cell (k := 4) (by omega); have xp5 := (X1_4).cell (k := 5) (by omega); have xp6 := (X1_4).cell (k := 6) (by omega); have xp7 := (X1_4).cell (k := 7) (by omega)
  have xq0 := (X2_4).cell (k := 0) (by omega); have xq1 := (X2_4).cell (k := 1) (by omega); have xq2 := (X2_4).cell (k := 2) (by omega); have xq3 := (X2_4).cell (k := 3) (by omega); have xq4 := (X2_4).cell (k := 4) (by omega); have xq5 := (X2_4).cell (k := 5) (by omega); have xq6 := (X2_4).cell (k := 6) (by omega); have xq7 := (X2_4).cell (k := 7) (by omega)
  have xr0 := (X3_4).cell (k := 0) (by omega); have xr1 := (X3_4).cell (k := 1) (by omega); have xr2 := (X3_4).cell (k := 2) (by omega); have xr3 := (X3_4).cell (k := 3) (by omega); have xr4 := (X3_4).cell (k := 4) (by omega); have xr5 := (X3_4).cell (k := 5) (by omega); have xr6 := (X3_4).cell (k := 6) (by omega); have xr7 := (X3_4).cell (k := 7) (by omega)
  have xy0 := (X4_4).cell (k := 0) (by omega); have xy1 := (X4_4).cell (k := 1) (by omega); have xy2 := (X4_4).cell (k := 2) (by omega); have xy3 := (X4_4).cell (k := 3) (by omega); have xy4 := (X4_4).cell (k := 4) (by omega); have xy5 := (X4_4).cell (k := 5) (by omega); have xy6 := (X4_4).cell (k := 6) (by omega); have xy7 := (X4_4).cell (k := 7) (by omega)
  have hea : (ea != ea) = false := by simp
  have hec : (ec != ec) = false := by simp
  go_wp2_with fail
  clear c0 c1 c2 c3 c4 c5 c6 c7 xp0 xp1 xp2 xp3 xp4 xp5 xp6 xp7 xq0 xq1 xq2 xq3 xq4 xq5 xq6 xq7 xr0 xr1 xr2 xr3 xr4 xr5 xr6 xr7 xy0 xy1 xy2 xy3 xy4 xy5 xy6 xy7
  refine (H5.out _ (HT.out.below hB4 (Nat.le_refl _))).mono ?_
  rintro e w5 ⟨rfl, b5⟩
  have Y1_5 : BoxS w5 N1 a1 := X1_4.below b5 X1_4.lt
  have Y2_5 : BoxS w5 N2 a2 := X2_4.below b5 X2_4.lt
  have Y3_5 : BoxS w5 N3 c1 := X3_4.below b5 X3_4.lt
  have Y4_5 : BoxS w5 N4 c2 := X4_4.below b5 X4_4.lt
  have hB5' : Below w.heap.size w w5 := up b5 hB4
  have lN5 := Y1_5.lt
  have xp0 := (Y1_5).cell (k := 0) (by omega); have xp1 := (Y1_5).cell (k := 1) (by omega); have xp2 := (Y1_5).cell (k := 2) (by omega); have xp3 := (Y1_5).cell (k := 3) (by omega); have xp4 := (Y1_5).cell (k := 4) (by omega); have xp5 := (Y1_5).cell (k := 5) (by omega); have xp6 := (Y1_5).cell (k := 6) (by omega); have xp7 := (Y1_5).cell (k := 7) (by omega)
  have xq0 := (Y1_5).free 0; have xq1 := (Y1_5).free 1; have xq2 := (Y1_5).free 2; have xq3 := (Y1_5).free 3; have xq4 := (Y1_5).free 4; have xq5 := (Y1_5).free 5; have xq6 := (Y1_5).free 6; have xq7 := (Y1_5).free 7
  go_upto_region 8 with fail
  obtain ⟨W5, hW5⟩ : ∃ W, W = ((((((((w5.setCell ⟨N1, 0, none⟩ (.int .u64 (m1 0))).setCell ⟨N1, 1, none⟩ (.int .u64 (m1 1))).setCell ⟨N1, 2, none⟩ (.int .u64 (m1 2))).setCell ⟨N1, 3, none⟩ (.int .u64 (m1 3))).setCell ⟨N1, 4, none⟩ (.int .u64 (m1 4))).setCell ⟨N1, 5, none⟩ (.int .u64 (m1 5))).setCell ⟨N1, 6, none⟩ (.int .u64 (m1 6))).setCell ⟨N1, 7, none⟩ (.int .u64 (m1 7))) := ⟨_, rfl⟩
  have S5 : BoxS W5 w.heap.size f := by rw [hW5]; exact (S4.below b5 S4.lt).putOther (by omega) m1
  have M5 : Q4 W5 (w.heap.size + 1) t u v s := by rw [hW5]; exact (heap_put8' w5 (g := w.heap.size + 1) m1 (by omega)).trans (blk_below M4 b5 (blk_lt M4))
  have X1_5 : BoxS W5 N1 m1 := by rw [hW5]; exact Y1_5.put m1
  have X2_5 : BoxS W5 N2 a2 := by rw [hW5]; exact Y2_5.putOther (by omega) m1
  have X3_5 : BoxS W5 N3 c1 := by rw [hW5]; exact Y3_5.putOther (by omega) m1
  have X4_5 : BoxS W5 N4 c2 := by rw [hW5]; exact Y4_5.putOther (by omega) m1
  have hB5 : Below w.heap.size w W5 := by rw [hW5]; exact below_put8 hB5' (by omega) m1
  rw [← hW5]
  clear hW5 b5 hB5' hB4 S4 M4 lN5 X1_4 Y1_5 X2_4 Y2_5 X3_4 Y3_5 X4_4 Y4_5 xp0 xp1 xp2 xp3 xp4 xp5 xp6 xp7 xq0 xq1 xq2 xq3 xq4 xq5 xq6 xq7
  have c0 := (S5).cell (k := 0) (by omega); have c1 := (S5).cell (k := 1) (by omega); have c2 := (S5).cell (k := 2) (by omega); have c3 := (S5).cell (k := 3) (by omega); have c4 := (S5).cell (k := 4) (by omega); have c5 := (S5).cell (k := 5) (by omega); have c6 := (S5).cell (k := 6) (by omega); have c7 := (S5).cell (k := 7) (by omega)
  go_wp2_with fail
  clear c0 c1 c2 c3 c4 c5 c6 c7
  refine (H6.out _).mono ?_
  rintro e w6 ⟨rfl, b6⟩
  have Y1_6 : BoxS w6 N1 m1 := X1_5.below b6 X1_5.lt
  have Y2_6 : BoxS w6 N2 a2 := X2_5.below b6 X2_5.lt
  have Y3_6 : BoxS w6 N3 c1 := X3_5.below b6 X3_5.lt
  have Y4_6 : BoxS w6 N4 c2 := X4_5.below b6 X4_5.lt
  have hB6' : Below w.heap.size w w6 := up b6 hB5
  have lN6 := Y2_6.lt
  have xp0 := (Y2_6).cell (k := 0) (by omega); have xp1 := (Y2_6).cell (k := 1) (by omega); have xp2 := (Y2_6).cell (k := 2) (by omega); have xp3 := (Y2_6).cell (k := 3) (by omega); have xp4 := (Y2_6).cell (k := 4) (by omega); have xp5 := (Y2_6).cell (k := 5) (by omega); have xp6 := (Y2_6).cell (k := 6) (by omega); have xp7 := (Y2_6).cell (k := 7) (by omega)
  have xq0 := (Y2_6).free 0; have xq1 := (Y2_6).free 1; have xq2 := (Y2_6).free 2; have xq3 := (Y2_6).free 3; have xq4 := (Y2_6).free 4; have xq5 := (Y2_6).free 5; have xq6 := (Y2_6).free 6; have xq7 := (Y2_6).free 7
  go_upto_region 9 with fail
  obtain ⟨W6, hW6⟩ : ∃ W, W = ((((((((w6.setCell ⟨N2, 0, none⟩ (.int .u64 (m2 0))).setCell ⟨N2, 1, none⟩ (.int .u64 (m2 1))).setCell ⟨N2, 2, none⟩ (.int .u64 (m2 2))).setCell ⟨N2, 3, none⟩ (.int .u64 (m2 3))).setCell ⟨N2, 4, none⟩ (.int .u64 (m2 4))).setCell ⟨N2, 5, none⟩ (.int .u64 (m2 5))).setCell ⟨N2, 6, none⟩ (.int .u64 (m2 6))).setCell ⟨N2, 7, none⟩ (.int .u64 (m2 7))) := ⟨_, rfl⟩
  have S6 : BoxS W6 w.heap.size f := by rw [hW6]; exact (S5.below b6 S5.lt).putOther (by omega) m2
  have M6 : Q4 W6 (w.heap.size + 1) t u v s := by rw [hW6]; exact (heap_put8' w6 (g := w.heap.size + 1) m2 (by omega)).trans (blk_below M5 b6 (blk_lt M5))
  have X1_6 : BoxS W6 N1 m1 := by rw [hW6]; exact Y1_6.putOther (by omega) m2
  have X2_6 : BoxS W6 N2 m2 := by rw [hW6]; exact Y2_6.put m2
  have X3_6 : BoxS W6 N3 c1 := by rw [hW6]; exact Y3_6.putOther (by omega) m2
  have X4_6 : BoxS W6 N4 c2 := by rw [hW6]; exact Y4_6.putOther (by omega) m2
  have hB6 : Below w.heap.size w W6 := by rw [hW6]; exact below_put8 hB6' (by omega) m2
  rw [← hW6]
  clear hW6 b6 hB6' hB5 S5 M5 lN6 X1_5 Y1_6 X2_5 Y2_6 X3_5 Y3_6 X4_5 Y4_6 xp0 xp1 xp2 xp3 xp4 xp5 xp6 xp7 xq0 xq1 xq2 xq3 xq4 xq5 xq6 xq7
  have c0 := (S6).cell (k := 0) (by omega); have c1 := (S6).cell (k := 1) (by omega); have c2 := (S6).cell (k := 2) (by omega); have c3 := (S6).cell (k := 3) (by omega); have c4 := (S6).cell (k := 4) (by omega); have c5 := (S6).cell (k := 5) (by omega); have c6 := (S6).cell (k := 6) (by omega); have c7 := (S6).cell (k := 7) (by omega)
  obtain ⟨m0, m1', m2', m3⟩ := Q4.cells M6
  go_wp2_with fail
  clear c0 c1 c2 c3 c4 c5 c6 c7 m0 m1' m2' m3
  refine (H7.out _ (HT.out.below hB6 (Nat.le_refl _))).mono ?_
  rintro e w7 ⟨rfl, b7⟩
  have Y1_7 : BoxS w7 N1 m1 := X1_6.below b7 X1_6.lt
  have Y2_7 : BoxS w7 N2 m2 := X2_6.below b7 X2_6.lt
  have Y3_7 : BoxS w7 N3 c1 := X3_6.below b7 X3_6.lt
  have Y4_7 : BoxS w7 N4 c2 := X4_6.below b7 X4_6.lt
  have hB7' : Below w.heap.size w w7 := up b7 hB6
  have lN7 := Y3_7.lt
  have xp0 := (Y3_7).cell (k := 0) (by omega); have xp1 := (Y3_7).cell (k := 1) (by omega); have xp2 := (Y3_7).cell (k := 2) (by omega); have xp3 := (Y3_7).cell (k := 3) (by omega); have xp4 := (Y3_7).cell (k := 4) (by omega); have xp5 := (Y3_7).cell (k := 5) (by omega); have xp6 := (Y3_7).cell (k := 6) (by omega); have xp7 := (Y3_7).cell (k := 7) (by omega)
  have xq0 := (Y3_7).free 0; have xq1 := (Y3_7).free 1; have xq2 := (Y3_7).free 2; have xq3 := (Y3_7).free 3; have xq4 := (Y3_7).free 4; have xq5 := (Y3_7).free 5; have xq6 := (Y3_7).free 6; have xq7 := (Y3_7).free 7
  go_upto_region 10 with fail
  obtain ⟨W7, hW7⟩ : ∃ W, W = ((((((((w7.setCell ⟨N3, 0, none⟩ (.int .u64 (p1 0))).setCell ⟨N3, 1, none⟩ (.int .u64 (p1 1))).setCell ⟨N3, 2, none⟩ (.int .u64 (p1 2))).setCell ⟨N3, 3, none⟩ (.int .u64 (p1 3))).setCell ⟨N3, 4, none⟩ (.int .u64 (p1 4))).setCell ⟨N3, 5, none⟩ (.int .u64 (p1 5))).setCell ⟨N3, 6, none⟩ (.int .u64 (p1 6))).setCell ⟨N3, 7, none⟩ (.int .u64 (p1 7))) := ⟨_, rfl⟩
  have S7 : BoxS W7 w.heap.size f := by rw [hW7]; exact (S6.below b7 S6.lt).putOther (by omega) p1
  have M7 : Q4 W7 (w.heap.size + 1) t u v s := by rw [hW7]; exact (heap_put8' w7 (g := w.heap.size + 1) p1 (by omega)).trans (blk_below M6 b7 (blk_lt M6))
  have X1_7 : BoxS W7 N1 m1 := by rw [hW7]; exact Y1_7.putOther (by omega) p1
  have X2_7 : BoxS W7 N2 m2 := by rw [hW7]; exact Y2_7.putOther (by omega) p1
  have X3_7 : BoxS W7 N3 p1 := by rw [hW7]; exact Y3_7.put p1
  have X4_7 : BoxS W7 N4 c2 := by rw [hW7]; exact Y4_7.putOther (by omega) p1
  have hB7 : Below w.heap.size w W7 := by rw [hW7]; exact below_put8 hB7' (by omega) p1
  rw [← hW7]
  clear hW7 b7 hB7' hB6 S6 M6 lN7 X1_6 Y1_7 X2_6 Y2_7 X3_6 Y3_7 X4_6 Y4_7 xp0 xp1 xp2 xp3 xp4 xp5 xp6 xp7 xq0 xq1 xq2 xq3 xq4 xq5 xq6 xq7
  have c0 := (S7).cell (k := 0) (by omega); have c1 := (S7).cell (k := 1) (by omega); have c2 := (S7).cell (k := 2) (by omega); have c3 := (S7).cell (k := 3) (by omega); have c4 := (S7).cell (k := 4) (by omega); have c5 := (S7).cell (k := 5) (by omega); have c6 := (S7).cell (k := 6) (by omega); have c7 := (S7).cell (k := 7) (by omega)
  obtain ⟨m0, m1', m2', m3⟩ := Q4.cells M7
  go_wp2_with fail
  clear c0 c1 c2 c3 c4 c5 c6 c7 m0 m1' m2' m3
  refine (H8.out _).mono ?_
  rintro e w8 ⟨rfl, b8⟩
  have Y1_8 : BoxS w8 N1 m1 := X1_7.below b8 X1_7.lt
  have Y2_8 : BoxS w8 N2 m2 := X2_7.below b8 X2_7.lt
  have Y3_8 : BoxS w8 N3 p1 := X3_7.below b8 X3_7.lt
  have Y4_8 : BoxS w8 N4 c2 := X4_7.below b8 X4_7.lt
  have hB8' : Below w.heap.size w w8 := up b8 hB7
  have lN8 := Y4_8.lt
  have xp0 := (Y4_8).cell (k := 0) (by omega); have xp1 := (Y4_8).cell (k := 1) (by omega); have xp2 := (Y4_8).cell (k := 2) (by omega); have xp3 := (Y4_8).cell (k := 3) (by omega); have xp4 := (Y4_8).cell (k := 4) (by omega); have xp5 := (Y4_8).cell (k := 5) (by omega); have xp6 := (Y4_8).cell (k := 6) (by omega); have xp7 := (Y4_8).cell (k := 7) (by omega)
  have xq0 := (Y4_8).free 0; have xq1 := (Y4_8).free 1; have xq2 := (Y4_8).free 2; have xq3 := (Y4_8).free 3; have xq4 := (Y4_8).free 4; have xq5 := (Y4_8).free 5; have xq6 := (Y4_8).free 6; have xq7 := (Y4_8).free 7
  go_upto_region 11 with fail
  obtain ⟨W8, hW8⟩ : ∃ W, W = ((((((((w8.setCell ⟨N4, 0, none⟩ (.int .u64 (p2 0))).setCell ⟨N4, 1, none⟩ (.int .u64 (p2 1))).setCell ⟨N4, 2, none⟩ (.int .u64 (p2 2))).setCell ⟨N4, 3, none⟩ (.int .u64 (p2 3))).setCell ⟨N4, 4, none⟩ (.int .u64 (p2 4))).setCell ⟨N4, 5, none⟩ (.int .u64 (p2 5))).setCell ⟨N4, 6, none⟩ (.int .u64 (p2 6))).setCell ⟨N4, 7, none⟩ (.int .u64 (p2 7))) := ⟨_, rfl⟩
  have S8 : BoxS W8 w.heap.size f := by rw [hW8]; exact (S7.below b8 S7.lt).putOther (by omega) p2
  have M8 : Q4 W8 (w.heap.size + 1) t u v s := by rw [hW8]; exact (heap_put8' w8 (g := w.heap.size + 1) p2 (by omega)).trans (blk_below M7 b8 (blk_lt M7))
  have X1_8 : BoxS W8 N1 m1 := by rw [hW8]; exact Y1_8.putOther (by omega) p2
  have X2_8 : BoxS W8 N2 m2 := by rw [hW8]; exact Y2_8.putOther (by omega) p2
  have X3_8 : BoxS W8 N3 p1 := by rw [hW8]; exact Y3_8.putOther (by omega) p2
  have X4_8 : BoxS W8 N4 p2 := by rw [hW8]; exact Y4_8.put p2
  have hB8 : Below w.heap.size w W8 := by rw [hW8]; exact below_put8 hB8' (by omega) p2
  rw [← hW8]
  clear hW8 b8 hB8' hB7 S7 M7 lN8 X1_7 Y1_8 X2_7 Y2_8 X3_7 Y3_8 X4_7 Y4_8 xp0 xp1 xp2 xp3 xp4 xp5 xp6 xp7 xq0 xq1 xq2 xq3 xq4 xq5 xq6 xq7
  have hem : (em == em) = true := by simp
  have hep : (ep == ep) = true := by simp
  go_wp2_with fail
  refine (HC.out _ (HT.out.below hB8 (Nat.le_refl _))).mono ?_
  rintro e w9 ⟨rfl, b9⟩
  have Z1 := X1_8.below b9 X1_8.lt
  have Z2 := X2_8.below b9 X2_8.lt
  have Z3 := X3_8.below b9 X3_8.lt
  have Z4 := X4_8.below b9 X4_8.lt
  have hB9 : Below w.heap.size w w9 := up b9 hB8
  have xp0 := (Z1).cell (k := 0) (by omega); have xp1 := (Z1).cell (k := 1) (by omega); have xp2 := (Z1).cell (k := 2) (by omega); have xp3 := (Z1).cell (k := 3) (by omega); have xp4 := (Z1).cell (k := 4) (by omega); have xp5 := (Z1).cell (k := 5) (by omega); have xp6 := (Z1).cell (k := 6) (by omega); have xp7 := (Z1).cell (k := 7) (by omega)
  have xq0 := (Z2).cell (k := 0) (by omega); have xq1 := (Z2).cell (k := 1) (by omega); have xq2 := (Z2).cell (k := 2) (by omega); have xq3 := (Z2).cell (k := 3) (by omega); have xq4 := (Z2).cell (k := 4) (by omega); have xq5 := (Z2).cell (k := 5) (by omega); have xq6 := (Z2).cell (k := 6) (by omega); have xq7 := (Z2).cell (k := 7) (by omega)
  have xr0 := (Z3).cell (k := 0) (by omega); have xr1 := (Z3).cell (k := 1) (by omega); have xr2 := (Z3).cell (k := 2) (by omega); have xr3 := (Z3).cell (k := 3) (by omega); have xr4 := (Z3).cell (k := 4) (by omega); have xr5 := (Z3).cell (k := 5) (by omega); have xr6 := (Z3).cell (k := 6) (by omega); have xr7 := (Z3).cell (k := 7) (by omega)
  have xy0 := (Z4).cell (k := 0) (by omega); have xy1 := (Z4).cell (k := 1) (by omega); have xy2 := (Z4).cell (k := 2) (by omega); have xy3 := (Z4).cell (k := 3) (by omega); have xy4 := (Z4).cell (k := 4) (by omega); have xy5 := (Z4).cell (k := 5) (by omega); have xy6 := (Z4).cell (k := 6) (by omega); have xy7 := (Z4).cell (k := 7) (by omega)
  go_wp2_with fail
  go_ret
  exact ⟨rfl, hB9⟩
end Go.Proofs.YtadkaplafaeebaaGreatDoor
/-
  The law of motions, for every solid, turn, axis, move and motion.
-/
set_option linter.unusedVariables false
set_option linter.unusedSimpArgs false
namespace Go.Proofs.YtadkaplafaeebaaGreatDoor
open Go Go.RowKit

theorem ofI_toI (c : Cl) : ofI (toI c) = c := Fin.ext (by
  rw [ofI_val (toI_in7 c)]
  unfold toI cX cY cZ
  simp only
  omega)
theorem cells_of_empty {f : Sol} (hf : Fit f) (h : emptyS f = true) : cellsL f = [] := by
  refine List.eq_nil_iff_forall_not_mem.2 fun c hc => ?_
  have := (mem_cellI f c).1 hc
  rw [(empty_has hf).1 h] at this
  cases this
theorem inM_iff (v : I3) (c : Cl) : inM v c = true ↔ In7 (plus (toI c) v) := by
  unfold inM inG In7 movP
  exact decide_eq_true_iff
theorem all_in {f : Sol} (hf : Fit f) (he : emptyS f = false) (v : I3) : outB f v.1 v.2.1 v.2.2 = false ↔ ∀ c ∈ cellsL f, inM v c = true := by
  rw [out_has hf he]
  constructor
  · exact fun h c hc => (inM_iff v c).2 (h _ ((mem_cellI f c).1 hc))
  · intro h p hp
    have h7 := has_in7 hp
    have := (inM_iff v (ofI p)).1 (h (ofI p) ((mem_cellI f _).2 (by rw [toI_ofI h7]; exact hp)))
    rwa [toI_ofI h7] at this
theorem mov_eq {f : Sol} (hf : Fit f) {x y z : Int} (ho : outB f x y z = false) (hall : ∀ c ∈ cellsL f, inM (x, y, z) c = true) : eqS (shiftS f x y z) (solOf ((cellsL f).map (movC (x, y, z)))) = true :=
  eq_has (shiftF_fit hf _ _ _ 8) (solOf_fit _) fun d => by
    rw [has_solOf, ← has_cell, Bool.eq_iff_iff, decide_eq_true_eq, List.mem_map, has_shift hf ho]
    constructor
    · rintro ⟨p, hp, e⟩
      have h7 := has_in7 hp
      refine ⟨ofI p, (mem_cellI f _).2 (by rw [toI_ofI h7]; exact hp), ?_⟩
      unfold movC movP
      rw [toI_ofI h7, e, ofI_toI]
    · rintro ⟨c, hc, rfl⟩
      refine ⟨toI c, (mem_cellI f c).1 hc, ?_⟩
      exact (toI_ofI ((inM_iff _ c).1 (hall c hc))).symm
theorem len_pos {f : Sol} (hf : Fit f) (he : emptyS f = false) : 0 < (cellsL f).length := List.length_pos_iff.2 (cellsL_ne hf he)
theorem moved_pair (f : Sol) (hf : Fit f) (x y z : Int) : ∃ r1 r2 e, eqS r1 r2 = true ∧
    (∀ W : World, Calls Tryz.prog 44 #[sol f, .int .i64 x, .int .i64 y, .int .i64 z] W (RetB (.tuple #[sol r1, .int .i64 e]) W)) ∧
    (∀ W : World, Calls Tryz.prog 45 #[sol f, .int .i64 x, .int .i64 y, .int .i64 z] W (RetB (.tuple #[sol r2, .int .i64 e]) W)) := by
  cases he : emptyS f with
  | true => exact ⟨f, fun _ => 0, 0, he, fun W => moved_empty f x y z W he, fun W => rMoved_empty f x y z W hf (by rw [cells_of_empty hf he]; rfl)⟩
  | false =>
    have hL := len_pos hf he
    cases ho : outB f x y z with
    | false =>
      have hall := (all_in hf he (x, y, z)).1 ho
      obtain ⟨x0, x1, y0, y1, z0, z1⟩ := boundN hf he
      have of := out_facts ho
      refine ⟨shiftS f x y z, solOf ((cellsL f).map (movC (x, y, z))), 0, mov_eq hf ho hall, fun W => moved_in f x y z W hf he ho, fun W => ?_⟩
      refine (rMoved_loop f x y z W hf (decide_eq_true (by omega)) (decide_eq_true (by omega)) (decide_eq_true (by omega)) hL).mono fun e w' ⟨h, hb⟩ => ?_
      rcases h with ⟨h, _⟩ | ⟨_, c, hc, hn⟩
      · exact ⟨h, hb⟩
      · rw [hall c hc] at hn
        cases hn
    | true =>
      refine ⟨fun _ => 0, fun _ => 0, 20, by decide, fun W => moved_out f x y z W hf he ho, fun W => ?_⟩
      cases hm : mvB x y z with
      | false => exact rMoved_short f x y z W hf hm hL
      | true =>
        rw [mvB_sh, Bool.and_eq_true, Bool.and_eq_true] at hm
        refine (rMoved_loop f x y z W hf hm.1 hm.2.1 hm.2.2 hL).mono fun e w' ⟨h, hb⟩ => ?_
        rcases h with ⟨_, hall⟩ | ⟨h, _⟩
        · have := (all_in hf he (x, y, z)).2 hall
          rw [show outB f (x, y, z).1 (x, y, z).2.1 (x, y, z).2.2 = true from ho] at this
          cases this
        · exact ⟨h, hb⟩
theorem turned_pair (f : Sol) (hf : Fit f) (t : Int) : ∃ r e, (∀ W : World, Tab64 W → Calls Tryz.prog 42 #[sol f, .int .i64 t] W (RetB (.tuple #[sol r, .int .i64 e]) W)) ∧
    (∀ W : World, Calls Tryz.prog 43 #[sol f, .int .i64 t] W (RetB (.tuple #[sol r, .int .i64 e]) W)) := by
  by_cases h : 0 ≤ t ∧ t < 24
  · obtain ⟨n, rfl⟩ := Int.eq_ofNat_of_zero_le h.1
    exact ⟨_, 0, fun W hT => Turned_yes f n W hf (by omega) hT, fun W => rTurned_yes f n W hf (by omega)⟩
  · exact ⟨_, 1, fun W _ => Turned_no f t W (decide_eq_false h), fun W => rTurned_no f t W (by omega)⟩
theorem mirrored_pair (f : Sol) (hf : Fit f) (a : Int) : ∃ r e, (∀ W : World, Tab64 W → Calls Tryz.prog 46 #[sol f, .int .i64 a] W (RetB (.tuple #[sol r, .int .i64 e]) W)) ∧
    (∀ W : World, Calls Tryz.prog 47 #[sol f, .int .i64 a] W (RetB (.tuple #[sol r, .int .i64 e]) W)) := by
  rcases (show a = 0 ∨ a = 1 ∨ a = 2 ∨ (a < 0 ∨ 2 < a) by omega) with rfl | rfl | rfl | h
  · exact ⟨_, 0, fun W hT => Mirrored_0 f W hf hT, fun W => rMirrored_0 f W hf⟩
  · exact ⟨_, 0, fun W hT => Mirrored_1 f W hf hT, fun W => rMirrored_1 f W hf⟩
  · exact ⟨_, 0, fun W hT => Mirrored_2 f W hf hT, fun W => rMirrored_2 f W hf⟩
  · exact ⟨_, 1, fun W _ => Mirrored_no f a W h, fun W => rMirrored_no f a W h⟩
theorem placed_pair (f : Sol) (hf : Fit f) (t x y z : Int) : ∃ r1 r2 e, eqS r1 r2 = true ∧
    (∀ W : World, Tab64 W → Calls Tryz.prog 48 #[sol f, .agg #[.int .i64 (t), .int .i64 (x), .int .i64 (y), .int .i64 (z)]] W (RetB (.tuple #[sol r1, .int .i64 e]) W)) ∧
    (∀ W : World, Calls Tryz.prog 49 #[sol f, .agg #[.int .i64 (t), .int .i64 (x), .int .i64 (y), .int .i64 (z)]] W (RetB (.tuple #[sol r2, .int .i64 e]) W)) := by
  cases hm : motB t x y z with
  | false => exact ⟨fun _ => 0, fun _ => 0, 1, by decide, fun W _ => Placed_no f t x y z W hm, fun W => rPlaced_no f t x y z W hm⟩
  | true =>
    unfold motB at hm
    rw [Bool.and_eq_true] at hm
    have ht := of_decide_eq_true hm.1
    obtain ⟨n, rfl⟩ := Int.eq_ofNat_of_zero_le ht.1
    obtain ⟨r1, r2, e, h, h1, h2⟩ := moved_pair (turnedF f n) (turnedF_fit f n) x y z
    exact ⟨r1, r2, e, h, fun W hT => Placed_of f r1 n x y z e W hf (by omega) hm.2 hT h1, fun W => rPlaced_of f r2 n x y z e W hf (by omega) hm.2 h2⟩
theorem eq_refl' (f : Sol) : eqS f f = true := decide_eq_true ⟨rfl, rfl, rfl, rfl, rfl, rfl, rfl, rfl⟩
theorem motions_of (f : Sol) (hf : Fit f) (turn axis x y z t u v s : Int) (w : World) (hT : Tab64 w) :
    Calls Tryz.prog 5 #[sol f, .int .i64 turn, .int .i64 axis, .int .i64 x, .int .i64 y, .int .i64 z, .agg #[.int .i64 (t), .int .i64 (u), .int .i64 (v), .int .i64 (s)]] w (RetB (.bool true) w) := by
  obtain ⟨a, ea, A1, A2⟩ := turned_pair f hf turn
  obtain ⟨c1, c2, ec, hc, C1, C2⟩ := moved_pair f hf x y z
  obtain ⟨m, em, M1, M2⟩ := mirrored_pair f hf axis
  obtain ⟨p1, p2, ep, hp, P1, P2⟩ := placed_pair f hf t u v s
  exact motions_core f a a c1 c2 m m p1 p2 turn axis x y z t u v s ea ec em ep w hT (Lib.hid A1) (Lib.hid A2) (Lib.hid C1) (Lib.hid C2) (Lib.hid M1) (Lib.hid M2) (Lib.hid P1) (Lib.hid P2) (Lib.hid fun W h => carved_of ev_cav W h) (eq_refl' a) hc (eq_refl' m) hp
end Go.Proofs.YtadkaplafaeebaaGreatDoor
/-
  Placed of a motion: what it places, or that a cell leaves the grid.
-/
set_option linter.unusedVariables false
set_option linter.unusedSimpArgs false
namespace Go.Proofs.YtadkaplafaeebaaGreatDoor
open Go Go.RowKit

theorem has_turned_mv {f : Sol} {t : Nat} (v p : I3) : (∃ c, hasI (turnedF f t) c = true ∧ plus c v = p) ↔ ∃ c, hasI f c = true ∧ mvA t v c = p := by
  constructor
  · rintro ⟨c, hc, e⟩
    obtain ⟨d, hd, e'⟩ := (has_turn c).1 hc
    exact ⟨d, hd, by rw [← e, ← e']; rfl⟩
  · rintro ⟨c, hc, e⟩
    exact ⟨turnI 7 t c, (has_turn _).2 ⟨c, hc, rfl⟩, e⟩
theorem placed_at (f : Sol) (hf : Fit f) {t : Nat} (ht : t < 24) (x y z : Int) (hm : mvB x y z = true) :
    (∃ r, Fit r ∧ (∀ p, hasI r p = true ↔ ∃ c, hasI f c = true ∧ mvA t (x, y, z) c = p) ∧ (∀ c, hasI f c = true → In7 (mvA t (x, y, z) c)) ∧
      ∀ W : World, Tab64 W → Calls Tryz.prog 48 #[sol f, .agg #[.int .i64 (t), .int .i64 (x), .int .i64 (y), .int .i64 (z)]] W (RetB (.tuple #[sol r, .int .i64 0]) W)) ∨
    ((∃ c, hasI f c = true ∧ ¬ In7 (mvA t (x, y, z) c)) ∧ ∀ W : World, Tab64 W → Calls Tryz.prog 48 #[sol f, .agg #[.int .i64 (t), .int .i64 (x), .int .i64 (y), .int .i64 (z)]] W (RetB (.tuple #[sol (fun _ => 0), .int .i64 20]) W)) := by
  have hg := turnedF_fit f t
  cases he : emptyS (turnedF f t) with
  | true =>
    have hn := (empty_has hg).1 he
    have hn' : ∀ c, hasI f c = true → False := fun c hc => by
      have := hn (turnI 7 t c)
      rw [(has_turn _).2 ⟨c, hc, rfl⟩] at this
      cases this
    refine .inl ⟨turnedF f t, hg, fun p => ⟨fun h => ?_, fun ⟨c, hc, _⟩ => (hn' c hc).elim⟩, fun c hc => (hn' c hc).elim, fun W hT => Placed_empty f t x y z W hf ht hm hT he⟩
    rw [hn p] at h
    cases h
  | false =>
    cases ho : outB (turnedF f t) x y z with
    | false =>
      refine .inl ⟨shiftS (turnedF f t) x y z, shiftF_fit hg _ _ _ 8, fun p => ?_, fun c hc => ?_, fun W hT => Placed_of f _ t x y z 0 W hf ht hm hT fun W => moved_in _ x y z W hg he ho⟩
      · rw [has_shift hg ho]
        exact has_turned_mv (x, y, z) p
      · exact (out_has hg he (x, y, z)).1 ho _ ((has_turn _).2 ⟨c, hc, rfl⟩)
    | true =>
      refine .inr ⟨?_, fun W hT => Placed_of f _ t x y z 20 W hf ht hm hT fun W => moved_out _ x y z W hg he ho⟩
      refine Classical.byContradiction fun hno => ?_
      have : outB (turnedF f t) (x, y, z).1 (x, y, z).2.1 (x, y, z).2.2 = false := (out_has hg he (x, y, z)).2 fun p hp => by
        obtain ⟨c, hc, rfl⟩ := (has_turn p).1 hp
        exact Classical.byContradiction fun h7 => hno ⟨c, hc, h7⟩
      rw [show outB (turnedF f t) (x, y, z).1 (x, y, z).2.1 (x, y, z).2.2 = true from ho] at this
      cases this
end Go.Proofs.YtadkaplafaeebaaGreatDoor
