/-
  The law of texts: its walk, the contracts of its callees given; the law for every solid and text.
-/
import Derived.Test.YtadkaplafaeebaaGreatDoorPkW
import Derived.Test.YtadkaplafaeebaaGreatDoorTxQ
set_option linter.unusedVariables false
set_option linter.unusedSimpArgs false
namespace Go.Proofs.YtadkaplafaeebaaGreatDoor
open Go Go.RowKit

/-- The table and the two errors lie as laid. -/
def TabE (w : World) : Prop := Tab64 w ∧ ErrW w
theorem TabE.below {n : Nat} {w w' : World} (h : TabE w) (hb : Below n w w') (hn : w.heap.size ≤ n) : TabE w' := ⟨h.1.below hb hn, h.2.below hb hn⟩
set_option maxRecDepth 100000 in
set_option maxHeartbeats 4000000 in
theorem textl_long (f : Sol) (L : List UInt8) (w : World) (hT : TabE w) (hL : 200 < L.length)
    (HC : Hid (∀ W, TabE W → Calls Tryz.prog 20 #[] W (RetB (.bool true) W))) :
    Calls Tryz.prog 11 #[sol f, .string (txt L)] w (RetB (.bool true) w) := by
  have HT := Lib.hid hT
  have hs : (txt L).size = L.length := txt_size L
  have d200 : decide ((200 : Int) < (L.length : Int)) = true := decide_eq_true (by omega)
  clear hT
  have A_0 : BoxS (w.alloc (.cells (solC f) 24)) w.heap.size f := (BoxS.new _ _)
  have hB0 : Below w.heap.size w (w.alloc (.cells (solC f) 24)) := by repeat' (first | (with_reducible exact Below.refl _ _) | (with_reducible assumption) | (with_reducible refine Below.alloc ?_ ?_ _) | (with_reducible refine Below.drew ?_) | (with_reducible refine below_drewN ?_ _) | (with_reducible refine Below.setCell ?_ ?_ _) | go_size)
  go_enter Tryz.func11, Tryz.ntmps11
  go_wp2_with fail
  refine (HC.out _ (HT.out.below hB0 (Nat.le_refl _))).mono ?_
  rintro e w1 ⟨rfl, b1⟩
  have A_1 := A_0.below b1 A_0.lt
  have hB1 : Below w.heap.size w w1 := up b1 hB0
  clear A_0 hB0 b1
  go_wp2_with fail
  go_ret
  exact ⟨rfl, hB1⟩

set_option maxRecDepth 100000 in
set_option maxHeartbeats 4000000 in
theorem textl_coreS (f g : Sol) (A : ByteArray) (L : List UInt8) (w : World) (hT : TabE w) (hL : L.length ≤ 200)
    (C1 : Hid (∀ W, TabE W → Calls Tryz.prog 82 #[sol f] W (RetB (.string A) W)))
    (C2 : Hid (∀ W, TabE W → Calls Tryz.prog 83 #[.string (txt L)] W (RetB (.tuple #[sol g, .int .i64 0]) W)))
    (C3 : Hid (∀ W, Calls Tryz.prog 84 #[.string (txt L)] W (RetB (.tuple #[sol g, .int .i64 0]) W)))
    (C4 : Hid (∀ W, TabE W → Calls Tryz.prog 83 #[.string A] W (RetB (.tuple #[sol f, .int .i64 0]) W)))
    (C5 : Hid (∀ W, Calls Tryz.prog 85 #[sol f] W (RetB (.string A) W)))
    (C6 : Hid (∀ W, TabE W → Calls Tryz.prog 82 #[sol g] W (RetB (.string (txt L)) W)))
    (HC : Hid (∀ W, TabE W → Calls Tryz.prog 20 #[] W (RetB (.bool true) W))) :
    Calls Tryz.prog 11 #[sol f, .string (txt L)] w (RetB (.bool true) w) := by
  have HT := Lib.hid hT
  have hs : (txt L).size = L.length := txt_size L
  have d200 : decide ((200 : Int) < (L.length : Int)) = false := decide_eq_false (by omega)
  have kA : (A.toList == A.toList) = true := by simp
  have kf : eqS f f = true := decide_eq_true ⟨rfl, rfl, rfl, rfl, rfl, rfl, rfl, rfl⟩
  have kg : eqS g g = true := decide_eq_true ⟨rfl, rfl, rfl, rfl, rfl, rfl, rfl, rfl⟩
  have kL : (L == L) = true := by simp
  clear hT
  have A_0 : BoxS (w.alloc (.cells (solC f) 24)) w.heap.size f := (BoxS.new _ _)
  have hB0 : Below w.heap.size w (w.alloc (.cells (solC f) 24)) := by repeat' (first | (with_reducible exact Below.refl _ _) | (with_reducible assumption) | (with_reducible refine Below.alloc ?_ ?_ _) | (with_reducible refine Below.drew ?_) | (with_reducible refine below_drewN ?_ _) | (with_reducible refine Below.setCell ?_ ?_ _) | go_size)
  go_enter Tryz.func11, Tryz.ntmps11
  have cA0 := (A_0).cell (k := 0) (by omega); have cA1 := (A_0).cell (k := 1) (by omega); have cA2 := (A_0).cell (k := 2) (by omega); have cA3 := (A_0).cell (k := 3) (by omega); have cA4 := (A_0).cell (k := 4) (by omega); have cA5 := (A_0).cell (k := 5) (by omega); have cA6 := (A_0).cell (k := 6) (by omega); have cA7 := (A_0).cell (k := 7) (by omega)
  go_wp2_with fail
  clear cA0 cA1 cA2 cA3 cA4 cA5 cA6 cA7
  refine (C1.out _ (HT.out.below hB0 (Nat.le_refl _))).mono ?_
  rintro e w1 ⟨rfl, b1⟩
  have A_1 := A_0.below b1 A_0.lt
  have hB1 : Below w.heap.size w w1 := up b1 hB0
  clear A_0 hB0 b1
  go_wp2_with fail
  refine (C2.out _ (HT.out.below hB1 (Nat.le_refl _))).mono ?_
  rintro e w2 ⟨rfl, b2⟩
  have A_2 := (A_1.below b2 A_1.lt).alloc (.cells (solC g) 24)
  have hB2q : Below w.heap.size w w2 := up b2 hB1
  have hB2 := hB2q.alloc hB2q.size (.cells (solC g) 24)
  clear A_1 hB1 b2 hB2q
  have X_2 : BoxS (w2.alloc (.cells (solC g) 24)) w2.heap.size g := BoxS.new _ _
  go_wp2_with fail
  refine (C3.out _).mono ?_
  rintro e w3 ⟨rfl, b3⟩
  have A_3 := (A_2.below b3 A_2.lt).alloc (.cells (solC g) 24)
  have X_3 := (X_2.below b3 X_2.lt).alloc (.cells (solC g) 24)
  have hB3q : Below w.heap.size w w3 := up b3 hB2
  have hB3 := hB3q.alloc hB3q.size (.cells (solC g) 24)
  clear A_2 X_2 hB2 b3 hB3q
  have Y_3 : BoxS (w3.alloc (.cells (solC g) 24)) w3.heap.size g := BoxS.new _ _
  go_wp2_with fail
  refine (C4.out _ (HT.out.below hB3 (Nat.le_refl _))).mono ?_
  rintro e w4 ⟨rfl, b4⟩
  have A_4 := (A_3.below b4 A_3.lt).alloc (.cells (solC f) 24)
  have X_4 := (X_3.below b4 X_3.lt).alloc (.cells (solC f) 24)
  have Y_4 := (Y_3.below b4 Y_3.lt).alloc (.cells (solC f) 24)
  have hB4q : Below w.heap.size w w4 := up b4 hB3
  have hB4 := hB4q.alloc hB4q.size (.cells (solC f) 24)
  clear A_3 X_3 Y_3 hB3 b4 hB4q
  have Z_4 : BoxS (w4.alloc (.cells (solC f) 24)) w4.heap.size f := BoxS.new _ _
  have cA0 := (A_4).cell (k := 0) (by omega); have cA1 := (A_4).cell (k := 1) (by omega); have cA2 := (A_4).cell (k := 2) (by omega); have cA3 := (A_4).cell (k := 3) (by omega); have cA4 := (A_4).cell (k := 4) (by omega); have cA5 := (A_4).cell (k := 5) (by omega); have cA6 := (A_4).cell (k := 6) (by omega); have cA7 := (A_4).cell (k := 7) (by omega)
  go_wp2_with fail
  clear cA0 cA1 cA2 cA3 cA4 cA5 cA6 cA7
  refine (C5.out _).mono ?_
  rintro e w5 ⟨rfl, b5⟩
  have A_5 := A_4.below b5 A_4.lt
  have X_5 := X_4.below b5 X_4.lt
  have Y_5 := Y_4.below b5 Y_4.lt
  have Z_5 := Z_4.below b5 Z_4.lt
  have hB5 : Below w.heap.size w w5 := up b5 hB4
  clear A_4 X_4 Y_4 Z_4 hB4 b5
  have cA0 := (A_5).cell (k := 0) (by omega); have cA1 := (A_5).cell (k := 1) (by omega); have cA2 := (A_5).cell (k := 2) (by omega); have cA3 := (A_5).cell (k := 3) (by omega); have cA4 := (A_5).cell (k := 4) (by omega); have cA5 := (A_5).cell (k := 5) (by omega); have cA6 := (A_5).cell (k := 6) (by omega); have cA7 := (A_5).cell (k := 7) (by omega)
  have cX0 := (X_5).cell (k := 0) (by omega); have cX1 := (X_5).cell (k := 1) (by omega); have cX2 := (X_5).cell (k := 2) (by omega); have cX3 := (X_5).cell (k := 3) (by omega); have cX4 := (X_5).cell (k := 4) (by omega); have cX5 := (X_5).cell (k := 5) (by omega); have cX6 := (X_5).cell (k := 6) (by omega); have cX7 := (X_5).cell (k := 7) (by omega)
  have cY0 := (Y_5).cell (k := 0) (by omega); have cY1 := (Y_5).cell (k := 1) (by omega); have cY2 := (Y_5).cell (k := 2) (by omega); have cY3 := (Y_5).cell (k := 3) (by omega); have cY4 := (Y_5).cell (k := 4) (by omega); have cY5 := (Y_5).cell (k := 5) (by omega); have cY6 := (Y_5).cell (k := 6) (by omega); have cY7 := (Y_5).cell (k := 7) (by omega)
  have cZ0 := (Z_5).cell (k := 0) (by omega); have cZ1 := (Z_5).cell (k := 1) (by omega); have cZ2 := (Z_5).cell (k := 2) (by omega); have cZ3 := (Z_5).cell (k := 3) (by omega); have cZ4 := (Z_5).cell (k := 4) (by omega); have cZ5 := (Z_5).cell (k := 5) (by omega); have cZ6 := (Z_5).cell (k := 6) (by omega); have cZ7 := (Z_5).cell (k := 7) (by omega)
  go_wp2_with fail
  clear cA0 cA1 cA2 cA3 cA4 cA5 cA6 cA7 cX0 cX1 cX2 cX3 cX4 cX5 cX6 cX7 cY0 cY1 cY2 cY3 cY4 cY5 cY6 cY7 cZ0 cZ1 cZ2 cZ3 cZ4 cZ5 cZ6 cZ7
  refine (HC.out _ (HT.out.below hB5 (Nat.le_refl _))).mono ?_
  rintro e w6 ⟨rfl, b6⟩
  have A_6 := A_5.below b6 A_5.lt
  have X_6 := X_5.below b6 X_5.lt
  have Y_6 := Y_5.below b6 Y_5.lt
  have Z_6 := Z_5.below b6 Z_5.lt
  have hB6 : Below w.heap.size w w6 := up b6 hB5
  clear A_5 X_5 Y_5 Z_5 hB5 b6
  have cX0 := (X_6).cell (k := 0) (by omega); have cX1 := (X_6).cell (k := 1) (by omega); have cX2 := (X_6).cell (k := 2) (by omega); have cX3 := (X_6).cell (k := 3) (by omega); have cX4 := (X_6).cell (k := 4) (by omega); have cX5 := (X_6).cell (k := 5) (by omega); have cX6 := (X_6).cell (k := 6) (by omega); have cX7 := (X_6).cell (k := 7) (by omega)
  go_wp2_with fail
  clear cX0 cX1 cX2 cX3 cX4 cX5 cX6 cX7
  refine (C6.out _ (HT.out.below hB6 (Nat.le_refl _))).mono ?_
  rintro e w7 ⟨rfl, b7⟩
  have A_7 := A_6.below b7 A_6.lt
  have X_7 := X_6.below b7 X_6.lt
  have Y_7 := Y_6.below b7 Y_6.lt
  have Z_7 := Z_6.below b7 Z_6.lt
  have hB7 : Below w.heap.size w w7 := up b7 hB6
  clear A_6 X_6 Y_6 Z_6 hB6 b7
  go_wp2_with fail
  go_ret
  exact ⟨rfl, hB7⟩
set_option maxRecDepth 100000 in
set_option maxHeartbeats 4000000 in
theorem textl_coreN (f g : Sol) (A : ByteArray) (L : List UInt8) (w : World) (hT : TabE w) (hL : L.length ≤ 200)
    (C1 : Hid (∀ W, TabE W → Calls Tryz.prog 82 #[sol f] W (RetB (.string A) W)))
    (C2 : Hid (∀ W, TabE W → Calls Tryz.prog 83 #[.string (txt L)] W (RetB (.tuple #[sol g, .int .i64 4]) W)))
    (C3 : Hid (∀ W, Calls Tryz.prog 84 #[.string (txt L)] W (RetB (.tuple #[sol g, .int .i64 4]) W)))
    (C4 : Hid (∀ W, TabE W → Calls Tryz.prog 83 #[.string A] W (RetB (.tuple #[sol f, .int .i64 0]) W)))
    (C5 : Hid (∀ W, Calls Tryz.prog 85 #[sol f] W (RetB (.string A) W)))
    (HC : Hid (∀ W, TabE W → Calls Tryz.prog 20 #[] W (RetB (.bool true) W))) :
    Calls Tryz.prog 11 #[sol f, .string (txt L)] w (RetB (.bool true) w) := by
  have HT := Lib.hid hT
  have hs : (txt L).size = L.length := txt_size L
  have d200 : decide ((200 : Int) < (L.length : Int)) = false := decide_eq_false (by omega)
  have kA : (A.toList == A.toList) = true := by simp
  have kf : eqS f f = true := decide_eq_true ⟨rfl, rfl, rfl, rfl, rfl, rfl, rfl, rfl⟩
  have kg : eqS g g = true := decide_eq_true ⟨rfl, rfl, rfl, rfl, rfl, rfl, rfl, rfl⟩
  have kL : (L == L) = true := by simp
  clear hT
  have A_0 : BoxS (w.alloc (.cells (solC f) 24)) w.heap.size f := (BoxS.new _ _)
  have hB0 : Below w.heap.size w (w.alloc (.cells (solC f) 24)) := by repeat' (first | (with_reducible exact Below.refl _ _) | (with_reducible assumption) | (with_reducible refine Below.alloc ?_ ?_ _) | (with_reducible refine Below.drew ?_) | (with_reducible refine below_drewN ?_ _) | (with_reducible refine Below.setCell ?_ ?_ _) | go_size)
  go_enter Tryz.func11, Tryz.ntmps11
  have cA0 := (A_0).cell (k := 0) (by omega); have cA1 := (A_0).cell (k := 1) (by omega); have cA2 := (A_0).cell (k := 2) (by omega); have cA3 := (A_0).cell (k := 3) (by omega); have cA4 := (A_0).cell (k := 4) (by omega); have cA5 := (A_0).cell (k := 5) (by omega); have cA6 := (A_0).cell (k := 6) (by omega); have cA7 := (A_0).cell (k := 7) (by omega)
  go_wp2_with fail
  clear cA0 cA1 cA2 cA3 cA4 cA5 cA6 cA7
  refine (C1.out _ (HT.out.below hB0 (Nat.le_refl _))).mono ?_
  rintro e w1 ⟨rfl, b1⟩
  have A_1 := A_0.below b1 A_0.lt
  have hB1 : Below w.heap.size w w1 := up b1 hB0
  clear A_0 hB0 b1
  go_wp2_with fail
  refine (C2.out _ (HT.out.below hB1 (Nat.le_refl _))).mono ?_
  rintro e w2 ⟨rfl, b2⟩
  have A_2 := (A_1.below b2 A_1.lt).alloc (.cells (solC g) 24)
  have hB2q : Below w.heap.size w w2 := up b2 hB1
  have hB2 := hB2q.alloc hB2q.size (.cells (solC g) 24)
  clear A_1 hB1 b2 hB2q
  have X_2 : BoxS (w2.alloc (.cells (solC g) 24)) w2.heap.size g := BoxS.new _ _
  go_wp2_with fail
  refine (C3.out _).mono ?_
  rintro e w3 ⟨rfl, b3⟩
  have A_3 := (A_2.below b3 A_2.lt).alloc (.cells (solC g) 24)
  have X_3 := (X_2.below b3 X_2.lt).alloc (.cells (solC g) 24)
  have hB3q : Below w.heap.size w w3 := up b3 hB2
  have hB3 := hB3q.alloc hB3q.size (.cells (solC g) 24)
  clear A_2 X_2 hB2 b3 hB3q
  have Y_3 : BoxS (w3.alloc (.cells (solC g) 24)) w3.heap.size g := BoxS.new _ _
  go_wp2_with fail
  refine (C4.out _ (HT.out.below hB3 (Nat.le_refl _))).mono ?_
  rintro e w4 ⟨rfl, b4⟩
  have A_4 := (A_3.below b4 A_3.lt).alloc (.cells (solC f) 24)
  have X_4 := (X_3.below b4 X_3.lt).alloc (.cells (solC f) 24)
  have Y_4 := (Y_3.below b4 Y_3.lt).alloc (.cells (solC f) 24)
  have hB4q : Below w.heap.size w w4 := up b4 hB3
  have hB4 := hB4q.alloc hB4q.size (.cells (solC f) 24)
  clear A_3 X_3 Y_3 hB3 b4 hB4q
  have Z_4 : BoxS (w4.alloc (.cells (solC f) 24)) w4.heap.size f := BoxS.new _ _
  have cA0 := (A_4).cell (k := 0) (by omega); have cA1 := (A_4).cell (k := 1) (by omega); have cA2 := (A_4).cell (k := 2) (by omega); have cA3 := (A_4).cell (k := 3) (by omega); have cA4 := (A_4).cell (k := 4) (by omega); have cA5 := (A_4).cell (k := 5) (by omega); have cA6 := (A_4).cell (k := 6) (by omega); have cA7 := (A_4).cell (k := 7) (by omega)
  go_wp2_with fail
  clear cA0 cA1 cA2 cA3 cA4 cA5 cA6 cA7
  refine (C5.out _).mono ?_
  rintro e w5 ⟨rfl, b5⟩
  have A_5 := A_4.below b5 A_4.lt
  have X_5 := X_4.below b5 X_4.lt
  have Y_5 := Y_4.below b5 Y_4.lt
  have Z_5 := Z_4.below b5 Z_4.lt
  have hB5 : Below w.heap.size w w5 := up b5 hB4
  clear A_4 X_4 Y_4 Z_4 hB4 b5
  have cA0 := (A_5).cell (k := 0) (by omega); have cA1 := (A_5).cell (k := 1) (by omega); have cA2 := (A_5).cell (k := 2) (by omega); have cA3 := (A_5).cell (k := 3) (by omega); have cA4 := (A_5).cell (k := 4) (by omega); have cA5 := (A_5).cell (k := 5) (by omega); have cA6 := (A_5).cell (k := 6) (by omega); have cA7 := (A_5).cell (k := 7) (by omega)
  have cX0 := (X_5).cell (k := 0) (by omega); have cX1 := (X_5).cell (k := 1) (by omega); have cX2 := (X_5).cell (k := 2) (by omega); have cX3 := (X_5).cell (k := 3) (by omega); have cX4 := (X_5).cell (k := 4) (by omega); have cX5 := (X_5).cell (k := 5) (by omega); have cX6 := (X_5).cell (k := 6) (by omega); have cX7 := (X_5).cell (k := 7) (by omega)
  have cY0 := (Y_5).cell (k := 0) (by omega); have cY1 := (Y_5).cell (k := 1) (by omega); have cY2 := (Y_5).cell (k := 2) (by omega); have cY3 := (Y_5).cell (k := 3) (by omega); have cY4 := (Y_5).cell (k := 4) (by omega); have cY5 := (Y_5).cell (k := 5) (by omega); have cY6 := (Y_5).cell (k := 6) (by omega); have cY7 := (Y_5).cell (k := 7) (by omega)
  have cZ0 := (Z_5).cell (k := 0) (by omega); have cZ1 := (Z_5).cell (k := 1) (by omega); have cZ2 := (Z_5).cell (k := 2) (by omega); have cZ3 := (Z_5).cell (k := 3) (by omega); have cZ4 := (Z_5).cell (k := 4) (by omega); have cZ5 := (Z_5).cell (k := 5) (by omega); have cZ6 := (Z_5).cell (k := 6) (by omega); have cZ7 := (Z_5).cell (k := 7) (by omega)
  go_wp2_with fail
  clear cA0 cA1 cA2 cA3 cA4 cA5 cA6 cA7 cX0 cX1 cX2 cX3 cX4 cX5 cX6 cX7 cY0 cY1 cY2 cY3 cY4 cY5 cY6 cY7 cZ0 cZ1 cZ2 cZ3 cZ4 cZ5 cZ6 cZ7
  refine (HC.out _ (HT.out.below hB5 (Nat.le_refl _))).mono ?_
  rintro e w6 ⟨rfl, b6⟩
  have A_6 := A_5.below b6 A_5.lt
  have X_6 := X_5.below b6 X_5.lt
  have Y_6 := Y_5.below b6 Y_5.lt
  have Z_6 := Z_5.below b6 Z_5.lt
  have hB6 : Below w.heap.size w w6 := up b6 hB5
  clear A_5 X_5 Y_5 Z_5 hB5 b6
  go_wp2_with fail
  go_ret
  exact ⟨rfl, hB6⟩
theorem rdV_same (s : List UInt8) : rdV (rdR s) = rdV (rdF s) := by
  rcases rd_same s with ⟨h1, h2⟩ | ⟨x, y, h1, h2, h3⟩
  · rw [h1, h2]
  · rw [h1, h2]
    show Value.tuple #[sol y, .int .i64 0] = Value.tuple #[sol x, .int .i64 0]
    rw [sol_congr fun k hk => h3 k hk]
theorem rdV_write {f : Sol} (hf : Fit f) : rdV (rdF (writeL f)) = .tuple #[sol f, .int .i64 0] := by
  obtain ⟨y, h1, h2⟩ := rdF_write hf
  rw [h1]
  show Value.tuple #[sol y, .int .i64 0] = _
  rw [sol_congr h2]
theorem rread_ok (L : List UInt8) (hL : L.length ≤ 1000000) (w : World) : Calls Tryz.prog 84 #[.string (txt L)] w (RetB (rdV (rdR L)) w) := by
  by_cases h : L.length ≤ 150
  · exact rread_short L h w
  · have hn : rdR L = none := by
      cases hr : rdR L with
      | none => rfl
      | some x =>
        have h1 := (rdR_some hr).2
        have h2 := writeL_len x
        rw [h1] at h2
        omega
    rw [hn]
    exact rread_long L (by omega) hL w
theorem textl_of (f : Sol) (hf : Fit f) (s : ByteArray) (w : World) (hT : Tab64 w) (hE : ErrW w) :
    Calls Tryz.prog 11 #[sol f, .string s] w (RetB (.bool true) w) := by
  obtain ⟨L, rfl⟩ : ∃ L, s = txt L := ⟨s.data.toList, by cases s; simp [txt]⟩
  have HC : Hid (∀ W, TabE W → Calls Tryz.prog 20 #[] W (RetB (.bool true) W)) := Lib.hid fun W hW => carved_of ev_cav W hW.1
  by_cases hL : L.length ≤ 200
  · have C1 : Hid (∀ W, TabE W → Calls Tryz.prog 82 #[sol f] W (RetB (.string (writeF f)) W)) := Lib.hid fun W hW => write_ok f W hf hW.1
    have C5 : Hid (∀ W, Calls Tryz.prog 85 #[sol f] W (RetB (.string (writeF f)) W)) := Lib.hid fun W => rwrite_ok f hf W
    have C4 : Hid (∀ W, TabE W → Calls Tryz.prog 83 #[.string (writeF f)] W (RetB (.tuple #[sol f, .int .i64 0]) W)) := Lib.hid fun W hW => by
      have h := read_ok (writeL f) (by have := writeL_len f; omega) W hW.1 hW.2
      rw [rdV_write hf] at h
      exact h
    have C2 := fun (W : World) (hW : TabE W) => read_ok L (by omega) W hW.1 hW.2
    have C3 := fun (W : World) => rread_ok L (by omega) W
    rw [rdV_same] at C3
    cases hr : rdF L with
    | none =>
      rw [hr] at C2 C3
      exact textl_coreN f zeroS (writeF f) L w ⟨hT, hE⟩ hL C1 (Lib.hid C2) (Lib.hid C3) C4 C5 HC
    | some x =>
      rw [hr] at C2 C3
      obtain ⟨h1, h2⟩ := rdF_some hr
      refine textl_coreS f x (writeF f) L w ⟨hT, hE⟩ hL C1 (Lib.hid C2) (Lib.hid C3) C4 C5 (Lib.hid fun W hW => ?_) HC
      have h := write_ok x W h1 hW.1
      rw [writeF_eq, h2] at h
      exact h
  · exact textl_long f L w ⟨hT, hE⟩ (by omega) HC
end Go.Proofs.YtadkaplafaeebaaGreatDoor
