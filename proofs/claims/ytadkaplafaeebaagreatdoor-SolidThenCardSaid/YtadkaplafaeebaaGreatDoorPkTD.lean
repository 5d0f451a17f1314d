/-
  The law of motions one after the other: its walk, the contracts of its callees given.
-/
import Derived.Test.YtadkaplafaeebaaGreatDoorPkW
import Derived.Test.YtadkaplafaeebaaGreatDoorPkG
import Derived.Test.YtadkaplafaeebaaGreatDoorPkTB
import Derived.Test.YtadkaplafaeebaaGreatDoorPkY
import Derived.Test.YtadkaplafaeebaaGreatDoorPkTC
set_option linter.unusedVariables false
set_option linter.unusedSimpArgs false
namespace Go.Proofs.YtadkaplafaeebaaGreatDoor
open Go Go.RowKit

set_option maxRecDepth 100000 in
set_option maxHeartbeats 4000000 in
theorem then_core (f p bk q bo : Sol) (t1 x1 y1 z1 t2 x2 y2 z2 A0 A1 A2 A3 C0 C1 C2 C3 e g i k : Int) (w : World) (hT : Tab64 w)
    (H1 : Hid (∀ W, Calls Tryz.prog 50 #[.agg #[.int .i64 (t1), .int .i64 (x1), .int .i64 (y1), .int .i64 (z1)], .agg #[.int .i64 (t2), .int .i64 (x2), .int .i64 (y2), .int .i64 (z2)]] W (RetB (.tuple #[.agg #[.int .i64 (A0), .int .i64 (A1), .int .i64 (A2), .int .i64 (A3)], .int .i64 e]) W)))
    (H2 : Hid (∀ W, Calls Tryz.prog 51 #[.agg #[.int .i64 (t1), .int .i64 (x1), .int .i64 (y1), .int .i64 (z1)], .agg #[.int .i64 (t2), .int .i64 (x2), .int .i64 (y2), .int .i64 (z2)]] W (RetB (.tuple #[.agg #[.int .i64 (A0), .int .i64 (A1), .int .i64 (A2), .int .i64 (A3)], .int .i64 e]) W)))
    (H3 : Hid (∀ W, Calls Tryz.prog 52 #[.agg #[.int .i64 (t1), .int .i64 (x1), .int .i64 (y1), .int .i64 (z1)]] W (RetB (.tuple #[.agg #[.int .i64 (C0), .int .i64 (C1), .int .i64 (C2), .int .i64 (C3)], .int .i64 g]) W)))
    (H4 : Hid (∀ W, Calls Tryz.prog 53 #[.agg #[.int .i64 (t1), .int .i64 (x1), .int .i64 (y1), .int .i64 (z1)]] W (RetB (.tuple #[.agg #[.int .i64 (C0), .int .i64 (C1), .int .i64 (C2), .int .i64 (C3)], .int .i64 g]) W)))
    (H5 : Hid (∀ W, Tab64 W → Calls Tryz.prog 48 #[sol f, .agg #[.int .i64 (t1), .int .i64 (x1), .int .i64 (y1), .int .i64 (z1)]] W (RetB (.tuple #[sol p, .int .i64 i]) W)))
    (HC : Hid (∀ W, Tab64 W → Calls Tryz.prog 20 #[] W (RetB (.bool true) W)))
    (HV : Hid (i ≠ 0 ∨ i = 0 ∧ eqS bk f = true ∧ (∀ W, Tab64 W → Calls Tryz.prog 48 #[sol p, .agg #[.int .i64 (C0), .int .i64 (C1), .int .i64 (C2), .int .i64 (C3)]] W (RetB (.tuple #[sol bk, .int .i64 0]) W)) ∧
      (∀ W, Tab64 W → Calls Tryz.prog 48 #[sol p, .agg #[.int .i64 (t2), .int .i64 (x2), .int .i64 (y2), .int .i64 (z2)]] W (RetB (.tuple #[sol q, .int .i64 k]) W)) ∧
      ((k ≠ 0 ∨ k = 0 ∧ e ≠ 0) ∨ k = 0 ∧ e = 0 ∧ eqS bo q = true ∧ ∀ W, Tab64 W → Calls Tryz.prog 48 #[sol f, .agg #[.int .i64 (A0), .int .i64 (A1), .int .i64 (A2), .int .i64 (A3)]] W (RetB (.tuple #[sol bo, .int .i64 0]) W)))) :
    Calls Tryz.prog 6 #[.agg #[.int .i64 (t1), .int .i64 (x1), .int .i64 (y1), .int .i64 (z1)], .agg #[.int .i64 (t2), .int .i64 (x2), .int .i64 (y2), .int .i64 (z2)], sol f] w (RetB (.bool true) w) := by
  have HT := Lib.hid hT
  clear hT
  have M_0 : Q4 (((w.alloc (.cells #[.int .i64 (t1), .int .i64 (x1), .int .i64 (y1), .int .i64 (z1)] 46)).alloc (.cells #[.int .i64 (t2), .int .i64 (x2), .int .i64 (y2), .int .i64 (z2)] 46)).alloc (.cells (solC f) 24)) w.heap.size (t1) (x1) (y1) (z1) := (blk_alloc (blk_alloc (blk_new rfl) _) _)
  have N_0 : Q4 (((w.alloc (.cells #[.int .i64 (t1), .int .i64 (x1), .int .i64 (y1), .int .i64 (z1)] 46)).alloc (.cells #[.int .i64 (t2), .int .i64 (x2), .int .i64 (y2), .int .i64 (z2)] 46)).alloc (.cells (solC f) 24)) (w.heap.size + 1) (t2) (x2) (y2) (z2) := (blk_alloc (blk_new (by simp)) _)
  have S_0 : BoxS (((w.alloc (.cells #[.int .i64 (t1), .int .i64 (x1), .int .i64 (y1), .int .i64 (z1)] 46)).alloc (.cells #[.int .i64 (t2), .int .i64 (x2), .int .i64 (y2), .int .i64 (z2)] 46)).alloc (.cells (solC f) 24)) (w.heap.size + 1 + 1) f := (BoxS.new' (by simp))
  have hB0 : Below w.heap.size w (((w.alloc (.cells #[.int .i64 (t1), .int .i64 (x1), .int .i64 (y1), .int .i64 (z1)] 46)).alloc (.cells #[.int .i64 (t2), .int .i64 (x2), .int .i64 (y2), .int .i64 (z2)] 46)).alloc (.cells (solC f) 24)) := by repeat' (first | (with_reducible exact Below.refl _ _) | (with_reducible assumption) | (with_reducible refine Below.alloc ?_ ?_ _) | (with_reducible refine Below.drew ?_) | (with_reducible refine below_drewN ?_ _) | (with_reducible refine Below.setCell ?_ ?_ _) | go_size)
  go_enter Tryz.func6, Tryz.ntmps6
  have cM0 := blk_cell (k := 0) M_0
  have cM1 := blk_cell (k := 1) M_0
  have cM2 := blk_cell (k := 2) M_0
  have cM3 := blk_cell (k := 3) M_0
  simp only [List.getElem?_toArray, List.getElem?_cons_zero, List.getElem?_cons_succ] at cM0 cM1 cM2 cM3
  have cN0 := blk_cell (k := 0) N_0
  have cN1 := blk_cell (k := 1) N_0
  have cN2 := blk_cell (k := 2) N_0
  have cN3 := blk_cell (k := 3) N_0
  simp only [List.getElem?_toArray, List.getElem?_cons_zero, List.getElem?_cons_succ] at cN0 cN1 cN2 cN3
  go_wp2_with fail
  clear cM0 cM1 cM2 cM3 cN0 cN1 cN2 cN3
  refine (H1.out _).mono ?_
  rintro e w1 ⟨rfl, b1⟩
  have M_1 := blk_alloc (blk_below M_0 b1 (blk_lt M_0)) (.cells #[.int .i64 (A0), .int .i64 (A1), .int .i64 (A2), .int .i64 (A3)] 46)
  have N_1 := blk_alloc (blk_below N_0 b1 (blk_lt N_0)) (.cells #[.int .i64 (A0), .int .i64 (A1), .int .i64 (A2), .int .i64 (A3)] 46)
  have S_1 := (S_0.below b1 S_0.lt).alloc (.cells #[.int .i64 (A0), .int .i64 (A1), .int .i64 (A2), .int .i64 (A3)] 46)
  have hB1q : Below w.heap.size w w1 := up b1 hB0
  have hB1 := hB1q.alloc hB1q.size (.cells #[.int .i64 (A0), .int .i64 (A1), .int .i64 (A2), .int .i64 (A3)] 46)
  clear M_0 N_0 S_0 hB0 b1 hB1q
  have A_1 : Q4 (w1.alloc (.cells #[.int .i64 (A0), .int .i64 (A1), .int .i64 (A2), .int .i64 (A3)] 46)) w1.heap.size (A0) (A1) (A2) (A3) := blk_new rfl
  have cM0 := blk_cell (k := 0) M_1
  have cM1 := blk_cell (k := 1) M_1
  have cM2 := blk_cell (k := 2) M_1
  have cM3 := blk_cell (k := 3) M_1
  simp only [List.getElem?_toArray, List.getElem?_cons_zero, List.getElem?_cons_succ] at cM0 cM1 cM2 cM3
  have cN0 := blk_cell (k := 0) N_1
  have cN1 := blk_cell (k := 1) N_1
  have cN2 := blk_cell (k := 2) N_1
  have cN3 := blk_cell (k := 3) N_1
  simp only [List.getElem?_toArray, List.getElem?_cons_zero, List.getElem?_cons_succ] at cN0 cN1 cN2 cN3
  go_wp2_with fail
  clear cM0 cM1 cM2 cM3 cN0 cN1 cN2 cN3
  refine (H2.out _).mono ?_
  rintro e w2 ⟨rfl, b2⟩
  have M_2 := blk_alloc (blk_below M_1 b2 (blk_lt M_1)) (.cells #[.int .i64 (A0), .int .i64 (A1), .int .i64 (A2), .int .i64 (A3)] 46)
  have N_2 := blk_alloc (blk_below N_1 b2 (blk_lt N_1)) (.cells #[.int .i64 (A0), .int .i64 (A1), .int .i64 (A2), .int .i64 (A3)] 46)
  have S_2 := (S_1.below b2 S_1.lt).alloc (.cells #[.int .i64 (A0), .int .i64 (A1), .int .i64 (A2), .int .i64 (A3)] 46)
  have A_2 := blk_alloc (blk_below A_1 b2 (blk_lt A_1)) (.cells #[.int .i64 (A0), .int .i64 (A1), .int .i64 (A2), .int .i64 (A3)] 46)
  have hB2q : Below w.heap.size w w2 := up b2 hB1
  have hB2 := hB2q.alloc hB2q.size (.cells #[.int .i64 (A0), .int .i64 (A1), .int .i64 (A2), .int .i64 (A3)] 46)
  clear M_1 N_1 S_1 A_1 hB1 b2 hB2q
  have B_2 : Q4 (w2.alloc (.cells #[.int .i64 (A0), .int .i64 (A1), .int .i64 (A2), .int .i64 (A3)] 46)) w2.heap.size (A0) (A1) (A2) (A3) := blk_new rfl
  have cM0 := blk_cell (k := 0) M_2
  have cM1 := blk_cell (k := 1) M_2
  have cM2 := blk_cell (k := 2) M_2
  have cM3 := blk_cell (k := 3) M_2
  simp only [List.getElem?_toArray, List.getElem?_cons_zero, List.getElem?_cons_succ] at cM0 cM1 cM2 cM3
  go_wp2_with fail
  clear cM0 cM1 cM2 cM3
  refine (H3.out _).mono ?_
  rintro e w3 ⟨rfl, b3⟩
  have M_3 := blk_alloc (blk_below M_2 b3 (blk_lt M_2)) (.cells #[.int .i64 (C0), .int .i64 (C1), .int .i64 (C2), .int .i64 (C3)] 46)
  have N_3 := blk_alloc (blk_below N_2 b3 (blk_lt N_2)) (.cells #[.int .i64 (C0), .int .i64 (C1), .int .i64 (C2), .int .i64 (C3)] 46)
  have S_3 := (S_2.below b3 S_2.lt).alloc (.cells #[.int .i64 (C0), .int .i64 (C1), .int .i64 (C2), .int .i64 (C3)] 46)
  have A_3 := blk_alloc (blk_below A_2 b3 (blk_lt A_2)) (.cells #[.int .i64 (C0), .int .i64 (C1), .int .i64 (C2), .int .i64 (C3)] 46)
  have B_3 := blk_alloc (blk_below B_2 b3 (blk_lt B_2)) (.cells #[.int .i64 (C0), .int .i64 (C1), .int .i64 (C2), .int .i64 (C3)] 46)
  have hB3q : Below w.heap.size w w3 := up b3 hB2
  have hB3 := hB3q.alloc hB3q.size (.cells #[.int .i64 (C0), .int .i64 (C1), .int .i64 (C2), .int .i64 (C3)] 46)
  clear M_2 N_2 S_2 A_2 B_2 hB2 b3 hB3q
  have C_3 : Q4 (w3.alloc (.cells #[.int .i64 (C0), .int .i64 (C1), .int .i64 (C2), .int .i64 (C3)] 46)) w3.heap.size (C0) (C1) (C2) (C3) := blk_new rfl
  have cM0 := blk_cell (k := 0) M_3
  have cM1 := blk_cell (k := 1) M_3
  have cM2 := blk_cell (k := 2) M_3
  have cM3 := blk_cell (k := 3) M_3
  simp only [List.getElem?_toArray, List.getElem?_cons_zero, List.getElem?_cons_succ] at cM0 cM1 cM2 cM3
  go_wp2_with fail
  clear cM0 cM1 cM2 cM3
  refine (H4.out _).mono ?_
  rintro e w4 ⟨rfl, b4⟩
  have M_4 := blk_alloc (blk_below M_3 b4 (blk_lt M_3)) (.cells #[.int .i64 (C0), .int .i64 (C1), .int .i64 (C2), .int .i64 (C3)] 46)
  have N_4 := blk_alloc (blk_below N_3 b4 (blk_lt N_3)) (.cells #[.int .i64 (C0), .int .i64 (C1), .int .i64 (C2), .int .i64 (C3)] 46)
  have S_4 := (S_3.below b4 S_3.lt).alloc (.cells #[.int .i64 (C0), .int .i64 (C1), .int .i64 (C2), .int .i64 (C3)] 46)
  have A_4 := blk_alloc (blk_below A_3 b4 (blk_lt A_3)) (.cells #[.int .i64 (C0), .int .i64 (C1), .int .i64 (C2), .int .i64 (C3)] 46)
  have B_4 := blk_alloc (blk_below B_3 b4 (blk_lt B_3)) (.cells #[.int .i64 (C0), .int .i64 (C1), .int .i64 (C2), .int .i64 (C3)] 46)
  have C_4 := blk_alloc (blk_below C_3 b4 (blk_lt C_3)) (.cells #[.int .i64 (C0), .int .i64 (C1), .int .i64 (C2), .int .i64 (C3)] 46)
  have hB4q : Below w.heap.size w w4 := up b4 hB3
  have hB4 := hB4q.alloc hB4q.size (.cells #[.int .i64 (C0), .int .i64 (C1), .int .i64 (C2), .int .i64 (C3)] 46)
  clear M_3 N_3 S_3 A_3 B_3 C_3 hB3 b4 hB4q
  have D_4 : Q4 (w4.alloc (.cells #[.int .i64 (C0), .int .i64 (C1), .int .i64 (C2), .int .i64 (C3)] 46)) w4.heap.size (C0) (C1) (C2) (C3) := blk_new rfl
  have hee : (e != e) = false := by simp
  have hgg : (g != g) = false := by simp
  have cM0 := blk_cell (k := 0) M_4
  have cM1 := blk_cell (k := 1) M_4
  have cM2 := blk_cell (k := 2) M_4
  have cM3 := blk_cell (k := 3) M_4
  simp only [List.getElem?_toArray, List.getElem?_cons_zero, List.getElem?_cons_succ] at cM0 cM1 cM2 cM3
  have cS0 := (S_4).cell (k := 0) (by omega); have cS1 := (S_4).cell (k := 1) (by omega); have cS2 := (S_4).cell (k := 2) (by omega); have cS3 := (S_4).cell (k := 3) (by omega); have cS4 := (S_4).cell (k := 4) (by omega); have cS5 := (S_4).cell (k := 5) (by omega); have cS6 := (S_4).cell (k := 6) (by omega); have cS7 := (S_4).cell (k := 7) (by omega)
  have cA0 := blk_cell (k := 0) A_4
  have cA1 := blk_cell (k := 1) A_4
  have cA2 := blk_cell (k := 2) A_4
  have cA3 := blk_cell (k := 3) A_4
  simp only [List.getElem?_toArray, List.getElem?_cons_zero, List.getElem?_cons_succ] at cA0 cA1 cA2 cA3
  have cB0 := blk_cell (k := 0) B_4
  have cB1 := blk_cell (k := 1) B_4
  have cB2 := blk_cell (k := 2) B_4
  have cB3 := blk_cell (k := 3) B_4
  simp only [List.getElem?_toArray, List.getElem?_cons_zero, List.getElem?_cons_succ] at cB0 cB1 cB2 cB3
  have cC0 := blk_cell (k := 0) C_4
  have cC1 := blk_cell (k := 1) C_4
  have cC2 := blk_cell (k := 2) C_4
  have cC3 := blk_cell (k := 3) C_4
  simp only [List.getElem?_toArray, List.getElem?_cons_zero, List.getElem?_cons_succ] at cC0 cC1 cC2 cC3
  have cD0 := blk_cell (k := 0) D_4
  have cD1 := blk_cell (k := 1) D_4
  have cD2 := blk_cell (k := 2) D_4
  have cD3 := blk_cell (k := 3) D_4
  simp only [List.getElem?_toArray, List.getElem?_cons_zero, List.getElem?_cons_succ] at cD0 cD1 cD2 cD3
  go_wp2_with fail
  clear cM0 cM1 cM2 cM3 cS0 cS1 cS2 cS3 cS4 cS5 cS6 cS7 cA0 cA1 cA2 cA3 cB0 cB1 cB2 cB3 cC0 cC1 cC2 cC3 cD0 cD1 cD2 cD3
  refine (H5.out _ (HT.out.below hB4 (Nat.le_refl _))).mono ?_
  rintro e w5 ⟨rfl, b5⟩
  have M_5 := blk_alloc (blk_below M_4 b5 (blk_lt M_4)) (.cells (solC p) 24)
  have N_5 := blk_alloc (blk_below N_4 b5 (blk_lt N_4)) (.cells (solC p) 24)
  have S_5 := (S_4.below b5 S_4.lt).alloc (.cells (solC p) 24)
  have A_5 := blk_alloc (blk_below A_4 b5 (blk_lt A_4)) (.cells (solC p) 24)
  have C_5 := blk_alloc (blk_below C_4 b5 (blk_lt C_4)) (.cells (solC p) 24)
  have hB5q : Below w.heap.size w w5 := up b5 hB4
  have hB5 := hB5q.alloc hB5q.size (.cells (solC p) 24)
  clear M_4 N_4 S_4 A_4 C_4 B_4 D_4 hB4 b5 hB5q
  have P_5 : BoxS (w5.alloc (.cells (solC p) 24)) w5.heap.size p := BoxS.new _ _
  rcases HV.out with hi | ⟨hi, hbk, HK, HQ, hv⟩
  · have hi1 : (i != 0) = true := by simpa using hi
    go_wp2_with fail
    refine (HC.out _ (HT.out.below hB5 (Nat.le_refl _))).mono ?_
    rintro e w6 ⟨rfl, b6⟩
    have M_6 := blk_below M_5 b6 (blk_lt M_5)
    have N_6 := blk_below N_5 b6 (blk_lt N_5)
    have S_6 := S_5.below b6 S_5.lt
    have A_6 := blk_below A_5 b6 (blk_lt A_5)
    have C_6 := blk_below C_5 b6 (blk_lt C_5)
    have P_6 := P_5.below b6 P_5.lt
    have hB6 : Below w.heap.size w w6 := up b6 hB5
    clear M_5 N_5 S_5 A_5 C_5 P_5 hB5 b6
    go_wp2_with fail
    go_ret
    exact ⟨rfl, hB6⟩
  · subst hi
    have HKK := Lib.hid HK
    have HQQ := Lib.hid HQ
    have HVV := Lib.hid hv
    clear HK HQ hv
    have cC0 := blk_cell (k := 0) C_5
    have cC1 := blk_cell (k := 1) C_5
    have cC2 := blk_cell (k := 2) C_5
    have cC3 := blk_cell (k := 3) C_5
    simp only [List.getElem?_toArray, List.getElem?_cons_zero, List.getElem?_cons_succ] at cC0 cC1 cC2 cC3
    have cP0 := (P_5).cell (k := 0) (by omega); have cP1 := (P_5).cell (k := 1) (by omega); have cP2 := (P_5).cell (k := 2) (by omega); have cP3 := (P_5).cell (k := 3) (by omega); have cP4 := (P_5).cell (k := 4) (by omega); have cP5 := (P_5).cell (k := 5) (by omega); have cP6 := (P_5).cell (k := 6) (by omega); have cP7 := (P_5).cell (k := 7) (by omega)
    go_wp2_with fail
    clear cC0 cC1 cC2 cC3 cP0 cP1 cP2 cP3 cP4 cP5 cP6 cP7
    refine (HKK.out _ (HT.out.below hB5 (Nat.le_refl _))).mono ?_
    rintro e w6 ⟨rfl, b6⟩
    have M_6 := blk_alloc (blk_below M_5 b6 (blk_lt M_5)) (.cells (solC bk) 24)
    have N_6 := blk_alloc (blk_below N_5 b6 (blk_lt N_5)) (.cells (solC bk) 24)
    have S_6 := (S_5.below b6 S_5.lt).alloc (.cells (solC bk) 24)
    have A_6 := blk_alloc (blk_below A_5 b6 (blk_lt A_5)) (.cells (solC bk) 24)
    have C_6 := blk_alloc (blk_below C_5 b6 (blk_lt C_5)) (.cells (solC bk) 24)
    have P_6 := (P_5.below b6 P_5.lt).alloc (.cells (solC bk) 24)
    have hB6q : Below w.heap.size w w6 := up b6 hB5
    have hB6 := hB6q.alloc hB6q.size (.cells (solC bk) 24)
    clear M_5 N_5 S_5 A_5 C_5 P_5 hB5 b6 hB6q
    have K_6 : BoxS (w6.alloc (.cells (solC bk) 24)) w6.heap.size bk := BoxS.new _ _
    have cN0 := blk_cell (k := 0) N_6
    have cN1 := blk_cell (k := 1) N_6
    have cN2 := blk_cell (k := 2) N_6
    have cN3 := blk_cell (k := 3) N_6
    simp only [List.getElem?_toArray, List.getElem?_cons_zero, List.getElem?_cons_succ] at cN0 cN1 cN2 cN3
    have cS0 := (S_6).cell (k := 0) (by omega); have cS1 := (S_6).cell (k := 1) (by omega); have cS2 := (S_6).cell (k := 2) (by omega); have cS3 := (S_6).cell (k := 3) (by omega); have cS4 := (S_6).cell (k := 4) (by omega); have cS5 := (S_6).cell (k := 5) (by omega); have cS6 := (S_6).cell (k := 6) (by omega); have cS7 := (S_6).cell (k := 7) (by omega)
    have cP0 := (P_6).cell (k := 0) (by omega); have cP1 := (P_6).cell (k := 1) (by omega); have cP2 := (P_6).cell (k := 2) (by omega); have cP3 := (P_6).cell (k := 3) (by omega); have cP4 := (P_6).cell (k := 4) (by omega); have cP5 := (P_6).cell (k := 5) (by omega); have cP6 := (P_6).cell (k := 6) (by omega); have cP7 := (P_6).cell (k := 7) (by omega)
    have cK0 := (K_6).cell (k := 0) (by omega); have cK1 := (K_6).cell (k := 1) (by omega); have cK2 := (K_6).cell (k := 2) (by omega); have cK3 := (K_6).cell (k := 3) (by omega); have cK4 := (K_6).cell (k := 4) (by omega); have cK5 := (K_6).cell (k := 5) (by omega); have cK6 := (K_6).cell (k := 6) (by omega); have cK7 := (K_6).cell (k := 7) (by omega)
    go_wp2_with fail
    clear cN0 cN1 cN2 cN3 cS0 cS1 cS2 cS3 cS4 cS5 cS6 cS7 cP0 cP1 cP2 cP3 cP4 cP5 cP6 cP7 cK0 cK1 cK2 cK3 cK4 cK5 cK6 cK7
    refine (HQQ.out _ (HT.out.below hB6 (Nat.le_refl _))).mono ?_
    rintro e w7 ⟨rfl, b7⟩
    have M_7 := blk_alloc (blk_below M_6 b7 (blk_lt M_6)) (.cells (solC q) 24)
    have N_7 := blk_alloc (blk_below N_6 b7 (blk_lt N_6)) (.cells (solC q) 24)
    have S_7 := (S_6.below b7 S_6.lt).alloc (.cells (solC q) 24)
    have A_7 := blk_alloc (blk_below A_6 b7 (blk_lt A_6)) (.cells (solC q) 24)
    have C_7 := blk_alloc (blk_below C_6 b7 (blk_lt C_6)) (.cells (solC q) 24)
    have P_7 := (P_6.below b7 P_6.lt).alloc (.cells (solC q) 24)
    have K_7 := (K_6.below b7 K_6.lt).alloc (.cells (solC q) 24)
    have hB7q : Below w.heap.size w w7 := up b7 hB6
    have hB7 := hB7q.alloc hB7q.size (.cells (solC q) 24)
    clear M_6 N_6 S_6 A_6 C_6 P_6 K_6 hB6 b7 hB7q
    have Q_7 : BoxS (w7.alloc (.cells (solC q) 24)) w7.heap.size q := BoxS.new _ _
    rcases HVV.out with hno | ⟨hk, he, hbo, HX⟩
    · rcases hno with hk | ⟨hk, he⟩
      · have hk1 : (k != 0) = true := by simpa using hk
        go_wp2_with fail
        refine (HC.out _ (HT.out.below hB7 (Nat.le_refl _))).mono ?_
        rintro e w8 ⟨rfl, b8⟩
        have M_8 := blk_below M_7 b8 (blk_lt M_7)
        have N_8 := blk_below N_7 b8 (blk_lt N_7)
        have S_8 := S_7.below b8 S_7.lt
        have A_8 := blk_below A_7 b8 (blk_lt A_7)
        have C_8 := blk_below C_7 b8 (blk_lt C_7)
        have P_8 := P_7.below b8 P_7.lt
        have K_8 := K_7.below b8 K_7.lt
        have Q_8 := Q_7.below b8 Q_7.lt
        have hB8 : Below w.heap.size w w8 := up b8 hB7
        clear M_7 N_7 S_7 A_7 C_7 P_7 K_7 Q_7 hB7 b8
        go_wp2_with fail
        go_ret
        exact ⟨rfl, hB8⟩
      · subst hk
        have he1 : (e != 0) = true := by simpa using he
        go_wp2_with fail
        refine (HC.out _ (HT.out.below hB7 (Nat.le_refl _))).mono ?_
        rintro e w8 ⟨rfl, b8⟩
        have M_8 := blk_below M_7 b8 (blk_lt M_7)
        have N_8 := blk_below N_7 b8 (blk_lt N_7)
        have S_8 := S_7.below b8 S_7.lt
        have A_8 := blk_below A_7 b8 (blk_lt A_7)
        have C_8 := blk_below C_7 b8 (blk_lt C_7)
        have P_8 := P_7.below b8 P_7.lt
        have K_8 := K_7.below b8 K_7.lt
        have Q_8 := Q_7.below b8 Q_7.lt
        have hB8 : Below w.heap.size w w8 := up b8 hB7
        clear M_7 N_7 S_7 A_7 C_7 P_7 K_7 Q_7 hB7 b8
        go_wp2_with fail
        go_ret
        exact ⟨rfl, hB8⟩
    · subst hk
      subst he
      have HXX := Lib.hid HX
      clear HX
      have cS0 := (S_7).cell (k := 0) (by omega); have cS1 := (S_7).cell (k := 1) (by omega); have cS2 := (S_7).cell (k := 2) (by omega); have cS3 := (S_7).cell (k := 3) (by omega); have cS4 := (S_7).cell (k := 4) (by omega); have cS5 := (S_7).cell (k := 5) (by omega); have cS6 := (S_7).cell (k := 6) (by omega); have cS7 := (S_7).cell (k := 7) (by omega)
      have cA0 := blk_cell (k := 0) A_7
      have cA1 := blk_cell (k := 1) A_7
      have cA2 := blk_cell (k := 2) A_7
      have cA3 := blk_cell (k := 3) A_7
      simp only [List.getElem?_toArray, List.getElem?_cons_zero, List.getElem?_cons_succ] at cA0 cA1 cA2 cA3
      go_wp2_with fail
      clear cS0 cS1 cS2 cS3 cS4 cS5 cS6 cS7 cA0 cA1 cA2 cA3
      refine (HXX.out _ (HT.out.below hB7 (Nat.le_refl _))).mono ?_
      rintro e w8 ⟨rfl, b8⟩
      have M_8 := blk_alloc (blk_below M_7 b8 (blk_lt M_7)) (.cells (solC bo) 24)
      have N_8 := blk_alloc (blk_below N_7 b8 (blk_lt N_7)) (.cells (solC bo) 24)
      have S_8 := (S_7.below b8 S_7.lt).alloc (.cells (solC bo) 24)
      have A_8 := blk_alloc (blk_below A_7 b8 (blk_lt A_7)) (.cells (solC bo) 24)
      have C_8 := blk_alloc (blk_below C_7 b8 (blk_lt C_7)) (.cells (solC bo) 24)
      have P_8 := (P_7.below b8 P_7.lt).alloc (.cells (solC bo) 24)
      have K_8 := (K_7.below b8 K_7.lt).alloc (.cells (solC bo) 24)
      have Q_8 := (Q_7.below b8 Q_7.lt).alloc (.cells (solC bo) 24)
      have hB8q : Below w.heap.size w w8 := up b8 hB7
      have hB8 := hB8q.alloc hB8q.size (.cells (solC bo) 24)
      clear M_7 N_7 S_7 A_7 C_7 P_7 K_7 Q_7 hB7 b8 hB8q
      have X_8 : BoxS (w8.alloc (.cells (solC bo) 24)) w8.heap.size bo := BoxS.new _ _
      go_wp2_with fail
      refine (HC.out _ (HT.out.below hB8 (Nat.le_refl _))).mono ?_
      rintro e w9 ⟨rfl, b9⟩
      have M_9 := blk_below M_8 b9 (blk_lt M_8)
      have N_9 := blk_below N_8 b9 (blk_lt N_8)
      have S_9 := S_8.below b9 S_8.lt
      have A_9 := blk_below A_8 b9 (blk_lt A_8)
      have C_9 := blk_below C_8 b9 (blk_lt C_8)
      have P_9 := P_8.below b9 P_8.lt
      have K_9 := K_8.below b9 K_8.lt
      have Q_9 := Q_8.below b9 Q_8.lt
      have X_9 := X_8.below b9 X_8.lt
      have hB9 : Below w.heap.size w w9 := up b9 hB8
      clear M_8 N_8 S_8 A_8 C_8 P_8 K_8 Q_8 X_8 hB8 b9
      have cQ0 := (Q_9).cell (k := 0) (by omega); have cQ1 := (Q_9).cell (k := 1) (by omega); have cQ2 := (Q_9).cell (k := 2) (by omega); have cQ3 := (Q_9).cell (k := 3) (by omega); have cQ4 := (Q_9).cell (k := 4) (by omega); have cQ5 := (Q_9).cell (k := 5) (by omega); have cQ6 := (Q_9).cell (k := 6) (by omega); have cQ7 := (Q_9).cell (k := 7) (by omega)
      have cX0 := (X_9).cell (k := 0) (by omega); have cX1 := (X_9).cell (k := 1) (by omega); have cX2 := (X_9).cell (k := 2) (by omega); have cX3 := (X_9).cell (k := 3) (by omega); have cX4 := (X_9).cell (k := 4) (by omega); have cX5 := (X_9).cell (k := 5) (by omega); have cX6 := (X_9).cell (k := 6) (by omega); have cX7 := (X_9).cell (k := 7) (by omega)
      go_wp2_with fail
      clear cQ0 cQ1 cQ2 cQ3 cQ4 cQ5 cQ6 cQ7 cX0 cX1 cX2 cX3 cX4 cX5 cX6 cX7
      go_ret
      exact ⟨rfl, hB9⟩
end Go.Proofs.YtadkaplafaeebaaGreatDoor
/-
  The law of Then and Back, for every two motions and solid.
-/
set_option linter.unusedVariables false
set_option linter.unusedSimpArgs false
namespace Go.Proofs.YtadkaplafaeebaaGreatDoor
open Go Go.RowKit

theorem sm7_of {x y z : Int} (h : mvB x y z = true) : Sm3 7 (x, y, z) := by
  have := of_decide_eq_true h
  unfold Sm3
  simp only
  omega
theorem mv_of7 {p : I3} (h : Sm3 7 p) : mvB p.1 p.2.1 p.2.2 = true := by
  unfold Sm3 at h
  exact decide_eq_true (by omega)
theorem sf_mv {t : Nat} {x y z : Int} (hm : mvB x y z = true) (k : Nat) : Sf (mvA t (x, y, z) (ee k)) := by
  have := mv_bound (t := t) hm k
  unfold Sf
  omega
theorem sf_two {t u : Nat} {x y z a b c : Int} (hm : mvB x y z = true) (hn : mvB a b c = true) (k : Nat) : Sf (mvA u (a, b, c) (mvA t (x, y, z) (ee k))) := by
  have h1 := mv_bound (t := t) hm k
  have h2 := of_decide_eq_true hn
  have h3 : ∀ p : I3, ((-7 ≤ p.1 ∧ p.1 ≤ 14) ∧ (-7 ≤ p.2.1 ∧ p.2.1 ≤ 14) ∧ (-7 ≤ p.2.2 ∧ p.2.2 ≤ 14)) → ((-7 ≤ (turnI 7 u p).1 ∧ (turnI 7 u p).1 ≤ 14) ∧ (-7 ≤ (turnI 7 u p).2.1 ∧ (turnI 7 u p).2.1 ≤ 14) ∧ (-7 ≤ (turnI 7 u p).2.2 ∧ (turnI 7 u p).2.2 ≤ 14)) := by
    intro p hp
    have roll : ∀ (k : Nat) (p : I3), ((-7 ≤ p.1 ∧ p.1 ≤ 14) ∧ (-7 ≤ p.2.1 ∧ p.2.1 ≤ 14) ∧ (-7 ≤ p.2.2 ∧ p.2.2 ≤ 14)) → ((-7 ≤ (rollI 7 k p).1 ∧ (rollI 7 k p).1 ≤ 14) ∧ (-7 ≤ (rollI 7 k p).2.1 ∧ (rollI 7 k p).2.1 ≤ 14) ∧ (-7 ≤ (rollI 7 k p).2.2 ∧ (rollI 7 k p).2.2 ≤ 14)) := by
      intro k p hp
      obtain ⟨x, y, z⟩ := p
      unfold rollI
      split <;> simp_all <;> omega
    have ups : ∀ (n : Nat) (p : I3), ((-7 ≤ p.1 ∧ p.1 ≤ 14) ∧ (-7 ≤ p.2.1 ∧ p.2.1 ≤ 14) ∧ (-7 ≤ p.2.2 ∧ p.2.2 ≤ 14)) → ((-7 ≤ (upN 7 n p).1 ∧ (upN 7 n p).1 ≤ 14) ∧ (-7 ≤ (upN 7 n p).2.1 ∧ (upN 7 n p).2.1 ≤ 14) ∧ (-7 ≤ (upN 7 n p).2.2 ∧ (upN 7 n p).2.2 ≤ 14)) := by
      intro n
      induction n with
      | zero => exact fun p h => h
      | succ n ih =>
        intro p h
        have := ih p h
        unfold upN upI
        simp only
        omega
    exact ups _ _ (roll _ _ hp)
  have h4 := h3 _ h1
  unfold mvA at h4 ⊢
  unfold Sf
  simp only at h4 ⊢
  omega
theorem then_of (f : Sol) (hf : Fit f) (t1 x1 y1 z1 t2 x2 y2 z2 : Int) (w : World) (hT : Tab64 w) :
    Calls Tryz.prog 6 #[.agg #[.int .i64 (t1), .int .i64 (x1), .int .i64 (y1), .int .i64 (z1)], .agg #[.int .i64 (t2), .int .i64 (x2), .int .i64 (y2), .int .i64 (z2)], sol f] w (RetB (.bool true) w) := by
  have HC : Hid (∀ W, Tab64 W → Calls Tryz.prog 20 #[] W (RetB (.bool true) W)) := Lib.hid fun W hW => carved_of ev_cav W hW
  cases hm : motB t1 x1 y1 z1 with
  | false =>
    exact then_core f (fun _ => 0) f f f t1 x1 y1 z1 t2 x2 y2 z2 0 0 0 0 0 0 0 0 1 1 1 0 w hT (Lib.hid fun W => then_no _ _ _ _ _ _ _ _ W (.inl hm)) (Lib.hid fun W => rthen_no _ _ _ _ _ _ _ _ W (.inl hm))
      (Lib.hid fun W => back_no _ _ _ _ W hm) (Lib.hid fun W => rback_no _ _ _ _ W hm) (Lib.hid fun W _ => Placed_no f _ _ _ _ W hm) HC (Lib.hid (.inl (by decide)))
  | true =>
    have hm0 := hm
    unfold motB at hm0
    rw [Bool.and_eq_true] at hm0
    have ht := of_decide_eq_true hm0.1
    have m1 := hm0.2
    obtain ⟨t, rfl⟩ := Int.eq_ofNat_of_zero_le ht.1
    have h1 : t < 24 := by omega
    have hi := inv_lt h1
    obtain ⟨B, hB⟩ : ∃ B, B = turnI 0 (invT t) (neg (x1, y1, z1)) := ⟨_, rfl⟩
    have mB : mvB B.1 B.2.1 B.2.2 = true := mv_of7 (by
      rw [hB]
      refine turnI0_sm ?_ _
      have := sm7_of m1
      unfold Sm3 at *
      simp only at *
      omega)
    have hBK : ∀ W : World, Calls Tryz.prog 52 #[.agg #[.int .i64 ((t : Int)), .int .i64 (x1), .int .i64 (y1), .int .i64 (z1)]] W (RetB (.tuple #[.agg #[.int .i64 ((invT t : Nat)), .int .i64 (B.1), .int .i64 (B.2.1), .int .i64 (B.2.2)], .int .i64 0]) W) := fun W => back_in t x1 y1 z1 B.1 B.2.1 B.2.2 (invT t) W h1 m1 hi (back_to h1) (by rw [hB])
    have hRB : ∀ W : World, Calls Tryz.prog 53 #[.agg #[.int .i64 ((t : Int)), .int .i64 (x1), .int .i64 (y1), .int .i64 (z1)]] W (RetB (.tuple #[.agg #[.int .i64 ((invT t : Nat)), .int .i64 (B.1), .int .i64 (B.2.1), .int .i64 (B.2.2)], .int .i64 0]) W) := fun W => rback_in t x1 y1 z1 (invT t) B W h1 m1 fun W' => by
      have := rof_ok (fun i => mvA t (x1, y1, z1) (ee i)) ee (invT t) W' hi (fun i _ => sf_mv m1 i) (in7_sf (in7_ee 0)) (fun j hj h => by
        have := (of_back h1 (x1, y1, z1) (Nat.lt_trans hj hi)).1 h
        omega) ((of_back h1 (x1, y1, z1) hi).2 rfl)
      rw [show ofV ((fun i => mvA t (x1, y1, z1) (ee i)) 0) (ee 0) (invT t) = B by rw [hB]; exact ofV_back h1 _] at this
      exact this
    have THN : ∃ A0 A1 A2 A3 e, (∀ W : World, Calls Tryz.prog 50 #[.agg #[.int .i64 ((t : Int)), .int .i64 (x1), .int .i64 (y1), .int .i64 (z1)], .agg #[.int .i64 (t2), .int .i64 (x2), .int .i64 (y2), .int .i64 (z2)]] W (RetB (.tuple #[.agg #[.int .i64 (A0), .int .i64 (A1), .int .i64 (A2), .int .i64 (A3)], .int .i64 e]) W)) ∧
        (∀ W : World, Calls Tryz.prog 51 #[.agg #[.int .i64 ((t : Int)), .int .i64 (x1), .int .i64 (y1), .int .i64 (z1)], .agg #[.int .i64 (t2), .int .i64 (x2), .int .i64 (y2), .int .i64 (z2)]] W (RetB (.tuple #[.agg #[.int .i64 (A0), .int .i64 (A1), .int .i64 (A2), .int .i64 (A3)], .int .i64 e]) W)) ∧
        (e ≠ 0 ∨ e = 0 ∧ ∃ u : Nat, u < 24 ∧ t2 = u ∧ mvB x2 y2 z2 = true ∧ A0 = (compT t u : Nat) ∧ (A1, A2, A3) = plus (turnI 0 u (x1, y1, z1)) (x2, y2, z2) ∧ mvB A1 A2 A3 = true) := by
      cases hn : motB t2 x2 y2 z2 with
      | false => exact ⟨0, 0, 0, 0, 1, fun W => then_no _ _ _ _ _ _ _ _ W (.inr ⟨hm, hn⟩), fun W => rthen_no _ _ _ _ _ _ _ _ W (.inr ⟨hm, hn⟩), .inl (by decide)⟩
      | true =>
        unfold motB at hn
        rw [Bool.and_eq_true] at hn
        have ht2 := of_decide_eq_true hn.1
        have m2 := hn.2
        obtain ⟨u, rfl⟩ := Int.eq_ofNat_of_zero_le ht2.1
        have h2 : u < 24 := by omega
        have hc := comp_lt h1 h2
        obtain ⟨a, ha⟩ : ∃ a, a = turnI 0 u (x1, y1, z1) := ⟨_, rfl⟩
        obtain ⟨V, hV⟩ : ∃ V, V = plus a (x2, y2, z2) := ⟨_, rfl⟩
        have hof : ∀ W : World, Calls Tryz.prog 115 #[v12 ee, v12 fun i => mvA u (x2, y2, z2) (mvA t (x1, y1, z1) (ee i))] W fun e w' => e = .returned (.tuple #[.agg #[.int .i64 ((compT t u : Nat)), .int .i64 (V.1), .int .i64 (V.2.1), .int .i64 (V.2.2)], .bool true]) ∧ Below W.heap.size W w' := fun W => by
          have e1 : (fun i => mvA u (x2, y2, z2) (mvA t (x1, y1, z1) (ee i))) = fun i => mvA (compT t u) V (ee i) := by
            funext i
            rw [mvA_two h1 h2, hV, ha]
          have := rof_ok ee (fun i => mvA u (x2, y2, z2) (mvA t (x1, y1, z1) (ee i))) (compT t u) W hc (fun i _ => in7_sf (in7_ee i)) (sf_two m1 m2 0) (fun j hj h => by
            rw [e1] at h
            have := (of_then hc V (Nat.lt_trans hj hc)).1 h
            omega) (by rw [e1]; exact (of_then hc V hc).2 rfl)
          rw [show ofV (ee 0) ((fun i => mvA u (x2, y2, z2) (mvA t (x1, y1, z1) (ee i))) 0) (compT t u) = V by rw [e1]; exact ofV_at V _ _ rfl] at this
          exact this
        cases hv : mvB V.1 V.2.1 V.2.2 with
        | true =>
          exact ⟨_, V.1, V.2.1, V.2.2, 0, fun W => then_in t u x1 y1 z1 x2 y2 z2 a.1 a.2.1 a.2.2 V.1 V.2.1 V.2.2 (compT t u) W h1 h2 m1 m2 hc (by rw [← ha]) (by rw [hV]) (by rw [hV]) (by rw [hV]) hv (comp_to h1 h2),
            fun W => rthen_in t u x1 y1 z1 x2 y2 z2 (compT t u) V _ W h1 h2 m1 m2 hc hof (by rw [if_pos hv]), .inr ⟨rfl, u, h2, rfl, m2, rfl, by rw [← ha, ← hV], hv⟩⟩
        | false =>
          exact ⟨0, 0, 0, 0, 20, fun W => then_out t u x1 y1 z1 x2 y2 z2 a.1 a.2.1 a.2.2 V.1 V.2.1 V.2.2 (compT t u) W h1 h2 m1 m2 hc (by rw [← ha]) (by rw [hV]) (by rw [hV]) (by rw [hV]) hv (comp_to h1 h2),
            fun W => rthen_in t u x1 y1 z1 x2 y2 z2 (compT t u) V _ W h1 h2 m1 m2 hc hof (by rw [if_neg (by rw [hv]; simp)]), .inl (by decide)⟩
    obtain ⟨A0, A1, A2, A3, e, HT1, HT2, HE⟩ := THN
    rcases placed_at f hf h1 x1 y1 z1 m1 with ⟨p, hp, hpi, hpin, HP⟩ | ⟨_, HP⟩
    · have BK : ∃ bk, eqS bk f = true ∧ ∀ W : World, Tab64 W → Calls Tryz.prog 48 #[sol p, .agg #[.int .i64 ((invT t : Nat)), .int .i64 (B.1), .int .i64 (B.2.1), .int .i64 (B.2.2)]] W (RetB (.tuple #[sol bk, .int .i64 0]) W) := by
        have back : ∀ c, mvA (invT t) (B.1, B.2.1, B.2.2) (mvA t (x1, y1, z1) c) = c := fun c => by rw [hB]; exact mvA_back h1 _ c
        rcases placed_at p hp hi B.1 B.2.1 B.2.2 mB with ⟨bk, hbf, hbi, _, HK⟩ | ⟨⟨c, hc, hc7⟩, _⟩
        · refine ⟨bk, has_ext hbf hf fun q => ?_, HK⟩
          rw [hbi q]
          constructor
          · rintro ⟨c, hc, rfl⟩
            obtain ⟨d, hd, rfl⟩ := (hpi c).1 hc
            rw [back]
            exact hd
          · intro hq
            exact ⟨_, (hpi _).2 ⟨q, hq, rfl⟩, back q⟩
        · obtain ⟨d, hd, rfl⟩ := (hpi c).1 hc
          rw [back] at hc7
          exact absurd (has_in7 hd) hc7
      obtain ⟨bk, hbk, HK⟩ := BK
      have PN : ∃ q k, (∀ W : World, Tab64 W → Calls Tryz.prog 48 #[sol p, .agg #[.int .i64 (t2), .int .i64 (x2), .int .i64 (y2), .int .i64 (z2)]] W (RetB (.tuple #[sol q, .int .i64 k]) W)) ∧ (k ≠ 0 ∨ k = 0 ∧ ∃ u : Nat, u < 24 ∧ t2 = u ∧ Fit q ∧ (∀ r, hasI q r = true ↔ ∃ c, hasI p c = true ∧ mvA u (x2, y2, z2) c = r) ∧ ∀ c, hasI p c = true → In7 (mvA u (x2, y2, z2) c)) := by
        cases hn : motB t2 x2 y2 z2 with
        | false => exact ⟨_, 1, fun W _ => Placed_no p _ _ _ _ W hn, .inl (by decide)⟩
        | true =>
          unfold motB at hn
          rw [Bool.and_eq_true] at hn
          have ht2 := of_decide_eq_true hn.1
          obtain ⟨u, rfl⟩ := Int.eq_ofNat_of_zero_le ht2.1
          rcases placed_at p hp (show u < 24 by omega) x2 y2 z2 hn.2 with ⟨q, hq, hqi, hq7, HQ⟩ | ⟨_, HQ⟩
          · exact ⟨q, 0, HQ, .inr ⟨rfl, u, by omega, rfl, hq, hqi, hq7⟩⟩
          · exact ⟨_, 20, HQ, .inl (by decide)⟩
      obtain ⟨q, k, HQ, hk⟩ := PN
      have FIN : ∃ bo, ((k ≠ 0 ∨ k = 0 ∧ e ≠ 0) ∨ k = 0 ∧ e = 0 ∧ eqS bo q = true ∧ ∀ W : World, Tab64 W → Calls Tryz.prog 48 #[sol f, .agg #[.int .i64 (A0), .int .i64 (A1), .int .i64 (A2), .int .i64 (A3)]] W (RetB (.tuple #[sol bo, .int .i64 0]) W)) := by
        rcases hk with hk | ⟨hk, u, hu, ht2, hqf, hqi, hq7⟩
        · exact ⟨f, .inl (.inl hk)⟩
        · rcases HE with he | ⟨he, u', hu', ht2', m2, hA0, hA, mA⟩
          · exact ⟨f, .inl (.inr ⟨hk, he⟩)⟩
          · obtain rfl : u = u' := by omega
            have two : ∀ c, mvA u (x2, y2, z2) (mvA t (x1, y1, z1) c) = mvA (compT t u) (A1, A2, A3) c := fun c => by rw [mvA_two h1 hu, hA]
            rcases placed_at f hf (comp_lt h1 hu) A1 A2 A3 mA with ⟨bo, hbf, hbi, _, HX⟩ | ⟨⟨c, hc, hc7⟩, _⟩
            · refine ⟨bo, .inr ⟨hk, he, has_ext hbf hqf fun r => ?_, fun W hW => by rw [hA0]; exact HX W hW⟩⟩
              rw [hbi r, hqi r]
              constructor
              · rintro ⟨c, hc, rfl⟩
                exact ⟨_, (hpi _).2 ⟨c, hc, rfl⟩, two c⟩
              · rintro ⟨c, hc, rfl⟩
                obtain ⟨d, hd, rfl⟩ := (hpi c).1 hc
                exact ⟨d, hd, (two d).symm⟩
            · refine absurd ?_ hc7
              rw [← two]
              exact hq7 _ ((hpi _).2 ⟨c, hc, rfl⟩)
      obtain ⟨bo, HF⟩ := FIN
      exact then_core f p bk q bo t x1 y1 z1 t2 x2 y2 z2 A0 A1 A2 A3 (invT t : Nat) B.1 B.2.1 B.2.2 e 0 0 k w hT (Lib.hid HT1) (Lib.hid HT2) (Lib.hid hBK) (Lib.hid hRB) (Lib.hid HP) HC (Lib.hid (.inr ⟨rfl, hbk, HK, HQ, HF⟩))
    · exact then_core f (fun _ => 0) f f f t x1 y1 z1 t2 x2 y2 z2 A0 A1 A2 A3 (invT t : Nat) B.1 B.2.1 B.2.2 e 0 20 0 w hT (Lib.hid HT1) (Lib.hid HT2) (Lib.hid hBK) (Lib.hid hRB) (Lib.hid HP) HC (Lib.hid (.inl (by decide)))
end Go.Proofs.YtadkaplafaeebaaGreatDoor
