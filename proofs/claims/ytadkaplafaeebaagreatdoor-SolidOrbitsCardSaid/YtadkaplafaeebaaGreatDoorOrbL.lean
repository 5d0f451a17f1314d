/-
  The law of orbits: its walk, the contracts of its callees given.
-/
import Derived.Test.YtadkaplafaeebaaGreatDoorPkW
import Derived.Test.YtadkaplafaeebaaGreatDoorWant
import Derived.Test.YtadkaplafaeebaaGreatDoorPkL
set_option linter.unusedVariables false
set_option linter.unusedSimpArgs false
namespace Go.Proofs.YtadkaplafaeebaaGreatDoor
open Go Go.RowKit

/-- A solid within a row. -/
def SolAt (W : World) (g k : Nat) (x : Sol) : Prop := ∀ j, j < 8 → W.cell? ⟨g, k * 8 + j, none⟩ = some (.int .u64 (x j : Nat))
theorem SolAt.below {W W' : World} {n g k : Nat} {x : Sol} (h : SolAt W g k x) (hb : Below n W W') (hg : g < n) : SolAt W' g k x := fun j hj => (hb.cell (p := ⟨g, k * 8 + j, none⟩) hg).trans (h j hj)
set_option maxRecDepth 100000 in
set_option maxHeartbeats 2000000 in
theorem orbits_core (f x y cx cf : Sol) (n m k : Nat) (which : Int) (w : World) (hT : Tab64 w) (hm : 0 < m) (hm2 : m ≤ 24) (hn2 : n ≤ 24) (hk : k < m) (hmn : m * n = 24)
    (hk1 : IntKind.i64.wrap (Int.tmod (IntKind.u64.wrap which) (m : Int)) = k)
    (HI : Hid (∀ W, Tab64 W → Calls Tryz.prog 69 #[sol f] W fun e w' => (∃ g cap, e = .returned (.slice (some ⟨g, 0, none⟩) m cap) ∧ g < w'.heap.size ∧ SolAt w' g k x ∧ SolAt w' g 0 y) ∧ Below W.heap.size W w'))
    (HS : Hid (∀ W, Tab64 W → Calls Tryz.prog 67 #[sol f] W fun e w' => (∃ p cap, e = .returned (.slice p n cap)) ∧ Below W.heap.size W w'))
    (HSX : Hid (∀ W, Tab64 W → Calls Tryz.prog 67 #[sol x] W fun e w' => (∃ p cap, e = .returned (.slice p n cap)) ∧ Below W.heap.size W w'))
    (HX : Hid (∀ W, Tab64 W → Calls Tryz.prog 62 #[sol x] W (RetB (sol cx) W)))
    (HF : Hid (∀ W, Tab64 W → Calls Tryz.prog 62 #[sol f] W (RetB (sol cf) W)))
    (HC : Hid (∀ W, Tab64 W → Calls Tryz.prog 20 #[] W (RetB (.bool true) W)))
    (HQ : Hid (eqS cx cf = true)) (HY : Hid (eqS y cf = true)) :
    Calls Tryz.prog 14 #[sol f, .int .i64 which] w (RetB (.bool true) w) := by
  have HT := Lib.hid hT
  clear hT
  have hB0 : Below w.heap.size w (w.alloc (.cells (solC f) 24)) := (Below.refl _ _).alloc (Nat.le_refl _) _
  go_enter Tryz.func14, Tryz.ntmps14
  go_wp2_with fail
  refine (HI.out _ (HT.out.below hB0 (Nat.le_refl _))).mono ?_
  rintro e w1 ⟨⟨g, cp, rfl, lg, X1, Y1⟩, b1⟩
  have hB1 : Below w.heap.size w w1 := up b1 hB0
  have S1 : BoxS w1 w.heap.size f := (BoxS.new w f).below b1 (by simp)
  have lS := S1.lt
  have c0 := (S1).cell (k := 0) (by omega); have c1 := (S1).cell (k := 1) (by omega); have c2 := (S1).cell (k := 2) (by omega); have c3 := (S1).cell (k := 3) (by omega); have c4 := (S1).cell (k := 4) (by omega); have c5 := (S1).cell (k := 5) (by omega); have c6 := (S1).cell (k := 6) (by omega); have c7 := (S1).cell (k := 7) (by omega)
  go_wp2_with fail
  refine (HS.out _ (HT.out.below hB1 (Nat.le_refl _))).mono ?_
  rintro e w2 ⟨⟨p2, c2', rfl⟩, b2⟩
  have hB2 : Below w.heap.size w w2 := up b2 hB1
  have S2 := S1.below b2 lS
  have X2 := X1.below b2 lg
  have Y2 := Y1.below b2 lg
  have lg2 : g < w2.heap.size := Nat.lt_of_lt_of_le lg b2.size
  clear c0 c1 c2 c3 c4 c5 c6 c7 S1 X1 Y1 b1 b2 hB0 hB1 lS lg
  have hmul : IntKind.i64.wrap ((m : Int) * (n : Int)) = 24 := by rw [show (m : Int) * (n : Int) = 24 by exact_mod_cast hmn]; rfl
  have hwm : IntKind.u64.wrap (m : Int) = (m : Int) := by rw [IntKind.wrap_u64]; omega
  have hne : ((m : Int) == 0) = false := by simp; omega
  have k0 := X2 0 (by omega)
  rw [Nat.add_zero] at k0
  have k1 := X2 1 (by omega); have k2 := X2 2 (by omega); have k3 := X2 3 (by omega); have k4 := X2 4 (by omega); have k5 := X2 5 (by omega); have k6 := X2 6 (by omega); have k7 := X2 7 (by omega)
  go_wp2_with fail
  have X4 : BoxS (w2.alloc (.cells (solC x) 24)) w2.heap.size x := BoxS.new w2 x
  have S4 := S2.alloc (.cells (solC x) 24)
  have hB4 := hB2.alloc hB2.size (.cells (solC x) 24)
  have Y4 := Lib.hid (Y2.below ((Below.refl w2.heap.size w2).alloc (Nat.le_refl _) (.cells (solC x) 24)) lg2)
  have lg : g < (w2.alloc (.cells (solC x) 24)).heap.size := by simp; omega
  obtain ⟨XB, hXB⟩ : ∃ XB, XB = w2.heap.size := ⟨_, rfl⟩
  rw [← hXB] at X4 ⊢
  obtain ⟨W0, hW0⟩ : ∃ W0, W0 = w2.alloc (.cells (solC x) 24) := ⟨_, rfl⟩
  rw [← hW0] at X4 S4 Y4 hB4 lg ⊢
  clear hW0 hXB X2 Y2 S2 hB2 lg2 k0 k1 k2 k3 k4 k5 k6 k7
  have lS := S4.lt
  have lX := X4.lt
  have HT4 := Lib.hid (HT.out.below hB4 (Nat.le_refl _))
  have hCd : Below W0.heap.size W0 W0.drew := Below.drew (Below.refl _ _)
  refine wp_region_relG (fun (i : Nat) (v : Value) => match i with | 0 => v = .bool true | 1 => v = .bool true | 2 => v = sol x | 3 => v = sol cx | 4 => v = sol f | 5 => v = sol cf | 6 => v = .bool true | 7 => v = .bool true | 8 => v = .bool true | 9 => v = sol x | 10 => ∃ p cap, v = .slice p n cap | 11 => v = .int .i64 n | 12 => v = .int .i64 n | 13 => v = .bool true | 14 => v = .bool true | 15 => v = .bool true | 16 => v = .slice (some ⟨g, 0, none⟩) m cp | 17 => v = .pointer (some ⟨g, 0, none⟩) | 18 => v = sol y | 19 => v = sol f | 20 => v = sol cf | 21 => v = .bool true | 22 => v = .bool true | _ => v = .bool true) (fun W => Below W0.heap.size W0 W) (by kernel_rfl) (by kernel_rfl) (by kernel_rfl) hCd (by kernel_rfl) ?hop ?hend
  case hop =>
    intro i o ho a' W hC hin hfix
    have bS := S4.below hC lS
    have bX := X4.below hC lX
    have hT1 := Lib.hid (HT4.out.below hC (Nat.le_refl _))
    have q2 : a'.tmps[2]? = some (.pointer (some ⟨w.heap.size, 0, none⟩)) := hfix 2 (by kernel_rfl)
    have q5 : a'.tmps[5]? = some (.slice (some ⟨g, 0, none⟩) m cp) := hfix 5 (by kernel_rfl)
    have q6 : a'.tmps[6]? = some (.int .i64 n) := hfix 6 (by kernel_rfl)
    have q7 : a'.tmps[7]? = some (.pointer (some ⟨XB, 0, none⟩)) := hfix 7 (by kernel_rfl)
    have y0 := (hC.cell (p := ⟨g, 0, none⟩) lg).trans (Y4.out 0 (by omega))
    have y1 := (hC.cell (p := ⟨g, 1, none⟩) lg).trans (Y4.out 1 (by omega))
    have y2 := (hC.cell (p := ⟨g, 2, none⟩) lg).trans (Y4.out 2 (by omega))
    have y3 := (hC.cell (p := ⟨g, 3, none⟩) lg).trans (Y4.out 3 (by omega))
    have y4 := (hC.cell (p := ⟨g, 4, none⟩) lg).trans (Y4.out 4 (by omega))
    have y5 := (hC.cell (p := ⟨g, 5, none⟩) lg).trans (Y4.out 5 (by omega))
    have y6 := (hC.cell (p := ⟨g, 6, none⟩) lg).trans (Y4.out 6 (by omega))
    have y7 := (hC.cell (p := ⟨g, 7, none⟩) lg).trans (Y4.out 7 (by omega))
    have c0 := (bS).cell (k := 0) (by omega); have c1 := (bS).cell (k := 1) (by omega); have c2 := (bS).cell (k := 2) (by omega); have c3 := (bS).cell (k := 3) (by omega); have c4 := (bS).cell (k := 4) (by omega); have c5 := (bS).cell (k := 5) (by omega); have c6 := (bS).cell (k := 6) (by omega); have c7 := (bS).cell (k := 7) (by omega)
    have d0 := (bX).cell (k := 0) (by omega); have d1 := (bX).cell (k := 1) (by omega); have d2 := (bX).cell (k := 2) (by omega); have d3 := (bX).cell (k := 3) (by omega); have d4 := (bX).cell (k := 4) (by omega); have d5 := (bX).cell (k := 5) (by omega); have d6 := (bX).cell (k := 6) (by omega); have d7 := (bX).cell (k := 7) (by omega)
    have hi : i < 24 := (Array.getElem?_eq_some_iff.1 ho).1
    rcases (show i = 0 ∨ i = 1 ∨ i = 2 ∨ i = 3 ∨ i = 4 ∨ i = 5 ∨ i = 6 ∨ i = 7 ∨ i = 8 ∨ i = 9 ∨ i = 10 ∨ i = 11 ∨ i = 12 ∨ i = 13 ∨ i = 14 ∨ i = 15 ∨ i = 16 ∨ i = 17 ∨ i = 18 ∨ i = 19 ∨ i = 20 ∨ i = 21 ∨ i = 22 ∨ i = 23 by omega) with rfl | rfl | rfl | rfl | rfl | rfl | rfl | rfl | rfl | rfl | rfl | rfl | rfl | rfl | rfl | rfl | rfl | rfl | rfl | rfl | rfl | rfl | rfl | rfl
    · obtain rfl := Option.some.inj ho
      refine ⟨rfl, fun K hK => ?_⟩
      clear hin hfix ho
      go_simp
      refine (HC.out W hT1.out).mono ?_
      rintro e W2 ⟨rfl, hb⟩
      exact hK _ _ rfl (hC.trans (hb.mono hC.size))
    · obtain ⟨v0, rfl, h0⟩ := hin 0 28 (by kernel_rfl) (by kernel_rfl)
      obtain rfl := Option.some.inj ho
      refine ⟨rfl, fun K hK => ?_⟩
      clear hin hfix ho
      go_simp
      exact hK _ _ rfl hC
    · obtain ⟨v1, rfl, h1⟩ := hin 1 29 (by kernel_rfl) (by kernel_rfl)
      obtain rfl := Option.some.inj ho
      refine ⟨wanted_at (j := 1) (t := 29) rfl (by kernel_rfl) h1, fun K hK => ?_⟩
      clear hin hfix ho
      go_simp
      exact hK _ _ rfl hC
    · obtain ⟨v2, rfl, h2⟩ := hin 2 30 (by kernel_rfl) (by kernel_rfl)
      obtain ⟨v1, rfl, h1⟩ := hin 1 29 (by kernel_rfl) (by kernel_rfl)
      obtain rfl := Option.some.inj ho
      refine ⟨wanted_at (j := 1) (t := 29) rfl (by kernel_rfl) h1, fun K hK => ?_⟩
      clear hin hfix ho
      go_simp
      refine (HX.out W hT1.out).mono ?_
      rintro e W2 ⟨rfl, hb⟩
      exact hK _ _ rfl (hC.trans (hb.mono hC.size))
    · obtain ⟨v1, rfl, h1⟩ := hin 1 29 (by kernel_rfl) (by kernel_rfl)
      obtain rfl := Option.some.inj ho
      refine ⟨wanted_at (j := 1) (t := 29) rfl (by kernel_rfl) h1, fun K hK => ?_⟩
      clear hin hfix ho
      go_simp
      exact hK _ _ rfl hC
    · obtain ⟨v4, rfl, h4⟩ := hin 4 32 (by kernel_rfl) (by kernel_rfl)
      obtain ⟨v1, rfl, h1⟩ := hin 1 29 (by kernel_rfl) (by kernel_rfl)
      obtain rfl := Option.some.inj ho
      refine ⟨wanted_at (j := 1) (t := 29) rfl (by kernel_rfl) h1, fun K hK => ?_⟩
      clear hin hfix ho
      go_simp
      refine (HF.out W hT1.out).mono ?_
      rintro e W2 ⟨rfl, hb⟩
      exact hK _ _ rfl (hC.trans (hb.mono hC.size))
    · obtain ⟨v3, rfl, h3⟩ := hin 3 31 (by kernel_rfl) (by kernel_rfl)
      obtain ⟨v5, rfl, h5⟩ := hin 5 33 (by kernel_rfl) (by kernel_rfl)
      obtain ⟨v1, rfl, h1⟩ := hin 1 29 (by kernel_rfl) (by kernel_rfl)
      obtain rfl := Option.some.inj ho
      refine ⟨wanted_at (j := 1) (t := 29) rfl (by kernel_rfl) h1, fun K hK => ?_⟩
      clear hin hfix ho
      have hq := HQ.out
      go_simp
      exact hK _ _ rfl hC
    · obtain ⟨v1, rfl, h1⟩ := hin 1 29 (by kernel_rfl) (by kernel_rfl)
      obtain ⟨v6, rfl, h6⟩ := hin 6 34 (by kernel_rfl) (by kernel_rfl)
      obtain rfl := Option.some.inj ho
      refine ⟨rfl, fun K hK => ?_⟩
      clear hin hfix ho
      go_simp
      exact hK _ _ rfl hC
    · obtain ⟨v7, rfl, h7⟩ := hin 7 35 (by kernel_rfl) (by kernel_rfl)
      obtain rfl := Option.some.inj ho
      refine ⟨rfl, fun K hK => ?_⟩
      clear hin hfix ho
      go_simp
      exact hK _ _ rfl hC
    · obtain ⟨v8, rfl, h8⟩ := hin 8 36 (by kernel_rfl) (by kernel_rfl)
      obtain rfl := Option.some.inj ho
      refine ⟨wanted_at (j := 8) (t := 36) rfl (by kernel_rfl) h8, fun K hK => ?_⟩
      clear hin hfix ho
      go_simp
      exact hK _ _ rfl hC
    · obtain ⟨v9, rfl, h9⟩ := hin 9 37 (by kernel_rfl) (by kernel_rfl)
      obtain ⟨v8, rfl, h8⟩ := hin 8 36 (by kernel_rfl) (by kernel_rfl)
      obtain rfl := Option.some.inj ho
      refine ⟨wanted_at (j := 8) (t := 36) rfl (by kernel_rfl) h8, fun K hK => ?_⟩
      clear hin hfix ho
      go_simp
      refine (HSX.out W hT1.out).mono ?_
      rintro e W2 ⟨⟨p, cap, rfl⟩, hb⟩
      exact hK _ _ ⟨p, cap, rfl⟩ (hC.trans (hb.mono hC.size))
    · obtain ⟨v10, ⟨p10, cap10, rfl⟩, h10⟩ := hin 10 38 (by kernel_rfl) (by kernel_rfl)
      obtain ⟨v8, rfl, h8⟩ := hin 8 36 (by kernel_rfl) (by kernel_rfl)
      obtain rfl := Option.some.inj ho
      refine ⟨wanted_at (j := 8) (t := 36) rfl (by kernel_rfl) h8, fun K hK => ?_⟩
      clear hin hfix ho
      go_simp
      exact hK _ _ rfl hC
    · obtain ⟨v8, rfl, h8⟩ := hin 8 36 (by kernel_rfl) (by kernel_rfl)
      obtain rfl := Option.some.inj ho
      refine ⟨wanted_at (j := 8) (t := 36) rfl (by kernel_rfl) h8, fun K hK => ?_⟩
      clear hin hfix ho
      go_simp
      exact hK _ _ rfl hC
    · obtain ⟨v11, rfl, h11⟩ := hin 11 39 (by kernel_rfl) (by kernel_rfl)
      obtain ⟨v12, rfl, h12⟩ := hin 12 40 (by kernel_rfl) (by kernel_rfl)
      obtain ⟨v8, rfl, h8⟩ := hin 8 36 (by kernel_rfl) (by kernel_rfl)
      obtain rfl := Option.some.inj ho
      refine ⟨wanted_at (j := 8) (t := 36) rfl (by kernel_rfl) h8, fun K hK => ?_⟩
      clear hin hfix ho
      have hnn : ((n : Int) == (n : Int)) = true := by simp
      go_simp
      first | exact hK _ _ rfl hC | (rw [hnn]; exact hK _ _ rfl hC)
    · obtain ⟨v8, rfl, h8⟩ := hin 8 36 (by kernel_rfl) (by kernel_rfl)
      obtain ⟨v13, rfl, h13⟩ := hin 13 41 (by kernel_rfl) (by kernel_rfl)
      obtain rfl := Option.some.inj ho
      refine ⟨rfl, fun K hK => ?_⟩
      clear hin hfix ho
      go_simp
      exact hK _ _ rfl hC
    · obtain ⟨v14, rfl, h14⟩ := hin 14 42 (by kernel_rfl) (by kernel_rfl)
      obtain rfl := Option.some.inj ho
      refine ⟨rfl, fun K hK => ?_⟩
      clear hin hfix ho
      go_simp
      exact hK _ _ rfl hC
    · obtain ⟨v15, rfl, h15⟩ := hin 15 43 (by kernel_rfl) (by kernel_rfl)
      obtain rfl := Option.some.inj ho
      refine ⟨wanted_at (j := 15) (t := 43) rfl (by kernel_rfl) h15, fun K hK => ?_⟩
      clear hin hfix ho
      go_simp
      exact hK _ _ rfl hC
    · obtain ⟨v16, rfl, h16⟩ := hin 16 44 (by kernel_rfl) (by kernel_rfl)
      obtain ⟨v15, rfl, h15⟩ := hin 15 43 (by kernel_rfl) (by kernel_rfl)
      obtain rfl := Option.some.inj ho
      refine ⟨wanted_at (j := 15) (t := 43) rfl (by kernel_rfl) h15, fun K hK => ?_⟩
      clear hin hfix ho
      go_simp
      exact hK _ _ rfl hC
    · obtain ⟨v17, rfl, h17⟩ := hin 17 45 (by kernel_rfl) (by kernel_rfl)
      obtain ⟨v15, rfl, h15⟩ := hin 15 43 (by kernel_rfl) (by kernel_rfl)
      obtain rfl := Option.some.inj ho
      refine ⟨wanted_at (j := 15) (t := 43) rfl (by kernel_rfl) h15, fun K hK => ?_⟩
      clear hin hfix ho
      go_simp
      exact hK _ _ rfl hC
    · obtain ⟨v15, rfl, h15⟩ := hin 15 43 (by kernel_rfl) (by kernel_rfl)
      obtain rfl := Option.some.inj ho
      refine ⟨wanted_at (j := 15) (t := 43) rfl (by kernel_rfl) h15, fun K hK => ?_⟩
      clear hin hfix ho
      go_simp
      exact hK _ _ rfl hC
    · obtain ⟨v19, rfl, h19⟩ := hin 19 47 (by kernel_rfl) (by kernel_rfl)
      obtain ⟨v15, rfl, h15⟩ := hin 15 43 (by kernel_rfl) (by kernel_rfl)
      obtain rfl := Option.some.inj ho
      refine ⟨wanted_at (j := 15) (t := 43) rfl (by kernel_rfl) h15, fun K hK => ?_⟩
      clear hin hfix ho
      go_simp
      refine (HF.out W hT1.out).mono ?_
      rintro e W2 ⟨rfl, hb⟩
      exact hK _ _ rfl (hC.trans (hb.mono hC.size))
    · obtain ⟨v18, rfl, h18⟩ := hin 18 46 (by kernel_rfl) (by kernel_rfl)
      obtain ⟨v20, rfl, h20⟩ := hin 20 48 (by kernel_rfl) (by kernel_rfl)
      obtain ⟨v15, rfl, h15⟩ := hin 15 43 (by kernel_rfl) (by kernel_rfl)
      obtain rfl := Option.some.inj ho
      refine ⟨wanted_at (j := 15) (t := 43) rfl (by kernel_rfl) h15, fun K hK => ?_⟩
      clear hin hfix ho
      have hq := HY.out
      go_simp
      exact hK _ _ rfl hC
    · obtain ⟨v15, rfl, h15⟩ := hin 15 43 (by kernel_rfl) (by kernel_rfl)
      obtain ⟨v21, rfl, h21⟩ := hin 21 49 (by kernel_rfl) (by kernel_rfl)
      obtain rfl := Option.some.inj ho
      refine ⟨rfl, fun K hK => ?_⟩
      clear hin hfix ho
      go_simp
      exact hK _ _ rfl hC
    · obtain ⟨v22, rfl, h22⟩ := hin 22 50 (by kernel_rfl) (by kernel_rfl)
      obtain rfl := Option.some.inj ho
      refine ⟨rfl, fun K hK => ?_⟩
      clear hin hfix ho
      go_simp
      exact hK _ _ rfl hC
  case hend =>
    intro vals W hC hV
    have r23 := hV 23 (by decide)
    generalize hA2 : putA _ vals _ _ = A
    have eA : A = { tmps := #[sol f, .int .i64 which, .pointer (some ⟨w.heap.size, 0, none⟩), undef, vals 23, .slice (some ⟨g, 0, none⟩) m cp, .int .i64 n, .pointer (some ⟨XB, 0, none⟩), sol f, .slice (some ⟨g, 0, none⟩) m cp, sol f, .slice p2 n c2', .int .i64 n, .slice (some ⟨g, 0, none⟩) m cp, .int .i64 m, .int .i64 n, .int .i64 24, .bool false, .slice (some ⟨g, 0, none⟩) m cp, .int .i64 which, .int .u64 (IntKind.u64.wrap which), .slice (some ⟨g, 0, none⟩) m cp, .int .i64 m, .int .u64 m, .int .u64 ((IntKind.u64.wrap which).tmod (m : Int)), .int .i64 k, .pointer (some ⟨g, k * 8, none⟩), sol x, vals 0, vals 1, vals 2, vals 3, vals 4, vals 5, vals 6, vals 7, vals 8, vals 9, vals 10, vals 11, vals 12, vals 13, vals 14, vals 15, vals 16, vals 17, vals 18, vals 19, vals 20, vals 21, vals 22], defers := [] } := hA2.symm.trans (by kernel_rfl)
    rw [eA]
    clear hA2 eA hV
    simp only at r23
    rw [r23]
    clear r23
    go_wp2
    go_ret
    exact ⟨rfl, hB4.trans (hC.mono hB4.size)⟩
end Go.Proofs.YtadkaplafaeebaaGreatDoor
