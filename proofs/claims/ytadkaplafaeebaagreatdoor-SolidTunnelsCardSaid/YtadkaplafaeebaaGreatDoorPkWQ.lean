/-
  carved: the chapter's examples.
-/
import Derived.Test.YtadkaplafaeebaaGreatDoorPkUQ
set_option linter.unusedVariables false
set_option linter.unusedSimpArgs false
namespace Go.Proofs.YtadkaplafaeebaaGreatDoor
open Go Go.RowKit

abbrev RetB (v : Value) (W : World) : Ending → World → Prop := fun e w' => e = .returned v ∧ Below W.heap.size W w'
set_option maxRecDepth 100000 in
set_option maxHeartbeats 2000000 in
theorem carved_core (h r m : Sol) (w : World) (hT : Tab64 w)
    (HH : Hid (∀ W, Calls Tryz.prog 88 #[] W (RetB (sol h) W))) (HR : Hid (∀ W, Calls Tryz.prog 89 #[] W (RetB (sol r) W)))
    (C1 : Hid (∀ W, Tab64 W → Calls Tryz.prog 48 #[sol h, .agg #[.int .i64 (1), .int .i64 (-5), .int .i64 (0), .int .i64 (0)]] W (RetB (.tuple #[sol m, .int .i64 0]) W)))
    (C2 : Hid (∀ W, Calls Tryz.prog 50 #[.agg #[.int .i64 (1), .int .i64 (2), .int .i64 (0), .int .i64 (0)], .agg #[.int .i64 (1), .int .i64 (0), .int .i64 (0), .int .i64 (0)]] W (RetB (.tuple #[.agg #[.int .i64 (2), .int .i64 (0), .int .i64 (2), .int .i64 (0)], .int .i64 0]) W)))
    (C3 : Hid (∀ W, Calls Tryz.prog 52 #[.agg #[.int .i64 (1), .int .i64 (2), .int .i64 (0), .int .i64 (0)]] W (RetB (.tuple #[.agg #[.int .i64 (3), .int .i64 (0), .int .i64 (2), .int .i64 (0)], .int .i64 0]) W)))
    (C4 : Hid (∀ W, Tab64 W → Calls Tryz.prog 54 #[sol r, sol h] W fun e w' => (∃ a b c d : Int, e = .returned (.tuple #[.agg #[.int .i64 (a), .int .i64 (b), .int .i64 (c), .int .i64 (d)], .bool true])) ∧ Below W.heap.size W w'))
    (C5 : Hid (∀ W, Tab64 W → Calls Tryz.prog 54 #[sol h, sol r] W fun e w' => (∃ a b c d : Int, e = .returned (.tuple #[.agg #[.int .i64 (a), .int .i64 (b), .int .i64 (c), .int .i64 (d)], .bool false])) ∧ Below W.heap.size W w'))
    (C6 : Hid (∀ W, Tab64 W → Calls Tryz.prog 83 #[.string ⟨#[55, 48, 53, 48, 55]⟩] W (RetB (.tuple #[sol r, .int .i64 0]) W)))
    (C7 : Hid (∀ W, Tab64 W → Calls Tryz.prog 67 #[sol r] W fun e w' => ∃ v, e = .returned v ∧ OwnInts W w' v [0, 1, 2, 3, 8, 9, 10, 11] ∧ Below W.heap.size W w'))
    (C8 : Hid (∀ W, Tab64 W → Calls Tryz.prog 82 #[sol h] W (RetB (.string ⟨#[49, 48, 55]⟩) W)))
    (C9 : Hid (∀ W, Tab64 W → Calls Tryz.prog 69 #[sol r] W fun e w' => (∃ p cap, e = .returned (.slice p 3 cap)) ∧ Below W.heap.size W w'))
    (C10 : Hid (∀ W, Tab64 W → Calls Tryz.prog 76 #[sol r] W (RetB (.int .i64 0) W)))
    (C11 : Hid (∀ W, Tab64 W → Calls Tryz.prog 78 #[sol r] W (RetB (.int .i64 1) W)))
    (C12 : Hid (∀ W, Tab64 W → Calls Tryz.prog 80 #[sol r] W (RetB (.int .i64 32) W)))
    (C13 : Hid (∀ W, Tab64 W → Calls Tryz.prog 72 #[.agg #[.int .u64 1, .int .u64 512, .int .u64 0, .int .u64 0, .int .u64 0, .int .u64 0, .int .u64 0, .int .u64 0]] W fun e w' => (∃ p cap, e = .returned (.slice p 1 cap)) ∧ Below W.heap.size W w'))
    (C14 : Hid (∀ W, Tab64 W → Calls Tryz.prog 64 #[sol h, sol m] W (RetB (.bool true) W)))
    (qr : eqS r r = true) (qm : ∀ W, (Op.equalIn 10000 24 (sol m) (.agg #[.int .u64 263174, .int .u64 0, .int .u64 0, .int .u64 0, .int .u64 0, .int .u64 0, .int .u64 0, .int .u64 0])).run Tryz.prog W = .ok true W) :
    Calls Tryz.prog 20 #[] w (RetB (.bool true) w) := by
  have HT := Lib.hid hT
  clear hT
  go_enter Tryz.func20, Tryz.ntmps20
  go_wp2_with fail
  refine (HH.out _).mono ?_
  rintro e w1 ⟨rfl, b1⟩
  have hB1 : Below w.heap.size w w1 := b1
  go_wp2_with fail
  refine (C1.out _ (HT.out.below hB1 (Nat.le_refl _))).mono ?_
  rintro e w2 ⟨rfl, b2⟩
  have hB2 : Below w.heap.size w w2 := up b2 hB1
  have M2 : BoxS (w2.alloc (.cells (solC m) 24)) w2.heap.size m := BoxS.new w2 m
  have hB2' := hB2.alloc hB2.size (.cells (solC m) 24)
  go_wp2_with fail
  refine (C2.out _).mono ?_
  rintro e w3 ⟨rfl, b3⟩
  have hB3 : Below w.heap.size w w3 := up b3 hB2'
  have M3 := M2.below b3 M2.lt
  clear M2 b1 b2 b3 hB1 hB2'
  have T3 : Q4 (w3.alloc (.cells #[.int .i64 (2), .int .i64 (0), .int .i64 (2), .int .i64 (0)] 46)) w3.heap.size 2 0 2 0 := blk_new rfl
  have M3' := M3.alloc (.cells #[.int .i64 (2), .int .i64 (0), .int .i64 (2), .int .i64 (0)] 46)
  have hB3' := hB3.alloc hB3.size (.cells #[.int .i64 (2), .int .i64 (0), .int .i64 (2), .int .i64 (0)] 46)
  go_wp2_with fail
  refine (C3.out _).mono ?_
  rintro e w4 ⟨rfl, b4⟩
  have hB4 : Below w.heap.size w w4 := up b4 hB3'
  have M4 := M3'.below b4 M3'.lt
  have T4 := blk_below T3 b4 (blk_lt T3)
  clear M3 M3' T3 b4 hB3 hB3'
  have K4 : Q4 (w4.alloc (.cells #[.int .i64 (3), .int .i64 (0), .int .i64 (2), .int .i64 (0)] 46)) w4.heap.size 3 0 2 0 := blk_new rfl
  have M4' := M4.alloc (.cells #[.int .i64 (3), .int .i64 (0), .int .i64 (2), .int .i64 (0)] 46)
  have T4' := blk_alloc T4 (.cells #[.int .i64 (3), .int .i64 (0), .int .i64 (2), .int .i64 (0)] 46)
  have hB4' := hB4.alloc hB4.size (.cells #[.int .i64 (3), .int .i64 (0), .int .i64 (2), .int .i64 (0)] 46)
  go_wp2_with fail
  refine (HR.out _).mono ?_
  rintro e w5 ⟨rfl, b5⟩
  go_wp2_with fail
  refine (HH.out _).mono ?_
  rintro e w6 ⟨rfl, b6⟩
  have b56 := b5.trans (b6.mono b5.size)
  have hB6 : Below w.heap.size w w6 := up b56 hB4'
  go_wp2_with fail
  refine (C4.out _ (HT.out.below hB6 (Nat.le_refl _))).mono ?_
  rintro e w7 ⟨⟨f1, f2, f3, f4, rfl⟩, b7⟩
  have b57 := b56.trans (b7.mono b56.size)
  have hB7 : Below w.heap.size w w7 := up b57 hB4'
  have M7 := M4'.below b57 M4'.lt
  have T7 := blk_below T4' b57 (blk_lt T4')
  have K7 := blk_below K4 b57 (blk_lt K4)
  clear M4 M4' T4 T4' K4 b5 b6 b56 b57 b7 hB4 hB4' hB6
  have hB7' := hB7.alloc hB7.size (.cells #[.int .i64 (f1), .int .i64 (f2), .int .i64 (f3), .int .i64 (f4)] 46)
  go_wp2_with fail
  refine (HH.out _).mono ?_
  rintro e w8 ⟨rfl, b8⟩
  go_wp2_with fail
  refine (HR.out _).mono ?_
  rintro e w9 ⟨rfl, b9⟩
  have b89 := b8.trans (b9.mono b8.size)
  have hB9 : Below w.heap.size w w9 := up b89 hB7'
  go_wp2_with fail
  refine (C5.out _ (HT.out.below hB9 (Nat.le_refl _))).mono ?_
  rintro e w10 ⟨⟨g1, g2, g3, g4, rfl⟩, b10⟩
  have b8a := b89.trans (b10.mono b89.size)
  have hB10 : Below w.heap.size w w10 := up b8a hB7'
  have M10 := (M7.alloc (.cells #[.int .i64 (f1), .int .i64 (f2), .int .i64 (f3), .int .i64 (f4)] 46)).below b8a (M7.alloc _).lt
  have T10 := blk_below (blk_alloc T7 (.cells #[.int .i64 (f1), .int .i64 (f2), .int .i64 (f3), .int .i64 (f4)] 46)) b8a (blk_lt (blk_alloc T7 _))
  have K10 := blk_below (blk_alloc K7 (.cells #[.int .i64 (f1), .int .i64 (f2), .int .i64 (f3), .int .i64 (f4)] 46)) b8a (blk_lt (blk_alloc K7 _))
  clear M7 T7 K7 b8 b9 b89 b8a b10 hB7 hB7' hB9
  have hB10' := hB10.alloc hB10.size (.cells #[.int .i64 (g1), .int .i64 (g2), .int .i64 (g3), .int .i64 (g4)] 46)
  go_wp2_with fail
  refine (C6.out _ (HT.out.below hB10' (Nat.le_refl _))).mono ?_
  rintro e w11 ⟨rfl, b11⟩
  have hB11 : Below w.heap.size w w11 := up b11 hB10'
  have M11 := (M10.alloc (.cells #[.int .i64 (g1), .int .i64 (g2), .int .i64 (g3), .int .i64 (g4)] 46)).below b11 (M10.alloc _).lt
  have T11 := blk_below (blk_alloc T10 (.cells #[.int .i64 (g1), .int .i64 (g2), .int .i64 (g3), .int .i64 (g4)] 46)) b11 (blk_lt (blk_alloc T10 _))
  have K11 := blk_below (blk_alloc K10 (.cells #[.int .i64 (g1), .int .i64 (g2), .int .i64 (g3), .int .i64 (g4)] 46)) b11 (blk_lt (blk_alloc K10 _))
  clear M10 T10 K10 b11 hB10 hB10'
  have R12 : BoxS (w11.alloc (.cells (solC r) 24)) w11.heap.size r := BoxS.new w11 r
  have M12 := M11.alloc (.cells (solC r) 24)
  have T12 := blk_alloc T11 (.cells (solC r) 24)
  have K12 := blk_alloc K11 (.cells (solC r) 24)
  have hB12 := hB11.alloc hB11.size (.cells (solC r) 24)
  clear M11 T11 K11
  go_wp2_with fail
  obtain ⟨U, hU⟩ : ∃ U, U = w11.alloc (.cells (solC r) 24) := ⟨_, rfl⟩
  rw [← hU] at R12 M12 T12 K12 hB12 ⊢
  clear hU
  have lR := R12.lt
  have lM := M12.lt
  have lT := blk_lt T12
  have lK := blk_lt K12
  have c0 := (R12).cell (k := 0) (by omega); have c1 := (R12).cell (k := 1) (by omega); have c2 := (R12).cell (k := 2) (by omega); have c3 := (R12).cell (k := 3) (by omega); have c4 := (R12).cell (k := 4) (by omega); have c5 := (R12).cell (k := 5) (by omega); have c6 := (R12).cell (k := 6) (by omega); have c7 := (R12).cell (k := 7) (by omega)
  (refine wp_region_quiet (C := fun w' => Below U.heap.size U w') (by kernel_rfl) (by kernel_rfl) (Below.drew (Below.refl _ _)) ?_; (iterate 26 (refine wpQuiet_step (fun K hK => ?_); go_simp; first | (refine hK _ ?_; clear hK K) | (apply Exists.intro; refine ⟨fun W' hW' => ?_, hK _ ?_⟩; (focus (first | (with_reducible exact rfl) | (with_reducible exact ⟨rfl, rfl⟩) | (obtain ⟨hcq, hfq⟩ := bcell hW'; have hzq := hW'.size; (try go_simp); first | (with_reducible exact rfl) | (with_reducible exact ⟨rfl, rfl⟩) | (refine (HR.out _).mono ?_; rintro e w9 ⟨rfl, hb9⟩; exact ⟨rfl, hW'.trans (hb9.mono hW'.size)⟩)))); clear hK K))); refine wpQuiet_nil ?_; intro w1q hb1q)
  have hB13 : Below w.heap.size w w1q := up hb1q hB12
  have M13 := M12.below hb1q lM
  have T13 := blk_below T12 hb1q lT
  have K13 := blk_below K12 hb1q lK
  clear R12 M12 T12 K12 hB12 hb1q c0 c1 c2 c3 c4 c5 c6 c7 lR lM lT lK
  go_wp2_with fail
  refine (HR.out _).mono ?_
  rintro e w14 ⟨rfl, b14⟩
  have hB14 : Below w.heap.size w w14 := up b14 hB13
  go_wp2_with fail
  refine (C7.out _ (HT.out.below hB14 (Nat.le_refl _))).mono ?_
  rintro e w15 ⟨v, rfl, hO, b15⟩
  have b1b := b14.trans (b15.mono b14.size)
  have hB15 : Below w.heap.size w w15 := up b1b hB13
  have M15 := M13.below b1b M13.lt
  have T15 := blk_below T13 b1b (blk_lt T13)
  have K15 := blk_below K13 b1b (blk_lt K13)
  clear M13 T13 K13 b14 b15 b1b hB13
  go_wp2_with fail
  refine (HH.out _).mono ?_
  rintro e w16 ⟨rfl, b16⟩
  have hB16 : Below w.heap.size w w16 := up b16 hB15
  go_wp2_with fail
  refine (C8.out _ (HT.out.below hB16 (Nat.le_refl _))).mono ?_
  rintro e w17 ⟨rfl, b17⟩
  have b1c := b16.trans (b17.mono b16.size)
  have hB17 : Below w.heap.size w w17 := up b1c hB15
  have M17 := M15.below b1c M15.lt
  have T17 := blk_below T15 b1c (blk_lt T15)
  have K17 := blk_below K15 b1c (blk_lt K15)
  have O17 := row_below hO.1 b1c
  clear M15 T15 K15 hB15 hB16 b16 b17 b1c hO
  have c0 := (M17).cell (k := 0) (by omega); have c1 := (M17).cell (k := 1) (by omega); have c2 := (M17).cell (k := 2) (by omega); have c3 := (M17).cell (k := 3) (by omega); have c4 := (M17).cell (k := 4) (by omega); have c5 := (M17).cell (k := 5) (by omega); have c6 := (M17).cell (k := 6) (by omega); have c7 := (M17).cell (k := 7) (by omega)
  obtain ⟨t0, t1, t2, t3⟩ := Q4.cells T17
  obtain ⟨k0, k1, k2, k3⟩ := Q4.cells K17
  have O18 := O17.alloc (.cells #[.int .i64 0, .int .i64 1, .int .i64 2, .int .i64 3, .int .i64 8, .int .i64 9, .int .i64 10, .int .i64 11] 3)
  have M18 := M17.alloc (.cells #[.int .i64 0, .int .i64 1, .int .i64 2, .int .i64 3, .int .i64 8, .int .i64 9, .int .i64 10, .int .i64 11] 3)
  have hB18 := hB17.alloc hB17.size (.cells #[.int .i64 0, .int .i64 1, .int .i64 2, .int .i64 3, .int .i64 8, .int .i64 9, .int .i64 10, .int .i64 11] 3)
  have V18 : (w17.alloc (.cells #[.int .i64 0, .int .i64 1, .int .i64 2, .int .i64 3, .int .i64 8, .int .i64 9, .int .i64 10, .int .i64 11] 3)).ownsRow w17.heap.size 3 1 (.slice (some ⟨w17.heap.size, 0, none⟩) 8 8) 8 (intL [0, 1, 2, 3, 8, 9, 10, 11]) :=
    ⟨rfl, .inr ⟨w17.heap.size, 8, _, rfl, Nat.le_refl _, World.alloc_heap_new w17 _, by omega, by decide, rfl, rfl⟩⟩
  have s18 := sameInts_ok [0, 1, 2, 3, 8, 9, 10, 11] [0, 1, 2, 3, 8, 9, 10, 11] v _ _ _ _ O18 V18 (by decide) (by decide)
  rw [decide_eq_true rfl] at s18
  have S18 := Lib.hid s18
  clear s18
  go_wp2_with fail
  clear O18 V18 O17 M17 T17 K17 c0 c1 c2 c3 c4 c5 c6 c7 t0 t1 t2 t3 k0 k1 k2 k3
  refine S18.out.mono ?_
  rintro e w19 ⟨rfl, b19⟩
  have M19 := M18.below b19 M18.lt
  have hB19 : Below w.heap.size w w19 := up b19 hB18
  clear M18 hB18 b19
  go_wp2_with fail
  refine (HR.out _).mono ?_
  rintro e w20 ⟨rfl, b20⟩
  have M20 := M19.below b20 M19.lt
  have hB20 : Below w.heap.size w w20 := up b20 hB19
  clear M19 hB19 b20
  go_wp2_with fail
  refine (C9.out _ (HT.out.below hB20 (Nat.le_refl _))).mono ?_
  rintro e w21 ⟨⟨p21, cap21, rfl⟩, b21⟩
  have M21 := M20.below b21 M20.lt
  have hB21 : Below w.heap.size w w21 := up b21 hB20
  clear M20 hB20 b21
  go_wp2_with fail
  refine (HR.out _).mono ?_
  rintro e w22 ⟨rfl, b22⟩
  have M22 := M21.below b22 M21.lt
  have hB22 : Below w.heap.size w w22 := up b22 hB21
  clear M21 hB21 b22
  go_wp2_with fail
  refine (C10.out _ (HT.out.below hB22 (Nat.le_refl _))).mono ?_
  rintro e w23 ⟨rfl, b23⟩
  have M23 := M22.below b23 M22.lt
  have hB23 : Below w.heap.size w w23 := up b23 hB22
  clear M22 hB22 b23
  go_wp2_with fail
  refine (HR.out _).mono ?_
  rintro e w24 ⟨rfl, b24⟩
  have M24 := M23.below b24 M23.lt
  have hB24 : Below w.heap.size w w24 := up b24 hB23
  clear M23 hB23 b24
  go_wp2_with fail
  refine (C11.out _ (HT.out.below hB24 (Nat.le_refl _))).mono ?_
  rintro e w25 ⟨rfl, b25⟩
  have M25 := M24.below b25 M24.lt
  have hB25 : Below w.heap.size w w25 := up b25 hB24
  clear M24 hB24 b25
  go_wp2_with fail
  refine (HR.out _).mono ?_
  rintro e w26 ⟨rfl, b26⟩
  have M26 := M25.below b26 M25.lt
  have hB26 : Below w.heap.size w w26 := up b26 hB25
  clear M25 hB25 b26
  go_wp2_with fail
  refine (C12.out _ (HT.out.below hB26 (Nat.le_refl _))).mono ?_
  rintro e w27 ⟨rfl, b27⟩
  have M27 := M26.below b27 M26.lt
  have hB27 : Below w.heap.size w w27 := up b27 hB26
  clear M26 hB26 b27
  go_wp2_with fail
  have HTd : Hid (Tab64 w27.drew) := Lib.hid (HT.out.below hB27.drew (Nat.le_refl _))
  have lM := M27.lt
  go_region_with (first
    | ((with_reducible refine Calls.mono (C13.out w27.drew HTd.out) ?_); rintro e w28 ⟨⟨p28, cap28, rfl⟩, b28⟩; replace b28 := below_undrew b28; have s28 := b28.size; have M28 := M27.below b28 lM; have hT28 := Lib.hid (HT.out.below (hB27.trans (b28.mono hB27.size)) (Nat.le_refl _)); have hB28 := Lib.hid (hB27.trans (b28.mono hB27.size)); have x0 := (M28).cell (k := 0) (by omega); have x1 := (M28).cell (k := 1) (by omega); have x2 := (M28).cell (k := 2) (by omega); have x3 := (M28).cell (k := 3) (by omega); have x4 := (M28).cell (k := 4) (by omega); have x5 := (M28).cell (k := 5) (by omega); have x6 := (M28).cell (k := 6) (by omega); have x7 := (M28).cell (k := 7) (by omega))
    | ((with_reducible refine Calls.mono (HH.out w28) ?_); rintro e w29 ⟨rfl, b29⟩; have s29 := b29.size; have M29 := M28.below b29 M28.lt; have hT29 := Lib.hid (HT.out.below (hB28.out.trans (b29.mono hB28.out.size)) (Nat.le_refl _)); have hB29 := Lib.hid (hB28.out.trans (b29.mono hB28.out.size)); have y0 := (M29).cell (k := 0) (by omega); have y1 := (M29).cell (k := 1) (by omega); have y2 := (M29).cell (k := 2) (by omega); have y3 := (M29).cell (k := 3) (by omega); have y4 := (M29).cell (k := 4) (by omega); have y5 := (M29).cell (k := 5) (by omega); have y6 := (M29).cell (k := 6) (by omega); have y7 := (M29).cell (k := 7) (by omega))
    | ((with_reducible refine Calls.mono (C14.out w29 hT29.out) ?_); rintro e w30 ⟨rfl, b30⟩))
  all_goals
    go_wp2
    go_ret
    exact ⟨rfl, hB29.out.trans (b30.mono hB29.out.size)⟩
end Go.Proofs.YtadkaplafaeebaaGreatDoor
/-
  carved returns true, if the ring has no cavity.
-/
set_option linter.unusedVariables false
namespace Go.Proofs.YtadkaplafaeebaaGreatDoor
open Go Go.RowKit
theorem cv_sym (W : World) (hT : Tab64 W) : Calls Tryz.prog 67 #[sol ringS] W fun e w' => ∃ v, e = .returned v ∧ OwnInts W w' v [0, 1, 2, 3, 8, 9, 10, 11] ∧ Below W.heap.size W w' := by
  have h := sym_ok ringS W ring_fit ring_ne hT
  rwa [ev_sym] at h
theorem cv_eq (W : World) : (Op.equalIn 10000 24 (sol setS) (.agg #[.int .u64 263174, .int .u64 0, .int .u64 0, .int .u64 0, .int .u64 0, .int .u64 0, .int .u64 0, .int .u64 0])).run Tryz.prog W = .ok true W := by
  have h := equalIn_sol W setS (oneS 263174)
  rw [ev_set] at h
  exact h
theorem carved_of (hcav : (cavF ringS).length = 0) (w : World) (hT : Tab64 w) : Calls Tryz.prog 20 #[] w fun e w' => e = .returned (.bool true) ∧ Below w.heap.size w w' :=
  carved_core hookS ringS setS w hT (Lib.hid hook_ok) (Lib.hid ring_ok) (Lib.hid cv_placed) (Lib.hid cv_then) (Lib.hid cv_back) (Lib.hid cv_fit1) (Lib.hid cv_fit2) (Lib.hid cv_read) (Lib.hid cv_sym) (Lib.hid cv_write) (Lib.hid cv_imgs) (Lib.hid cv_euler) (Lib.hid (cv_tun hcav)) (Lib.hid cv_skin) (Lib.hid cv_parts) (Lib.hid cv_same) (by decide +kernel) cv_eq
end Go.Proofs.YtadkaplafaeebaaGreatDoor
