/-
  The law of congruence by fits: its walk, the contracts of its callees given.
-/
import Derived.Test.YtadkaplafaeebaaGreatDoorPkW
set_option linter.unusedVariables false
set_option linter.unusedSimpArgs false
namespace Go.Proofs.YtadkaplafaeebaaGreatDoor
open Go Go.RowKit

set_option maxRecDepth 100000 in
set_option maxHeartbeats 2000000 in
theorem both_core (f g p q : Sol) (a b c d a' b' c' d' : Int) (x y z : Bool) (w : World) (hT : Tab64 w)
    (HA : Hid (∀ W, Tab64 W → Calls Tryz.prog 54 #[sol f, sol g] W (RetB (.tuple #[.agg #[.int .i64 (a), .int .i64 (b), .int .i64 (c), .int .i64 (d)], .bool x]) W)))
    (HB : Hid (∀ W, Tab64 W → Calls Tryz.prog 54 #[sol g, sol f] W (RetB (.tuple #[.agg #[.int .i64 (a'), .int .i64 (b'), .int .i64 (c'), .int .i64 (d')], .bool y]) W)))
    (HS : Hid (∀ W, Tab64 W → Calls Tryz.prog 64 #[sol f, sol g] W (RetB (.bool z) W)))
    (HP : Hid (∀ W, Tab64 W → Calls Tryz.prog 62 #[sol f] W (RetB (sol p) W)))
    (HQ : Hid (∀ W, Tab64 W → Calls Tryz.prog 62 #[sol g] W (RetB (sol q) W)))
    (HC : Hid (∀ W, Tab64 W → Calls Tryz.prog 20 #[] W (RetB (.bool true) W)))
    (hz : z = (x && y)) (hpq : eqS p q = z) :
    Calls Tryz.prog 13 #[sol f, sol g] w (RetB (.bool true) w) := by
  have HT := Lib.hid hT
  have HZ := Lib.hid hz
  have HE := Lib.hid hpq
  clear hT hz hpq
  have S0 : BoxS ((w.alloc (.cells (solC f) 24)).alloc (.cells (solC g) 24)) w.heap.size f := (BoxS.new w f).alloc _
  have G0 : BoxS ((w.alloc (.cells (solC f) 24)).alloc (.cells (solC g) 24)) (w.heap.size + 1) g := BoxS.new' (by simp)
  have hB0 : Below w.heap.size w ((w.alloc (.cells (solC f) 24)).alloc (.cells (solC g) 24)) := by repeat' (first | (with_reducible exact Below.refl _ _) | (with_reducible assumption) | (with_reducible refine Below.alloc ?_ ?_ _) | (with_reducible refine Below.drew ?_) | (with_reducible refine below_drewN ?_ _) | (with_reducible refine Below.setCell ?_ ?_ _) | go_size)
  go_enter Tryz.func13, Tryz.ntmps13
  go_wp2_with fail
  refine (HA.out _ (HT.out.below hB0 (Nat.le_refl _))).mono ?_
  rintro e w1 ⟨rfl, b1⟩
  have S1 := (S0.below b1 S0.lt).alloc (.cells #[.int .i64 (a), .int .i64 (b), .int .i64 (c), .int .i64 (d)] 46)
  have G1 := (G0.below b1 G0.lt).alloc (.cells #[.int .i64 (a), .int .i64 (b), .int .i64 (c), .int .i64 (d)] 46)
  have hB1 : Below w.heap.size w w1 := up b1 hB0
  have hB1' := hB1.alloc hB1.size (.cells #[.int .i64 (a), .int .i64 (b), .int .i64 (c), .int .i64 (d)] 46)
  clear S0 G0 hB0 b1 hB1
  have c0 := (S1).cell (k := 0) (by omega); have c1 := (S1).cell (k := 1) (by omega); have c2 := (S1).cell (k := 2) (by omega); have c3 := (S1).cell (k := 3) (by omega); have c4 := (S1).cell (k := 4) (by omega); have c5 := (S1).cell (k := 5) (by omega); have c6 := (S1).cell (k := 6) (by omega); have c7 := (S1).cell (k := 7) (by omega)
  have g0 := (G1).cell (k := 0) (by omega); have g1 := (G1).cell (k := 1) (by omega); have g2 := (G1).cell (k := 2) (by omega); have g3 := (G1).cell (k := 3) (by omega); have g4 := (G1).cell (k := 4) (by omega); have g5 := (G1).cell (k := 5) (by omega); have g6 := (G1).cell (k := 6) (by omega); have g7 := (G1).cell (k := 7) (by omega)
  go_wp2_with fail
  refine (HB.out _ (HT.out.below hB1' (Nat.le_refl _))).mono ?_
  rintro e w2 ⟨rfl, b2⟩
  have S2 := (S1.below b2 S1.lt).alloc (.cells #[.int .i64 (a'), .int .i64 (b'), .int .i64 (c'), .int .i64 (d')] 46)
  have G2 := (G1.below b2 G1.lt).alloc (.cells #[.int .i64 (a'), .int .i64 (b'), .int .i64 (c'), .int .i64 (d')] 46)
  have hB2 : Below w.heap.size w w2 := up b2 hB1'
  have hB2' := hB2.alloc hB2.size (.cells #[.int .i64 (a'), .int .i64 (b'), .int .i64 (c'), .int .i64 (d')] 46)
  clear c0 c1 c2 c3 c4 c5 c6 c7 g0 g1 g2 g3 g4 g5 g6 g7 S1 G1 hB1' b2 hB2
  have c0 := (S2).cell (k := 0) (by omega); have c1 := (S2).cell (k := 1) (by omega); have c2 := (S2).cell (k := 2) (by omega); have c3 := (S2).cell (k := 3) (by omega); have c4 := (S2).cell (k := 4) (by omega); have c5 := (S2).cell (k := 5) (by omega); have c6 := (S2).cell (k := 6) (by omega); have c7 := (S2).cell (k := 7) (by omega)
  have g0 := (G2).cell (k := 0) (by omega); have g1 := (G2).cell (k := 1) (by omega); have g2 := (G2).cell (k := 2) (by omega); have g3 := (G2).cell (k := 3) (by omega); have g4 := (G2).cell (k := 4) (by omega); have g5 := (G2).cell (k := 5) (by omega); have g6 := (G2).cell (k := 6) (by omega); have g7 := (G2).cell (k := 7) (by omega)
  go_wp2_with fail
  refine (HS.out _ (HT.out.below hB2' (Nat.le_refl _))).mono ?_
  rintro e W ⟨rfl, b3⟩
  have S3 := S2.below b3 S2.lt
  have G3 := G2.below b3 G2.lt
  have hB3 : Below w.heap.size w W := up b3 hB2'
  clear c0 c1 c2 c3 c4 c5 c6 c7 g0 g1 g2 g3 g4 g5 g6 g7 S2 G2 hB2' b3
  have lS := S3.lt
  have lG := G3.lt
  have c0 := (S3).cell (k := 0) (by omega); have c1 := (S3).cell (k := 1) (by omega); have c2 := (S3).cell (k := 2) (by omega); have c3 := (S3).cell (k := 3) (by omega); have c4 := (S3).cell (k := 4) (by omega); have c5 := (S3).cell (k := 5) (by omega); have c6 := (S3).cell (k := 6) (by omega); have c7 := (S3).cell (k := 7) (by omega)
  have g0 := (G3).cell (k := 0) (by omega); have g1 := (G3).cell (k := 1) (by omega); have g2 := (G3).cell (k := 2) (by omega); have g3 := (G3).cell (k := 3) (by omega); have g4 := (G3).cell (k := 4) (by omega); have g5 := (G3).cell (k := 5) (by omega); have g6 := (G3).cell (k := 6) (by omega); have g7 := (G3).cell (k := 7) (by omega)
  have HT3 := Lib.hid (HT.out.below hB3 (Nat.le_refl _))
  go_wp2_with fail
  have hzz := HZ.out
  subst hzz
  have he := HE.out
  rcases Bool.eq_false_or_eq_true x with rfl | rfl <;> rcases Bool.eq_false_or_eq_true y with rfl | rfl
  all_goals
    simp only [Bool.and_true, Bool.and_false, Bool.true_and, Bool.false_and] at he ⊢
    (refine wp_region_quiet (C := fun w' => Below W.heap.size W w') (by kernel_rfl) (by kernel_rfl) (Below.drew (Below.refl _ _)) ?_; (iterate 19 (refine wpQuiet_step (fun K hK => ?_); go_simp; first | (refine hK _ ?_; clear hK K) | (apply Exists.intro; refine ⟨fun W' hW' => ?_, hK _ ?_⟩; (focus (first | (with_reducible exact rfl) | (with_reducible exact ⟨rfl, rfl⟩) | (obtain ⟨hcq, hfq⟩ := bcell hW'; have hzq := hW'.size; (try go_simp); first | (with_reducible exact rfl) | (with_reducible exact ⟨rfl, rfl⟩) | (first | ((with_reducible refine Calls.mono (HC.out _ (HT3.out.below hW' (Nat.le_refl _))) ?_); rintro e w9 ⟨rfl, hb9⟩; exact ⟨rfl, hW'.trans (hb9.mono hW'.size)⟩) | ((with_reducible refine Calls.mono (HP.out _ (HT3.out.below hW' (Nat.le_refl _))) ?_); rintro e w9 ⟨rfl, hb9⟩; exact ⟨rfl, hW'.trans (hb9.mono hW'.size)⟩) | ((with_reducible refine Calls.mono (HQ.out _ (HT3.out.below hW' (Nat.le_refl _))) ?_); rintro e w9 ⟨rfl, hb9⟩; exact ⟨rfl, hW'.trans (hb9.mono hW'.size)⟩))))); clear hK K))); refine wpQuiet_nil ?_; intro w1q hb1q)
    go_wp2_with fail
    go_ret
    exact ⟨rfl, hB3.trans (hb1q.mono hB3.size)⟩
end Go.Proofs.YtadkaplafaeebaaGreatDoor
