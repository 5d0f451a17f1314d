/-
  The reference's Bounds.
-/
import Derived.Test.YtadkaplafaeebaaGreatDoorPkRBQ
import Derived.Test.YtadkaplafaeebaaGreatDoorPkTEQ
import Derived.Test.YtadkaplafaeebaaGreatDoorPkOQ
import Derived.Test.YtadkaplafaeebaaGreatDoorPkPQ
import Derived.Test.YtadkaplafaeebaaGreatDoorPkZQ
import Derived.Test.YtadkaplafaeebaaGreatDoorPkXBQ
import Derived.Test.YtadkaplafaeebaaGreatDoorPkTCQ
import Derived.Test.YtadkaplafaeebaaGreatDoorPkTHQ
import Derived.Test.YtadkaplafaeebaaGreatDoorPkCQ
set_option linter.unusedVariables false
set_option linter.unusedSimpArgs false
namespace Go.Proofs.YtadkaplafaeebaaGreatDoor
open Go Go.RowKit

def NewB (B : Nat) (v : Value) (W : World) : Prop := ∃ b, v = .pointer (some ⟨b, 0, none⟩) ∧ B ≤ b ∧ Box6 W b 0 0 0 0 0 0
theorem NewB.below {B : Nat} {v : Value} {W W' : World} (h : NewB B v W) (hb : Below W.heap.size W W') : NewB B v W' := by
  obtain ⟨g, h1, h2, h3⟩ := h
  exact ⟨g, h1, h2, blk_below h3 hb (blk_lt h3)⟩
end Go.Proofs.YtadkaplafaeebaaGreatDoor
/-
  Fits of a solid that has no cell, and of any solids.
-/
set_option linter.unusedVariables false
set_option linter.unusedSimpArgs false
namespace Go.Proofs.YtadkaplafaeebaaGreatDoor
open Go Go.RowKit Go.Shelf

attribute [local go_sem] Oper.semAt_some

set_option maxRecDepth 100000 in
set_option maxHeartbeats 2000000 in
theorem fits_empty (f g : Sol) (w : World) (hge : emptyS g = true) :
    Calls Tryz.prog 54 #[sol f, sol g] w fun e w' => e = .returned (.tuple #[.agg #[.int .i64 (0), .int .i64 (-7), .int .i64 (-7), .int .i64 (-7)], .bool true]) ∧ Below w.heap.size w w' := by
  have HGE := Lib.hid hge
  clear hge
  refine (callsIn_wide (n := 7)).1 ?_
  refine callsIn_of_wp_marks Tryz.func54 rfl trivial ?_ rfl
  simp only [Tryz.ntmps54, List.size_toArray, List.length_cons, List.length_nil, Nat.reduceAdd, Nat.reduceSub, Array.replicate_succ, Array.replicate_zero, List.push_toArray, List.append_toArray, List.nil_append, List.cons_append]
  refine wpIn_wide.2 ?_
  have bB0 : BoxS (((w.alloc (.cells (solC f) 24)).alloc (.cells (solC g) 24)).alloc (.cells #[.int .i64 (0), .int .i64 (0), .int .i64 (0), .int .i64 (0)] 46)) (w.heap.size + 1) g := (BoxS.new' (by simp)).alloc _
  have bR0 : Q4 (((w.alloc (.cells (solC f) 24)).alloc (.cells (solC g) 24)).alloc (.cells #[.int .i64 (0), .int .i64 (0), .int .i64 (0), .int .i64 (0)] 46)) (w.heap.size + 1 + 1) 0 0 0 0 := blk_new (by simp)
  have hB0 : Below w.heap.size w (((w.alloc (.cells (solC f) 24)).alloc (.cells (solC g) 24)).alloc (.cells #[.int .i64 (0), .int .i64 (0), .int .i64 (0), .int .i64 (0)] 46)) := by repeat' (first | (with_reducible exact Below.refl _ _) | (with_reducible assumption) | (with_reducible refine Below.alloc ?_ ?_ _) | (with_reducible refine Below.drew ?_) | (with_reducible refine below_drewN ?_ _) | (with_reducible refine Below.setCell ?_ ?_ _) | go_size)
  have c0 := (bB0).cell (k := 0) (by omega); have c1 := (bB0).cell (k := 1) (by omega); have c2 := (bB0).cell (k := 2) (by omega); have c3 := (bB0).cell (k := 3) (by omega); have c4 := (bB0).cell (k := 4) (by omega); have c5 := (bB0).cell (k := 5) (by omega); have c6 := (bB0).cell (k := 6) (by omega); have c7 := (bB0).cell (k := 7) (by omega)
  go_wp2_with fail
  go_step3
  go_wp2_with fail
  clear c0 c1 c2 c3 c4 c5 c6 c7
  refine (isEmpty_is HGE.out _).mono ?_
  rintro e w1 ⟨rfl, hb1⟩
  have bR1 := blk_below bR0 hb1 (blk_lt bR0)
  have hB1 : Below w.heap.size w w1 := up hb1 hB0
  clear bB0 bR0 hB0 hb1
  have lR1 := blk_lt bR1
  go_wp2_with fail
  refine (motionOf_ok 0 (-7) (-7) (-7) _).mono ?_
  rintro e w2 ⟨rfl, hb2⟩
  have R4 := blk_below bR1 hb2 lR1
  have hB4 : Below w.heap.size w w2 := up hb2 hB1
  have lR2 := blk_lt R4
  clear bR1 hB1 lR1 hb2
  obtain ⟨r0, r1, r2, r3⟩ := Q4.cells R4
  have f0 := blk_free (k := 0) R4; have f1 := blk_free (k := 1) R4; have f2 := blk_free (k := 2) R4; have f3 := blk_free (k := 3) R4
  go_wp2_with fail
  have g1 := blk_set (k := 0) R4 (.int .i64 0)
  have g2 := blk_set (k := 1) g1 (.int .i64 (-7))
  have g3 := blk_set (k := 2) g2 (.int .i64 (-7))
  have g4 := blk_set (k := 3) g3 (.int .i64 (-7))
  have b4 := (((hB4.setCell (p := ⟨w.heap.size + 1 + 1, 0, none⟩) (by simp; omega) (.int .i64 0)).setCell (p := ⟨w.heap.size + 1 + 1, 1, none⟩) (by simp; omega) (.int .i64 (-7))).setCell (p := ⟨w.heap.size + 1 + 1, 2, none⟩) (by simp; omega) (.int .i64 (-7))).setCell (p := ⟨w.heap.size + 1 + 1, 3, none⟩) (by simp; omega) (.int .i64 (-7))
  rw [Exit.noGoto_ret]
  refine leaves_marks w.heap.size [] _ List.nodup_nil (fun D hD => by cases hD) (fun W3 hb hk => ⟨_, res_4e Tryz.results54 rfl (blk_cell (k := 0) (hk _ _ rfl g4)) (blk_cell (k := 1) (hk _ _ rfl g4)) (blk_cell (k := 2) (hk _ _ rfl g4)) (blk_cell (k := 3) (hk _ _ rfl g4)), ?_, b4.trans hb⟩)
  rfl
def motE (f g : Sol) : Value := if emptyS g = true then .agg #[.int .i64 (0), .int .i64 (-7), .int .i64 (-7), .int .i64 (-7)] else motV (fitsF f g)
theorem fits_all (f g : Sol) (w : World) (hf : Fit f) (hg : Fit g) (hT : Tab64 w) :
    Calls Tryz.prog 54 #[sol f, sol g] w fun e w' => e = .returned (.tuple #[motE f g, .bool (fitB f g)]) ∧ Below w.heap.size w w' := by
  unfold motE fitB
  by_cases h : emptyS g = true
  · rw [if_pos h, if_pos h]
    exact fits_empty f g w h
  · rw [if_neg h, if_neg h]
    exact fits_any f g w hf hg (by simpa using h) hT
theorem motE_form (f g : Sol) : ∃ a b c d : Int, motE f g = .agg #[.int .i64 (a), .int .i64 (b), .int .i64 (c), .int .i64 (d)] := by
  unfold motE
  split
  · exact ⟨_, _, _, _, rfl⟩
  · match fitsF f g with
    | none => exact ⟨0, 0, 0, 0, rfl⟩
    | some (t, c) => exact ⟨t, c.1, c.2.1, c.2.2, rfl⟩
end Go.Proofs.YtadkaplafaeebaaGreatDoor
/-
  Where the reference seeks a place, and where there can be one: mathematics.
-/
set_option linter.unusedVariables false
set_option linter.unusedSimpArgs false
namespace Go.Proofs.YtadkaplafaeebaaGreatDoor
open Go Go.RowKit

/-- Where the reference seeks: wherever no cell leaves the grid. -/
def room (g : Sol) (lo hi : Sol → Nat) : Nat := 9 - (hi g - lo g)
end Go.Proofs.YtadkaplafaeebaaGreatDoor
/-
  The reference's Fits.
-/
set_option linter.unusedVariables false
set_option linter.unusedSimpArgs false
namespace Go.Proofs.YtadkaplafaeebaaGreatDoor
open Go Go.RowKit

end Go.Proofs.YtadkaplafaeebaaGreatDoor
/-
  CheckFit, the program's and the reference's; the reference's Fits for any solids.
-/
set_option linter.unusedVariables false
set_option linter.unusedSimpArgs false
namespace Go.Proofs.YtadkaplafaeebaaGreatDoor
open Go Go.RowKit

set_option maxRecDepth 100000 in
set_option maxHeartbeats 4000000 in
theorem check_of (f g p : Sol) (t x y z e : Int) (r : Bool) (w : World) (hT : Tab64 w)
    (HP : Hid (∀ W, Tab64 W → Calls Tryz.prog 48 #[sol g, .agg #[.int .i64 (t), .int .i64 (x), .int .i64 (y), .int .i64 (z)]] W (RetB (.tuple #[sol p, .int .i64 e]) W)))
    (HI : Hid (∀ W, Calls Tryz.prog 36 #[sol p, sol f] W (RetB (.bool (inB p f)) W)))
    (HE : Hid (e = 0 ∧ r = inB p f ∨ e ≠ 0 ∧ r = false)) :
    Calls Tryz.prog 56 #[sol f, sol g, .agg #[.int .i64 (t), .int .i64 (x), .int .i64 (y), .int .i64 (z)]] w (RetB (.bool r) w) := by
  have HT := Lib.hid hT
  clear hT
  have F_0 : BoxS (((w.alloc (.cells (solC f) 24)).alloc (.cells (solC g) 24)).alloc (.cells #[.int .i64 (t), .int .i64 (x), .int .i64 (y), .int .i64 (z)] 46)) w.heap.size f := (((BoxS.new _ _).alloc _).alloc _)
  have G_0 : BoxS (((w.alloc (.cells (solC f) 24)).alloc (.cells (solC g) 24)).alloc (.cells #[.int .i64 (t), .int .i64 (x), .int .i64 (y), .int .i64 (z)] 46)) (w.heap.size + 1) g := ((BoxS.new' (by simp)).alloc _)
  have M_0 : Q4 (((w.alloc (.cells (solC f) 24)).alloc (.cells (solC g) 24)).alloc (.cells #[.int .i64 (t), .int .i64 (x), .int .i64 (y), .int .i64 (z)] 46)) (w.heap.size + 1 + 1) (t) (x) (y) (z) := (blk_new (by simp))
  have hB0 : Below w.heap.size w (((w.alloc (.cells (solC f) 24)).alloc (.cells (solC g) 24)).alloc (.cells #[.int .i64 (t), .int .i64 (x), .int .i64 (y), .int .i64 (z)] 46)) := by repeat' (first | (with_reducible exact Below.refl _ _) | (with_reducible assumption) | (with_reducible refine Below.alloc ?_ ?_ _) | (with_reducible refine Below.drew ?_) | (with_reducible refine below_drewN ?_ _) | (with_reducible refine Below.setCell ?_ ?_ _) | go_size)
  go_enter Tryz.func56, Tryz.ntmps56
  have cG0 := (G_0).cell (k := 0) (by omega); have cG1 := (G_0).cell (k := 1) (by omega); have cG2 := (G_0).cell (k := 2) (by omega); have cG3 := (G_0).cell (k := 3) (by omega); have cG4 := (G_0).cell (k := 4) (by omega); have cG5 := (G_0).cell (k := 5) (by omega); have cG6 := (G_0).cell (k := 6) (by omega); have cG7 := (G_0).cell (k := 7) (by omega)
  have cM0 := blk_cell (k := 0) M_0
  have cM1 := blk_cell (k := 1) M_0
  have cM2 := blk_cell (k := 2) M_0
  have cM3 := blk_cell (k := 3) M_0
  simp only [List.getElem?_toArray, List.getElem?_cons_zero, List.getElem?_cons_succ] at cM0 cM1 cM2 cM3
  go_wp2_with fail
  clear cG0 cG1 cG2 cG3 cG4 cG5 cG6 cG7 cM0 cM1 cM2 cM3
  refine (HP.out _ (HT.out.below hB0 (Nat.le_refl _))).mono ?_
  rintro e w1 ⟨rfl, b1⟩
  have F_1 := (F_0.below b1 F_0.lt).alloc (.cells (solC p) 24)
  have G_1 := (G_0.below b1 G_0.lt).alloc (.cells (solC p) 24)
  have M_1 := blk_alloc (blk_below M_0 b1 (blk_lt M_0)) (.cells (solC p) 24)
  have hB1q : Below w.heap.size w w1 := up b1 hB0
  have hB1 := hB1q.alloc hB1q.size (.cells (solC p) 24)
  clear F_0 G_0 M_0 hB0 b1 hB1q
  have P_1 : BoxS (w1.alloc (.cells (solC p) 24)) w1.heap.size p := BoxS.new _ _
  rcases HE.out with ⟨he, hr⟩ | ⟨he, hr⟩
  · subst he
    subst hr
    have cF0 := (F_1).cell (k := 0) (by omega); have cF1 := (F_1).cell (k := 1) (by omega); have cF2 := (F_1).cell (k := 2) (by omega); have cF3 := (F_1).cell (k := 3) (by omega); have cF4 := (F_1).cell (k := 4) (by omega); have cF5 := (F_1).cell (k := 5) (by omega); have cF6 := (F_1).cell (k := 6) (by omega); have cF7 := (F_1).cell (k := 7) (by omega)
    have cP0 := (P_1).cell (k := 0) (by omega); have cP1 := (P_1).cell (k := 1) (by omega); have cP2 := (P_1).cell (k := 2) (by omega); have cP3 := (P_1).cell (k := 3) (by omega); have cP4 := (P_1).cell (k := 4) (by omega); have cP5 := (P_1).cell (k := 5) (by omega); have cP6 := (P_1).cell (k := 6) (by omega); have cP7 := (P_1).cell (k := 7) (by omega)
    go_wp2_with fail
    clear cF0 cF1 cF2 cF3 cF4 cF5 cF6 cF7 cP0 cP1 cP2 cP3 cP4 cP5 cP6 cP7
    refine (HI.out _).mono ?_
    rintro e w2 ⟨rfl, b2⟩
    have F_2 := F_1.below b2 F_1.lt
    have G_2 := G_1.below b2 G_1.lt
    have M_2 := blk_below M_1 b2 (blk_lt M_1)
    have P_2 := P_1.below b2 P_1.lt
    have hB2 : Below w.heap.size w w2 := up b2 hB1
    clear F_1 G_1 M_1 P_1 hB1 b2
    go_wp2_with fail
    go_ret
    exact ⟨rfl, hB2⟩
  · subst hr
    have he1 : (e == 0) = false := by simpa using he
    have he2 : decide (e = 0) = false := decide_eq_false he
    go_wp2_with fail
    go_ret
    exact ⟨rfl, hB1⟩
end Go.Proofs.YtadkaplafaeebaaGreatDoor
/-
  The reference's Fits for any solids.
-/
set_option linter.unusedVariables false
set_option linter.unusedSimpArgs false
namespace Go.Proofs.YtadkaplafaeebaaGreatDoor
open Go Go.RowKit

end Go.Proofs.YtadkaplafaeebaaGreatDoor
/-
  The law of fits: its walk, the contracts of its callees given; the law for every two solids and every motion.
-/
set_option linter.unusedVariables false
set_option linter.unusedSimpArgs false
namespace Go.Proofs.YtadkaplafaeebaaGreatDoor
open Go Go.RowKit

end Go.Proofs.YtadkaplafaeebaaGreatDoor
