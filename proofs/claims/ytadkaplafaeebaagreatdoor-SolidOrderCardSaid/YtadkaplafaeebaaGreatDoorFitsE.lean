/-
  Fits of a solid that has no cell, and of any solids.
-/
import Derived.Test.YtadkaplafaeebaaGreatDoorFits
import Derived.Test.YtadkaplafaeebaaGreatDoorFitM
set_option linter.unusedVariables false
set_option linter.unusedSimpArgs false
namespace Go.Proofs.YtadkaplafaeebaaGreatDoor
open Go Go.RowKit Go.Shelf

attribute [local go_sem] Oper.semAt_some

set_option maxRecDepth 100000 in
set_option maxHeartbeats 2000000 in
theorem fits_empty (f g : Sol) (w : World) (hge : emptyS g = true) :
    Calls Tryz.prog 54 #[sol f, sol g] w fun e w' => e = .returned (.tuple #[.agg #[.int .i64 (0), .int .i64 (-7), .int .i64 (-7), .int .i64 (-7)], .bool true]) ∧ Below w.heap.size w w' := by
  have HGE := Lib.hid hge
  clear hge
  refine (callsIn_wide (n := 7)).1 ?_
  refine callsIn_of_wp_marks Tryz.func54 rfl trivial ?_ rfl
  simp only [Tryz.ntmps54, List.size_toArray, List.length_cons, List.length_nil, Nat.reduceAdd, Nat.reduceSub, Array.replicate_succ, Array.replicate_zero, List.push_toArray, List.append_toArray, List.nil_append, List.cons_append]
  refine wpIn_wide.2 ?_
  have bB0 : BoxS (((w.alloc (.cells (solC f) 24)).alloc (.cells (solC g) 24)).alloc (.cells #[.int .i64 (0), .int .i64 (0), .int .i64 (0), .int .i64 (0)] 46)) (w.heap.size + 1) g := (BoxS.new' (by simp)).alloc _
  have bR0 : Q4 (((w.alloc (.cells (solC f) 24)).alloc (.cells (solC g) 24)).alloc (.cells #[.int .i64 (0), .int .i64 (0), .int .i64 (0), .int .i64 (0)] 46)) (w.heap.size + 1 + 1) 0 0 0 0 := blk_new (by simp)
  have hB0 : Below w.heap.size w (((w.alloc (.cells (solC f) 24)).alloc (.cells (solC g) 24)).alloc (.cells #[.int .i64 (0), .int .i64 (0), .int .i64 (0), .int .i64 (0)] 46)) := by repeat' (first | (with_reducible exact Below.refl _ _) | (with_reducible assumption) | (with_reducible refine Below.alloc ?_ ?_ _) | (with_reducible refine Below.drew ?_) | (with_reducible refine below_drewN ?_ _) | (with_reducible refine Below.setCell ?_ ?_ _) | go_size)
  have c0 := (bB0).cell (k := 0) (by omega); have c1 := (bB0).cell (k := 1) (by omega); have c2 := (bB0).cell (k := 2) (by omega); have c3 := (bB0).cell (k := 3) (by omega); have c4 := (bB0).cell (k := 4) (by omega); have c5 := (bB0).cell (k := 5) (by omega); have c6 := (bB0).cell (k := 6) (by omega); have c7 := (bB0).cell (k := 7) (by omega)
  go_wp2_with fail
  go_step3
  go_wp2_with fail
  clear c0 c1 c2 c3 c4 c5 c6 c7
  refine (isEmpty_is HGE.out _).mono ?_
  rintro e w1 ⟨rfl, hb1⟩
  have bR1 := blk_below bR0 hb1 (blk_lt bR0)
  have hB1 : Below w.heap.size w w1 := up hb1 hB0
  clear bB0 bR0 hB0 hb1
  have lR1 := blk_lt bR1
  go_wp2_with fail
  refine (motionOf_ok 0 (-7) (-7) (-7) _).mono ?_
  rintro e w2 ⟨rfl, hb2⟩
  have R4 := blk_below bR1 hb2 lR1
  have hB4 : Below w.heap.size w w2 := up hb2 hB1
  have lR2 := blk_lt R4
  clear bR1 hB1 lR1 hb2
  obtain ⟨r0, r1, r2, r3⟩ := Q4.cells R4
  have f0 := blk_free (k := 0) R4; have f1 := blk_free (k := 1) R4; have f2 := blk_free (k := 2) R4; have f3 := blk_free (k := 3) R4
  go_wp2_with fail
  have g1 := blk_set (k := 0) R4 (.int .i64 0)
  have g2 := blk_set (k := 1) g1 (.int .i64 (-7))
  have g3 := blk_set (k := 2) g2 (.int .i64 (-7))
  have g4 := blk_set (k := 3) g3 (.int .i64 (-7))
  have b4 := (((hB4.setCell (p := ⟨w.heap.size + 1 + 1, 0, none⟩) (by simp; omega) (.int .i64 0)).setCell (p := ⟨w.heap.size + 1 + 1, 1, none⟩) (by simp; omega) (.int .i64 (-7))).setCell (p := ⟨w.heap.size + 1 + 1, 2, none⟩) (by simp; omega) (.int .i64 (-7))).setCell (p := ⟨w.heap.size + 1 + 1, 3, none⟩) (by simp; omega) (.int .i64 (-7))
  rw [Exit.noGoto_ret]
  refine leaves_marks w.heap.size [] _ List.nodup_nil (fun D hD => by cases hD) (fun W3 hb hk => ⟨_, res_4e Tryz.results54 rfl (blk_cell (k := 0) (hk _ _ rfl g4)) (blk_cell (k := 1) (hk _ _ rfl g4)) (blk_cell (k := 2) (hk _ _ rfl g4)) (blk_cell (k := 3) (hk _ _ rfl g4)), ?_, b4.trans hb⟩)
  rfl
def motE (f g : Sol) : Value := if emptyS g = true then .agg #[.int .i64 (0), .int .i64 (-7), .int .i64 (-7), .int .i64 (-7)] else motV (fitsF f g)
theorem fits_all (f g : Sol) (w : World) (hf : Fit f) (hg : Fit g) (hT : Tab64 w) :
    Calls Tryz.prog 54 #[sol f, sol g] w fun e w' => e = .returned (.tuple #[motE f g, .bool (fitB f g)]) ∧ Below w.heap.size w w' := by
  unfold motE fitB
  by_cases h : emptyS g = true
  · rw [if_pos h, if_pos h]
    exact fits_empty f g w h
  · rw [if_neg h, if_neg h]
    exact fits_any f g w hf hg (by simpa using h) hT
theorem motE_form (f g : Sol) : ∃ a b c d : Int, motE f g = .agg #[.int .i64 (a), .int .i64 (b), .int .i64 (c), .int .i64 (d)] := by
  unfold motE
  split
  · exact ⟨_, _, _, _, rfl⟩
  · match fitsF f g with
    | none => exact ⟨0, 0, 0, 0, rfl⟩
    | some (t, c) => exact ⟨t, c.1, c.2.1, c.2.2, rfl⟩
end Go.Proofs.YtadkaplafaeebaaGreatDoor
