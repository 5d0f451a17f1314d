/-
  Placed of an empty solid.
-/
import Derived.Test.YtadkaplafaeebaaGreatDoorPkFQ
import Derived.Test.YtadkaplafaeebaaGreatDoorPkYMQ
import Derived.Test.YtadkaplafaeebaaGreatDoorPkGQ
import Derived.Test.YtadkaplafaeebaaGreatDoorPkOQ
set_option linter.unusedVariables false
set_option linter.unusedSimpArgs false
namespace Go.Proofs.YtadkaplafaeebaaGreatDoor
open Go Go.RowKit

end Go.Proofs.YtadkaplafaeebaaGreatDoor
/-
  Then, where one is no motion.
-/
set_option linter.unusedVariables false
set_option linter.unusedSimpArgs false
namespace Go.Proofs.YtadkaplafaeebaaGreatDoor
open Go Go.RowKit

end Go.Proofs.YtadkaplafaeebaaGreatDoor
/-
  Moved and Placed where a cell leaves the grid.
-/
set_option linter.unusedVariables false
set_option linter.unusedSimpArgs false
namespace Go.Proofs.YtadkaplafaeebaaGreatDoor
open Go Go.RowKit

set_option maxRecDepth 100000 in
set_option maxHeartbeats 4000000 in
theorem moved_out (f : Sol) (x y z : Int) (w : World) (hf : Fit f) (h : emptyS f = false) (ho : outB f x y z = true) :
    Calls Tryz.prog 44 #[sol f, .int .i64 x, .int .i64 y, .int .i64 z] w fun e w' => e = .returned (.tuple #[sol (fun _ => 0), .int .i64 20]) ∧ Below w.heap.size w w' := by
  obtain ⟨x0, x1, y0, y1, z0, z1⟩ := boundN hf h
  have ho := of_decide_eq_true ho
  have HF := Lib.hid hf
  have HE := Lib.hid h
  clear hf h
  go_enter Tryz.func44, Tryz.ntmps44
  go_wp2_with fail
  refine (bounds_yes f _ HF.out HE.out).mono ?_
  rintro e w1 ⟨rfl, hb1⟩
  have bR : BoxS w1 (w.heap.size + 1) (fun _ => 0) := (BoxS.zero (by simp)).below hb1 (by simp <;> omega)
  have hB1 : Below w.heap.size w w1 := up hb1 (by repeat' (first | (with_reducible exact Below.refl _ _) | (with_reducible assumption) | (with_reducible refine Below.alloc ?_ ?_ _) | (with_reducible refine Below.drew ?_) | (with_reducible refine below_drewN ?_ _) | (with_reducible refine Below.setCell ?_ ?_ _) | go_size))
  have bX : Box6 (w1.alloc (.cells #[.int .i64 ((lowX f : Nat)), .int .i64 ((lowY f : Nat)), .int .i64 ((lowZ f : Nat)), .int .i64 (((highX f : Nat) : Int) - 1), .int .i64 (((highY f : Nat) : Int) - 1), .int .i64 (((highZ f : Nat) : Int) - 1)] 40)) w1.heap.size (lowX f : Nat) (lowY f : Nat) (lowZ f : Nat) (((highX f : Nat) : Int) - 1) (((highY f : Nat) : Int) - 1) (((highZ f : Nat) : Int) - 1) := World.alloc_heap_new w1 _
  have bR2 := bR.alloc (.cells #[.int .i64 ((lowX f : Nat)), .int .i64 ((lowY f : Nat)), .int .i64 ((lowZ f : Nat)), .int .i64 (((highX f : Nat) : Int) - 1), .int .i64 (((highY f : Nat) : Int) - 1), .int .i64 (((highZ f : Nat) : Int) - 1)] 40)
  have hB2 := hB1.alloc hB1.size (.cells #[.int .i64 ((lowX f : Nat)), .int .i64 ((lowY f : Nat)), .int .i64 ((lowZ f : Nat)), .int .i64 (((highX f : Nat) : Int) - 1), .int .i64 (((highY f : Nat) : Int) - 1), .int .i64 (((highZ f : Nat) : Int) - 1)] 40)
  go_upto_region 4 with fail
  obtain ⟨W, hW⟩ : ∃ W, W = w1.alloc (.cells #[.int .i64 ((lowX f : Nat)), .int .i64 ((lowY f : Nat)), .int .i64 ((lowZ f : Nat)), .int .i64 (((highX f : Nat) : Int) - 1), .int .i64 (((highY f : Nat) : Int) - 1), .int .i64 (((highZ f : Nat) : Int) - 1)] 40) := ⟨_, rfl⟩
  rw [← hW] at bX bR2 hB2 ⊢
  clear hW bR hB1 hb1
  have l1 := bR2.lt
  have r0 := (bR2).cell (k := 0) (by omega); have r1 := (bR2).cell (k := 1) (by omega); have r2 := (bR2).cell (k := 2) (by omega); have r3 := (bR2).cell (k := 3) (by omega); have r4 := (bR2).cell (k := 4) (by omega); have r5 := (bR2).cell (k := 5) (by omega); have r6 := (bR2).cell (k := 6) (by omega); have r7 := (bR2).cell (k := 7) (by omega)
  have q0 := (bR2).free 0; have q1 := (bR2).free 1; have q2 := (bR2).free 2; have q3 := (bR2).free 3; have q4 := (bR2).free 4; have q5 := (bR2).free 5; have q6 := (bR2).free 6; have q7 := (bR2).free 7
  obtain ⟨b0, b1, b2, b3, b4, b5⟩ := Box6.cells bX
  by_cases h0 : x < -(lowX f : Int)
  · have d0 := decide_eq_true h0
    go_wp2_with fail
    refine bodyPost_ret (res_se (bR2.put fun _ => 0) Tryz.results44 rfl) rfl ⟨rfl, ?_⟩
    exact below_put8 hB2 (by omega) (fun _ => 0)
  · have d0 := decide_eq_false h0
    by_cases h1 : y < -(lowY f : Int)
    · have d1 := decide_eq_true h1
      go_wp2_with fail
      refine bodyPost_ret (res_se (bR2.put fun _ => 0) Tryz.results44 rfl) rfl ⟨rfl, ?_⟩
      exact below_put8 hB2 (by omega) (fun _ => 0)
    · have d1 := decide_eq_false h1
      by_cases h2 : z < -(lowZ f : Int)
      · have d2 := decide_eq_true h2
        go_wp2_with fail
        refine bodyPost_ret (res_se (bR2.put fun _ => 0) Tryz.results44 rfl) rfl ⟨rfl, ?_⟩
        exact below_put8 hB2 (by omega) (fun _ => 0)
      · have d2 := decide_eq_false h2
        by_cases h3 : 7 - ((highX f : Int) - 1) < x
        · have d3 := decide_eq_true h3
          go_wp2_with fail
          refine bodyPost_ret (res_se (bR2.put fun _ => 0) Tryz.results44 rfl) rfl ⟨rfl, ?_⟩
          exact below_put8 hB2 (by omega) (fun _ => 0)
        · have d3 := decide_eq_false h3
          by_cases h4 : 7 - ((highY f : Int) - 1) < y
          · have d4 := decide_eq_true h4
            go_wp2_with fail
            refine bodyPost_ret (res_se (bR2.put fun _ => 0) Tryz.results44 rfl) rfl ⟨rfl, ?_⟩
            exact below_put8 hB2 (by omega) (fun _ => 0)
          · have d4 := decide_eq_false h4
            by_cases h5 : 7 - ((highZ f : Int) - 1) < z
            · have d5 := decide_eq_true h5
              go_wp2_with fail
              refine bodyPost_ret (res_se (bR2.put fun _ => 0) Tryz.results44 rfl) rfl ⟨rfl, ?_⟩
              exact below_put8 hB2 (by omega) (fun _ => 0)
            · have d5 := decide_eq_false h5
              exact absurd ho (by omega)
set_option maxRecDepth 100000 in
set_option maxHeartbeats 4000000 in
theorem Placed_of (f r : Sol) (t : Nat) (x y z e0 : Int) (w : World) (hf : Fit f) (ht : t < 24) (hm : mvB x y z = true) (hT : Tab64 w)
    (hM : ∀ W, Calls Tryz.prog 44 #[sol (turnedF f t), .int .i64 x, .int .i64 y, .int .i64 z] W fun e w' => e = .returned (.tuple #[sol r, .int .i64 e0]) ∧ Below W.heap.size W w') :
    Calls Tryz.prog 48 #[sol f, .agg #[.int .i64 (t), .int .i64 (x), .int .i64 (y), .int .i64 (z)]] w fun e w' => e = .returned (.tuple #[sol r, .int .i64 e0]) ∧ Below w.heap.size w w' := by
  have H := Lib.hid (show motB t x y z = true by unfold motB; rw [decide_eq_true (by omega), hm]; rfl)
  have HF := Lib.hid hf
  have HT := Lib.hid hT
  have HM := Lib.hid hM
  clear hf hT hM hm
  go_enter Tryz.func48, Tryz.ntmps48
  go_wp2_with fail
  refine (isMotion_is H.out _).mono ?_
  rintro e w1 ⟨rfl, hb1⟩
  have bS : BoxS w1 w.heap.size f := (((BoxS.new w f).alloc _).alloc _).below hb1 (by simp <;> omega)
  have bM : w1.heap[w.heap.size + 1]? = some (.cells #[.int .i64 t, .int .i64 x, .int .i64 y, .int .i64 z] 46 (0, 0)) := (hb1.block _ (by simp)).trans ((Below.heap_alloc _ _ _ (by simp)).trans (blk_new (by simp)))
  have bR : BoxS w1 (w.heap.size + 1 + 1) (fun _ => 0) := (BoxS.zero (by simp)).below hb1 (by simp <;> omega)
  have hB1 : Below w.heap.size w w1 := up hb1 (by repeat' (first | (with_reducible exact Below.refl _ _) | (with_reducible assumption) | (with_reducible refine Below.alloc ?_ ?_ _) | (with_reducible refine Below.drew ?_) | (with_reducible refine below_drewN ?_ _) | (with_reducible refine Below.setCell ?_ ?_ _) | go_size))
  have l0 := bS.lt
  have l1 := bR.lt
  have lm : w.heap.size + 1 < w1.heap.size := by omega
  have m0 := blk_cell (k := 0) bM; have m1 := blk_cell (k := 1) bM; have m2 := blk_cell (k := 2) bM; have m3 := blk_cell (k := 3) bM
  simp only [List.getElem?_toArray, List.getElem?_cons_zero, List.getElem?_cons_succ] at m0 m1 m2 m3
  have c0 := (bS).cell (k := 0) (by omega); have c1 := (bS).cell (k := 1) (by omega); have c2 := (bS).cell (k := 2) (by omega); have c3 := (bS).cell (k := 3) (by omega); have c4 := (bS).cell (k := 4) (by omega); have c5 := (bS).cell (k := 5) (by omega); have c6 := (bS).cell (k := 6) (by omega); have c7 := (bS).cell (k := 7) (by omega)
  go_wp2_with fail
  (refine wp_region_quiet_tail 13 (fun w' => Below w1.heap.size w1 w') (by kernel_rfl) (by kernel_rfl) (Below.drew (Below.refl _ _)) ?_; simp only [List.take_succ_cons, List.take_zero, List.drop_succ_cons, List.drop_zero]; (iterate 13 (refine wpQuiet_step (fun K hK => ?_); go_simp; first | (refine hK _ ?_; clear hK K) | (apply Exists.intro; refine ⟨fun W' hW' => ?_, hK _ ?_⟩; (focus (first | (with_reducible exact rfl) | (with_reducible exact ⟨rfl, rfl⟩) | (obtain ⟨hcq, hfq⟩ := bcell hW'; have hzq := hW'.size; (try go_simp); first | (with_reducible exact rfl) | (with_reducible exact ⟨rfl, rfl⟩) | (first | (refine (turned_ok f t _ HF.out ht (HT.out.below (hB1.trans (hW'.mono hB1.size)) (Nat.le_refl _))).mono ?_; rintro e w2 ⟨rfl, hb2⟩; exact ⟨rfl, hW'.trans (hb2.mono hW'.size)⟩) | (refine (HM.out _).mono ?_; rintro e w2 ⟨rfl, hb2⟩; exact ⟨rfl, hW'.trans (hb2.mono hW'.size)⟩))))); clear hK K))); refine wpQuiet_nil ?_; intro w1q hb1q)
  have bR2 := bR.below hb1q l1
  have l2 := bR2.lt
  have p0 := (bR2).cell (k := 0) (by omega); have p1 := (bR2).cell (k := 1) (by omega); have p2 := (bR2).cell (k := 2) (by omega); have p3 := (bR2).cell (k := 3) (by omega); have p4 := (bR2).cell (k := 4) (by omega); have p5 := (bR2).cell (k := 5) (by omega); have p6 := (bR2).cell (k := 6) (by omega); have p7 := (bR2).cell (k := 7) (by omega)
  have v0 := (bR2).free 0; have v1 := (bR2).free 1; have v2 := (bR2).free 2; have v3 := (bR2).free 3; have v4 := (bR2).free 4; have v5 := (bR2).free 5; have v6 := (bR2).free 6; have v7 := (bR2).free 7
  have hB2 : Below w.heap.size w w1q := up hb1q hB1
  clear c0 c1 c2 c3 c4 c5 c6 c7
  go_wp2
  refine bodyPost_ret (res_se (bR2.put r) Tryz.results48 rfl) rfl ⟨rfl, ?_⟩
  exact below_put8 hB2 (by omega) _
end Go.Proofs.YtadkaplafaeebaaGreatDoor
