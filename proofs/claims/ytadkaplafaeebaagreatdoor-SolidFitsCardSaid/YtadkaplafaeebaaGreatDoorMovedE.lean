/-
  Moved of an empty solid.
-/
import Derived.Test.YtadkaplafaeebaaGreatDoorPkF
import Derived.Deep.Cut
set_option linter.unusedVariables false
set_option linter.unusedSimpArgs false
namespace Go.Proofs.YtadkaplafaeebaaGreatDoor
open Go Go.RowKit

theorem bounds_no' (f : Sol) (a : Int) (ha : a = 0) (w : World) (h : emptyS f = true) : Calls Tryz.prog 38 #[sol f] w fun e w' => e = .returned (.tuple #[.agg #[.int .i64 (a), .int .i64 (a), .int .i64 (a), .int .i64 (a), .int .i64 (a), .int .i64 (a)], .bool false]) ∧ Below w.heap.size w w' := by
  subst ha
  exact bounds_no f w h
set_option maxRecDepth 100000 in
set_option maxHeartbeats 400000 in
theorem moved_empty (f : Sol) (x y z : Int) (w : World) (h : emptyS f = true) :
    Calls Tryz.prog 44 #[sol f, .int .i64 x, .int .i64 y, .int .i64 z] w fun e w' => e = .returned (.tuple #[sol f, .int .i64 0]) ∧ Below w.heap.size w w' := by
  obtain ⟨a, ha⟩ : ∃ a : Int, a = 0 := ⟨0, rfl⟩
  have HA := Lib.hid ha
  have H := Lib.hid h
  clear h ha
  go_enter Tryz.func44, Tryz.ntmps44
  go_wp2_with fail
  refine (bounds_no' f a HA.out _ H.out).mono ?_
  rintro e w1 ⟨rfl, hb1⟩
  have bS : BoxS w1 w.heap.size f := ((BoxS.new w f).alloc _).below hb1 (by simp <;> omega)
  have bR : BoxS w1 (w.heap.size + 1) (fun _ => 0) := (BoxS.zero (by simp)).below hb1 (by simp <;> omega)
  have hB1 : Below w.heap.size w w1 := up hb1 (by repeat' (first | (with_reducible exact Below.refl _ _) | (with_reducible assumption) | (with_reducible refine Below.alloc ?_ ?_ _) | (with_reducible refine Below.drew ?_) | (with_reducible refine below_drewN ?_ _) | (with_reducible refine Below.setCell ?_ ?_ _) | go_size))
  have l0 := bS.lt
  have l1 := bR.lt
  have bS2 := bS.alloc (.cells #[.int .i64 (a), .int .i64 (a), .int .i64 (a), .int .i64 (a), .int .i64 (a), .int .i64 (a)] 40)
  have bR2 := bR.alloc (.cells #[.int .i64 (a), .int .i64 (a), .int .i64 (a), .int .i64 (a), .int .i64 (a), .int .i64 (a)] 40)
  have hB2 := hB1.alloc hB1.size (.cells #[.int .i64 (a), .int .i64 (a), .int .i64 (a), .int .i64 (a), .int .i64 (a), .int .i64 (a)] 40)
  go_upto_region 3 with fail
  obtain ⟨W, hW⟩ : ∃ W, W = w1.alloc (.cells #[.int .i64 (a), .int .i64 (a), .int .i64 (a), .int .i64 (a), .int .i64 (a), .int .i64 (a)] 40) := ⟨_, rfl⟩
  rw [← hW] at bS2 bR2 hB2 ⊢
  clear hW bS bR hB1 l0 l1 hb1
  have l0 := bS2.lt
  have l1 := bR2.lt
  have c0 := (bS2).cell (k := 0) (by omega); have c1 := (bS2).cell (k := 1) (by omega); have c2 := (bS2).cell (k := 2) (by omega); have c3 := (bS2).cell (k := 3) (by omega); have c4 := (bS2).cell (k := 4) (by omega); have c5 := (bS2).cell (k := 5) (by omega); have c6 := (bS2).cell (k := 6) (by omega); have c7 := (bS2).cell (k := 7) (by omega)
  have r0 := (bR2).cell (k := 0) (by omega); have r1 := (bR2).cell (k := 1) (by omega); have r2 := (bR2).cell (k := 2) (by omega); have r3 := (bR2).cell (k := 3) (by omega); have r4 := (bR2).cell (k := 4) (by omega); have r5 := (bR2).cell (k := 5) (by omega); have r6 := (bR2).cell (k := 6) (by omega); have r7 := (bR2).cell (k := 7) (by omega)
  have q0 := (bR2).free 0; have q1 := (bR2).free 1; have q2 := (bR2).free 2; have q3 := (bR2).free 3; have q4 := (bR2).free 4; have q5 := (bR2).free 5; have q6 := (bR2).free 6; have q7 := (bR2).free 7
  go_wp2
  refine bodyPost_ret (res_se (bR2.put f) Tryz.results44 rfl) rfl ⟨rfl, ?_⟩
  exact below_put8 hB2 (by omega) _
end Go.Proofs.YtadkaplafaeebaaGreatDoor
