/-
  Mirrored, where the number is no axis.
-/
import Derived.Test.YtadkaplafaeebaaGreatDoorPkF
set_option linter.unusedVariables false
set_option linter.unusedSimpArgs false
namespace Go.Proofs.YtadkaplafaeebaaGreatDoor
open Go Go.RowKit

set_option maxRecDepth 100000 in
set_option maxHeartbeats 1000000 in
theorem Mirrored_no (f : Sol) (a : Int) (w : World) (h : a < 0 ∨ 2 < a) :
    Calls Tryz.prog 46 #[sol f, .int .i64 a] w fun e w' => e = .returned (.tuple #[sol (fun _ => 0), .int .i64 1]) ∧ Below w.heap.size w w' := by
  have bR : BoxS (((w.alloc (.cells (solC f) 24)).alloc (.cells #[.int .i64 a] 3)).alloc (.cells #[.int .u64 0, .int .u64 0, .int .u64 0, .int .u64 0, .int .u64 0, .int .u64 0, .int .u64 0, .int .u64 0] 24)) (w.heap.size + 1 + 1) (fun _ => 0) := BoxS.zero (by simp)
  have hB : Below w.heap.size w (((w.alloc (.cells (solC f) 24)).alloc (.cells #[.int .i64 a] 3)).alloc (.cells #[.int .u64 0, .int .u64 0, .int .u64 0, .int .u64 0, .int .u64 0, .int .u64 0, .int .u64 0, .int .u64 0] 24)) := by repeat' (first | (with_reducible exact Below.refl _ _) | (with_reducible assumption) | (with_reducible refine Below.alloc ?_ ?_ _) | (with_reducible refine Below.drew ?_) | (with_reducible refine below_drewN ?_ _) | (with_reducible refine Below.setCell ?_ ?_ _) | go_size)
  by_cases h0 : a < 0
  · have hd : decide (a < 0) = true := decide_eq_true h0
    refine (callsIn_wide (n := 5)).1 ?_
    refine callsIn_of_wp_marks Tryz.func46 rfl trivial ?_ rfl
    simp only [Tryz.ntmps46, List.size_toArray, List.length_cons, List.length_nil, Nat.reduceAdd, Nat.reduceSub, Array.replicate_succ, Array.replicate_zero, List.push_toArray, List.append_toArray, List.nil_append, List.cons_append]
    refine wpIn_wide.2 ?_
    have c0 := (bR).cell (k := 0) (by omega); have c1 := (bR).cell (k := 1) (by omega); have c2 := (bR).cell (k := 2) (by omega); have c3 := (bR).cell (k := 3) (by omega); have c4 := (bR).cell (k := 4) (by omega); have c5 := (bR).cell (k := 5) (by omega); have c6 := (bR).cell (k := 6) (by omega); have c7 := (bR).cell (k := 7) (by omega)
    have q0 := (bR).free 0; have q1 := (bR).free 1; have q2 := (bR).free 2; have q3 := (bR).free 3; have q4 := (bR).free 4; have q5 := (bR).free 5; have q6 := (bR).free 6; have q7 := (bR).free 7
    go_wp2_with fail
    exact ⟨_, res_se bR Tryz.results46 rfl, rfl, hB⟩
  · have hd : decide (a < 0) = false := decide_eq_false h0
    have hd2 : decide (a > 2) = true := decide_eq_true (by omega)
    refine (callsIn_wide (n := 5)).1 ?_
    refine callsIn_of_wp_marks Tryz.func46 rfl trivial ?_ rfl
    simp only [Tryz.ntmps46, List.size_toArray, List.length_cons, List.length_nil, Nat.reduceAdd, Nat.reduceSub, Array.replicate_succ, Array.replicate_zero, List.push_toArray, List.append_toArray, List.nil_append, List.cons_append]
    refine wpIn_wide.2 ?_
    have c0 := (bR).cell (k := 0) (by omega); have c1 := (bR).cell (k := 1) (by omega); have c2 := (bR).cell (k := 2) (by omega); have c3 := (bR).cell (k := 3) (by omega); have c4 := (bR).cell (k := 4) (by omega); have c5 := (bR).cell (k := 5) (by omega); have c6 := (bR).cell (k := 6) (by omega); have c7 := (bR).cell (k := 7) (by omega)
    have q0 := (bR).free 0; have q1 := (bR).free 1; have q2 := (bR).free 2; have q3 := (bR).free 3; have q4 := (bR).free 4; have q5 := (bR).free 5; have q6 := (bR).free 6; have q7 := (bR).free 7
    go_wp2_with fail
    exact ⟨_, res_se bR Tryz.results46 rfl, rfl, hB⟩
end Go.Proofs.YtadkaplafaeebaaGreatDoor
