/-
  The walk of checkRules over two rules.
-/
import Derived.Test.YtgonaamjjhhiiaaGreatDoorRule3
import Derived.Test.YtgonaamjjhhiiaaGreatDoorRule1
set_option linter.unusedVariables false
set_option linter.unusedSimpArgs false
namespace Go.Proofs.YtgonaamjjhhiiaaGreatDoor
open Go Go.RowKit

set_option maxHeartbeats 1000000 in
theorem rules2_ok (b cap : Nat) (ln ld mn md kn kd on od : Int) (w : World) (c0 : w.cell? ⟨b, 0, none⟩ = some (.int .i64 ln)) (c1 : w.cell? ⟨b, 1, none⟩ = some (.int .i64 ld)) (c2 : w.cell? ⟨b, 2, none⟩ = some (.int .i64 mn)) (c3 : w.cell? ⟨b, 3, none⟩ = some (.int .i64 md)) (c4 : w.cell? ⟨b, 4, none⟩ = some (.int .i64 kn)) (c5 : w.cell? ⟨b, 5, none⟩ = some (.int .i64 kd)) (c6 : w.cell? ⟨b, 6, none⟩ = some (.int .i64 on)) (c7 : w.cell? ⟨b, 7, none⟩ = some (.int .i64 od)) (h1 : okR ln ld mn md = true) (h2 : okR kn kd on od = true) :
    Calls Tryz.prog 47 #[.slice (some ⟨b, 0, none⟩) 2 cap] w fun e w' => e = .returned (.int .i64 0) ∧ Below w.heap.size w w' := by
  have hlt : b < w.heap.size := World.block_lt_of_cell? w _ c0
  have Hh1 := hide1 h1
  have Hh2 := hide1 h2
  clear h1 h2
  go_enter Tryz.func47, Tryz.ntmps47
  go_wp2
  refine wp_loop_rounds 3 ?_
  rw [rounds_succ]
  go_wp2_with ((go_at_call 50; refine (CheckRule_yes ln ld mn md _ Hh1.out).mono ?_; rintro e w1 ⟨rfl, hb1⟩; obtain ⟨hc1, hf1⟩ := bcell hb1; have hB1 : Below w.heap.size w w1 := up hb1 (by go_grown); have hz1 := hb1.size; (try simp at hz1); (try have hz1_w_p1 : w.heap.size < w1.heap.size + 1 := (by omega)); (try have hz1_w_p2 : w.heap.size < w1.heap.size + 1 + 1 := (by omega)); (try have hz1_w_p3 : w.heap.size < w1.heap.size + 1 + 1 + 1 := (by omega)); (try have hz1_w_0 : w.heap.size < w1.heap.size := (by omega)); (try have hz1_w_1 : w.heap.size + 1 < w1.heap.size := (by omega)); (try have hz1_w_2 : w.heap.size + 1 + 1 < w1.heap.size := (by omega)); (try have hz1_w_3 : w.heap.size + 1 + 1 + 1 < w1.heap.size := (by omega)); (try have hz1_w_4 : w.heap.size + 1 + 1 + 1 + 1 < w1.heap.size := (by omega)); (try have hz1_w_5 : w.heap.size + 1 + 1 + 1 + 1 + 1 < w1.heap.size := (by omega)); (try have hz1_w_6 : w.heap.size + 1 + 1 + 1 + 1 + 1 + 1 < w1.heap.size := (by omega))); have hl1 : b < w1.heap.size := (by omega))
  rw [rounds_succ]
  go_wp2_with ((go_at_call 50; refine (CheckRule_yes kn kd on od _ Hh2.out).mono ?_; rintro e w2 ⟨rfl, hb2⟩; obtain ⟨hc2, hf2⟩ := bcell hb2; have hB2 : Below w.heap.size w w2 := up hb2 (by go_grown); have hz2 := hb2.size; (try simp at hz2); (try have hz2_w_p1 : w.heap.size < w2.heap.size + 1 := (by omega)); (try have hz2_w_p2 : w.heap.size < w2.heap.size + 1 + 1 := (by omega)); (try have hz2_w_p3 : w.heap.size < w2.heap.size + 1 + 1 + 1 := (by omega)); (try have hz2_w1_p1 : w1.heap.size < w2.heap.size + 1 := (by omega)); (try have hz2_w1_p2 : w1.heap.size < w2.heap.size + 1 + 1 := (by omega)); (try have hz2_w1_p3 : w1.heap.size < w2.heap.size + 1 + 1 + 1 := (by omega)); (try have hz2_w_0 : w.heap.size < w2.heap.size := (by omega)); (try have hz2_w_1 : w.heap.size + 1 < w2.heap.size := (by omega)); (try have hz2_w_2 : w.heap.size + 1 + 1 < w2.heap.size := (by omega)); (try have hz2_w_3 : w.heap.size + 1 + 1 + 1 < w2.heap.size := (by omega)); (try have hz2_w_4 : w.heap.size + 1 + 1 + 1 + 1 < w2.heap.size := (by omega)); (try have hz2_w_5 : w.heap.size + 1 + 1 + 1 + 1 + 1 < w2.heap.size := (by omega)); (try have hz2_w_6 : w.heap.size + 1 + 1 + 1 + 1 + 1 + 1 < w2.heap.size := (by omega)); (try have hz2_w1_0 : w1.heap.size < w2.heap.size := (by omega)); (try have hz2_w1_1 : w1.heap.size + 1 < w2.heap.size := (by omega)); (try have hz2_w1_2 : w1.heap.size + 1 + 1 < w2.heap.size := (by omega)); (try have hz2_w1_3 : w1.heap.size + 1 + 1 + 1 < w2.heap.size := (by omega))); have hl2 : b < w2.heap.size := (by omega))
  rw [rounds_succ]
  go_wp2
  go_returns
  exact ⟨rfl, by go_grown⟩
set_option maxHeartbeats 1000000 in
theorem rules2_bad1 (b cap : Nat) (ln ld mn md kn kd on od : Int) (w : World) (c0 : w.cell? ⟨b, 0, none⟩ = some (.int .i64 ln)) (c1 : w.cell? ⟨b, 1, none⟩ = some (.int .i64 ld)) (c2 : w.cell? ⟨b, 2, none⟩ = some (.int .i64 mn)) (c3 : w.cell? ⟨b, 3, none⟩ = some (.int .i64 md)) (c4 : w.cell? ⟨b, 4, none⟩ = some (.int .i64 kn)) (c5 : w.cell? ⟨b, 5, none⟩ = some (.int .i64 kd)) (c6 : w.cell? ⟨b, 6, none⟩ = some (.int .i64 on)) (c7 : w.cell? ⟨b, 7, none⟩ = some (.int .i64 od)) (h1 : okR ln ld mn md = false) (v1 : W2 ln ld) (v2 : W2 mn md) :
    Calls Tryz.prog 47 #[.slice (some ⟨b, 0, none⟩) 2 cap] w fun e w' => e = .returned (.int .i64 1) ∧ Below w.heap.size w w' := by
  have hlt : b < w.heap.size := World.block_lt_of_cell? w _ c0
  have Hh1 := hide1 h1
  have Hv1 := hide1 v1
  have Hv2 := hide1 v2
  clear h1 v1 v2
  go_enter Tryz.func47, Tryz.ntmps47
  go_wp2
  refine wp_loop_rounds 3 ?_
  rw [rounds_succ]
  go_wp2_with ((go_at_call 50; refine (CheckRule_bad ln ld mn md _ Hv1.out Hv2.out Hh1.out).mono ?_; rintro e w1 ⟨rfl, hb1⟩; obtain ⟨hc1, hf1⟩ := bcell hb1; have hB1 : Below w.heap.size w w1 := up hb1 (by go_grown); have hz1 := hb1.size; (try simp at hz1); (try have hz1_w_p1 : w.heap.size < w1.heap.size + 1 := (by omega)); (try have hz1_w_p2 : w.heap.size < w1.heap.size + 1 + 1 := (by omega)); (try have hz1_w_p3 : w.heap.size < w1.heap.size + 1 + 1 + 1 := (by omega)); (try have hz1_w_0 : w.heap.size < w1.heap.size := (by omega)); (try have hz1_w_1 : w.heap.size + 1 < w1.heap.size := (by omega)); (try have hz1_w_2 : w.heap.size + 1 + 1 < w1.heap.size := (by omega)); (try have hz1_w_3 : w.heap.size + 1 + 1 + 1 < w1.heap.size := (by omega)); (try have hz1_w_4 : w.heap.size + 1 + 1 + 1 + 1 < w1.heap.size := (by omega)); (try have hz1_w_5 : w.heap.size + 1 + 1 + 1 + 1 + 1 < w1.heap.size := (by omega)); (try have hz1_w_6 : w.heap.size + 1 + 1 + 1 + 1 + 1 + 1 < w1.heap.size := (by omega))); have hl1 : b < w1.heap.size := (by omega))
  go_returns
  exact ⟨rfl, by go_grown⟩
set_option maxHeartbeats 1000000 in
theorem rules2_bad2 (b cap : Nat) (ln ld mn md kn kd on od : Int) (w : World) (c0 : w.cell? ⟨b, 0, none⟩ = some (.int .i64 ln)) (c1 : w.cell? ⟨b, 1, none⟩ = some (.int .i64 ld)) (c2 : w.cell? ⟨b, 2, none⟩ = some (.int .i64 mn)) (c3 : w.cell? ⟨b, 3, none⟩ = some (.int .i64 md)) (c4 : w.cell? ⟨b, 4, none⟩ = some (.int .i64 kn)) (c5 : w.cell? ⟨b, 5, none⟩ = some (.int .i64 kd)) (c6 : w.cell? ⟨b, 6, none⟩ = some (.int .i64 on)) (c7 : w.cell? ⟨b, 7, none⟩ = some (.int .i64 od)) (h1 : okR ln ld mn md = true) (h2 : okR kn kd on od = false) (v1 : W2 kn kd) (v2 : W2 on od) :
    Calls Tryz.prog 47 #[.slice (some ⟨b, 0, none⟩) 2 cap] w fun e w' => e = .returned (.int .i64 1) ∧ Below w.heap.size w w' := by
  have hlt : b < w.heap.size := World.block_lt_of_cell? w _ c0
  have Hh1 := hide1 h1
  have Hh2 := hide1 h2
  have Hv1 := hide1 v1
  have Hv2 := hide1 v2
  clear h1 h2 v1 v2
  go_enter Tryz.func47, Tryz.ntmps47
  go_wp2
  refine wp_loop_rounds 3 ?_
  rw [rounds_succ]
  go_wp2_with ((go_at_call 50; refine (CheckRule_yes ln ld mn md _ Hh1.out).mono ?_; rintro e w1 ⟨rfl, hb1⟩; obtain ⟨hc1, hf1⟩ := bcell hb1; have hB1 : Below w.heap.size w w1 := up hb1 (by go_grown); have hz1 := hb1.size; (try simp at hz1); (try have hz1_w_p1 : w.heap.size < w1.heap.size + 1 := (by omega)); (try have hz1_w_p2 : w.heap.size < w1.heap.size + 1 + 1 := (by omega)); (try have hz1_w_p3 : w.heap.size < w1.heap.size + 1 + 1 + 1 := (by omega)); (try have hz1_w_0 : w.heap.size < w1.heap.size := (by omega)); (try have hz1_w_1 : w.heap.size + 1 < w1.heap.size := (by omega)); (try have hz1_w_2 : w.heap.size + 1 + 1 < w1.heap.size := (by omega)); (try have hz1_w_3 : w.heap.size + 1 + 1 + 1 < w1.heap.size := (by omega)); (try have hz1_w_4 : w.heap.size + 1 + 1 + 1 + 1 < w1.heap.size := (by omega)); (try have hz1_w_5 : w.heap.size + 1 + 1 + 1 + 1 + 1 < w1.heap.size := (by omega)); (try have hz1_w_6 : w.heap.size + 1 + 1 + 1 + 1 + 1 + 1 < w1.heap.size := (by omega))); have hl1 : b < w1.heap.size := (by omega))
  rw [rounds_succ]
  go_wp2_with ((go_at_call 50; refine (CheckRule_bad kn kd on od _ Hv1.out Hv2.out Hh2.out).mono ?_; rintro e w2 ⟨rfl, hb2⟩; obtain ⟨hc2, hf2⟩ := bcell hb2; have hB2 : Below w.heap.size w w2 := up hb2 (by go_grown); have hz2 := hb2.size; (try simp at hz2); (try have hz2_w_p1 : w.heap.size < w2.heap.size + 1 := (by omega)); (try have hz2_w_p2 : w.heap.size < w2.heap.size + 1 + 1 := (by omega)); (try have hz2_w_p3 : w.heap.size < w2.heap.size + 1 + 1 + 1 := (by omega)); (try have hz2_w1_p1 : w1.heap.size < w2.heap.size + 1 := (by omega)); (try have hz2_w1_p2 : w1.heap.size < w2.heap.size + 1 + 1 := (by omega)); (try have hz2_w1_p3 : w1.heap.size < w2.heap.size + 1 + 1 + 1 := (by omega)); (try have hz2_w_0 : w.heap.size < w2.heap.size := (by omega)); (try have hz2_w_1 : w.heap.size + 1 < w2.heap.size := (by omega)); (try have hz2_w_2 : w.heap.size + 1 + 1 < w2.heap.size := (by omega)); (try have hz2_w_3 : w.heap.size + 1 + 1 + 1 < w2.heap.size := (by omega)); (try have hz2_w_4 : w.heap.size + 1 + 1 + 1 + 1 < w2.heap.size := (by omega)); (try have hz2_w_5 : w.heap.size + 1 + 1 + 1 + 1 + 1 < w2.heap.size := (by omega)); (try have hz2_w_6 : w.heap.size + 1 + 1 + 1 + 1 + 1 + 1 < w2.heap.size := (by omega)); (try have hz2_w1_0 : w1.heap.size < w2.heap.size := (by omega)); (try have hz2_w1_1 : w1.heap.size + 1 < w2.heap.size := (by omega)); (try have hz2_w1_2 : w1.heap.size + 1 + 1 < w2.heap.size := (by omega)); (try have hz2_w1_3 : w1.heap.size + 1 + 1 + 1 < w2.heap.size := (by omega))); have hl2 : b < w2.heap.size := (by omega))
  go_returns
  exact ⟨rfl, by go_grown⟩
theorem rules2_bad (b cap : Nat) (ln ld mn md kn kd on od : Int) (w : World) (c0 : w.cell? ⟨b, 0, none⟩ = some (.int .i64 ln)) (c1 : w.cell? ⟨b, 1, none⟩ = some (.int .i64 ld)) (c2 : w.cell? ⟨b, 2, none⟩ = some (.int .i64 mn)) (c3 : w.cell? ⟨b, 3, none⟩ = some (.int .i64 md)) (c4 : w.cell? ⟨b, 4, none⟩ = some (.int .i64 kn)) (c5 : w.cell? ⟨b, 5, none⟩ = some (.int .i64 kd)) (c6 : w.cell? ⟨b, 6, none⟩ = some (.int .i64 on)) (c7 : w.cell? ⟨b, 7, none⟩ = some (.int .i64 od)) (v1 : W2 ln ld) (v2 : W2 mn md) (v3 : W2 kn kd) (v4 : W2 on od) (h : (okR ln ld mn md && okR kn kd on od) = false) :
    Calls Tryz.prog 47 #[.slice (some ⟨b, 0, none⟩) 2 cap] w fun e w' => e = .returned (.int .i64 1) ∧ Below w.heap.size w w' := by
  cases h1 : okR ln ld mn md with
  | false => exact rules2_bad1 b cap ln ld mn md kn kd on od w c0 c1 c2 c3 c4 c5 c6 c7 h1 v1 v2
  | true =>
    cases h2 : okR kn kd on od with
    | false => exact rules2_bad2 b cap ln ld mn md kn kd on od w c0 c1 c2 c3 c4 c5 c6 c7 h1 h2 v3 v4
    | true =>
      rw [h1, h2] at h; exact absurd h (by decide)
end Go.Proofs.YtgonaamjjhhiiaaGreatDoor
