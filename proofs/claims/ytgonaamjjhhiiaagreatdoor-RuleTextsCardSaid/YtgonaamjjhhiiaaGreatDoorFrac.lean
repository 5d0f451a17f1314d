/-
  Walks of the functions of package rule that check, compare and reckon with fractions.
-/
import Derived.Test.YtgonaamjjhhiiaaGreatDoorLow
import Derived.LoopN
import Derived.BigGuardPart
set_option linter.unusedVariables false
set_option linter.unusedSimpArgs false
namespace Go.Proofs.YtgonaamjjhhiiaaGreatDoor
open Go Go.RowKit

/-- Numbers that an int holds. -/
def I64 (n : Int) : Prop := -9223372036854775808 ≤ n ∧ n ≤ 9223372036854775807
def W2 (n d : Int) : Prop := I64 n ∧ I64 d
theorem CheckFrac_ok (n d : Int) (w : World) (h : okQ n d = true) :
    Calls Tryz.prog 52 #[.agg #[.int .i64 (n), .int .i64 (d)]] w fun e w' => e = .returned (.int .i64 0) ∧ Below w.heap.size w w' := by
  obtain ⟨h1, h2, h3, h4, h5⟩ := okQ_iff.1 h
  have h6 : (gc n d != 1) = false := by simpa using h5
  clear h h5
  go_enter Tryz.func52, Tryz.ntmps52
  go_wp2_with (go_at_call 59; refine (divisor_any n d _ (by omega) (by omega) (by omega) (by omega)).mono ?_; rintro e w1 ⟨rfl, hb1⟩; obtain ⟨hc1, hf1⟩ := bcell hb1; have hB1 : Below w.heap.size w w1 := up hb1 (by go_grown); have hz1 := hb1.size; (try simp at hz1); (try have hz1_w_p1 : w.heap.size < w1.heap.size + 1 := (by omega)); (try have hz1_w_p2 : w.heap.size < w1.heap.size + 1 + 1 := (by omega)); (try have hz1_w_p3 : w.heap.size < w1.heap.size + 1 + 1 + 1 := (by omega)); (try have hz1_w_0 : w.heap.size < w1.heap.size := (by omega)); (try have hz1_w_1 : w.heap.size + 1 < w1.heap.size := (by omega)); (try have hz1_w_2 : w.heap.size + 1 + 1 < w1.heap.size := (by omega)); (try have hz1_w_3 : w.heap.size + 1 + 1 + 1 < w1.heap.size := (by omega)); (try have hz1_w_4 : w.heap.size + 1 + 1 + 1 + 1 < w1.heap.size := (by omega)); (try have hz1_w_5 : w.heap.size + 1 + 1 + 1 + 1 + 1 < w1.heap.size := (by omega)); (try have hz1_w_6 : w.heap.size + 1 + 1 + 1 + 1 + 1 + 1 < w1.heap.size := (by omega)))
  go_returns
  exact ⟨rfl, by go_grown⟩
theorem CheckFrac_bad (n d : Int) (w : World) (hw : W2 n d) (h : okQ n d = false) :
    Calls Tryz.prog 52 #[.agg #[.int .i64 (n), .int .i64 (d)]] w fun e w' => e = .returned (.int .i64 1) ∧ Below w.heap.size w w' := by
  obtain ⟨⟨hn, hn'⟩, hd, hd'⟩ := hw
  have h' : ¬ okQ n d = true := by rw [h]; exact Bool.false_ne_true
  rw [okQ_iff] at h'
  clear h
  by_cases c1 : d < 1
  · clear h'
    go_enter Tryz.func52, Tryz.ntmps52
    go_wp2
    all_goals first | (exfalso; omega) | (go_returns; exact ⟨rfl, by go_grown⟩)
  by_cases c2 : 1000000 < d
  · clear h'
    have c1' : 1 ≤ d := by omega
    clear c1
    go_enter Tryz.func52, Tryz.ntmps52
    go_wp2
    all_goals first | (exfalso; omega) | (go_returns; exact ⟨rfl, by go_grown⟩)
  by_cases c3 : n < -1000000000
  · clear h'
    have c1' : 1 ≤ d := by omega
    have c2' : d ≤ 1000000 := by omega
    clear c1 c2
    go_enter Tryz.func52, Tryz.ntmps52
    go_wp2
    all_goals first | (exfalso; omega) | (go_returns; exact ⟨rfl, by go_grown⟩)
  by_cases c4 : 1000000000 < n
  · clear h'
    have c1' : 1 ≤ d := by omega
    have c2' : d ≤ 1000000 := by omega
    have c3' : -1000000000 ≤ n := by omega
    clear c1 c2 c3
    go_enter Tryz.func52, Tryz.ntmps52
    go_wp2
    all_goals first | (exfalso; omega) | (go_returns; exact ⟨rfl, by go_grown⟩)
  · have c1' : 1 ≤ d := by omega
    have c2' : d ≤ 1000000 := by omega
    have c3' : -1000000000 ≤ n := by omega
    have c4' : n ≤ 1000000000 := by omega
    have c5 : ¬ gc n d = 1 := fun e => h' ⟨c1', c2', c3', c4', e⟩
    clear c1 c2 c3 c4 h'
    have c6 : (gc n d != 1) = true := by simpa using c5
    go_enter Tryz.func52, Tryz.ntmps52
    go_wp2_with (go_at_call 59; refine (divisor_any n d _ (by omega) (by omega) (by omega) (by omega)).mono ?_; rintro e w1 ⟨rfl, hb1⟩; obtain ⟨hc1, hf1⟩ := bcell hb1; have hB1 : Below w.heap.size w w1 := up hb1 (by go_grown); have hz1 := hb1.size; (try simp at hz1); (try have hz1_w_p1 : w.heap.size < w1.heap.size + 1 := (by omega)); (try have hz1_w_p2 : w.heap.size < w1.heap.size + 1 + 1 := (by omega)); (try have hz1_w_p3 : w.heap.size < w1.heap.size + 1 + 1 + 1 := (by omega)); (try have hz1_w_0 : w.heap.size < w1.heap.size := (by omega)); (try have hz1_w_1 : w.heap.size + 1 < w1.heap.size := (by omega)); (try have hz1_w_2 : w.heap.size + 1 + 1 < w1.heap.size := (by omega)); (try have hz1_w_3 : w.heap.size + 1 + 1 + 1 < w1.heap.size := (by omega)); (try have hz1_w_4 : w.heap.size + 1 + 1 + 1 + 1 < w1.heap.size := (by omega)); (try have hz1_w_5 : w.heap.size + 1 + 1 + 1 + 1 + 1 < w1.heap.size := (by omega)); (try have hz1_w_6 : w.heap.size + 1 + 1 + 1 + 1 + 1 + 1 < w1.heap.size := (by omega)))
    go_returns
    exact ⟨rfl, by go_grown⟩

set_option maxHeartbeats 800000 in
theorem check1_ok (b cap : Nat) (n1 d1 : Int) (w : World) (c1 : w.cell? ⟨b, 0, none⟩ = some (.int .i64 n1)) (e1 : w.cell? ⟨b, 1, none⟩ = some (.int .i64 d1)) (h1 : okQ n1 d1 = true) :
    Calls Tryz.prog 21 #[.slice (some ⟨b, 0, none⟩) 1 cap] w fun e w' => e = .returned (.int .i64 0) ∧ Below w.heap.size w w' := by
  have hlt := World.block_lt_of_cell? w _ c1
  have H1 := Lib.hid h1
  clear h1
  go_enter Tryz.func21, Tryz.ntmps21
  go_wp2
  refine wp_loop_rounds 2 ?_
  rw [rounds_succ]
  go_wp2_with ((go_at_call 52; refine (CheckFrac_ok n1 d1 _ H1.out).mono ?_; rintro e w1 ⟨rfl, hb1⟩; obtain ⟨hc1, hf1⟩ := bcell hb1; have hB1 : Below w.heap.size w w1 := up hb1 (by go_grown); have hz1 := hb1.size; (try simp at hz1); (try have hz1_w_p1 : w.heap.size < w1.heap.size + 1 := (by omega)); (try have hz1_w_p2 : w.heap.size < w1.heap.size + 1 + 1 := (by omega)); (try have hz1_w_p3 : w.heap.size < w1.heap.size + 1 + 1 + 1 := (by omega)); (try have hz1_w_0 : w.heap.size < w1.heap.size := (by omega)); (try have hz1_w_1 : w.heap.size + 1 < w1.heap.size := (by omega)); (try have hz1_w_2 : w.heap.size + 1 + 1 < w1.heap.size := (by omega)); (try have hz1_w_3 : w.heap.size + 1 + 1 + 1 < w1.heap.size := (by omega)); (try have hz1_w_4 : w.heap.size + 1 + 1 + 1 + 1 < w1.heap.size := (by omega)); (try have hz1_w_5 : w.heap.size + 1 + 1 + 1 + 1 + 1 < w1.heap.size := (by omega)); (try have hz1_w_6 : w.heap.size + 1 + 1 + 1 + 1 + 1 + 1 < w1.heap.size := (by omega))); have hl1 : b < w1.heap.size := (by omega))
  rw [rounds_succ]
  go_wp2
  go_returns
  exact ⟨rfl, by go_grown⟩
set_option maxHeartbeats 800000 in
theorem check1_bad1 (b cap : Nat) (n1 d1 : Int) (w : World) (c1 : w.cell? ⟨b, 0, none⟩ = some (.int .i64 n1)) (e1 : w.cell? ⟨b, 1, none⟩ = some (.int .i64 d1)) (h1 : okQ n1 d1 = false) (hw : W2 n1 d1) :
    Calls Tryz.prog 21 #[.slice (some ⟨b, 0, none⟩) 1 cap] w fun e w' => e = .returned (.int .i64 1) ∧ Below w.heap.size w w' := by
  have hlt := World.block_lt_of_cell? w _ c1
  have H1 := Lib.hid h1
  clear h1
  have HW := Lib.hid hw
  clear hw
  go_enter Tryz.func21, Tryz.ntmps21
  go_wp2
  refine wp_loop_rounds 2 ?_
  rw [rounds_succ]
  go_wp2_with ((go_at_call 52; refine (CheckFrac_bad n1 d1 _ HW.out H1.out).mono ?_; rintro e w1 ⟨rfl, hb1⟩; obtain ⟨hc1, hf1⟩ := bcell hb1; have hB1 : Below w.heap.size w w1 := up hb1 (by go_grown); have hz1 := hb1.size; (try simp at hz1); (try have hz1_w_p1 : w.heap.size < w1.heap.size + 1 := (by omega)); (try have hz1_w_p2 : w.heap.size < w1.heap.size + 1 + 1 := (by omega)); (try have hz1_w_p3 : w.heap.size < w1.heap.size + 1 + 1 + 1 := (by omega)); (try have hz1_w_0 : w.heap.size < w1.heap.size := (by omega)); (try have hz1_w_1 : w.heap.size + 1 < w1.heap.size := (by omega)); (try have hz1_w_2 : w.heap.size + 1 + 1 < w1.heap.size := (by omega)); (try have hz1_w_3 : w.heap.size + 1 + 1 + 1 < w1.heap.size := (by omega)); (try have hz1_w_4 : w.heap.size + 1 + 1 + 1 + 1 < w1.heap.size := (by omega)); (try have hz1_w_5 : w.heap.size + 1 + 1 + 1 + 1 + 1 < w1.heap.size := (by omega)); (try have hz1_w_6 : w.heap.size + 1 + 1 + 1 + 1 + 1 + 1 < w1.heap.size := (by omega))); have hl1 : b < w1.heap.size := (by omega))
  go_returns
  exact ⟨rfl, by go_grown⟩
set_option maxHeartbeats 800000 in
theorem check2_ok (b cap : Nat) (n1 d1 : Int) (n2 d2 : Int) (w : World) (c1 : w.cell? ⟨b, 0, none⟩ = some (.int .i64 n1)) (e1 : w.cell? ⟨b, 1, none⟩ = some (.int .i64 d1)) (c2 : w.cell? ⟨b, 2, none⟩ = some (.int .i64 n2)) (e2 : w.cell? ⟨b, 3, none⟩ = some (.int .i64 d2)) (h1 : okQ n1 d1 = true) (h2 : okQ n2 d2 = true) :
    Calls Tryz.prog 21 #[.slice (some ⟨b, 0, none⟩) 2 cap] w fun e w' => e = .returned (.int .i64 0) ∧ Below w.heap.size w w' := by
  have hlt := World.block_lt_of_cell? w _ c1
  have H1 := Lib.hid h1
  clear h1
  have H2 := Lib.hid h2
  clear h2
  go_enter Tryz.func21, Tryz.ntmps21
  go_wp2
  refine wp_loop_rounds 3 ?_
  rw [rounds_succ]
  go_wp2_with ((go_at_call 52; refine (CheckFrac_ok n1 d1 _ H1.out).mono ?_; rintro e w1 ⟨rfl, hb1⟩; obtain ⟨hc1, hf1⟩ := bcell hb1; have hB1 : Below w.heap.size w w1 := up hb1 (by go_grown); have hz1 := hb1.size; (try simp at hz1); (try have hz1_w_p1 : w.heap.size < w1.heap.size + 1 := (by omega)); (try have hz1_w_p2 : w.heap.size < w1.heap.size + 1 + 1 := (by omega)); (try have hz1_w_p3 : w.heap.size < w1.heap.size + 1 + 1 + 1 := (by omega)); (try have hz1_w_0 : w.heap.size < w1.heap.size := (by omega)); (try have hz1_w_1 : w.heap.size + 1 < w1.heap.size := (by omega)); (try have hz1_w_2 : w.heap.size + 1 + 1 < w1.heap.size := (by omega)); (try have hz1_w_3 : w.heap.size + 1 + 1 + 1 < w1.heap.size := (by omega)); (try have hz1_w_4 : w.heap.size + 1 + 1 + 1 + 1 < w1.heap.size := (by omega)); (try have hz1_w_5 : w.heap.size + 1 + 1 + 1 + 1 + 1 < w1.heap.size := (by omega)); (try have hz1_w_6 : w.heap.size + 1 + 1 + 1 + 1 + 1 + 1 < w1.heap.size := (by omega))); have hl1 : b < w1.heap.size := (by omega))
  rw [rounds_succ]
  go_wp2_with ((go_at_call 52; refine (CheckFrac_ok n2 d2 _ H2.out).mono ?_; rintro e w2 ⟨rfl, hb2⟩; obtain ⟨hc2, hf2⟩ := bcell hb2; have hB2 : Below w.heap.size w w2 := up hb2 (by go_grown); have hz2 := hb2.size; (try simp at hz2); (try have hz2_w_p1 : w.heap.size < w2.heap.size + 1 := (by omega)); (try have hz2_w_p2 : w.heap.size < w2.heap.size + 1 + 1 := (by omega)); (try have hz2_w_p3 : w.heap.size < w2.heap.size + 1 + 1 + 1 := (by omega)); (try have hz2_w1_p1 : w1.heap.size < w2.heap.size + 1 := (by omega)); (try have hz2_w1_p2 : w1.heap.size < w2.heap.size + 1 + 1 := (by omega)); (try have hz2_w1_p3 : w1.heap.size < w2.heap.size + 1 + 1 + 1 := (by omega)); (try have hz2_w_0 : w.heap.size < w2.heap.size := (by omega)); (try have hz2_w_1 : w.heap.size + 1 < w2.heap.size := (by omega)); (try have hz2_w_2 : w.heap.size + 1 + 1 < w2.heap.size := (by omega)); (try have hz2_w_3 : w.heap.size + 1 + 1 + 1 < w2.heap.size := (by omega)); (try have hz2_w_4 : w.heap.size + 1 + 1 + 1 + 1 < w2.heap.size := (by omega)); (try have hz2_w_5 : w.heap.size + 1 + 1 + 1 + 1 + 1 < w2.heap.size := (by omega)); (try have hz2_w_6 : w.heap.size + 1 + 1 + 1 + 1 + 1 + 1 < w2.heap.size := (by omega)); (try have hz2_w1_0 : w1.heap.size < w2.heap.size := (by omega)); (try have hz2_w1_1 : w1.heap.size + 1 < w2.heap.size := (by omega)); (try have hz2_w1_2 : w1.heap.size + 1 + 1 < w2.heap.size := (by omega)); (try have hz2_w1_3 : w1.heap.size + 1 + 1 + 1 < w2.heap.size := (by omega))); have hl2 : b < w2.heap.size := (by omega))
  rw [rounds_succ]
  go_wp2
  go_returns
  exact ⟨rfl, by go_grown⟩
set_option maxHeartbeats 800000 in
theorem check2_bad1 (b cap : Nat) (n1 d1 : Int) (n2 d2 : Int) (w : World) (c1 : w.cell? ⟨b, 0, none⟩ = some (.int .i64 n1)) (e1 : w.cell? ⟨b, 1, none⟩ = some (.int .i64 d1)) (c2 : w.cell? ⟨b, 2, none⟩ = some (.int .i64 n2)) (e2 : w.cell? ⟨b, 3, none⟩ = some (.int .i64 d2)) (h1 : okQ n1 d1 = false) (hw : W2 n1 d1) :
    Calls Tryz.prog 21 #[.slice (some ⟨b, 0, none⟩) 2 cap] w fun e w' => e = .returned (.int .i64 1) ∧ Below w.heap.size w w' := by
  have hlt := World.block_lt_of_cell? w _ c1
  have H1 := Lib.hid h1
  clear h1
  have HW := Lib.hid hw
  clear hw
  go_enter Tryz.func21, Tryz.ntmps21
  go_wp2
  refine wp_loop_rounds 3 ?_
  rw [rounds_succ]
  go_wp2_with ((go_at_call 52; refine (CheckFrac_bad n1 d1 _ HW.out H1.out).mono ?_; rintro e w1 ⟨rfl, hb1⟩; obtain ⟨hc1, hf1⟩ := bcell hb1; have hB1 : Below w.heap.size w w1 := up hb1 (by go_grown); have hz1 := hb1.size; (try simp at hz1); (try have hz1_w_p1 : w.heap.size < w1.heap.size + 1 := (by omega)); (try have hz1_w_p2 : w.heap.size < w1.heap.size + 1 + 1 := (by omega)); (try have hz1_w_p3 : w.heap.size < w1.heap.size + 1 + 1 + 1 := (by omega)); (try have hz1_w_0 : w.heap.size < w1.heap.size := (by omega)); (try have hz1_w_1 : w.heap.size + 1 < w1.heap.size := (by omega)); (try have hz1_w_2 : w.heap.size + 1 + 1 < w1.heap.size := (by omega)); (try have hz1_w_3 : w.heap.size + 1 + 1 + 1 < w1.heap.size := (by omega)); (try have hz1_w_4 : w.heap.size + 1 + 1 + 1 + 1 < w1.heap.size := (by omega)); (try have hz1_w_5 : w.heap.size + 1 + 1 + 1 + 1 + 1 < w1.heap.size := (by omega)); (try have hz1_w_6 : w.heap.size + 1 + 1 + 1 + 1 + 1 + 1 < w1.heap.size := (by omega))); have hl1 : b < w1.heap.size := (by omega))
  go_returns
  exact ⟨rfl, by go_grown⟩
set_option maxHeartbeats 800000 in
theorem check2_bad2 (b cap : Nat) (n1 d1 : Int) (n2 d2 : Int) (w : World) (c1 : w.cell? ⟨b, 0, none⟩ = some (.int .i64 n1)) (e1 : w.cell? ⟨b, 1, none⟩ = some (.int .i64 d1)) (c2 : w.cell? ⟨b, 2, none⟩ = some (.int .i64 n2)) (e2 : w.cell? ⟨b, 3, none⟩ = some (.int .i64 d2)) (h1 : okQ n1 d1 = true) (h2 : okQ n2 d2 = false) (hw : W2 n2 d2) :
    Calls Tryz.prog 21 #[.slice (some ⟨b, 0, none⟩) 2 cap] w fun e w' => e = .returned (.int .i64 1) ∧ Below w.heap.size w w' := by
  have hlt := World.block_lt_of_cell? w _ c1
  have H1 := Lib.hid h1
  clear h1
  have H2 := Lib.hid h2
  clear h2
  have HW := Lib.hid hw
  clear hw
  go_enter Tryz.func21, Tryz.ntmps21
  go_wp2
  refine wp_loop_rounds 3 ?_
  rw [rounds_succ]
  go_wp2_with ((go_at_call 52; refine (CheckFrac_ok n1 d1 _ H1.out).mono ?_; rintro e w1 ⟨rfl, hb1⟩; obtain ⟨hc1, hf1⟩ := bcell hb1; have hB1 : Below w.heap.size w w1 := up hb1 (by go_grown); have hz1 := hb1.size; (try simp at hz1); (try have hz1_w_p1 : w.heap.size < w1.heap.size + 1 := (by omega)); (try have hz1_w_p2 : w.heap.size < w1.heap.size + 1 + 1 := (by omega)); (try have hz1_w_p3 : w.heap.size < w1.heap.size + 1 + 1 + 1 := (by omega)); (try have hz1_w_0 : w.heap.size < w1.heap.size := (by omega)); (try have hz1_w_1 : w.heap.size + 1 < w1.heap.size := (by omega)); (try have hz1_w_2 : w.heap.size + 1 + 1 < w1.heap.size := (by omega)); (try have hz1_w_3 : w.heap.size + 1 + 1 + 1 < w1.heap.size := (by omega)); (try have hz1_w_4 : w.heap.size + 1 + 1 + 1 + 1 < w1.heap.size := (by omega)); (try have hz1_w_5 : w.heap.size + 1 + 1 + 1 + 1 + 1 < w1.heap.size := (by omega)); (try have hz1_w_6 : w.heap.size + 1 + 1 + 1 + 1 + 1 + 1 < w1.heap.size := (by omega))); have hl1 : b < w1.heap.size := (by omega))
  rw [rounds_succ]
  go_wp2_with ((go_at_call 52; refine (CheckFrac_bad n2 d2 _ HW.out H2.out).mono ?_; rintro e w2 ⟨rfl, hb2⟩; obtain ⟨hc2, hf2⟩ := bcell hb2; have hB2 : Below w.heap.size w w2 := up hb2 (by go_grown); have hz2 := hb2.size; (try simp at hz2); (try have hz2_w_p1 : w.heap.size < w2.heap.size + 1 := (by omega)); (try have hz2_w_p2 : w.heap.size < w2.heap.size + 1 + 1 := (by omega)); (try have hz2_w_p3 : w.heap.size < w2.heap.size + 1 + 1 + 1 := (by omega)); (try have hz2_w1_p1 : w1.heap.size < w2.heap.size + 1 := (by omega)); (try have hz2_w1_p2 : w1.heap.size < w2.heap.size + 1 + 1 := (by omega)); (try have hz2_w1_p3 : w1.heap.size < w2.heap.size + 1 + 1 + 1 := (by omega)); (try have hz2_w_0 : w.heap.size < w2.heap.size := (by omega)); (try have hz2_w_1 : w.heap.size + 1 < w2.heap.size := (by omega)); (try have hz2_w_2 : w.heap.size + 1 + 1 < w2.heap.size := (by omega)); (try have hz2_w_3 : w.heap.size + 1 + 1 + 1 < w2.heap.size := (by omega)); (try have hz2_w_4 : w.heap.size + 1 + 1 + 1 + 1 < w2.heap.size := (by omega)); (try have hz2_w_5 : w.heap.size + 1 + 1 + 1 + 1 + 1 < w2.heap.size := (by omega)); (try have hz2_w_6 : w.heap.size + 1 + 1 + 1 + 1 + 1 + 1 < w2.heap.size := (by omega)); (try have hz2_w1_0 : w1.heap.size < w2.heap.size := (by omega)); (try have hz2_w1_1 : w1.heap.size + 1 < w2.heap.size := (by omega)); (try have hz2_w1_2 : w1.heap.size + 1 + 1 < w2.heap.size := (by omega)); (try have hz2_w1_3 : w1.heap.size + 1 + 1 + 1 < w2.heap.size := (by omega))); have hl2 : b < w2.heap.size := (by omega))
  go_returns
  exact ⟨rfl, by go_grown⟩
set_option maxHeartbeats 800000 in
theorem check3_ok (b cap : Nat) (n1 d1 : Int) (n2 d2 : Int) (n3 d3 : Int) (w : World) (c1 : w.cell? ⟨b, 0, none⟩ = some (.int .i64 n1)) (e1 : w.cell? ⟨b, 1, none⟩ = some (.int .i64 d1)) (c2 : w.cell? ⟨b, 2, none⟩ = some (.int .i64 n2)) (e2 : w.cell? ⟨b, 3, none⟩ = some (.int .i64 d2)) (c3 : w.cell? ⟨b, 4, none⟩ = some (.int .i64 n3)) (e3 : w.cell? ⟨b, 5, none⟩ = some (.int .i64 d3)) (h1 : okQ n1 d1 = true) (h2 : okQ n2 d2 = true) (h3 : okQ n3 d3 = true) :
    Calls Tryz.prog 21 #[.slice (some ⟨b, 0, none⟩) 3 cap] w fun e w' => e = .returned (.int .i64 0) ∧ Below w.heap.size w w' := by
  have hlt := World.block_lt_of_cell? w _ c1
  have H1 := Lib.hid h1
  clear h1
  have H2 := Lib.hid h2
  clear h2
  have H3 := Lib.hid h3
  clear h3
  go_enter Tryz.func21, Tryz.ntmps21
  go_wp2
  refine wp_loop_rounds 4 ?_
  rw [rounds_succ]
  go_wp2_with ((go_at_call 52; refine (CheckFrac_ok n1 d1 _ H1.out).mono ?_; rintro e w1 ⟨rfl, hb1⟩; obtain ⟨hc1, hf1⟩ := bcell hb1; have hB1 : Below w.heap.size w w1 := up hb1 (by go_grown); have hz1 := hb1.size; (try simp at hz1); (try have hz1_w_p1 : w.heap.size < w1.heap.size + 1 := (by omega)); (try have hz1_w_p2 : w.heap.size < w1.heap.size + 1 + 1 := (by omega)); (try have hz1_w_p3 : w.heap.size < w1.heap.size + 1 + 1 + 1 := (by omega)); (try have hz1_w_0 : w.heap.size < w1.heap.size := (by omega)); (try have hz1_w_1 : w.heap.size + 1 < w1.heap.size := (by omega)); (try have hz1_w_2 : w.heap.size + 1 + 1 < w1.heap.size := (by omega)); (try have hz1_w_3 : w.heap.size + 1 + 1 + 1 < w1.heap.size := (by omega)); (try have hz1_w_4 : w.heap.size + 1 + 1 + 1 + 1 < w1.heap.size := (by omega)); (try have hz1_w_5 : w.heap.size + 1 + 1 + 1 + 1 + 1 < w1.heap.size := (by omega)); (try have hz1_w_6 : w.heap.size + 1 + 1 + 1 + 1 + 1 + 1 < w1.heap.size := (by omega))); have hl1 : b < w1.heap.size := (by omega))
  rw [rounds_succ]
  go_wp2_with ((go_at_call 52; refine (CheckFrac_ok n2 d2 _ H2.out).mono ?_; rintro e w2 ⟨rfl, hb2⟩; obtain ⟨hc2, hf2⟩ := bcell hb2; have hB2 : Below w.heap.size w w2 := up hb2 (by go_grown); have hz2 := hb2.size; (try simp at hz2); (try have hz2_w_p1 : w.heap.size < w2.heap.size + 1 := (by omega)); (try have hz2_w_p2 : w.heap.size < w2.heap.size + 1 + 1 := (by omega)); (try have hz2_w_p3 : w.heap.size < w2.heap.size + 1 + 1 + 1 := (by omega)); (try have hz2_w1_p1 : w1.heap.size < w2.heap.size + 1 := (by omega)); (try have hz2_w1_p2 : w1.heap.size < w2.heap.size + 1 + 1 := (by omega)); (try have hz2_w1_p3 : w1.heap.size < w2.heap.size + 1 + 1 + 1 := (by omega)); (try have hz2_w_0 : w.heap.size < w2.heap.size := (by omega)); (try have hz2_w_1 : w.heap.size + 1 < w2.heap.size := (by omega)); (try have hz2_w_2 : w.heap.size + 1 + 1 < w2.heap.size := (by omega)); (try have hz2_w_3 : w.heap.size + 1 + 1 + 1 < w2.heap.size := (by omega)); (try have hz2_w_4 : w.heap.size + 1 + 1 + 1 + 1 < w2.heap.size := (by omega)); (try have hz2_w_5 : w.heap.size + 1 + 1 + 1 + 1 + 1 < w2.heap.size := (by omega)); (try have hz2_w_6 : w.heap.size + 1 + 1 + 1 + 1 + 1 + 1 < w2.heap.size := (by omega)); (try have hz2_w1_0 : w1.heap.size < w2.heap.size := (by omega)); (try have hz2_w1_1 : w1.heap.size + 1 < w2.heap.size := (by omega)); (try have hz2_w1_2 : w1.heap.size + 1 + 1 < w2.heap.size := (by omega)); (try have hz2_w1_3 : w1.heap.size + 1 + 1 + 1 < w2.heap.size := (by omega))); have hl2 : b < w2.heap.size := (by omega))
  rw [rounds_succ]
  go_wp2_with ((go_at_call 52; refine (CheckFrac_ok n3 d3 _ H3.out).mono ?_; rintro e w3 ⟨rfl, hb3⟩; obtain ⟨hc3, hf3⟩ := bcell hb3; have hB3 : Below w.heap.size w w3 := up hb3 (by go_grown); have hz3 := hb3.size; (try simp at hz3); (try have hz3_w_p1 : w.heap.size < w3.heap.size + 1 := (by omega)); (try have hz3_w_p2 : w.heap.size < w3.heap.size + 1 + 1 := (by omega)); (try have hz3_w_p3 : w.heap.size < w3.heap.size + 1 + 1 + 1 := (by omega)); (try have hz3_w1_p1 : w1.heap.size < w3.heap.size + 1 := (by omega)); (try have hz3_w1_p2 : w1.heap.size < w3.heap.size + 1 + 1 := (by omega)); (try have hz3_w1_p3 : w1.heap.size < w3.heap.size + 1 + 1 + 1 := (by omega)); (try have hz3_w2_p1 : w2.heap.size < w3.heap.size + 1 := (by omega)); (try have hz3_w2_p2 : w2.heap.size < w3.heap.size + 1 + 1 := (by omega)); (try have hz3_w2_p3 : w2.heap.size < w3.heap.size + 1 + 1 + 1 := (by omega)); (try have hz3_w_0 : w.heap.size < w3.heap.size := (by omega)); (try have hz3_w_1 : w.heap.size + 1 < w3.heap.size := (by omega)); (try have hz3_w_2 : w.heap.size + 1 + 1 < w3.heap.size := (by omega)); (try have hz3_w_3 : w.heap.size + 1 + 1 + 1 < w3.heap.size := (by omega)); (try have hz3_w_4 : w.heap.size + 1 + 1 + 1 + 1 < w3.heap.size := (by omega)); (try have hz3_w_5 : w.heap.size + 1 + 1 + 1 + 1 + 1 < w3.heap.size := (by omega)); (try have hz3_w_6 : w.heap.size + 1 + 1 + 1 + 1 + 1 + 1 < w3.heap.size := (by omega)); (try have hz3_w1_0 : w1.heap.size < w3.heap.size := (by omega)); (try have hz3_w1_1 : w1.heap.size + 1 < w3.heap.size := (by omega)); (try have hz3_w1_2 : w1.heap.size + 1 + 1 < w3.heap.size := (by omega)); (try have hz3_w1_3 : w1.heap.size + 1 + 1 + 1 < w3.heap.size := (by omega)); (try have hz3_w2_0 : w2.heap.size < w3.heap.size := (by omega)); (try have hz3_w2_1 : w2.heap.size + 1 < w3.heap.size := (by omega)); (try have hz3_w2_2 : w2.heap.size + 1 + 1 < w3.heap.size := (by omega)); (try have hz3_w2_3 : w2.heap.size + 1 + 1 + 1 < w3.heap.size := (by omega))); have hl3 : b < w3.heap.size := (by omega))
  rw [rounds_succ]
  go_wp2
  go_returns
  exact ⟨rfl, by go_grown⟩
set_option maxHeartbeats 800000 in
theorem check3_bad1 (b cap : Nat) (n1 d1 : Int) (n2 d2 : Int) (n3 d3 : Int) (w : World) (c1 : w.cell? ⟨b, 0, none⟩ = some (.int .i64 n1)) (e1 : w.cell? ⟨b, 1, none⟩ = some (.int .i64 d1)) (c2 : w.cell? ⟨b, 2, none⟩ = some (.int .i64 n2)) (e2 : w.cell? ⟨b, 3, none⟩ = some (.int .i64 d2)) (c3 : w.cell? ⟨b, 4, none⟩ = some (.int .i64 n3)) (e3 : w.cell? ⟨b, 5, none⟩ = some (.int .i64 d3)) (h1 : okQ n1 d1 = false) (hw : W2 n1 d1) :
    Calls Tryz.prog 21 #[.slice (some ⟨b, 0, none⟩) 3 cap] w fun e w' => e = .returned (.int .i64 1) ∧ Below w.heap.size w w' := by
  have hlt := World.block_lt_of_cell? w _ c1
  have H1 := Lib.hid h1
  clear h1
  have HW := Lib.hid hw
  clear hw
  go_enter Tryz.func21, Tryz.ntmps21
  go_wp2
  refine wp_loop_rounds 4 ?_
  rw [rounds_succ]
  go_wp2_with ((go_at_call 52; refine (CheckFrac_bad n1 d1 _ HW.out H1.out).mono ?_; rintro e w1 ⟨rfl, hb1⟩; obtain ⟨hc1, hf1⟩ := bcell hb1; have hB1 : Below w.heap.size w w1 := up hb1 (by go_grown); have hz1 := hb1.size; (try simp at hz1); (try have hz1_w_p1 : w.heap.size < w1.heap.size + 1 := (by omega)); (try have hz1_w_p2 : w.heap.size < w1.heap.size + 1 + 1 := (by omega)); (try have hz1_w_p3 : w.heap.size < w1.heap.size + 1 + 1 + 1 := (by omega)); (try have hz1_w_0 : w.heap.size < w1.heap.size := (by omega)); (try have hz1_w_1 : w.heap.size + 1 < w1.heap.size := (by omega)); (try have hz1_w_2 : w.heap.size + 1 + 1 < w1.heap.size := (by omega)); (try have hz1_w_3 : w.heap.size + 1 + 1 + 1 < w1.heap.size := (by omega)); (try have hz1_w_4 : w.heap.size + 1 + 1 + 1 + 1 < w1.heap.size := (by omega)); (try have hz1_w_5 : w.heap.size + 1 + 1 + 1 + 1 + 1 < w1.heap.size := (by omega)); (try have hz1_w_6 : w.heap.size + 1 + 1 + 1 + 1 + 1 + 1 < w1.heap.size := (by omega))); have hl1 : b < w1.heap.size := (by omega))
  go_returns
  exact ⟨rfl, by go_grown⟩
set_option maxHeartbeats 800000 in
theorem check3_bad2 (b cap : Nat) (n1 d1 : Int) (n2 d2 : Int) (n3 d3 : Int) (w : World) (c1 : w.cell? ⟨b, 0, none⟩ = some (.int .i64 n1)) (e1 : w.cell? ⟨b, 1, none⟩ = some (.int .i64 d1)) (c2 : w.cell? ⟨b, 2, none⟩ = some (.int .i64 n2)) (e2 : w.cell? ⟨b, 3, none⟩ = some (.int .i64 d2)) (c3 : w.cell? ⟨b, 4, none⟩ = some (.int .i64 n3)) (e3 : w.cell? ⟨b, 5, none⟩ = some (.int .i64 d3)) (h1 : okQ n1 d1 = true) (h2 : okQ n2 d2 = false) (hw : W2 n2 d2) :
    Calls Tryz.prog 21 #[.slice (some ⟨b, 0, none⟩) 3 cap] w fun e w' => e = .returned (.int .i64 1) ∧ Below w.heap.size w w' := by
  have hlt := World.block_lt_of_cell? w _ c1
  have H1 := Lib.hid h1
  clear h1
  have H2 := Lib.hid h2
  clear h2
  have HW := Lib.hid hw
  clear hw
  go_enter Tryz.func21, Tryz.ntmps21
  go_wp2
  refine wp_loop_rounds 4 ?_
  rw [rounds_succ]
  go_wp2_with ((go_at_call 52; refine (CheckFrac_ok n1 d1 _ H1.out).mono ?_; rintro e w1 ⟨rfl, hb1⟩; obtain ⟨hc1, hf1⟩ := bcell hb1; have hB1 : Below w.heap.size w w1 := up hb1 (by go_grown); have hz1 := hb1.size; (try simp at hz1); (try have hz1_w_p1 : w.heap.size < w1.heap.size + 1 := (by omega)); (try have hz1_w_p2 : w.heap.size < w1.heap.size + 1 + 1 := (by omega)); (try have hz1_w_p3 : w.heap.size < w1.heap.size + 1 + 1 + 1 := (by omega)); (try have hz1_w_0 : w.heap.size < w1.heap.size := (by omega)); (try have hz1_w_1 : w.heap.size + 1 < w1.heap.size := (by omega)); (try have hz1_w_2 : w.heap.size + 1 + 1 < w1.heap.size := (by omega)); (try have hz1_w_3 : w.heap.size + 1 + 1 + 1 < w1.heap.size := (by omega)); (try have hz1_w_4 : w.heap.size + 1 + 1 + 1 + 1 < w1.heap.size := (by omega)); (try have hz1_w_5 : w.heap.size + 1 + 1 + 1 + 1 + 1 < w1.heap.size := (by omega)); (try have hz1_w_6 : w.heap.size + 1 + 1 + 1 + 1 + 1 + 1 < w1.heap.size := (by omega))); have hl1 : b < w1.heap.size := (by omega))
  rw [rounds_succ]
  go_wp2_with ((go_at_call 52; refine (CheckFrac_bad n2 d2 _ HW.out H2.out).mono ?_; rintro e w2 ⟨rfl, hb2⟩; obtain ⟨hc2, hf2⟩ := bcell hb2; have hB2 : Below w.heap.size w w2 := up hb2 (by go_grown); have hz2 := hb2.size; (try simp at hz2); (try have hz2_w_p1 : w.heap.size < w2.heap.size + 1 := (by omega)); (try have hz2_w_p2 : w.heap.size < w2.heap.size + 1 + 1 := (by omega)); (try have hz2_w_p3 : w.heap.size < w2.heap.size + 1 + 1 + 1 := (by omega)); (try have hz2_w1_p1 : w1.heap.size < w2.heap.size + 1 := (by omega)); (try have hz2_w1_p2 : w1.heap.size < w2.heap.size + 1 + 1 := (by omega)); (try have hz2_w1_p3 : w1.heap.size < w2.heap.size + 1 + 1 + 1 := (by omega)); (try have hz2_w_0 : w.heap.size < w2.heap.size := (by omega)); (try have hz2_w_1 : w.heap.size + 1 < w2.heap.size := (by omega)); (try have hz2_w_2 : w.heap.size + 1 + 1 < w2.heap.size := (by omega)); (try have hz2_w_3 : w.heap.size + 1 + 1 + 1 < w2.heap.size := (by omega)); (try have hz2_w_4 : w.heap.size + 1 + 1 + 1 + 1 < w2.heap.size := (by omega)); (try have hz2_w_5 : w.heap.size + 1 + 1 + 1 + 1 + 1 < w2.heap.size := (by omega)); (try have hz2_w_6 : w.heap.size + 1 + 1 + 1 + 1 + 1 + 1 < w2.heap.size := (by omega)); (try have hz2_w1_0 : w1.heap.size < w2.heap.size := (by omega)); (try have hz2_w1_1 : w1.heap.size + 1 < w2.heap.size := (by omega)); (try have hz2_w1_2 : w1.heap.size + 1 + 1 < w2.heap.size := (by omega)); (try have hz2_w1_3 : w1.heap.size + 1 + 1 + 1 < w2.heap.size := (by omega))); have hl2 : b < w2.heap.size := (by omega))
  go_returns
  exact ⟨rfl, by go_grown⟩
set_option maxHeartbeats 800000 in
theorem check3_bad3 (b cap : Nat) (n1 d1 : Int) (n2 d2 : Int) (n3 d3 : Int) (w : World) (c1 : w.cell? ⟨b, 0, none⟩ = some (.int .i64 n1)) (e1 : w.cell? ⟨b, 1, none⟩ = some (.int .i64 d1)) (c2 : w.cell? ⟨b, 2, none⟩ = some (.int .i64 n2)) (e2 : w.cell? ⟨b, 3, none⟩ = some (.int .i64 d2)) (c3 : w.cell? ⟨b, 4, none⟩ = some (.int .i64 n3)) (e3 : w.cell? ⟨b, 5, none⟩ = some (.int .i64 d3)) (h1 : okQ n1 d1 = true) (h2 : okQ n2 d2 = true) (h3 : okQ n3 d3 = false) (hw : W2 n3 d3) :
    Calls Tryz.prog 21 #[.slice (some ⟨b, 0, none⟩) 3 cap] w fun e w' => e = .returned (.int .i64 1) ∧ Below w.heap.size w w' := by
  have hlt := World.block_lt_of_cell? w _ c1
  have H1 := Lib.hid h1
  clear h1
  have H2 := Lib.hid h2
  clear h2
  have H3 := Lib.hid h3
  clear h3
  have HW := Lib.hid hw
  clear hw
  go_enter Tryz.func21, Tryz.ntmps21
  go_wp2
  refine wp_loop_rounds 4 ?_
  rw [rounds_succ]
  go_wp2_with ((go_at_call 52; refine (CheckFrac_ok n1 d1 _ H1.out).mono ?_; rintro e w1 ⟨rfl, hb1⟩; obtain ⟨hc1, hf1⟩ := bcell hb1; have hB1 : Below w.heap.size w w1 := up hb1 (by go_grown); have hz1 := hb1.size; (try simp at hz1); (try have hz1_w_p1 : w.heap.size < w1.heap.size + 1 := (by omega)); (try have hz1_w_p2 : w.heap.size < w1.heap.size + 1 + 1 := (by omega)); (try have hz1_w_p3 : w.heap.size < w1.heap.size + 1 + 1 + 1 := (by omega)); (try have hz1_w_0 : w.heap.size < w1.heap.size := (by omega)); (try have hz1_w_1 : w.heap.size + 1 < w1.heap.size := (by omega)); (try have hz1_w_2 : w.heap.size + 1 + 1 < w1.heap.size := (by omega)); (try have hz1_w_3 : w.heap.size + 1 + 1 + 1 < w1.heap.size := (by omega)); (try have hz1_w_4 : w.heap.size + 1 + 1 + 1 + 1 < w1.heap.size := (by omega)); (try have hz1_w_5 : w.heap.size + 1 + 1 + 1 + 1 + 1 < w1.heap.size := (by omega)); (try have hz1_w_6 : w.heap.size + 1 + 1 + 1 + 1 + 1 + 1 < w1.heap.size := (by omega))); have hl1 : b < w1.heap.size := (by omega))
  rw [rounds_succ]
  go_wp2_with ((go_at_call 52; refine (CheckFrac_ok n2 d2 _ H2.out).mono ?_; rintro e w2 ⟨rfl, hb2⟩; obtain ⟨hc2, hf2⟩ := bcell hb2; have hB2 : Below w.heap.size w w2 := up hb2 (by go_grown); have hz2 := hb2.size; (try simp at hz2); (try have hz2_w_p1 : w.heap.size < w2.heap.size + 1 := (by omega)); (try have hz2_w_p2 : w.heap.size < w2.heap.size + 1 + 1 := (by omega)); (try have hz2_w_p3 : w.heap.size < w2.heap.size + 1 + 1 + 1 := (by omega)); (try have hz2_w1_p1 : w1.heap.size < w2.heap.size + 1 := (by omega)); (try have hz2_w1_p2 : w1.heap.size < w2.heap.size + 1 + 1 := (by omega)); (try have hz2_w1_p3 : w1.heap.size < w2.heap.size + 1 + 1 + 1 := (by omega)); (try have hz2_w_0 : w.heap.size < w2.heap.size := (by omega)); (try have hz2_w_1 : w.heap.size + 1 < w2.heap.size := (by omega)); (try have hz2_w_2 : w.heap.size + 1 + 1 < w2.heap.size := (by omega)); (try have hz2_w_3 : w.heap.size + 1 + 1 + 1 < w2.heap.size := (by omega)); (try have hz2_w_4 : w.heap.size + 1 + 1 + 1 + 1 < w2.heap.size := (by omega)); (try have hz2_w_5 : w.heap.size + 1 + 1 + 1 + 1 + 1 < w2.heap.size := (by omega)); (try have hz2_w_6 : w.heap.size + 1 + 1 + 1 + 1 + 1 + 1 < w2.heap.size := (by omega)); (try have hz2_w1_0 : w1.heap.size < w2.heap.size := (by omega)); (try have hz2_w1_1 : w1.heap.size + 1 < w2.heap.size := (by omega)); (try have hz2_w1_2 : w1.heap.size + 1 + 1 < w2.heap.size := (by omega)); (try have hz2_w1_3 : w1.heap.size + 1 + 1 + 1 < w2.heap.size := (by omega))); have hl2 : b < w2.heap.size := (by omega))
  rw [rounds_succ]
  go_wp2_with ((go_at_call 52; refine (CheckFrac_bad n3 d3 _ HW.out H3.out).mono ?_; rintro e w3 ⟨rfl, hb3⟩; obtain ⟨hc3, hf3⟩ := bcell hb3; have hB3 : Below w.heap.size w w3 := up hb3 (by go_grown); have hz3 := hb3.size; (try simp at hz3); (try have hz3_w_p1 : w.heap.size < w3.heap.size + 1 := (by omega)); (try have hz3_w_p2 : w.heap.size < w3.heap.size + 1 + 1 := (by omega)); (try have hz3_w_p3 : w.heap.size < w3.heap.size + 1 + 1 + 1 := (by omega)); (try have hz3_w1_p1 : w1.heap.size < w3.heap.size + 1 := (by omega)); (try have hz3_w1_p2 : w1.heap.size < w3.heap.size + 1 + 1 := (by omega)); (try have hz3_w1_p3 : w1.heap.size < w3.heap.size + 1 + 1 + 1 := (by omega)); (try have hz3_w2_p1 : w2.heap.size < w3.heap.size + 1 := (by omega)); (try have hz3_w2_p2 : w2.heap.size < w3.heap.size + 1 + 1 := (by omega)); (try have hz3_w2_p3 : w2.heap.size < w3.heap.size + 1 + 1 + 1 := (by omega)); (try have hz3_w_0 : w.heap.size < w3.heap.size := (by omega)); (try have hz3_w_1 : w.heap.size + 1 < w3.heap.size := (by omega)); (try have hz3_w_2 : w.heap.size + 1 + 1 < w3.heap.size := (by omega)); (try have hz3_w_3 : w.heap.size + 1 + 1 + 1 < w3.heap.size := (by omega)); (try have hz3_w_4 : w.heap.size + 1 + 1 + 1 + 1 < w3.heap.size := (by omega)); (try have hz3_w_5 : w.heap.size + 1 + 1 + 1 + 1 + 1 < w3.heap.size := (by omega)); (try have hz3_w_6 : w.heap.size + 1 + 1 + 1 + 1 + 1 + 1 < w3.heap.size := (by omega)); (try have hz3_w1_0 : w1.heap.size < w3.heap.size := (by omega)); (try have hz3_w1_1 : w1.heap.size + 1 < w3.heap.size := (by omega)); (try have hz3_w1_2 : w1.heap.size + 1 + 1 < w3.heap.size := (by omega)); (try have hz3_w1_3 : w1.heap.size + 1 + 1 + 1 < w3.heap.size := (by omega)); (try have hz3_w2_0 : w2.heap.size < w3.heap.size := (by omega)); (try have hz3_w2_1 : w2.heap.size + 1 < w3.heap.size := (by omega)); (try have hz3_w2_2 : w2.heap.size + 1 + 1 < w3.heap.size := (by omega)); (try have hz3_w2_3 : w2.heap.size + 1 + 1 + 1 < w3.heap.size := (by omega))); have hl3 : b < w3.heap.size := (by omega))
  go_returns
  exact ⟨rfl, by go_grown⟩
theorem check2_bad (b cap : Nat) (n1 d1 : Int) (n2 d2 : Int) (w : World) (c1 : w.cell? ⟨b, 0, none⟩ = some (.int .i64 n1)) (e1 : w.cell? ⟨b, 1, none⟩ = some (.int .i64 d1)) (c2 : w.cell? ⟨b, 2, none⟩ = some (.int .i64 n2)) (e2 : w.cell? ⟨b, 3, none⟩ = some (.int .i64 d2)) (w1 : W2 n1 d1) (w2 : W2 n2 d2) (h : (okQ n1 d1 && okQ n2 d2) = false) :
    Calls Tryz.prog 21 #[.slice (some ⟨b, 0, none⟩) 2 cap] w fun e w' => e = .returned (.int .i64 1) ∧ Below w.heap.size w w' := by
  cases h1 : okQ n1 d1 with
  | false => exact check2_bad1 b cap n1 d1 n2 d2 w c1 e1 c2 e2 h1 w1
  | true =>
    cases h2 : okQ n2 d2 with
    | false => exact check2_bad2 b cap n1 d1 n2 d2 w c1 e1 c2 e2 h1 h2 w2
    | true =>
      rw [h1, h2] at h; exact absurd h (by decide)
theorem check3_bad (b cap : Nat) (n1 d1 : Int) (n2 d2 : Int) (n3 d3 : Int) (w : World) (c1 : w.cell? ⟨b, 0, none⟩ = some (.int .i64 n1)) (e1 : w.cell? ⟨b, 1, none⟩ = some (.int .i64 d1)) (c2 : w.cell? ⟨b, 2, none⟩ = some (.int .i64 n2)) (e2 : w.cell? ⟨b, 3, none⟩ = some (.int .i64 d2)) (c3 : w.cell? ⟨b, 4, none⟩ = some (.int .i64 n3)) (e3 : w.cell? ⟨b, 5, none⟩ = some (.int .i64 d3)) (w1 : W2 n1 d1) (w2 : W2 n2 d2) (w3 : W2 n3 d3) (h : (okQ n1 d1 && okQ n2 d2 && okQ n3 d3) = false) :
    Calls Tryz.prog 21 #[.slice (some ⟨b, 0, none⟩) 3 cap] w fun e w' => e = .returned (.int .i64 1) ∧ Below w.heap.size w w' := by
  cases h1 : okQ n1 d1 with
  | false => exact check3_bad1 b cap n1 d1 n2 d2 n3 d3 w c1 e1 c2 e2 c3 e3 h1 w1
  | true =>
    cases h2 : okQ n2 d2 with
    | false => exact check3_bad2 b cap n1 d1 n2 d2 n3 d3 w c1 e1 c2 e2 c3 e3 h1 h2 w2
    | true =>
      cases h3 : okQ n3 d3 with
      | false => exact check3_bad3 b cap n1 d1 n2 d2 n3 d3 w c1 e1 c2 e2 c3 e3 h1 h2 h3 w3
      | true =>
        rw [h1, h2, h3] at h; exact absurd h (by decide)

/-- -1, 0 or 1. -/
def sgn (a b : Int) : Int := if a < b then -1 else if b < a then 1 else 0
end Go.Proofs.YtgonaamjjhhiiaaGreatDoor
