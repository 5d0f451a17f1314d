/-
  Walks of the listed functions of package rule that check, compare and round fractions.
-/
import Derived.Test.YtgonaamjjhhiiaaGreatDoorFrac
import Derived.Test.YtgonaamjjhhiiaaGreatDoorRet
set_option linter.unusedVariables false
set_option linter.unusedSimpArgs false
namespace Go.Proofs.YtgonaamjjhhiiaaGreatDoor
open Go Go.RowKit

/-- Are the arguments of Of as said? -/
def ofOk (n d : Int) : Bool := decide (1 ≤ d ∧ d ≤ 1000000000000 ∧ -1000000000000000 ≤ n ∧ n ≤ 1000000000000000)
theorem ofOk_iff {n d : Int} : ofOk n d = true ↔ 1 ≤ d ∧ d ≤ 1000000000000 ∧ -1000000000000000 ≤ n ∧ n ≤ 1000000000000000 := by
  unfold ofOk; exact decide_eq_true_iff
theorem Of_ok (n d : Int) (w : World) (h : ofOk n d = true) (hk : lowOk n d = true) :
    Calls Tryz.prog 9 #[.int .i64 n, .int .i64 d] w fun e w' => e = .returned (.tuple #[.agg #[.int .i64 (lowN n d), .int .i64 (lowD n d)], .int .i64 0]) ∧ Below w.heap.size w w' := by
  obtain ⟨h1, h2, h3, h4⟩ := ofOk_iff.1 h
  have HK := Lib.hid hk
  clear h hk
  go_enter Tryz.func9, Tryz.ntmps9
  go_wp2_with (go_at_call 28; refine (lowest_ok n d _ (by omega) (by omega) (by omega) (by omega) HK.out).mono ?_; rintro e w1 ⟨rfl, hb1⟩; obtain ⟨hc1, hf1⟩ := bcell hb1; have hB1 : Below w.heap.size w w1 := up hb1 (by go_grown); have hz1 := hb1.size; (try simp at hz1); (try have hz1_w_p1 : w.heap.size < w1.heap.size + 1 := (by omega)); (try have hz1_w_p2 : w.heap.size < w1.heap.size + 1 + 1 := (by omega)); (try have hz1_w_p3 : w.heap.size < w1.heap.size + 1 + 1 + 1 := (by omega)); (try have hz1_w_0 : w.heap.size < w1.heap.size := (by omega)); (try have hz1_w_1 : w.heap.size + 1 < w1.heap.size := (by omega)); (try have hz1_w_2 : w.heap.size + 1 + 1 < w1.heap.size := (by omega)); (try have hz1_w_3 : w.heap.size + 1 + 1 + 1 < w1.heap.size := (by omega)); (try have hz1_w_4 : w.heap.size + 1 + 1 + 1 + 1 < w1.heap.size := (by omega)); (try have hz1_w_5 : w.heap.size + 1 + 1 + 1 + 1 + 1 < w1.heap.size := (by omega)); (try have hz1_w_6 : w.heap.size + 1 + 1 + 1 + 1 + 1 + 1 < w1.heap.size := (by omega)); have r1_0_0 : w1.cell? ⟨w.heap.size, 0, none⟩ = some (.int .i64 0) := (by go_cell); have r1_0_1 : w1.cell? ⟨w.heap.size, 1, none⟩ = some (.int .i64 0) := (by go_cell))
  all_goals first | (exfalso; omega) | (refine bodyPost_ret (res_qe Tryz.results9 rfl (by go_cell) (by go_cell)) rfl ⟨rfl, by go_grown⟩)
theorem Of_size (n d : Int) (w : World) (h : ofOk n d = true) (hk : lowOk n d = false) :
    Calls Tryz.prog 9 #[.int .i64 n, .int .i64 d] w fun e w' => e = .returned (.tuple #[.agg #[.int .i64 (0), .int .i64 (0)], .int .i64 10]) ∧ Below w.heap.size w w' := by
  obtain ⟨h1, h2, h3, h4⟩ := ofOk_iff.1 h
  have HK := Lib.hid hk
  clear h hk
  go_enter Tryz.func9, Tryz.ntmps9
  go_wp2_with (go_at_call 28; refine (lowest_bad n d _ (by omega) (by omega) (by omega) (by omega) HK.out).mono ?_; rintro e w1 ⟨rfl, hb1⟩; obtain ⟨hc1, hf1⟩ := bcell hb1; have hB1 : Below w.heap.size w w1 := up hb1 (by go_grown); have hz1 := hb1.size; (try simp at hz1); (try have hz1_w_p1 : w.heap.size < w1.heap.size + 1 := (by omega)); (try have hz1_w_p2 : w.heap.size < w1.heap.size + 1 + 1 := (by omega)); (try have hz1_w_p3 : w.heap.size < w1.heap.size + 1 + 1 + 1 := (by omega)); (try have hz1_w_0 : w.heap.size < w1.heap.size := (by omega)); (try have hz1_w_1 : w.heap.size + 1 < w1.heap.size := (by omega)); (try have hz1_w_2 : w.heap.size + 1 + 1 < w1.heap.size := (by omega)); (try have hz1_w_3 : w.heap.size + 1 + 1 + 1 < w1.heap.size := (by omega)); (try have hz1_w_4 : w.heap.size + 1 + 1 + 1 + 1 < w1.heap.size := (by omega)); (try have hz1_w_5 : w.heap.size + 1 + 1 + 1 + 1 + 1 < w1.heap.size := (by omega)); (try have hz1_w_6 : w.heap.size + 1 + 1 + 1 + 1 + 1 + 1 < w1.heap.size := (by omega)); have r1_0_0 : w1.cell? ⟨w.heap.size, 0, none⟩ = some (.int .i64 0) := (by go_cell); have r1_0_1 : w1.cell? ⟨w.heap.size, 1, none⟩ = some (.int .i64 0) := (by go_cell))
  all_goals first | (exfalso; omega) | (refine bodyPost_ret (res_qe Tryz.results9 rfl (by go_cell) (by go_cell)) rfl ⟨rfl, by go_grown⟩)
theorem Of_arg (n d : Int) (w : World) (hw : W2 n d) (h : ofOk n d = false) :
    Calls Tryz.prog 9 #[.int .i64 n, .int .i64 d] w fun e w' => e = .returned (.tuple #[.agg #[.int .i64 (0), .int .i64 (0)], .int .i64 1]) ∧ Below w.heap.size w w' := by
  obtain ⟨⟨hn, hn'⟩, hd, hd'⟩ := hw
  have h' : ¬ ofOk n d = true := by rw [h]; exact Bool.false_ne_true
  rw [ofOk_iff] at h'
  clear h
  by_cases c1 : d < 1
  · clear h'
    go_enter Tryz.func9, Tryz.ntmps9
    go_wp2
    all_goals first | (exfalso; omega) | (go_returns; exact ⟨rfl, by go_grown⟩)
  by_cases c2 : 1000000000000 < d
  · clear h'
    have c1' : 1 ≤ d := by omega
    clear c1
    go_enter Tryz.func9, Tryz.ntmps9
    go_wp2
    all_goals first | (exfalso; omega) | (go_returns; exact ⟨rfl, by go_grown⟩)
  by_cases c3 : n < -1000000000000000
  · clear h'
    have c1' : 1 ≤ d := by omega
    have c2' : d ≤ 1000000000000 := by omega
    clear c1 c2
    go_enter Tryz.func9, Tryz.ntmps9
    go_wp2
    all_goals first | (exfalso; omega) | (go_returns; exact ⟨rfl, by go_grown⟩)
  · have c1' : 1 ≤ d := by omega
    have c2' : d ≤ 1000000000000 := by omega
    have c3' : -1000000000000000 ≤ n := by omega
    have c4 : 1000000000000000 < n := by omega
    clear c1 c2 c3 h'
    go_enter Tryz.func9, Tryz.ntmps9
    go_wp2
    all_goals first | (exfalso; omega) | (go_returns; exact ⟨rfl, by go_grown⟩)

theorem cmp_bd {an ad bn bd : Int} (ha : okQ an ad = true) (hb : okQ bn bd = true) :
    Hid (-4000000000000000000 ≤ an * bd) ∧ Hid (an * bd ≤ 4000000000000000000) ∧ Hid (-4000000000000000000 ≤ bn * ad) ∧ Hid (bn * ad ≤ 4000000000000000000) := by
  obtain ⟨a1, a2, a3, a4, _⟩ := okQ_iff.1 ha
  obtain ⟨b1, b2, b3, b4, _⟩ := okQ_iff.1 hb
  have m1 := mul_bd (a := an) (b := bd) (A := 1000000000) (B := 1000000) (by omega) (by omega) (by omega) (by omega)
  have m2 := mul_bd (a := bn) (b := ad) (A := 1000000000) (B := 1000000) (by omega) (by omega) (by omega) (by omega)
  unfold Hid
  omega
/-- Is the one fraction less than the other one? -/
def ltB (an ad bn bd : Int) : Bool := decide (an * bd - bn * ad < 0)
theorem sgn_lt (z : Int) : (sgn z 0 < 0) ↔ z < 0 := by
  unfold sgn
  split
  · constructor <;> intro <;> omega
  · split <;> constructor <;> intro <;> omega
end Go.Proofs.YtgonaamjjhhiiaaGreatDoor
