/-
  The walk of lowest: a fraction in lowest terms, or ErrSize by a panic that is recovered.
-/
import Derived.Test.YtgonaamjjhhiiaaGreatDoorNum
import Derived.Defers
import Derived.Recover
import Derived.Laws.Pointers
import Derived.WalkLawsBesides
set_option linter.unusedVariables false
set_option linter.unusedSimpArgs false
namespace Go.Proofs.YtgonaamjjhhiiaaGreatDoor
open Go Go.RowKit

/-- Three cells of two blocks, through stores and new blocks. -/
structure Has (w : World) (b c : Nat) (p q r : Value) : Prop where
  c0 : w.cell? ⟨b, 0, none⟩ = some p
  c1 : w.cell? ⟨b, 1, none⟩ = some q
  c2 : w.cell? ⟨c, 0, none⟩ = some r
  ne : c ≠ b
section
variable {w : World} {b c : Nat} {p q r : Value} (h : Has w b c p q r)
include h
theorem Has.set0 (v : Value) : Has (w.setCell ⟨b, 0, none⟩ v) b c v q r :=
  ⟨World.cell?_setCell_same w _ v h.c0, (World.cell?_setCell_other w _ _ v (by simp)).trans h.c1, (World.cell?_setCell_other w _ _ v (by intro e; injection e with e1; exact h.ne e1.symm)).trans h.c2, h.ne⟩
theorem Has.set1 (v : Value) : Has (w.setCell ⟨b, 1, none⟩ v) b c p v r :=
  ⟨(World.cell?_setCell_other w _ _ v (by simp)).trans h.c0, World.cell?_setCell_same w _ v h.c1, (World.cell?_setCell_other w _ _ v (by intro e; injection e with e1; exact h.ne e1.symm)).trans h.c2, h.ne⟩
theorem Has.set2 (v : Value) : Has (w.setCell ⟨c, 0, none⟩ v) b c p q v :=
  ⟨(World.cell?_setCell_other w _ _ v (by intro e; injection e with e1; exact h.ne e1)).trans h.c0, (World.cell?_setCell_other w _ _ v (by intro e; injection e with e1; exact h.ne e1)).trans h.c1, World.cell?_setCell_same w _ v h.c2, h.ne⟩
theorem Has.alloc (o : Obj) : Has (w.alloc o) b c p q r :=
  ⟨(World.cell?_alloc_lt w o _ (World.block_lt_of_cell? w _ h.c0)).trans h.c0, (World.cell?_alloc_lt w o _ (World.block_lt_of_cell? w _ h.c1)).trans h.c1, (World.cell?_alloc_lt w o _ (World.block_lt_of_cell? w _ h.c2)).trans h.c2, h.ne⟩
end

/-- The closure part, where the part is not too great. -/
theorem part_ok (n most g : Int) (p : Addr) (w : World) (hc : w.cell? p = some (.int .i64 g)) (hg : 1 ≤ g) (h1 : -4000000000000000000 ≤ n) (h2 : n ≤ 4000000000000000000) (hm : 0 ≤ most) (hm' : most ≤ 1000000000) (hlo : -most ≤ n.tdiv g) (hhi : n.tdiv g ≤ most) :
    Calls Tryz.prog 60 #[.int .i64 n, .int .i64 most, .pointer (some p)] w fun e w' => e = .returned (.int .i64 (n.tdiv g)) ∧ w = w' := by
  have hne : ¬ g = 0 := by omega
  go_enter Tryz.func60, Tryz.ntmps60
  go_wp2
  go_returns
  exact ⟨rfl, rfl⟩
/-- The closure part, where it is: it panics. -/
theorem part_low (n most g : Int) (p : Addr) (w : World) (hc : w.cell? p = some (.int .i64 g)) (hg : 1 ≤ g) (h1 : -4000000000000000000 ≤ n) (h2 : n ≤ 4000000000000000000) (hm : 0 ≤ most) (hm' : most ≤ 1000000000) (hlo : n.tdiv g < -most) :
    Calls Tryz.prog 60 #[.int .i64 n, .int .i64 most, .pointer (some p)] w fun e w' => e = .panicked [{ v := .iface 25 (.int .i64 10), recovered := false }] ∧ w = w' := by
  have hne : ¬ g = 0 := by omega
  have b1 := Int.natAbs_tdiv_le_natAbs n g
  have b3 : -4000000000000000000 ≤ n.tdiv g := by omega
  go_enter Tryz.func60, Tryz.ntmps60
  go_wp2
  exact ⟨rfl, rfl, rfl⟩
theorem part_high (n most g : Int) (p : Addr) (w : World) (hc : w.cell? p = some (.int .i64 g)) (hg : 1 ≤ g) (h1 : -4000000000000000000 ≤ n) (h2 : n ≤ 4000000000000000000) (hm : 0 ≤ most) (hm' : most ≤ 1000000000) (hhi : most < n.tdiv g) :
    Calls Tryz.prog 60 #[.int .i64 n, .int .i64 most, .pointer (some p)] w fun e w' => e = .panicked [{ v := .iface 25 (.int .i64 10), recovered := false }] ∧ w = w' := by
  have hne : ¬ g = 0 := by omega
  have b1 := Int.natAbs_tdiv_le_natAbs n g
  have b3 : n.tdiv g ≤ 4000000000000000000 := by omega
  have b4 : -most ≤ n.tdiv g := by omega
  go_enter Tryz.func60, Tryz.ntmps60
  go_wp2
  exact ⟨rfl, rfl, rfl⟩

theorem has_results {W : World} {b c : Nat} {x y z : Value} {tmps : Array Value} (h : Has W b c x y z) (ht : tmps[2]?.getD undef = .pointer (some ⟨b, 0, none⟩)) (ht' : tmps[3]?.getD undef = .pointer (some ⟨c, 0, none⟩)) :
    (results Tryz.f28 tmps).run Tryz.prog W = .ok (.tuple #[.agg #[x, y], z]) W := by
  have h0 := h.c0
  have h1 := h.c1
  have h2 := h.c2
  simp [results, Tryz.results28, ht, ht', go_sem, h0, h1, h2]
theorem catch_panicking (b c : Nat) (x0 x1 x : Value) (u : TypeId) (pv : Value) (older : List PanicEntry) (w : World)
    (hc0 : w.cell? ⟨b, 0, none⟩ = some x0) (hc1 : w.cell? ⟨b, 1, none⟩ = some x1) (hz0 : w.frozen? ⟨b, 0, none⟩ = false) (hz1 : w.frozen? ⟨b, 1, none⟩ = false) (hc : w.cell? ⟨c, 0, none⟩ = some x) (hz : w.frozen? ⟨c, 0, none⟩ = false) (hne : ¬ c = b) :
    CallsD Tryz.prog 58 #[.pointer (some ⟨b, 0, none⟩), .pointer (some ⟨c, 0, none⟩)] (.panicking ({ v := .iface u pv, recovered := false } :: older)) w fun e u' w' =>
      e = .returned (.tuple #[]) ∧ u' = .panicking ({ v := .iface u pv, recovered := true } :: older) ∧ w' = ((w.setCell ⟨b, 0, none⟩ (.int .i64 0)).setCell ⟨b, 1, none⟩ (.int .i64 0)).setCell ⟨c, 0, none⟩ (.int .i64 10) := by
  refine callsD_of_wpS Tryz.func58 rfl fun c₀ cs hu => ?_
  apply wpS_seq
  apply wpS_region
  simp [wpOpsS, go_sem, recoverD, hu, Tryz.ntmps58, Exit.thenS]
  refine wpS_cond (t := true) (by simp [Act.eval, Array.replicate]) ?_
  simp only [if_true]
  refine wpS_of_wp ?_
  simp only [Array.replicate_succ, Array.replicate_zero, List.push_toArray, List.append_toArray, List.nil_append, List.cons_append, List.setIfInBounds_toArray, List.set_cons_zero, List.set_cons_succ]
  go_wp2
  exact ⟨rfl, _, rfl, _, by simp [results, Tryz.results58], rfl, rfl, rfl⟩
theorem catch_idle (p q : Addr) (w : World) :
    CallsD Tryz.prog 58 #[.pointer (some p), .pointer (some q)] .returning w fun e u' w' => e = .returned (.tuple #[]) ∧ u' = .returning ∧ w' = w := by
  refine callsD_of_wpS Tryz.func58 rfl fun c₀ cs hu => ?_
  apply wpS_seq
  apply wpS_region
  simp [wpOpsS, go_sem, recoverD, hu, Tryz.ntmps58, Exit.thenS]
  refine wpS_cond (t := false) (by simp [Act.eval, Array.replicate]) ?_
  simp only [Bool.false_eq_true, if_false]
  refine wpS_of_wp (wp_skip ?_)
  cases c₀
  simp_all [bodyPostS, results, Tryz.results58]

set_option maxHeartbeats 800000 in
theorem lowest_ok (n d : Int) (w : World) (hd : 1 ≤ d) (hd' : d ≤ 4000000000000000000) (h1 : -4000000000000000000 ≤ n) (h2 : n ≤ 4000000000000000000) (hk : lowOk n d = true) :
    Calls Tryz.prog 28 #[.agg #[.int .i64 (n), .int .i64 (d)]] w fun e w' => e = .returned (.tuple #[.agg #[.int .i64 (lowN n d), .int .i64 (lowD n d)], .int .i64 0]) ∧ Below w.heap.size w w' := by
  have hmf : ∀ (fn : Fn) (first cap : Array Value) (w : World), (Instr.makeFunc fn first cap).run Tryz.prog w = .ok (.func fn first cap) w := fun _ _ _ _ => rfl
  obtain ⟨k1, k2, k3⟩ := lowOk_iff.1 hk
  have k4 := lowD_pos (n := n) hd
  have hg := gc_pos (n := n) (d := d) (by omega)
  have e1 := tdiv_gc_l n d
  have e2 := tdiv_gc_r n d
  change n.tdiv (gc n d) = lowN n d at e1
  change d.tdiv (gc n d) = lowD n d at e2
  rw [← e1] at k1 k2 ⊢
  rw [← e2] at k3 k4 ⊢
  clear e1 e2 hk
  go_enter_defers Tryz.func28, Tryz.ntmps28
  go_wp2_with (go_at_call 59; refine (divisor_any n d _ h1 h2 (by omega) hd').mono ?_; rintro e w1 ⟨rfl, hb1⟩; obtain ⟨hc1, hf1⟩ := bcell hb1; have hB1 : Below w.heap.size w w1 := up hb1 (by go_grown); have hz1 := hb1.size; (try simp at hz1); (try have hz1_w_p1 : w.heap.size < w1.heap.size + 1 := (by omega)); (try have hz1_w_p2 : w.heap.size < w1.heap.size + 1 + 1 := (by omega)); (try have hz1_w_p3 : w.heap.size < w1.heap.size + 1 + 1 + 1 := (by omega)); (try have hz1_w_0 : w.heap.size < w1.heap.size := (by omega)); (try have hz1_w_1 : w.heap.size + 1 < w1.heap.size := (by omega)); (try have hz1_w_2 : w.heap.size + 1 + 1 < w1.heap.size := (by omega)); (try have hz1_w_3 : w.heap.size + 1 + 1 + 1 < w1.heap.size := (by omega)); (try have hz1_w_4 : w.heap.size + 1 + 1 + 1 + 1 < w1.heap.size := (by omega)); (try have hz1_w_5 : w.heap.size + 1 + 1 + 1 + 1 + 1 < w1.heap.size := (by omega)); (try have hz1_w_6 : w.heap.size + 1 + 1 + 1 + 1 + 1 + 1 < w1.heap.size := (by omega)))
  refine (part_ok n 1000000000 (gc n d) ⟨w1.heap.size, 0, none⟩ _ (by simp) hg h1 h2 (by omega) (by omega) (by omega) k2).mono ?_
  rintro e w2 ⟨rfl, rfl⟩
  go_wp2_with fail
  refine (part_ok d 1000000 (gc n d) ⟨w1.heap.size, 0, none⟩ _ (by simp [go_sem, hz1_w_0, hz1_w_1, hz1_w_2]) hg (by omega) hd' (by omega) (by omega) (by omega) k3).mono ?_
  rintro e w3 ⟨rfl, rfl⟩
  go_wp2_with fail
  refine leaves_cons (f := 58) (args := #[.pointer (some ⟨w.heap.size + 1, 0, none⟩), .pointer (some ⟨w.heap.size + 1 + 1, 0, none⟩)]) (by simp) (by simp [go_sem]) ?_
  refine (catch_idle _ _ _).mono ?_
  rintro e u' w'' ⟨rfl, rfl, rfl⟩
  refine ⟨.tuple #[.agg #[.int .i64 (n.tdiv (gc n d)), .int .i64 (d.tdiv (gc n d))], .int .i64 0], ?_, rfl, by go_grown⟩
  have H0 : Has w1 (w.heap.size + 1) (w.heap.size + 1 + 1) (.int .i64 0) (.int .i64 0) (.int .i64 0) := ⟨by simp [hc1, go_sem], by simp [hc1, go_sem], by simp [hc1, go_sem], by omega⟩
  have H := (((((H0.set0 (.int .i64 (n.tdiv (gc n d)))).set1 (.int .i64 (d.tdiv (gc n d)))).set0 (.int .i64 (n.tdiv (gc n d)))).set1 (.int .i64 (d.tdiv (gc n d)))).set2 (.int .i64 0)).alloc (.cells #[.int .i64 (gc n d)] 3)
  exact has_results H rfl rfl

set_option maxHeartbeats 800000 in
theorem lowest_low (n d : Int) (w : World) (hd : 1 ≤ d) (hd' : d ≤ 4000000000000000000) (h1 : -4000000000000000000 ≤ n) (h2 : n ≤ 4000000000000000000) (hk : lowN n d < -1000000000) :
    Calls Tryz.prog 28 #[.agg #[.int .i64 (n), .int .i64 (d)]] w fun e w' => e = .returned (.tuple #[.agg #[.int .i64 (0), .int .i64 (0)], .int .i64 10]) ∧ Below w.heap.size w w' := by
  have hmf : ∀ (fn : Fn) (first cap : Array Value) (w : World), (Instr.makeFunc fn first cap).run Tryz.prog w = .ok (.func fn first cap) w := fun _ _ _ _ => rfl
  have k4 := lowD_pos (n := n) hd
  have hg := gc_pos (n := n) (d := d) (by omega)
  have e1 := tdiv_gc_l n d
  have e2 := tdiv_gc_r n d
  change n.tdiv (gc n d) = lowN n d at e1
  change d.tdiv (gc n d) = lowD n d at e2
  rw [← e1] at hk
  rw [← e2] at k4
  clear e1 e2
  go_enter_defers Tryz.func28, Tryz.ntmps28
  go_wp2_with (go_at_call 59; refine (divisor_any n d _ h1 h2 (by omega) hd').mono ?_; rintro e w1 ⟨rfl, hb1⟩; obtain ⟨hc1, hf1⟩ := bcell hb1; have hB1 : Below w.heap.size w w1 := up hb1 (by go_grown); have hz1 := hb1.size; (try simp at hz1); (try have hz1_w_p1 : w.heap.size < w1.heap.size + 1 := (by omega)); (try have hz1_w_p2 : w.heap.size < w1.heap.size + 1 + 1 := (by omega)); (try have hz1_w_p3 : w.heap.size < w1.heap.size + 1 + 1 + 1 := (by omega)); (try have hz1_w_0 : w.heap.size < w1.heap.size := (by omega)); (try have hz1_w_1 : w.heap.size + 1 < w1.heap.size := (by omega)); (try have hz1_w_2 : w.heap.size + 1 + 1 < w1.heap.size := (by omega)); (try have hz1_w_3 : w.heap.size + 1 + 1 + 1 < w1.heap.size := (by omega)); (try have hz1_w_4 : w.heap.size + 1 + 1 + 1 + 1 < w1.heap.size := (by omega)); (try have hz1_w_5 : w.heap.size + 1 + 1 + 1 + 1 + 1 < w1.heap.size := (by omega)); (try have hz1_w_6 : w.heap.size + 1 + 1 + 1 + 1 + 1 + 1 < w1.heap.size := (by omega)))
  refine (part_low n 1000000000 (gc n d) ⟨w1.heap.size, 0, none⟩ _ (by simp) hg h1 h2 (by omega) (by omega) hk).mono ?_
  rintro e w2 ⟨rfl, rfl⟩
  go_wp2_with fail
  refine leaves_cons (f := 58) (args := #[.pointer (some ⟨w.heap.size + 1, 0, none⟩), .pointer (some ⟨w.heap.size + 1 + 1, 0, none⟩)]) (by simp) (by simp [go_sem]) ?_
  refine (catch_panicking (w.heap.size + 1) (w.heap.size + 1 + 1) _ _ _ 25 (.int .i64 10) [] _ (by simp [go_sem, hz1_w_0, hz1_w_1, hz1_w_2, hc1]; rfl) (by simp [go_sem, hz1_w_0, hz1_w_1, hz1_w_2, hc1]; rfl) (by simp [go_sem, hz1_w_0, hz1_w_1, hz1_w_2, hf1]) (by simp [go_sem, hz1_w_0, hz1_w_1, hz1_w_2, hf1]) (by simp [go_sem, hz1_w_0, hz1_w_1, hz1_w_2, hc1]; rfl) (by simp [go_sem, hz1_w_0, hz1_w_1, hz1_w_2, hf1]) (by omega)).mono ?_
  rintro e u' w'' ⟨rfl, rfl, rfl⟩
  simp only [settle]
  refine ⟨.tuple #[.agg #[.int .i64 (0), .int .i64 (0)], .int .i64 10], ?_, rfl, by go_grown⟩
  have H0 : Has w1 (w.heap.size + 1) (w.heap.size + 1 + 1) (.int .i64 0) (.int .i64 0) (.int .i64 0) := ⟨by simp [hc1, go_sem], by simp [hc1, go_sem], by simp [hc1, go_sem], by omega⟩
  have H := (((H0.alloc (.cells #[.int .i64 (gc n d)] 3)).set0 (.int .i64 0)).set1 (.int .i64 0)).set2 (.int .i64 10)
  exact has_results H rfl rfl

set_option maxHeartbeats 800000 in
theorem lowest_high (n d : Int) (w : World) (hd : 1 ≤ d) (hd' : d ≤ 4000000000000000000) (h1 : -4000000000000000000 ≤ n) (h2 : n ≤ 4000000000000000000) (hk : 1000000000 < lowN n d) :
    Calls Tryz.prog 28 #[.agg #[.int .i64 (n), .int .i64 (d)]] w fun e w' => e = .returned (.tuple #[.agg #[.int .i64 (0), .int .i64 (0)], .int .i64 10]) ∧ Below w.heap.size w w' := by
  have hmf : ∀ (fn : Fn) (first cap : Array Value) (w : World), (Instr.makeFunc fn first cap).run Tryz.prog w = .ok (.func fn first cap) w := fun _ _ _ _ => rfl
  have k4 := lowD_pos (n := n) hd
  have hg := gc_pos (n := n) (d := d) (by omega)
  have e1 := tdiv_gc_l n d
  have e2 := tdiv_gc_r n d
  change n.tdiv (gc n d) = lowN n d at e1
  change d.tdiv (gc n d) = lowD n d at e2
  rw [← e1] at hk
  rw [← e2] at k4
  clear e1 e2
  go_enter_defers Tryz.func28, Tryz.ntmps28
  go_wp2_with (go_at_call 59; refine (divisor_any n d _ h1 h2 (by omega) hd').mono ?_; rintro e w1 ⟨rfl, hb1⟩; obtain ⟨hc1, hf1⟩ := bcell hb1; have hB1 : Below w.heap.size w w1 := up hb1 (by go_grown); have hz1 := hb1.size; (try simp at hz1); (try have hz1_w_p1 : w.heap.size < w1.heap.size + 1 := (by omega)); (try have hz1_w_p2 : w.heap.size < w1.heap.size + 1 + 1 := (by omega)); (try have hz1_w_p3 : w.heap.size < w1.heap.size + 1 + 1 + 1 := (by omega)); (try have hz1_w_0 : w.heap.size < w1.heap.size := (by omega)); (try have hz1_w_1 : w.heap.size + 1 < w1.heap.size := (by omega)); (try have hz1_w_2 : w.heap.size + 1 + 1 < w1.heap.size := (by omega)); (try have hz1_w_3 : w.heap.size + 1 + 1 + 1 < w1.heap.size := (by omega)); (try have hz1_w_4 : w.heap.size + 1 + 1 + 1 + 1 < w1.heap.size := (by omega)); (try have hz1_w_5 : w.heap.size + 1 + 1 + 1 + 1 + 1 < w1.heap.size := (by omega)); (try have hz1_w_6 : w.heap.size + 1 + 1 + 1 + 1 + 1 + 1 < w1.heap.size := (by omega)))
  refine (part_high n 1000000000 (gc n d) ⟨w1.heap.size, 0, none⟩ _ (by simp) hg h1 h2 (by omega) (by omega) hk).mono ?_
  rintro e w2 ⟨rfl, rfl⟩
  go_wp2_with fail
  refine leaves_cons (f := 58) (args := #[.pointer (some ⟨w.heap.size + 1, 0, none⟩), .pointer (some ⟨w.heap.size + 1 + 1, 0, none⟩)]) (by simp) (by simp [go_sem]) ?_
  refine (catch_panicking (w.heap.size + 1) (w.heap.size + 1 + 1) _ _ _ 25 (.int .i64 10) [] _ (by simp [go_sem, hz1_w_0, hz1_w_1, hz1_w_2, hc1]; rfl) (by simp [go_sem, hz1_w_0, hz1_w_1, hz1_w_2, hc1]; rfl) (by simp [go_sem, hz1_w_0, hz1_w_1, hz1_w_2, hf1]) (by simp [go_sem, hz1_w_0, hz1_w_1, hz1_w_2, hf1]) (by simp [go_sem, hz1_w_0, hz1_w_1, hz1_w_2, hc1]; rfl) (by simp [go_sem, hz1_w_0, hz1_w_1, hz1_w_2, hf1]) (by omega)).mono ?_
  rintro e u' w'' ⟨rfl, rfl, rfl⟩
  simp only [settle]
  refine ⟨.tuple #[.agg #[.int .i64 (0), .int .i64 (0)], .int .i64 10], ?_, rfl, by go_grown⟩
  have H0 : Has w1 (w.heap.size + 1) (w.heap.size + 1 + 1) (.int .i64 0) (.int .i64 0) (.int .i64 0) := ⟨by simp [hc1, go_sem], by simp [hc1, go_sem], by simp [hc1, go_sem], by omega⟩
  have H := (((H0.alloc (.cells #[.int .i64 (gc n d)] 3)).set0 (.int .i64 0)).set1 (.int .i64 0)).set2 (.int .i64 10)
  exact has_results H rfl rfl

set_option maxHeartbeats 800000 in
theorem lowest_den (n d : Int) (w : World) (hd : 1 ≤ d) (hd' : d ≤ 4000000000000000000) (h1 : -4000000000000000000 ≤ n) (h2 : n ≤ 4000000000000000000) (k1 : -1000000000 ≤ lowN n d) (k2 : lowN n d ≤ 1000000000) (hk : 1000000 < lowD n d) :
    Calls Tryz.prog 28 #[.agg #[.int .i64 (n), .int .i64 (d)]] w fun e w' => e = .returned (.tuple #[.agg #[.int .i64 (0), .int .i64 (0)], .int .i64 10]) ∧ Below w.heap.size w w' := by
  have hmf : ∀ (fn : Fn) (first cap : Array Value) (w : World), (Instr.makeFunc fn first cap).run Tryz.prog w = .ok (.func fn first cap) w := fun _ _ _ _ => rfl
  have k4 := lowD_pos (n := n) hd
  have hg := gc_pos (n := n) (d := d) (by omega)
  have e1 := tdiv_gc_l n d
  have e2 := tdiv_gc_r n d
  change n.tdiv (gc n d) = lowN n d at e1
  change d.tdiv (gc n d) = lowD n d at e2
  rw [← e1] at k1 k2
  rw [← e2] at k4 hk
  clear e1 e2
  go_enter_defers Tryz.func28, Tryz.ntmps28
  go_wp2_with (go_at_call 59; refine (divisor_any n d _ h1 h2 (by omega) hd').mono ?_; rintro e w1 ⟨rfl, hb1⟩; obtain ⟨hc1, hf1⟩ := bcell hb1; have hB1 : Below w.heap.size w w1 := up hb1 (by go_grown); have hz1 := hb1.size; (try simp at hz1); (try have hz1_w_p1 : w.heap.size < w1.heap.size + 1 := (by omega)); (try have hz1_w_p2 : w.heap.size < w1.heap.size + 1 + 1 := (by omega)); (try have hz1_w_p3 : w.heap.size < w1.heap.size + 1 + 1 + 1 := (by omega)); (try have hz1_w_0 : w.heap.size < w1.heap.size := (by omega)); (try have hz1_w_1 : w.heap.size + 1 < w1.heap.size := (by omega)); (try have hz1_w_2 : w.heap.size + 1 + 1 < w1.heap.size := (by omega)); (try have hz1_w_3 : w.heap.size + 1 + 1 + 1 < w1.heap.size := (by omega)); (try have hz1_w_4 : w.heap.size + 1 + 1 + 1 + 1 < w1.heap.size := (by omega)); (try have hz1_w_5 : w.heap.size + 1 + 1 + 1 + 1 + 1 < w1.heap.size := (by omega)); (try have hz1_w_6 : w.heap.size + 1 + 1 + 1 + 1 + 1 + 1 < w1.heap.size := (by omega)))
  refine (part_ok n 1000000000 (gc n d) ⟨w1.heap.size, 0, none⟩ _ (by simp) hg h1 h2 (by omega) (by omega) (by omega) k2).mono ?_
  rintro e w2 ⟨rfl, rfl⟩
  go_wp2_with fail
  refine (part_high d 1000000 (gc n d) ⟨w1.heap.size, 0, none⟩ _ (by simp [go_sem, hz1_w_0, hz1_w_1, hz1_w_2]) hg (by omega) hd' (by omega) (by omega) hk).mono ?_
  rintro e w3 ⟨rfl, rfl⟩
  go_wp2_with fail
  refine leaves_cons (f := 58) (args := #[.pointer (some ⟨w.heap.size + 1, 0, none⟩), .pointer (some ⟨w.heap.size + 1 + 1, 0, none⟩)]) (by simp) (by simp [go_sem]) ?_
  refine (catch_panicking (w.heap.size + 1) (w.heap.size + 1 + 1) _ _ _ 25 (.int .i64 10) [] _ (by simp [go_sem, hz1_w_0, hz1_w_1, hz1_w_2, hc1]; rfl) (by simp [go_sem, hz1_w_0, hz1_w_1, hz1_w_2, hc1]; rfl) (by simp [go_sem, hz1_w_0, hz1_w_1, hz1_w_2, hf1]) (by simp [go_sem, hz1_w_0, hz1_w_1, hz1_w_2, hf1]) (by simp [go_sem, hz1_w_0, hz1_w_1, hz1_w_2, hc1]; rfl) (by simp [go_sem, hz1_w_0, hz1_w_1, hz1_w_2, hf1]) (by omega)).mono ?_
  rintro e u' w'' ⟨rfl, rfl, rfl⟩
  simp only [settle]
  refine ⟨.tuple #[.agg #[.int .i64 (0), .int .i64 (0)], .int .i64 10], ?_, rfl, by go_grown⟩
  have H0 : Has w1 (w.heap.size + 1) (w.heap.size + 1 + 1) (.int .i64 0) (.int .i64 0) (.int .i64 0) := ⟨by simp [hc1, go_sem], by simp [hc1, go_sem], by simp [hc1, go_sem], by omega⟩
  have H := ((((H0.set0 (.int .i64 (n.tdiv (gc n d)))).alloc (.cells #[.int .i64 (gc n d)] 3)).set0 (.int .i64 0)).set1 (.int .i64 0)).set2 (.int .i64 10)
  exact has_results H rfl rfl

/-- What lowest returns: the fraction in lowest terms and OK, or zeros and ErrSize. -/
def lowRes (n d : Int) : Value := if lowOk n d then .tuple #[.agg #[.int .i64 (lowN n d), .int .i64 (lowD n d)], .int .i64 0] else .tuple #[.agg #[.int .i64 (0), .int .i64 (0)], .int .i64 10]
theorem lowest_bad (n d : Int) (w : World) (hd : 1 ≤ d) (hd' : d ≤ 4000000000000000000) (h1 : -4000000000000000000 ≤ n) (h2 : n ≤ 4000000000000000000) (hk : lowOk n d = false) :
    Calls Tryz.prog 28 #[.agg #[.int .i64 (n), .int .i64 (d)]] w fun e w' => e = .returned (.tuple #[.agg #[.int .i64 (0), .int .i64 (0)], .int .i64 10]) ∧ Below w.heap.size w w' := by
  have hn : ¬ lowOk n d = true := by rw [hk]; exact Bool.false_ne_true
  rw [lowOk_iff] at hn
  rcases Int.lt_or_le (lowN n d) (-1000000000) with k1 | k1
  · exact lowest_low n d w hd hd' h1 h2 k1
  · rcases Int.lt_or_le 1000000000 (lowN n d) with k2 | k2
    · exact lowest_high n d w hd hd' h1 h2 k2
    · exact lowest_den n d w hd hd' h1 h2 k1 k2 (by omega)
end Go.Proofs.YtgonaamjjhhiiaaGreatDoor
