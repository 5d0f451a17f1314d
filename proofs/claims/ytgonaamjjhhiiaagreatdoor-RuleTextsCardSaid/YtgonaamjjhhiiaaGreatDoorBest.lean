/-
  The walk of Best.
-/
import Derived.Test.YtgonaamjjhhiiaaGreatDoorMiss
import Derived.Test.YtgonaamjjhhiiaaGreatDoorSizes
set_option linter.unusedVariables false
set_option linter.unusedSimpArgs false
namespace Go.Proofs.YtgonaamjjhhiiaaGreatDoor
open Go Go.RowKit

theorem misN_bd {ln ld mn md want s : Int} (hr : RuleB ln ld mn md) (hs : 0 ≤ s) (hs' : s ≤ 1000001) (hw : 0 ≤ want) (hw' : want ≤ 1000000) : -3000000000 ≤ misN ln ld mn md want s ∧ misN ln ld mn md want s ≤ 3000000000 := by
  obtain ⟨r1, r2, r3, r4, r5, r6, r7, r8⟩ := id hr
  obtain ⟨b1, b2⟩ := cast_bd r1 r2 r4 hs hs'
  obtain ⟨b3, b4⟩ := cast_bd r5 r6 r8 hs hs'
  have m1 := mul_bd (a := want) (b := ld) (A := 1000000) (B := 1000) (by omega) (by omega) (by omega) (by omega)
  have m2 := mul_bd (a := want) (b := md) (A := 1000000) (B := 1000) (by omega) (by omega) (by omega) (by omega)
  rcases mis_parts (ln := ln) (mn := mn) (want := want) (s := s) r3 r7 with ⟨a1, a2, a3⟩ | ⟨a1, a2, a3⟩ <;> rw [a1] <;> omega

theorem task_keep {W W' : World} {b : Nat} {x0 x1 x2 x3 x4 x5 : Value} (hb : Below W.heap.size W W') (hlt : b < W.heap.size) (t0 : W.cell? ⟨b, 0, none⟩ = some x0) (t1 : W.cell? ⟨b, 1, none⟩ = some x1) (t2 : W.cell? ⟨b, 2, none⟩ = some x2) (t3 : W.cell? ⟨b, 3, none⟩ = some x3) (t4 : W.cell? ⟨b, 4, none⟩ = some x4) (t5 : W.cell? ⟨b, 5, none⟩ = some x5) :
    W'.cell? ⟨b, 0, none⟩ = some x0 ∧ W'.cell? ⟨b, 1, none⟩ = some x1 ∧ W'.cell? ⟨b, 2, none⟩ = some x2 ∧ W'.cell? ⟨b, 3, none⟩ = some x3 ∧ W'.cell? ⟨b, 4, none⟩ = some x4 ∧ W'.cell? ⟨b, 5, none⟩ = some x5 :=
  ⟨(hb.cell (p := ⟨b, 0, none⟩) hlt).trans t0, (hb.cell (p := ⟨b, 1, none⟩) hlt).trans t1, (hb.cell (p := ⟨b, 2, none⟩) hlt).trans t2, (hb.cell (p := ⟨b, 3, none⟩) hlt).trans t3, (hb.cell (p := ⟨b, 4, none⟩) hlt).trans t4, (hb.cell (p := ⟨b, 5, none⟩) hlt).trans t5⟩

set_option maxRecDepth 100000 in
set_option maxHeartbeats 4000000 in
theorem b1_any (ln ld mn md want n : Int) (b : Nat) (w : World) (ht : TaskAt w b ln ld mn md want want) (hr : RuleB ln ld mn md) (hs : 0 ≤ n) (hs' : n ≤ 1000000) (hw : 0 ≤ want) (hw' : want ≤ 1000000) :
    Calls Tryz.prog 45 #[.int .i64 n, .pointer (some ⟨b, 0, none⟩)] w fun e w' => e = .returned (.bool (pB ln ld mn md want n)) ∧ Below w.heap.size w w' := by
  obtain ⟨t0, t1, t2, t3, t4, t5⟩ := ht
  have hlt : b < w.heap.size := World.block_lt_of_cell? w _ t0
  obtain ⟨r1, r2, r3, r4, r5, r6, r7, r8⟩ := id hr
  obtain ⟨a1, a2⟩ := misN_bd (s := n) hr (by omega) (by omega) hw hw'
  obtain ⟨a3, a4⟩ := misN_bd (s := n + 1) hr (by omega) (by omega) hw hw'
  obtain ⟨a5, a6⟩ := misD_bd (ln := ln) (mn := mn) (want := want) (s := n) r3 r7 r4 r8
  obtain ⟨a7, a8⟩ := misD_bd (ln := ln) (mn := mn) (want := want) (s := n + 1) r3 r7 r4 r8
  have m1 := mul_bd (a := misN ln ld mn md want n) (b := misD ln ld mn md want (n + 1)) (A := 3000000000) (B := 1000) (by omega) (by omega) (by omega) (by omega)
  have m2 := mul_bd (a := misN ln ld mn md want (n + 1)) (b := misD ln ld mn md want n) (A := 3000000000) (B := 1000) (by omega) (by omega) (by omega) (by omega)
  have hc := hide1 fun (W : World) => miss_any ln ld mn md want n W hr hs (by omega) hw hw'
  have hd := hide1 fun (W : World) => miss_any ln ld mn md want (n + 1) W hr (by omega) (by omega) hw hw'
  have hg := hide1 fun (W : World) => gap_any (misN ln ld mn md want n) (misD ln ld mn md want n) (misN ln ld mn md want (n + 1)) (misD ln ld mn md want (n + 1)) W (by omega) (by omega) (by omega) (by omega)
  have hpb : pB ln ld mn md want n = decide (misN ln ld mn md want n * misD ln ld mn md want (n + 1) - misN ln ld mn md want (n + 1) * misD ln ld mn md want n ≤ 0) := rfl
  rw [hpb]
  clear hpb
  generalize misN ln ld mn md want n = an at *
  generalize misD ln ld mn md want n = ad at *
  generalize misN ln ld mn md want (n + 1) = bn at *
  generalize misD ln ld mn md want (n + 1) = bd at *
  have HR := hide1 hr
  clear hr m1 m2 a1 a2 a3 a4 a5 a6 a7 a8
  go_enter Tryz.func45, Tryz.ntmps45
  go_wp2_with fail
  go_region_held3 (fun w' => w'.cell? ⟨b, 0, none⟩ = some (.int .i64 ln) ∧ w'.cell? ⟨b, 1, none⟩ = some (.int .i64 ld) ∧ w'.cell? ⟨b, 2, none⟩ = some (.int .i64 mn) ∧ w'.cell? ⟨b, 3, none⟩ = some (.int .i64 md) ∧ w'.cell? ⟨b, 4, none⟩ = some (.int .i64 want) ∧ w'.cell? ⟨b, 5, none⟩ = some (.int .i64 want))
    (first | (go_simp; done) | exact task_keep (W := w) (by assumption) hlt t0 t1 t2 t3 t4 t5 | go_keep)
    (first | (go_at_call 46; (with_reducible refine (hc.out _).mono ?_); rintro e w1 ⟨rfl, hb1⟩; obtain ⟨hc1, hf1⟩ := bcell hb1; have hB1 : Below w.heap.size w w1 := up hb1 (by go_grown); have hz1 := hb1.size; (try simp at hz1); (try have hz1_w_p1 : w.heap.size < w1.heap.size + 1 := (by omega)); (try have hz1_w_p2 : w.heap.size < w1.heap.size + 1 + 1 := (by omega)); (try have hz1_w_p3 : w.heap.size < w1.heap.size + 1 + 1 + 1 := (by omega)); (try have hz1_w_0 : w.heap.size < w1.heap.size := (by omega)); (try have hz1_w_1 : w.heap.size + 1 < w1.heap.size := (by omega)); (try have hz1_w_2 : w.heap.size + 1 + 1 < w1.heap.size := (by omega)); (try have hz1_w_3 : w.heap.size + 1 + 1 + 1 < w1.heap.size := (by omega)); (try have hz1_w_4 : w.heap.size + 1 + 1 + 1 + 1 < w1.heap.size := (by omega)); (try have hz1_w_5 : w.heap.size + 1 + 1 + 1 + 1 + 1 < w1.heap.size := (by omega)); (try have hz1_w_6 : w.heap.size + 1 + 1 + 1 + 1 + 1 + 1 < w1.heap.size := (by omega))) | ((try simp (disch := omega) only [IntWalk.i64_in]); (go_at_call 46; (with_reducible refine (hd.out _).mono ?_); rintro e w2 ⟨rfl, hb2⟩; obtain ⟨hc2, hf2⟩ := bcell hb2; have hB2 : Below w.heap.size w w2 := up hb2 (by go_grown); have hz2 := hb2.size; (try simp at hz2); (try have hz2_w_p1 : w.heap.size < w2.heap.size + 1 := (by omega)); (try have hz2_w_p2 : w.heap.size < w2.heap.size + 1 + 1 := (by omega)); (try have hz2_w_p3 : w.heap.size < w2.heap.size + 1 + 1 + 1 := (by omega)); (try have hz2_w1_p1 : w1.heap.size < w2.heap.size + 1 := (by omega)); (try have hz2_w1_p2 : w1.heap.size < w2.heap.size + 1 + 1 := (by omega)); (try have hz2_w1_p3 : w1.heap.size < w2.heap.size + 1 + 1 + 1 := (by omega)); (try have hz2_w_0 : w.heap.size < w2.heap.size := (by omega)); (try have hz2_w_1 : w.heap.size + 1 < w2.heap.size := (by omega)); (try have hz2_w_2 : w.heap.size + 1 + 1 < w2.heap.size := (by omega)); (try have hz2_w_3 : w.heap.size + 1 + 1 + 1 < w2.heap.size := (by omega)); (try have hz2_w_4 : w.heap.size + 1 + 1 + 1 + 1 < w2.heap.size := (by omega)); (try have hz2_w_5 : w.heap.size + 1 + 1 + 1 + 1 + 1 < w2.heap.size := (by omega)); (try have hz2_w_6 : w.heap.size + 1 + 1 + 1 + 1 + 1 + 1 < w2.heap.size := (by omega)); (try have hz2_w1_0 : w1.heap.size < w2.heap.size := (by omega)); (try have hz2_w1_1 : w1.heap.size + 1 < w2.heap.size := (by omega)); (try have hz2_w1_2 : w1.heap.size + 1 + 1 < w2.heap.size := (by omega)); (try have hz2_w1_3 : w1.heap.size + 1 + 1 + 1 < w2.heap.size := (by omega)))) | (go_at_call 29; (with_reducible refine (hg.out _).mono ?_); rintro e w3 ⟨rfl, hb3⟩; obtain ⟨hc3, hf3⟩ := bcell hb3; have hB3 : Below w.heap.size w w3 := up hb3 (by go_grown); have hz3 := hb3.size; (try simp at hz3); (try have hz3_w_p1 : w.heap.size < w3.heap.size + 1 := (by omega)); (try have hz3_w_p2 : w.heap.size < w3.heap.size + 1 + 1 := (by omega)); (try have hz3_w_p3 : w.heap.size < w3.heap.size + 1 + 1 + 1 := (by omega)); (try have hz3_w1_p1 : w1.heap.size < w3.heap.size + 1 := (by omega)); (try have hz3_w1_p2 : w1.heap.size < w3.heap.size + 1 + 1 := (by omega)); (try have hz3_w1_p3 : w1.heap.size < w3.heap.size + 1 + 1 + 1 := (by omega)); (try have hz3_w2_p1 : w2.heap.size < w3.heap.size + 1 := (by omega)); (try have hz3_w2_p2 : w2.heap.size < w3.heap.size + 1 + 1 := (by omega)); (try have hz3_w2_p3 : w2.heap.size < w3.heap.size + 1 + 1 + 1 := (by omega)); (try have hz3_w_0 : w.heap.size < w3.heap.size := (by omega)); (try have hz3_w_1 : w.heap.size + 1 < w3.heap.size := (by omega)); (try have hz3_w_2 : w.heap.size + 1 + 1 < w3.heap.size := (by omega)); (try have hz3_w_3 : w.heap.size + 1 + 1 + 1 < w3.heap.size := (by omega)); (try have hz3_w_4 : w.heap.size + 1 + 1 + 1 + 1 < w3.heap.size := (by omega)); (try have hz3_w_5 : w.heap.size + 1 + 1 + 1 + 1 + 1 < w3.heap.size := (by omega)); (try have hz3_w_6 : w.heap.size + 1 + 1 + 1 + 1 + 1 + 1 < w3.heap.size := (by omega)); (try have hz3_w1_0 : w1.heap.size < w3.heap.size := (by omega)); (try have hz3_w1_1 : w1.heap.size + 1 < w3.heap.size := (by omega)); (try have hz3_w1_2 : w1.heap.size + 1 + 1 < w3.heap.size := (by omega)); (try have hz3_w1_3 : w1.heap.size + 1 + 1 + 1 < w3.heap.size := (by omega)); (try have hz3_w2_0 : w2.heap.size < w3.heap.size := (by omega)); (try have hz3_w2_1 : w2.heap.size + 1 < w3.heap.size := (by omega)); (try have hz3_w2_2 : w2.heap.size + 1 + 1 < w3.heap.size := (by omega)); (try have hz3_w2_3 : w2.heap.size + 1 + 1 + 1 < w3.heap.size := (by omega))))
  all_goals go_wp2
  go_returns
  exact ⟨rfl, by go_grown⟩

/-- The size that Best answers. -/
def BestIs (ln ld mn md want r : Int) : Prop := 1 ≤ r ∧ r ≤ 1000000 ∧ (∀ n, 1 ≤ n → n < r → pB ln ld mn md want n = false) ∧ (r < 1000000 → pB ln ld mn md want r = true)
def BestPost (ln ld mn md want : Int) (w : World) (e : Ending) (w' : World) : Prop := ∃ r, e = .returned (.tuple #[.int .i64 r, .int .i64 0]) ∧ BestIs ln ld mn md want r ∧ Below w.heap.size w w'

set_option maxHeartbeats 4000000 in
theorem Best_ok (ln ld mn md want : Int) (w : World) (hk : okR ln ld mn md = true) (hlo : szB want = true) :
    Calls Tryz.prog 17 #[.agg #[.int .i64 (ln), .int .i64 (ld), .int .i64 (mn), .int .i64 (md)], .int .i64 want] w (BestPost ln ld mn md want w) := by
  have hr := RuleB.of_ok hk
  obtain ⟨l1, l2⟩ := szB_iff.1 hlo
  have hmn : mn ≤ md := hr.2.2.2.2.2.1
  have hln : ln ≤ ld := hr.2.1
  have hld : 1 ≤ ld := hr.2.2.1
  have hmd : 1 ≤ md := hr.2.2.2.2.2.2.1
  have hmf : ∀ (fn : Fn) (first cap : Array Value) (w : World), (Instr.makeFunc fn first cap).run Tryz.prog w = .ok (.func fn first cap) w := fun _ _ _ _ => rfl
  have HK := hide1 hk
  have HLO := hide1 hlo
  have HR := hide1 hr
  clear hk hlo hr
  go_enter Tryz.func17, Tryz.ntmps17
  go_wp2_with (go_at_call 38; refine (task1_ok ln ld mn md _ _ want _ (by simp [go_sem]) HK.out HLO.out).mono ?_; rintro e w1 ⟨rfl, hb1⟩; obtain ⟨hc1, hf1⟩ := bcell hb1; have hB1 : Below w.heap.size w w1 := up hb1 (by go_grown); have hz1 := hb1.size; (try simp at hz1); (try have hz1_w_p1 : w.heap.size < w1.heap.size + 1 := (by omega)); (try have hz1_w_p2 : w.heap.size < w1.heap.size + 1 + 1 := (by omega)); (try have hz1_w_p3 : w.heap.size < w1.heap.size + 1 + 1 + 1 := (by omega)); (try have hz1_w_0 : w.heap.size < w1.heap.size := (by omega)); (try have hz1_w_1 : w.heap.size + 1 < w1.heap.size := (by omega)); (try have hz1_w_2 : w.heap.size + 1 + 1 < w1.heap.size := (by omega)); (try have hz1_w_3 : w.heap.size + 1 + 1 + 1 < w1.heap.size := (by omega)); (try have hz1_w_4 : w.heap.size + 1 + 1 + 1 + 1 < w1.heap.size := (by omega)); (try have hz1_w_5 : w.heap.size + 1 + 1 + 1 + 1 + 1 < w1.heap.size := (by omega)); (try have hz1_w_6 : w.heap.size + 1 + 1 + 1 + 1 + 1 + 1 < w1.heap.size := (by omega)))
  have T1 : TaskAt (w1.alloc (.cells #[.int .i64 (ln), .int .i64 (ld), .int .i64 (mn), .int .i64 (md), .int .i64 (want), .int .i64 (want)] 79)) w1.heap.size ln ld mn md want want := ⟨by simp, by simp, by simp, by simp, by simp, by simp⟩
  have S1 : Says (pB ln ld mn md want) 45 #[.pointer (some ⟨w1.heap.size, 0, none⟩)] 1 1000000 (w1.alloc (.cells #[.int .i64 (ln), .int .i64 (ld), .int .i64 (mn), .int .i64 (md), .int .i64 (want), .int .i64 (want)] 79)) :=
    fun n W hB n1 n2 => b1_any ln ld mn md want n w1.heap.size W (T1.below hB (by simp)) HR.out (by omega) (by omega) (by omega) (by omega)
  have HS1 := hide1 S1
  clear S1 T1
  refine (first_b1 (pB ln ld mn md want) (.pointer (some ⟨w1.heap.size, 0, none⟩)) 1 1000000 _ (by omega) (by omega) (by omega) HS1.out (fun n m _ h _ hp => pB_mono hld hmd hln hmn n m h hp)).mono ?_
  rintro e w2 ⟨L, rfl, a1, a2, a3, a4, hb2⟩
  have HA := hide1 (And.intro a3 a4)
  clear a3 a4
  have hB2 : Below w.heap.size w w2 := up hb2 (by go_grown)
  go_wp2
  go_returns
  exact ⟨L, rfl, ⟨a1, a2, HA.out.1, HA.out.2⟩, hB2⟩
end Go.Proofs.YtgonaamjjhhiiaaGreatDoor
