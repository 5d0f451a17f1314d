/-
  Walks of the closures of Sizes, and of Sizes.
-/
import Derived.Test.YtgonaamjjhhiiaaGreatDoorRule1
import Derived.Test.YtgonaamjjhhiiaaGreatDoorRule3
import Derived.Test.YtgonaamjjhhiiaaGreatDoorFirst
set_option linter.unusedVariables false
set_option linter.unusedSimpArgs false
namespace Go.Proofs.YtgonaamjjhhiiaaGreatDoor
open Go Go.RowKit

/-- A task that lies in a block. -/
structure TaskAt (W : World) (b : Nat) (ln ld mn md lo hi : Int) : Prop where
  t0 : W.cell? ⟨b, 0, none⟩ = some (.int .i64 ln)
  t1 : W.cell? ⟨b, 1, none⟩ = some (.int .i64 ld)
  t2 : W.cell? ⟨b, 2, none⟩ = some (.int .i64 mn)
  t3 : W.cell? ⟨b, 3, none⟩ = some (.int .i64 md)
  t4 : W.cell? ⟨b, 4, none⟩ = some (.int .i64 lo)
  t5 : W.cell? ⟨b, 5, none⟩ = some (.int .i64 hi)
theorem TaskAt.below {W W' : World} {B b : Nat} {ln ld mn md lo hi : Int} (h : TaskAt W b ln ld mn md lo hi) (hb : Below B W W') (hB : b < B) : TaskAt W' b ln ld mn md lo hi :=
  ⟨(hb.cell (p := ⟨b, 0, none⟩) hB).trans h.t0, (hb.cell (p := ⟨b, 1, none⟩) hB).trans h.t1, (hb.cell (p := ⟨b, 2, none⟩) hB).trans h.t2, (hb.cell (p := ⟨b, 3, none⟩) hB).trans h.t3, (hb.cell (p := ⟨b, 4, none⟩) hB).trans h.t4, (hb.cell (p := ⟨b, 5, none⟩) hB).trans h.t5⟩

set_option maxHeartbeats 2000000 in
theorem s1_any (ln ld mn md lo hi n : Int) (b : Nat) (w : World) (ht : TaskAt w b ln ld mn md lo hi) (hr : RuleB ln ld mn md) (hs : 0 ≤ n) (hs' : n ≤ 1000001) (hw : 0 ≤ lo) (hw' : lo ≤ 1000000) :
    Calls Tryz.prog 40 #[.int .i64 n, .pointer (some ⟨b, 0, none⟩)] w fun e w' => e = .returned (.bool (!(decide (n * (md - mn) - lo * md < 0)))) ∧ Below w.heap.size w w' := by
  obtain ⟨t0, t1, t2, t3, t4, t5⟩ := ht
  have hlt := World.block_lt_of_cell? w _ t0
  obtain ⟨r1, r2, r3, r4, r5, r6, r7, r8⟩ := id hr
  obtain ⟨b3, b4⟩ := cast_bd r5 r6 r8 hs hs'
  have m1 := mul_bd (a := lo) (b := md) (A := 1000000) (B := 1000) (by omega) (by omega) (by omega) (by omega)
  have hc := hide1 fun (W : World) => castings_any ln ld mn md lo hi n W hr hs hs'
  have hsh := hide1 fun (W : World) => short_any lo hi (n * (md - mn)) md W (by omega) (by omega) (by omega) (by omega)
  have hnot : ∀ (x : Bool) (w : World), (Op.unary .not (.bool x)).run Tryz.prog w = .ok (.bool (!x)) w := fun _ _ => rfl
  have HR := hide1 hr
  clear hr
  go_enter Tryz.func40, Tryz.ntmps40
  go_wp2_with fail
  (refine (hc.out _).mono ?_; rintro e w1 ⟨rfl, hb1⟩; obtain ⟨hc1, hf1⟩ := bcell hb1; have hB1 : Below w.heap.size w w1 := up hb1 (by go_grown); have hz1 := hb1.size; (try simp at hz1); (try have hz1_w_p1 : w.heap.size < w1.heap.size + 1 := (by omega)); (try have hz1_w_p2 : w.heap.size < w1.heap.size + 1 + 1 := (by omega)); (try have hz1_w_p3 : w.heap.size < w1.heap.size + 1 + 1 + 1 := (by omega)); (try have hz1_w_0 : w.heap.size < w1.heap.size := (by omega)); (try have hz1_w_1 : w.heap.size + 1 < w1.heap.size := (by omega)); (try have hz1_w_2 : w.heap.size + 1 + 1 < w1.heap.size := (by omega)); (try have hz1_w_3 : w.heap.size + 1 + 1 + 1 < w1.heap.size := (by omega)); (try have hz1_w_4 : w.heap.size + 1 + 1 + 1 + 1 < w1.heap.size := (by omega)); (try have hz1_w_5 : w.heap.size + 1 + 1 + 1 + 1 + 1 < w1.heap.size := (by omega)); (try have hz1_w_6 : w.heap.size + 1 + 1 + 1 + 1 + 1 + 1 < w1.heap.size := (by omega)))
  have hlt1 : b < w1.heap.size := by omega
  go_wp2_with (go_at_call 42; refine (hsh.out _).mono ?_; rintro e w2 ⟨rfl, hb2⟩; obtain ⟨hc2, hf2⟩ := bcell hb2; have hB2 : Below w.heap.size w w2 := up hb2 (by go_grown); have hz2 := hb2.size; (try simp at hz2); (try have hz2_w_p1 : w.heap.size < w2.heap.size + 1 := (by omega)); (try have hz2_w_p2 : w.heap.size < w2.heap.size + 1 + 1 := (by omega)); (try have hz2_w_p3 : w.heap.size < w2.heap.size + 1 + 1 + 1 := (by omega)); (try have hz2_w1_p1 : w1.heap.size < w2.heap.size + 1 := (by omega)); (try have hz2_w1_p2 : w1.heap.size < w2.heap.size + 1 + 1 := (by omega)); (try have hz2_w1_p3 : w1.heap.size < w2.heap.size + 1 + 1 + 1 := (by omega)); (try have hz2_w_0 : w.heap.size < w2.heap.size := (by omega)); (try have hz2_w_1 : w.heap.size + 1 < w2.heap.size := (by omega)); (try have hz2_w_2 : w.heap.size + 1 + 1 < w2.heap.size := (by omega)); (try have hz2_w_3 : w.heap.size + 1 + 1 + 1 < w2.heap.size := (by omega)); (try have hz2_w_4 : w.heap.size + 1 + 1 + 1 + 1 < w2.heap.size := (by omega)); (try have hz2_w_5 : w.heap.size + 1 + 1 + 1 + 1 + 1 < w2.heap.size := (by omega)); (try have hz2_w_6 : w.heap.size + 1 + 1 + 1 + 1 + 1 + 1 < w2.heap.size := (by omega)); (try have hz2_w1_0 : w1.heap.size < w2.heap.size := (by omega)); (try have hz2_w1_1 : w1.heap.size + 1 < w2.heap.size := (by omega)); (try have hz2_w1_2 : w1.heap.size + 1 + 1 < w2.heap.size := (by omega)); (try have hz2_w1_3 : w1.heap.size + 1 + 1 + 1 < w2.heap.size := (by omega)))
  go_returns
  exact ⟨rfl, by go_grown⟩
set_option maxHeartbeats 2000000 in
theorem s2_any (ln ld mn md lo hi n : Int) (b : Nat) (w : World) (ht : TaskAt w b ln ld mn md lo hi) (hr : RuleB ln ld mn md) (hs : 0 ≤ n) (hs' : n ≤ 1000001) (hw : 0 ≤ hi) (hw' : hi ≤ 1000000) :
    Calls Tryz.prog 43 #[.int .i64 n, .pointer (some ⟨b, 0, none⟩)] w fun e w' => e = .returned (.bool (decide (hi * ld < n * (ld - ln)))) ∧ Below w.heap.size w w' := by
  obtain ⟨t0, t1, t2, t3, t4, t5⟩ := ht
  have hlt := World.block_lt_of_cell? w _ t0
  obtain ⟨r1, r2, r3, r4, r5, r6, r7, r8⟩ := id hr
  obtain ⟨b3, b4⟩ := cast_bd r1 r2 r4 hs hs'
  have m1 := mul_bd (a := hi) (b := ld) (A := 1000000) (B := 1000) (by omega) (by omega) (by omega) (by omega)
  have hc := hide1 fun (W : World) => castings_any ln ld mn md lo hi n W hr hs hs'
  have hsh := hide1 fun (W : World) => long_any lo hi (n * (ld - ln)) ld W (by omega) (by omega) (by omega) (by omega)
  have HR := hide1 hr
  clear hr
  go_enter Tryz.func43, Tryz.ntmps43
  go_wp2_with fail
  (refine (hc.out _).mono ?_; rintro e w1 ⟨rfl, hb1⟩; obtain ⟨hc1, hf1⟩ := bcell hb1; have hB1 : Below w.heap.size w w1 := up hb1 (by go_grown); have hz1 := hb1.size; (try simp at hz1); (try have hz1_w_p1 : w.heap.size < w1.heap.size + 1 := (by omega)); (try have hz1_w_p2 : w.heap.size < w1.heap.size + 1 + 1 := (by omega)); (try have hz1_w_p3 : w.heap.size < w1.heap.size + 1 + 1 + 1 := (by omega)); (try have hz1_w_0 : w.heap.size < w1.heap.size := (by omega)); (try have hz1_w_1 : w.heap.size + 1 < w1.heap.size := (by omega)); (try have hz1_w_2 : w.heap.size + 1 + 1 < w1.heap.size := (by omega)); (try have hz1_w_3 : w.heap.size + 1 + 1 + 1 < w1.heap.size := (by omega)); (try have hz1_w_4 : w.heap.size + 1 + 1 + 1 + 1 < w1.heap.size := (by omega)); (try have hz1_w_5 : w.heap.size + 1 + 1 + 1 + 1 + 1 < w1.heap.size := (by omega)); (try have hz1_w_6 : w.heap.size + 1 + 1 + 1 + 1 + 1 + 1 < w1.heap.size := (by omega)))
  have hlt1 : b < w1.heap.size := by omega
  go_wp2_with (go_at_call 44; refine (hsh.out _).mono ?_; rintro e w2 ⟨rfl, hb2⟩; obtain ⟨hc2, hf2⟩ := bcell hb2; have hB2 : Below w.heap.size w w2 := up hb2 (by go_grown); have hz2 := hb2.size; (try simp at hz2); (try have hz2_w_p1 : w.heap.size < w2.heap.size + 1 := (by omega)); (try have hz2_w_p2 : w.heap.size < w2.heap.size + 1 + 1 := (by omega)); (try have hz2_w_p3 : w.heap.size < w2.heap.size + 1 + 1 + 1 := (by omega)); (try have hz2_w1_p1 : w1.heap.size < w2.heap.size + 1 := (by omega)); (try have hz2_w1_p2 : w1.heap.size < w2.heap.size + 1 + 1 := (by omega)); (try have hz2_w1_p3 : w1.heap.size < w2.heap.size + 1 + 1 + 1 := (by omega)); (try have hz2_w_0 : w.heap.size < w2.heap.size := (by omega)); (try have hz2_w_1 : w.heap.size + 1 < w2.heap.size := (by omega)); (try have hz2_w_2 : w.heap.size + 1 + 1 < w2.heap.size := (by omega)); (try have hz2_w_3 : w.heap.size + 1 + 1 + 1 < w2.heap.size := (by omega)); (try have hz2_w_4 : w.heap.size + 1 + 1 + 1 + 1 < w2.heap.size := (by omega)); (try have hz2_w_5 : w.heap.size + 1 + 1 + 1 + 1 + 1 < w2.heap.size := (by omega)); (try have hz2_w_6 : w.heap.size + 1 + 1 + 1 + 1 + 1 + 1 < w2.heap.size := (by omega)); (try have hz2_w1_0 : w1.heap.size < w2.heap.size := (by omega)); (try have hz2_w1_1 : w1.heap.size + 1 < w2.heap.size := (by omega)); (try have hz2_w1_2 : w1.heap.size + 1 + 1 < w2.heap.size := (by omega)); (try have hz2_w1_3 : w1.heap.size + 1 + 1 + 1 < w2.heap.size := (by omega)))
  go_returns
  exact ⟨rfl, by go_grown⟩
end Go.Proofs.YtgonaamjjhhiiaaGreatDoor
