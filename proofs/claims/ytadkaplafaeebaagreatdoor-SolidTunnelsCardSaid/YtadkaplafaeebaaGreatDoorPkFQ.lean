/-
  Moved.
-/
import Derived.Test.YtadkaplafaeebaaGreatDoorPkEQ
import Derived.Deep.QuietTactic
import Derived.BigQuiet
import Derived.StillTail
import Derived.Test.YtadkaplafaeebaaGreatDoorPkAQ
set_option linter.unusedVariables false
set_option linter.unusedSimpArgs false
namespace Go.Proofs.YtadkaplafaeebaaGreatDoor
open Go Go.RowKit

set_option maxRecDepth 100000 in
set_option maxHeartbeats 4000000 in
theorem moved_in (f : Sol) (x y z : Int) (w : World) (hf : Fit f) (h : emptyS f = false) (ho : outB f x y z = false) :
    Calls Tryz.prog 44 #[sol f, .int .i64 x, .int .i64 y, .int .i64 z] w fun e w' => e = .returned (.tuple #[sol (shiftS f x y z), .int .i64 0]) ∧ Below w.heap.size w w' := by
  obtain ⟨x0, x1, y0, y1, z0, z1⟩ := boundN hf h
  have ho := of_decide_eq_false ho
  have d1 : decide (x < -(lowX f : Int)) = false := decide_eq_false (by omega)
  have d2 : decide (y < -(lowY f : Int)) = false := decide_eq_false (by omega)
  have d3 : decide (z < -(lowZ f : Int)) = false := decide_eq_false (by omega)
  have d4 : decide (7 - ((highX f : Int) - 1) < x) = false := decide_eq_false (by omega)
  have d5 : decide (7 - ((highY f : Int) - 1) < y) = false := decide_eq_false (by omega)
  have d6 : decide (7 - ((highZ f : Int) - 1) < z) = false := decide_eq_false (by omega)
  have hx : -7 ≤ x ∧ x ≤ 7 := by omega
  have hy : -7 ≤ y ∧ y ≤ 7 := by omega
  have hz := Lib.hid (show ∀ k : Nat, k < 8 → f k ≠ 0 → 0 ≤ (k : Int) + z ∧ (k : Int) + z ≤ 7 from fun k hk h0 => by have := plane_in (f := f) hk h0; omega)
  clear ho
  have HF := Lib.hid hf
  have HE := Lib.hid h
  clear hf h
  go_enter Tryz.func44, Tryz.ntmps44
  go_wp2_with fail
  refine (bounds_yes f _ HF.out HE.out).mono ?_
  rintro e w1 ⟨rfl, hb1⟩
  have bS : BoxS w1 w.heap.size f := ((BoxS.new w f).alloc _).below hb1 (by simp <;> omega)
  have bR : BoxS w1 (w.heap.size + 1) (fun _ => 0) := (BoxS.zero (by simp)).below hb1 (by simp <;> omega)
  have hB1 : Below w.heap.size w w1 := up hb1 (by repeat' (first | (with_reducible exact Below.refl _ _) | (with_reducible assumption) | (with_reducible refine Below.alloc ?_ ?_ _) | (with_reducible refine Below.drew ?_) | (with_reducible refine below_drewN ?_ _) | (with_reducible refine Below.setCell ?_ ?_ _) | go_size))
  have l0 := bS.lt
  have l1 := bR.lt
  have c0 := (bS).cell (k := 0) (by omega); have c1 := (bS).cell (k := 1) (by omega); have c2 := (bS).cell (k := 2) (by omega); have c3 := (bS).cell (k := 3) (by omega); have c4 := (bS).cell (k := 4) (by omega); have c5 := (bS).cell (k := 5) (by omega); have c6 := (bS).cell (k := 6) (by omega); have c7 := (bS).cell (k := 7) (by omega)
  have r0 := (bR).cell (k := 0) (by omega); have r1 := (bR).cell (k := 1) (by omega); have r2 := (bR).cell (k := 2) (by omega); have r3 := (bR).cell (k := 3) (by omega); have r4 := (bR).cell (k := 4) (by omega); have r5 := (bR).cell (k := 5) (by omega); have r6 := (bR).cell (k := 6) (by omega); have r7 := (bR).cell (k := 7) (by omega)
  have q0 := (bR).free 0; have q1 := (bR).free 1; have q2 := (bR).free 2; have q3 := (bR).free 3; have q4 := (bR).free 4; have q5 := (bR).free 5; have q6 := (bR).free 6; have q7 := (bR).free 7
  go_wp2_with fail
  refine (shifted_ok f x y z _ HF.out hx hy hz.out).mono ?_
  rintro e w2 ⟨rfl, hb2⟩
  have bR2 : BoxS w2 (w.heap.size + 1) (fun _ => 0) := (bR.alloc _).below hb2 (by simp; omega)
  have l2 := bR2.lt
  have p0 := (bR2).cell (k := 0) (by omega); have p1 := (bR2).cell (k := 1) (by omega); have p2 := (bR2).cell (k := 2) (by omega); have p3 := (bR2).cell (k := 3) (by omega); have p4 := (bR2).cell (k := 4) (by omega); have p5 := (bR2).cell (k := 5) (by omega); have p6 := (bR2).cell (k := 6) (by omega); have p7 := (bR2).cell (k := 7) (by omega)
  have v0 := (bR2).free 0; have v1 := (bR2).free 1; have v2 := (bR2).free 2; have v3 := (bR2).free 3; have v4 := (bR2).free 4; have v5 := (bR2).free 5; have v6 := (bR2).free 6; have v7 := (bR2).free 7
  have hB2 : Below w.heap.size w w2 := up hb2 (by repeat' (first | (with_reducible exact Below.refl _ _) | (with_reducible assumption) | (with_reducible refine Below.alloc ?_ ?_ _) | (with_reducible refine Below.drew ?_) | (with_reducible refine below_drewN ?_ _) | (with_reducible refine Below.setCell ?_ ?_ _) | go_size))
  clear c0 c1 c2 c3 c4 c5 c6 c7 r0 r1 r2 r3 r4 r5 r6 r7 q0 q1 q2 q3 q4 q5 q6 q7 d1 d2 d3 d4 d5 d6
  go_wp2
  refine bodyPost_ret (res_se (bR2.put (shiftF f x y z 8)) Tryz.results44 rfl) rfl ⟨rfl, ?_⟩
  exact below_put8 hB2 (by omega) _
end Go.Proofs.YtadkaplafaeebaaGreatDoor
/-
  cornered: a solid moved to the corner.
-/
set_option linter.unusedVariables false
set_option linter.unusedSimpArgs false
namespace Go.Proofs.YtadkaplafaeebaaGreatDoor
open Go Go.RowKit

def cornF (f : Sol) : Sol := shiftS f (-(lowX f : Int)) (-(lowY f : Int)) (-(lowZ f : Int))
theorem shadow_zero {f : Sol} (h : ∀ k, k < 8 → f k = 0) : ∀ n, n ≤ 8 → shadow f n = 0
  | 0, _ => rfl
  | n + 1, hn => by
    unfold shadow
    rw [shadow_zero h n (by omega), h n (by omega)]
    rfl
theorem levels_zero {f : Sol} (h : ∀ k, k < 8 → f k = 0) : ∀ n, n ≤ 8 → levels f n = 0
  | 0, _ => rfl
  | n + 1, hn => by
    unfold levels
    rw [if_pos (h n (by omega)), levels_zero h n (by omega)]
theorem low_zero : low 0 = 0 := by rw [low, dif_pos rfl]
theorem low_empty {f : Sol} (h : emptyS f = true) : lowX f = 0 ∧ lowY f = 0 ∧ lowZ f = 0 := by
  have h8 := (empty_iff f).1 h
  unfold lowX lowY lowZ
  rw [shadow_zero h8 8 (by omega), levels_zero h8 8 (by omega)]
  exact ⟨low_zero, low_zero, low_zero⟩
theorem bounds_any (f : Sol) (hf : Fit f) : ∃ (x y z : Int) (b : Bool), ∀ W : World, Calls Tryz.prog 38 #[sol f] W fun e w' => e = .returned (.tuple #[.agg #[.int .i64 (((lowX f : Nat) : Int)), .int .i64 (((lowY f : Nat) : Int)), .int .i64 (((lowZ f : Nat) : Int)), .int .i64 (x), .int .i64 (y), .int .i64 (z)], .bool b]) ∧ Below W.heap.size W w' := by
  cases he : emptyS f with
  | true =>
    obtain ⟨e1, e2, e3⟩ := low_empty he
    refine ⟨0, 0, 0, false, fun W => ?_⟩
    rw [e1, e2, e3]
    exact bounds_no f W he
  | false => exact ⟨_, _, _, true, fun W => bounds_yes f W hf he⟩
theorem low_le7 (f : Sol) (hf : Fit f) : lowX f ≤ 7 ∧ lowY f ≤ 7 ∧ lowZ f ≤ 7 := by
  cases he : emptyS f with
  | true =>
    obtain ⟨e1, e2, e3⟩ := low_empty he
    omega
  | false =>
    obtain ⟨x0, x1, y0, y1, z0, z1⟩ := boundN hf he
    omega
set_option maxRecDepth 100000 in
set_option maxHeartbeats 4000000 in
theorem cornered_any (f : Sol) (w : World) (hf : Fit f) :
    Calls Tryz.prog 120 #[sol f] w fun e w' => e = .returned (sol (cornF f)) ∧ Below w.heap.size w w' := by
  obtain ⟨x0, y0, z0⟩ := low_le7 f hf
  obtain ⟨bx, by', bz, bb, HBD⟩ := bounds_any f hf
  have HBN := Lib.hid HBD
  clear HBD
  have hx : -7 ≤ -(lowX f : Int) ∧ -(lowX f : Int) ≤ 7 := by omega
  have hy : -7 ≤ -(lowY f : Int) ∧ -(lowY f : Int) ≤ 7 := by omega
  have hz := Lib.hid (show ∀ k : Nat, k < 8 → f k ≠ 0 → 0 ≤ (k : Int) + -(lowZ f : Int) ∧ (k : Int) + -(lowZ f : Int) ≤ 7 from fun k hk h0 => by have := plane_in (f := f) hk h0; omega)
  have HF := Lib.hid hf
  clear hf
  go_enter Tryz.func120, Tryz.ntmps120
  go_wp2_with fail
  refine (HBN.out _).mono ?_
  rintro e w1 ⟨rfl, hb1⟩
  have bS : BoxS w1 w.heap.size f := ((BoxS.new w f).alloc _).below hb1 (by simp <;> omega)
  have bR : BoxS w1 (w.heap.size + 1) (fun _ => 0) := (BoxS.zero (by simp)).below hb1 (by simp <;> omega)
  have hB1 : Below w.heap.size w w1 := up hb1 (by repeat' (first | (with_reducible exact Below.refl _ _) | (with_reducible assumption) | (with_reducible refine Below.alloc ?_ ?_ _) | (with_reducible refine Below.drew ?_) | (with_reducible refine below_drewN ?_ _) | (with_reducible refine Below.setCell ?_ ?_ _) | go_size))
  have l0 := bS.lt
  have l1 := bR.lt
  have c0 := (bS).cell (k := 0) (by omega); have c1 := (bS).cell (k := 1) (by omega); have c2 := (bS).cell (k := 2) (by omega); have c3 := (bS).cell (k := 3) (by omega); have c4 := (bS).cell (k := 4) (by omega); have c5 := (bS).cell (k := 5) (by omega); have c6 := (bS).cell (k := 6) (by omega); have c7 := (bS).cell (k := 7) (by omega)
  have r0 := (bR).cell (k := 0) (by omega); have r1 := (bR).cell (k := 1) (by omega); have r2 := (bR).cell (k := 2) (by omega); have r3 := (bR).cell (k := 3) (by omega); have r4 := (bR).cell (k := 4) (by omega); have r5 := (bR).cell (k := 5) (by omega); have r6 := (bR).cell (k := 6) (by omega); have r7 := (bR).cell (k := 7) (by omega)
  have q0 := (bR).free 0; have q1 := (bR).free 1; have q2 := (bR).free 2; have q3 := (bR).free 3; have q4 := (bR).free 4; have q5 := (bR).free 5; have q6 := (bR).free 6; have q7 := (bR).free 7
  go_wp2_with fail
  refine (shifted_ok f _ _ _ _ HF.out hx hy hz.out).mono ?_
  rintro e w2 ⟨rfl, hb2⟩
  have bR2 : BoxS w2 (w.heap.size + 1) (fun _ => 0) := (bR.alloc _).below hb2 (by simp; omega)
  have l2 := bR2.lt
  have p0 := (bR2).cell (k := 0) (by omega); have p1 := (bR2).cell (k := 1) (by omega); have p2 := (bR2).cell (k := 2) (by omega); have p3 := (bR2).cell (k := 3) (by omega); have p4 := (bR2).cell (k := 4) (by omega); have p5 := (bR2).cell (k := 5) (by omega); have p6 := (bR2).cell (k := 6) (by omega); have p7 := (bR2).cell (k := 7) (by omega)
  have v0 := (bR2).free 0; have v1 := (bR2).free 1; have v2 := (bR2).free 2; have v3 := (bR2).free 3; have v4 := (bR2).free 4; have v5 := (bR2).free 5; have v6 := (bR2).free 6; have v7 := (bR2).free 7
  have hB2 : Below w.heap.size w w2 := up hb2 (by repeat' (first | (with_reducible exact Below.refl _ _) | (with_reducible assumption) | (with_reducible refine Below.alloc ?_ ?_ _) | (with_reducible refine Below.drew ?_) | (with_reducible refine below_drewN ?_ _) | (with_reducible refine Below.setCell ?_ ?_ _) | go_size))
  clear c0 c1 c2 c3 c4 c5 c6 c7 r0 r1 r2 r3 r4 r5 r6 r7 q0 q1 q2 q3 q4 q5 q6 q7
  go_wp2
  refine bodyPost_ret (res_s (bR2.put (cornF f)) Tryz.results120 rfl) rfl ⟨rfl, ?_⟩
  exact below_put8 hB2 (by omega) _
end Go.Proofs.YtadkaplafaeebaaGreatDoor
/-
  Turned and Placed.
-/
set_option linter.unusedVariables false
set_option linter.unusedSimpArgs false
namespace Go.Proofs.YtadkaplafaeebaaGreatDoor
open Go Go.RowKit

theorem BoxS.put0 {W : World} {B : Nat} {f : Sol} (h : BoxS W B f) : BoxS ((((((((W.setCell ⟨B, 0, none⟩ (.int .u64 0)).setCell ⟨B, 1, none⟩ (.int .u64 0)).setCell ⟨B, 2, none⟩ (.int .u64 0)).setCell ⟨B, 3, none⟩ (.int .u64 0)).setCell ⟨B, 4, none⟩ (.int .u64 0)).setCell ⟨B, 5, none⟩ (.int .u64 0)).setCell ⟨B, 6, none⟩ (.int .u64 0)).setCell ⟨B, 7, none⟩ (.int .u64 0)) B (fun _ => 0) := h.put (fun _ => 0)
theorem below_put0 {B0 : Nat} {a W : World} (h : Below B0 a W) {B : Nat} (hB : B0 ≤ B) : Below B0 a ((((((((W.setCell ⟨B, 0, none⟩ (.int .u64 0)).setCell ⟨B, 1, none⟩ (.int .u64 0)).setCell ⟨B, 2, none⟩ (.int .u64 0)).setCell ⟨B, 3, none⟩ (.int .u64 0)).setCell ⟨B, 4, none⟩ (.int .u64 0)).setCell ⟨B, 5, none⟩ (.int .u64 0)).setCell ⟨B, 6, none⟩ (.int .u64 0)).setCell ⟨B, 7, none⟩ (.int .u64 0)) := below_put8 h hB (fun _ => 0)
theorem isMotion_is {t x y z : Int} {b : Bool} (h : motB t x y z = b) (w : World) : Calls Tryz.prog 105 #[.agg #[.int .i64 (t), .int .i64 (x), .int .i64 (y), .int .i64 (z)]] w fun e w' => e = .returned (.bool b) ∧ Below w.heap.size w w' := by
  subst h
  exact isMotion_ok t x y z w
theorem turnedF_fit (f : Sol) (t : Nat) : Fit (turnedF f t) := solOf_fit _
set_option maxRecDepth 100000 in
set_option maxHeartbeats 4000000 in
theorem Placed_no (f : Sol) (t x y z : Int) (w : World) (h : motB t x y z = false) :
    Calls Tryz.prog 48 #[sol f, .agg #[.int .i64 (t), .int .i64 (x), .int .i64 (y), .int .i64 (z)]] w fun e w' => e = .returned (.tuple #[sol (fun _ => 0), .int .i64 1]) ∧ Below w.heap.size w w' := by
  have H := Lib.hid h
  clear h
  go_enter Tryz.func48, Tryz.ntmps48
  go_wp2_with fail
  refine (isMotion_is H.out _).mono ?_
  rintro e w1 ⟨rfl, hb1⟩
  have bR : BoxS w1 (w.heap.size + 1 + 1) (fun _ => 0) := (BoxS.zero (by simp)).below hb1 (by simp <;> omega)
  have hB1 : Below w.heap.size w w1 := up hb1 (by repeat' (first | (with_reducible exact Below.refl _ _) | (with_reducible assumption) | (with_reducible refine Below.alloc ?_ ?_ _) | (with_reducible refine Below.drew ?_) | (with_reducible refine below_drewN ?_ _) | (with_reducible refine Below.setCell ?_ ?_ _) | go_size))
  have l1 := bR.lt
  have r0 := (bR).cell (k := 0) (by omega); have r1 := (bR).cell (k := 1) (by omega); have r2 := (bR).cell (k := 2) (by omega); have r3 := (bR).cell (k := 3) (by omega); have r4 := (bR).cell (k := 4) (by omega); have r5 := (bR).cell (k := 5) (by omega); have r6 := (bR).cell (k := 6) (by omega); have r7 := (bR).cell (k := 7) (by omega)
  have q0 := (bR).free 0; have q1 := (bR).free 1; have q2 := (bR).free 2; have q3 := (bR).free 3; have q4 := (bR).free 4; have q5 := (bR).free 5; have q6 := (bR).free 6; have q7 := (bR).free 7
  go_wp2_with fail
  refine bodyPost_ret (res_se bR.put0 Tryz.results48 rfl) rfl ⟨rfl, ?_⟩
  exact below_put0 hB1 (by omega)
end Go.Proofs.YtadkaplafaeebaaGreatDoor
/-
  A region that draws its order: first operations that only read, or call what leaves a class of worlds as it is; behind them all, in their order, the rest (a store, an assignment). One walk in the order of the text serves every order: the head in each world of the class, the rest in whatever world of the class the head has ended in.
-/
set_option linter.unusedVariables false
set_option linter.unusedSimpArgs false
namespace Go.Proofs.YtadkaplafaeebaaGreatDoor
open Go Go.RowKit

section
variable {P : Program} {md : Region.Mode} {ops : Array Oper} {C : World → Prop}
/-- Some operations of the head, in whatever order; then L. -/
def headAny (P : Program) (md : Region.Mode) (ops : Array Oper) (C : World → Prop) (n : Nat) (L : Array Bool → Act → Prop) : Nat → Array Bool → Act → Prop
  | 0, l, a => L l a
  | k + 1, l, a => Region.ready md ops l ≠ [] ∧ ∀ i, i ∈ Region.ready md ops l → i < n ∧ qOp P ops C i (headAny P md ops C n L k (l.setIfInBounds i true)) a
theorem any_of_headAny {n g : Nat} {L : Array Bool → Act → Prop} {Q : Exit → Act → World → Prop} (hL : ∀ l a w, C w → L l a → wpAny P md ops Q g l a w) :
    ∀ (k : Nat) (l : Array Bool) (a : Act) (w : World), C w → headAny P md ops C n L k l a → wpAny P md ops Q (k + g) l a w := by
  intro k
  induction k with
  | zero => intro l a w hw h; simpa using hL l a w hw h
  | succ k ih =>
    intro l a w hw h
    have e : k + 1 + g = k + g + 1 := by omega
    rw [e]
    refine ⟨fun h0 => absurd h0 h.1, fun i hi => ?_⟩
    exact wpOp_of_qOp hw (fun a' w' hw' hk => ih _ a' w' hw' hk) (h.2 i hi).2
/-- If one operation that is ready may come first, all may. -/
theorem headAny_one {n i : Nat} {oi : Oper} {v : Value} {L : Array Bool → Act → Prop} (ho : ops[i]? = some oi) (hsel : ∀ (j : Nat) (o : Oper) cs b, ops[j]? = some o → o.op ≠ .select cs b)
    (hs : Region.sinkB md ops n = true) (hc : Region.chainB md ops n = true) (hn : n < ops.size) (hin : i < n)
    (hend : ∀ l a, L l a → ∀ j ∈ Region.ready md ops l, n ≤ j) (k : Nat) :
    ∀ (l : Array Bool) (a : Act), HeadInv md ops n l →
      (∀ j oj, ops[j]? = some oj → j ≠ i → l.getD j true = false → (∀ e ∈ oj.after, Region.binds md e = true → e.on ≠ i) → oi.apart ops oj = true) →
      i ∈ Region.ready md ops l → YieldsIn P ops C oi v a → headAny P md ops C n L k (l.setIfInBounds i true) (a.put oi.dst v) → headAny P md ops C n L (k + 1) l a := by
  induction k with
  | zero =>
    intro l a inv _ hr hy H
    refine ⟨List.ne_nil_of_mem hr, fun j hj => ?_⟩
    have hjn : j < n := Classical.byContradiction fun hge => tail_waits hs hc hn inv _ i rfl hin (mem_ready.1 hr).1 j (by omega) hj
    refine ⟨hjn, ?_⟩
    by_cases e : j = i
    · subst e; exact hy.qOp ho H
    · exact absurd (hend _ _ H j (ready_mono hj e)) (by omega)
  | succ k ih =>
    intro l a inv hap hr hy H
    refine ⟨List.ne_nil_of_mem hr, fun j hj => ?_⟩
    have hjn : j < n := Classical.byContradiction fun hge => tail_waits hs hc hn inv _ i rfl hin (mem_ready.1 hr).1 j (by omega) hj
    refine ⟨hjn, ?_⟩
    by_cases e : j = i
    · subst e; exact hy.qOp ho H
    · obtain ⟨hju, oj, hoj, hall⟩ := mem_ready.1 hj
      have hno : ∀ x ∈ oj.after, Region.binds md x = true → x.on ≠ i := by
        intro x hx hb he
        have h1 := hall x hx hb
        rw [he, getD_both (mem_ready.1 hr).1] at h1
        cases h1
      have hq := qOp_put hoj (hap j oj hoj e hju hno) (fun cs b => hsel i oi cs b ho) (fun cs b => hsel j oj cs b hoj) hy (H.2 j (ready_mono hj e)).2
      refine qOp_mono (fun a' hh => ?_) hq
      refine ih _ a' (inv.set hj hjn) ?_ (ready_mono hr (Ne.symm e)) hh.1 ?_
      · intro x ox hox hxi hxu hxno
        refine hap x ox hox hxi ?_ hxno
        by_cases hjx : j = x
        · subst hjx; exact hju
        · rwa [getD_set_ne true hjx] at hxu
      · rw [Array.setIfInBounds_comm _ _ e]
        exact hh.2
theorem headAny_lex {n g : Nat} {R : Act → Prop} (hsel : Region.noSelect ops = true) (hs : Region.sinkB md ops n = true) (hc : Region.chainB md ops n = true) (hn : n < ops.size) (m : List Oper) :
    ∀ (k : Nat) (l : Array Bool) (a : Act), (∀ j, j < m.length → m[j]? = ops[k + j]?) → k + m.length = n → HeadInv md ops n l →
      Region.lexHead md ops g m.length k l = true → wpQuiet P ops C R m a → headAny P md ops C n (fun l' a' => Region.seqB md ops g n l' = true ∧ R a') m.length l a := by
  induction m with
  | nil =>
    intro k l a _ hk _ hB h
    obtain rfl : k = n := by simpa using hk
    exact ⟨by simpa [Region.lexHead] using hB, h⟩
  | cons o m ih =>
    intro k l a hm hk inv hB h
    have h0 : ops[k]? = some o := by have := hm 0 (by simp); simpa using this.symm
    simp only [List.length_cons, Region.lexHead, Bool.and_eq_true] at hB hk
    have hr : k ∈ Region.ready md ops l := by simpa using hB.1.1
    have hq : qOp P ops C k (wpQuiet P ops C R m) a := by unfold qOp; simp only [h0]; exact h
    obtain ⟨v, hy, hK⟩ := yieldsIn_of_qOp h0 hq
    refine headAny_one h0 (Region.noSelect_spec hsel) hs hc hn (by omega) (fun l' a' hL => seqB_ready hL.1) m.length l a inv (Region.free_spec h0 hB.1.2) hr hy ?_
    refine ih (k + 1) _ _ (fun j hj => ?_) (by omega) (inv.set hr (by omega)) hB.2 hK
    have := hm (j + 1) (by simp; omega)
    simpa [Nat.add_assoc, Nat.add_comm 1 j] using this
/-- The law. -/
theorem wp_region_quiet_tail {id : Nat} {Q : Exit → Act → World → Prop} {a : Act} {w : World} {m : List Oper} (n : Nat) (C : World → Prop) (hm : P.follows .mixedOrders = true) (hB : Region.lexTailB .any m.toArray n = true) (hC : C w.drew)
    (h : wpQuiet P m.toArray C (fun a' => ∀ w', C w' → wpList P m.toArray Q (m.drop n) a' w') (m.take n) a) : (Code.region id m.toArray true).wp P Q a w := by
  simp only [Region.lexTailB, Bool.and_eq_true, decide_eq_true_eq] at hB
  obtain ⟨⟨⟨⟨hsel, hn⟩, hs⟩, hc⟩, hlex⟩ := hB
  have hn1 : n < m.length := by simpa using hn
  have ht : (m.take n).length = n := by simp; omega
  have hd : (m.drop n).length = m.toArray.size - n := by simp
  have inv : HeadInv .any m.toArray n (Array.replicate m.toArray.size false) :=
    ⟨by simp, fun j oj _ hl => absurd hl (by rw [getD_replicate_false]; exact Bool.false_ne_true), fun t _ ht => getD_in (by simpa using ht) (getD_replicate_false _ _)⟩
  have H := headAny_lex (g := m.toArray.size - n) hsel hs hc hn (m.take n) 0 _ a (fun j hj => by rw [ht] at hj; simp [hj]) (by simpa using ht) inv (by rw [ht]; exact hlex) h
  refine wp_region_any hm ?_
  have K := any_of_headAny (Q := Q) (g := m.toArray.size - n) (fun l a' w' hw' hL => by
    have := wpAny_of_seq (md := .any) (Q' := Q) (m.drop n) n l a' w' (fun j => by simp [List.getElem?_drop]) (by rw [hd]; exact hL.1) (hL.2 w' hw')
    rwa [hd] at this) _ _ _ _ hC H
  rwa [ht, show n + (m.toArray.size - n) = m.toArray.size by omega] at K
end
end Go.Proofs.YtadkaplafaeebaaGreatDoor
