/-
  The walk of Terms: a range over a function whose rounds append.
-/
import Derived.Test.YtgonaamjjhhiiaaGreatDoorCmp
import Derived.Test.YtgonaamjjhhiiaaGreatDoorMathD
import Derived.RangeFuncBox
import Derived.RangeFuncNested
import Derived.RangeFuncBound
import Derived.RangeFuncCalls
import Derived.RangeFuncLeaves
import Derived.Shelf.Abstract
import Derived.Shelf.RegionOpen
import Derived.WalkKit
import Derived.OwnWalkIn
import Derived.TacticsInMore
import Derived.RegionIn
import Derived.LoopNIn
import Derived.LoopIn
import Derived.Maps.AppendAt
import Derived.Outline
set_option linter.unusedVariables false
set_option linter.unusedSimpArgs false
namespace Go.Proofs.YtgonaamjjhhiiaaGreatDoor
open Go Go.RowKit Go.Shelf

attribute [local go_sem] Oper.semAt_some

theorem abides_below {B : Nat} {J : List Int → World → Prop} (h : AbidesFrom B J) {s : List Int} {W W' : World} (hj : J s W) (hb : Below W.heap.size W W') : J s W' :=
  h s W W' none hj ⟨hb.os, hb.tape, hb.output, hb.size, fun i hi _ => hb.block i hi⟩ (fun _ e => by cases e)

theorem tl_rest {p q a b : Int} {pre : List Int} (h : tl p q = pre ++ tl a b) (hb : 0 < b) : tl p q = (pre ++ [a / b]) ++ tl b (a - a / b * b) ∧ pre.length < (tl p q).length ∧ 0 ≤ a - a / b * b ∧ a - a / b * b < b := by
  have e : a - a / b * b = a % b := by have := Int.emod_add_mul_ediv a b; rw [Int.mul_comm] at this; omega
  have h1 := Int.emod_nonneg a (b := b) (by omega)
  have h2 := Int.emod_lt_of_pos a hb
  rw [e, h, tl_pos hb]
  refine ⟨by simp, by simp, h1, h2⟩

set_option maxRecDepth 100000 in
set_option maxHeartbeats 2000000 in
theorem terms1_in (n : Nat) (hn : 1 ≤ n) (l Bn n₀ B0 : Nat) (p q : Int) (hq0 : 0 ≤ q) (hq1 : q ≤ 1000000) (hp0 : -1000000000 ≤ p) (hp1 : p ≤ 1000000000) (J Jx : List Int → World → Prop) (hA : AbidesFrom B0 J)
    (hY : ∀ pre x W, J pre W → pre.length < (tl p q).length → YieldAt Fence.wide (n - 1) Tryz.prog l #[.int .i64 x] W fun e W' =>
      (e = .returned (.bool true) ∧ J (pre ++ [x]) W' ∧ Below n₀ W W') ∨ (e = .returned (.bool false) ∧ Jx (pre ++ [x]) W'))
    (W : World) (hc0 : W.cell? ⟨Bn, 0, none⟩ = some (.int .i64 p)) (hc1 : W.cell? ⟨Bn, 1, none⟩ = some (.int .i64 q)) (h0 : J [] W) :
    CallsIn Fence.wide n Tryz.prog 65 #[.func (.yield l) #[] #[], .pointer (some ⟨Bn, 0, none⟩)] W fun e W' => (∃ v, e = .returned v) ∧
      ((∃ ys, ys = tl p q ∧ J ys W') ∨ (∃ pre, pre <+: tl p q ∧ Jx pre W')) := by
  have hmx : Tryz.prog.follows .mixedOrders = true := by kernel_rfl
  refine callsIn_of_wp Tryz.func65 rfl trivial ?_ rfl
  simp only [Tryz.ntmps65, List.size_toArray, List.length_cons, List.length_nil, Nat.reduceAdd, Nat.reduceSub, Array.replicate_succ, Array.replicate_zero, List.push_toArray, List.append_toArray, List.nil_append, List.cons_append]
  gi_wp2
  gi_region
  all_goals gi_wp2
  gi_loopw [3, 4] (fun x y wr => ∃ (pre : List Int) (a b : Int), x = .int .i64 a ∧ y = .int .i64 b ∧ Hid (tl p q = pre ++ tl a b) ∧ 0 ≤ b ∧ b ≤ 1000000 ∧ -1000000000 ≤ a ∧ a ≤ 1000000000 ∧ J pre wr)
    (fun _ y _ => (intOf y).toNat)
  case atStart =>
    exact ⟨[], p, q, rfl, rfl, Lib.hid (by simp), hq0, hq1, hp0, hp1, abides_below hA h0 (by repeat' (first | (with_reducible exact Below.refl _ _) | (with_reducible refine Below.drew ?_) | (with_reducible refine below_drewN ?_ _)))⟩
  case round =>
    obtain ⟨pre, a, b, rfl, rfl, HT, b0, b1, a0, a1, hJs⟩ := hrel
    by_cases hb : b = 0
    · subst hb
      gi_wp2
      go_end0
      exact ⟨⟨_, rfl⟩, .inl ⟨pre, by rw [HT.out, tl_zero (by omega)]; simp, hJs⟩⟩
    · have hne : (b != 0) = true := by simpa using hb
      have hbp : 0 < b := by omega
      obtain ⟨t1, t2, t3, t4⟩ := tl_rest HT.out hbp
      have HT1 := Lib.hid t1
      have HT2 := Lib.hid t2
      have fl := floor_le (n := a) (d := b) (by omega)
      have fb := floor_bd (n := a) (d := b) (B := 1000000000) (by omega) (by omega) (by omega)
      obtain ⟨fb1, fb2⟩ := fb
      have fx : -1001000000 ≤ a / b * b := by omega
      have hJ1 := fun (W1 : World) (hb1 : Below wr.heap.size wr W1) => abides_below hA hJs hb1
      have HJ := Lib.hid hJ1
      clear t1 t2 hJ1
      gi_wp2_with (refine ⟨trivial, ?_⟩; gi_at_call 62; refine (callsIn_wide.2 (floor_any a b _ (by omega) (by omega) (by omega) (by omega))).mono ?_; rintro e w1 ⟨rfl, hb1⟩; obtain ⟨fn, tmps, assign, body, hy, hR⟩ := hY pre (a / b) w1 (HJ.out _ hb1) HT2.out)
      refine hR.mono ?_
      rintro e W3 (⟨rfl, hJ3, hk3⟩ | ⟨rfl, hJx3⟩)
      · gi_wp2
        go_roundw
        case rel => exact ⟨pre ++ [a / b], b, a - a / b * b, rfl, rfl, HT1, t3, by omega, by omega, by omega, hJ3⟩
        case measure => simp [intOf]; omega
      · gi_wp2
        refine bodyPost_ret (results_none rfl _ _ _) rfl ?_
        exact ⟨⟨_, rfl⟩, .inr ⟨pre ++ [a / b], ⟨_, HT1.out.symm⟩, hJx3⟩⟩

set_option maxHeartbeats 1000000 in
theorem terms_in (n : Nat) (p q : Int) (w : World) :
    CallsIn Fence.wide n Tryz.prog 37 #[.agg #[.int .i64 (p), .int .i64 (q)]] w fun e w' => e = .returned (.func (.func 65) #[] #[.pointer (some ⟨w.heap.size, 0, none⟩)]) ∧ w' = w.alloc (.cells #[.int .i64 (p), .int .i64 (q)] 23) := by
  have hmf : ∀ (fn : Fn) (first cap : Array Value) (w : World), (Instr.makeFunc fn first cap).run Tryz.prog w = .ok (.func fn first cap) w := fun _ _ _ _ => rfl
  refine callsIn_of_wp Tryz.func37 rfl trivial ?_ rfl
  simp only [Tryz.ntmps37, List.size_toArray, List.length_cons, List.length_nil, Nat.reduceAdd, Nat.reduceSub, Array.replicate_succ, Array.replicate_zero, List.push_toArray, List.append_toArray, List.nil_append, List.cons_append]
  gi_wp2
  go_ret
  exact ⟨rfl, rfl⟩

theorem terms_stops (n : Nat) (hn : 1 ≤ n) (Bn n₀ : Nat) (p q : Int) (hq0 : 0 ≤ q) (hq1 : q ≤ 1000000) (hp0 : -1000000000 ≤ p) (hp1 : p ≤ 1000000000) (w : World) (hBn : Bn < w.heap.size)
    (hc0 : w.cell? ⟨Bn, 0, none⟩ = some (.int .i64 p)) (hc1 : w.cell? ⟨Bn, 1, none⟩ = some (.int .i64 q)) :
    SeqStopsK Fence.wide n Tryz.prog 65 #[.pointer (some ⟨Bn, 0, none⟩)] (fun x : Int => #[Value.int .i64 x]) (Below n₀) (fun ys => ys = tl p q) (fun pre => pre <+: tl p q) (tl p q).length w := fun l J Jx W hW hJ _ hY h0 =>
  terms1_in n hn l Bn n₀ _ p q hq0 hq1 hp0 hp1 J Jx hJ hY W ((hW.cell (p := ⟨Bn, 0, none⟩) hBn).trans hc0) ((hW.cell (p := ⟨Bn, 1, none⟩) hBn).trans hc1) h0

theorem infoI : (Tryz.prog.info? 3).map (fun i => (i.zero, i.size, i.bytes)) = some (some (.int .i64 0), 1, 8) := by kernel_rfl

theorem cell_new2 (w : World) (x y : Value) (t : TypeId) : (w.alloc (.cells #[x, y] t)).cell? ⟨w.heap.size, 0, none⟩ = some x ∧ (w.alloc (.cells #[x, y] t)).cell? ⟨w.heap.size, 1, none⟩ = some y := ⟨by simp, by simp⟩
def TermsPost (n d : Int) (w : World) (e : Ending) (w' : World) : Prop := ∃ v, e = .returned (.tuple #[v, .int .i64 0]) ∧ w'.ownsRow w.heap.size 3 1 v (tl n d).length ((tl n d).map (Value.int .i64)) ∧ Below w.heap.size w w'

set_option maxRecDepth 100000 in
set_option maxHeartbeats 4000000 in
theorem Terms_ok (p q : Int) (w : World) (ha : okQ p q = true) :
    Calls Tryz.prog 14 #[.agg #[.int .i64 (p), .int .i64 (q)]] w (TermsPost p q w) := by
  obtain ⟨h1, h2, h3, h4, _⟩ := okQ_iff.1 ha
  obtain ⟨i0, hi, hz0, hz1, hz2⟩ := info_parts infoI
  have hlen := tl_len q.toNat p q (Nat.le_refl _)
  have hlen2 : (tl p q).length ≤ 1000000 := by omega
  have HA := Lib.hid ha
  clear ha hlen
  refine (callsIn_wide (n := 5)).1 ?_
  refine callsIn_of_wp_marks Tryz.func14 rfl trivial ?_ rfl
  simp only [Tryz.ntmps14, List.size_toArray, List.length_cons, List.length_nil, Nat.reduceAdd, Nat.reduceSub, Array.replicate_succ, Array.replicate_zero, List.push_toArray, List.append_toArray, List.nil_append, List.cons_append]
  gi_wp2_with (first | (refine ⟨trivial, ?_⟩; gi_at_call 21; refine (callsIn_wide.2 (check1_ok _ _ p q _ (by simp [go_sem]) (by simp [go_sem]) HA.out)).mono ?_; rintro e w1 ⟨rfl, hb1⟩; obtain ⟨hc1, hf1⟩ := bcell hb1; have hB1 : Below w.heap.size w w1 := up hb1 (by go_grown); have hz1' := hb1.size; simp at hz1'; have y0 : w.heap.size < w1.heap.size := (by omega); have y1 : w.heap.size + 1 < w1.heap.size := (by omega)) | (refine ⟨trivial, ?_⟩; gi_at_call 37; refine (terms_in _ p q _).mono ?_; rintro e w2 ⟨rfl, rfl⟩))
  have bO := Boxed.new w1 37 (.slice none 0 0)
  have hB0 : Below w.heap.size w ((w1.alloc (.cells #[.slice none 0 0] 37)).alloc (.cells #[.int .i64 (p), .int .i64 (q)] 23)) := (hB1.alloc (by omega) _).alloc (by simp; omega) _
  have hML : 1000001 ≤ maxLen := by unfold maxLen; omega
  have cB := cell_new2 (w1.alloc (.cells #[.slice none 0 0] 37)) (.int .i64 p) (.int .i64 q) 23
  rw [World.size_alloc] at cB
  have hws : w.heap.size ≤ w1.heap.size := by omega
  refine wpIn_rangeFunc_ownG rfl (by omega) (gf := 65) (lb := #[.pointer (some ⟨w1.heap.size + 1, 0, none⟩)]) rfl trivial (enters_of Tryz.func65 (by kernel_rfl) rfl)
    (terms_stops _ (by omega) (w1.heap.size + 1) w.heap.size p q (by omega) (by omega) h3 h4 _ (by simp) cB.1 cB.2) belowK_t (belowK_b (by simp; omega)) (Below.refl _ _) (fun _ => rfl)
    (fun pre W => (∃ v, Boxed W w1.heap.size 37 v ∧ W.ownsRow w.heap.size 3 1 v pre.length (pre.map (Value.int .i64)) ∧ True) ∧ Below w.heap.size w W)
    (fun _ _ _ => False)
    (OwnFrom.and (Own.from (holdsRow_own w.heap.size w1.heap.size 37 3 1 (fun pre : List Int => pre.length) (fun pre => pre.map (Value.int .i64)) (fun _ _ => True)) _) (ownFrom_below (Nat.le_refl _) (by simp; omega)))
    (fun _ _ _ _ _ hs _ _ => hs)
    ⟨⟨_, bO.alloc _, World.ownsRow_nil _ _ _ _, trivial⟩, hB0⟩
    (fun x => { tmps := #[.agg #[.int .i64 (p), .int .i64 (q)], .pointer (some ⟨w.heap.size, 0, none⟩), .slice none 0 0, .int .i64 0, .int .i64 0, .pointer (some ⟨w1.heap.size, 0, none⟩), .int .i64 x, .agg #[.int .i64 (p), .int .i64 (q)], .slice (some ⟨w.heap.size + 1, 0, none⟩) 1 1, .int .i64 0, .int .i64 0, .bool false, undef, .agg #[.int .i64 (p), .int .i64 (q)], .func (.func 65) #[] #[.pointer (some ⟨w1.heap.size + 1, 0, none⟩)], .int .i64 x, undef, undef, undef, undef, undef], defers := [] }) ?assign ?body ?done ?stop
  case assign =>
    intro l x W K hK
    gi_wp2
    exact hK
  case body =>
    rintro l pre x W ⟨⟨v, hv, hrow, _⟩, hB⟩ hlt
    have hc := hv.cell
    gi_wp2_with (gi_at_builtin; refine wpListIn_append_own _ rfl _ _ 37 rfl w.heap.size 3 i0 (.int .i64 0) 1 8 Tryz.underlying37 hi hz0 hz1 hz2 rfl (by decide) _ _ _ rfl (hrow.alloc _) ⟨W.heap.size, 0, none⟩ 1 1 [.int .i64 x] rfl rfl (cell_one_new _ _ _) (by simp [Value.oneCell']) (by omega) (by omega) (by have := hB.size; simp; omega) ?_; intro v' w2 hown' hgrow _; obtain ⟨g', cap', rfl⟩ := ownsRow_succ hown'; obtain ⟨hv1, hv2, hr2, hk2, hb2⟩ := hv.appended (by decide) hrow hB.size hws hown' hgrow; have hc1 := hv1.cell; have hf1 := hv1.frozen)
    exact ⟨hk2.from _, hb2, ⟨_, hv2, by simpa using hr2, trivial⟩, hB.trans hb2⟩
  case done =>
    rintro D ys W hD rfl ⟨⟨v, hv, hrow, _⟩, hB⟩ hK
    have hc := hv.cell
    gi_wp2
    refine ⟨by simp, .inl ⟨_, _, rfl, run_takeDeferred hK, ?_⟩⟩
    exact ⟨_, results_tmp2 rfl _ _ _, v, rfl, ownsRow_putObj hrow _ hK rfl, hB.trans (belowK_b (w := w) (Nat.le_refl _) W D _ _ (by simp at hD; omega) hK rfl rfl)⟩
  case stop =>
    rintro D c pre W _ _ h _
    exact h.elim
theorem Terms_arg (n d : Int) (w : World) (hw : W2 n d) (ha : okQ n d = false) :
    Calls Tryz.prog 14 #[.agg #[.int .i64 (n), .int .i64 (d)]] w fun e w' => e = .returned (.tuple #[.slice none 0 0, .int .i64 1]) ∧ Below w.heap.size w w' := by
  have HA := Lib.hid ha
  have HW := Lib.hid hw
  clear ha hw
  go_enter Tryz.func14, Tryz.ntmps14
  go_wp2_with (go_at_call 21; refine (check1_bad1 _ _ n d _ (by simp [go_sem]) (by simp [go_sem]) HA.out HW.out).mono ?_; rintro e w1 ⟨rfl, hb1⟩; obtain ⟨hc1, hf1⟩ := bcell hb1; have hB1 : Below w.heap.size w w1 := up hb1 (by go_grown); have hz1 := hb1.size; (try simp at hz1); (try have hz1_w_p1 : w.heap.size < w1.heap.size + 1 := (by omega)); (try have hz1_w_p2 : w.heap.size < w1.heap.size + 1 + 1 := (by omega)); (try have hz1_w_p3 : w.heap.size < w1.heap.size + 1 + 1 + 1 := (by omega)); (try have hz1_w_0 : w.heap.size < w1.heap.size := (by omega)); (try have hz1_w_1 : w.heap.size + 1 < w1.heap.size := (by omega)); (try have hz1_w_2 : w.heap.size + 1 + 1 < w1.heap.size := (by omega)); (try have hz1_w_3 : w.heap.size + 1 + 1 + 1 < w1.heap.size := (by omega)); (try have hz1_w_4 : w.heap.size + 1 + 1 + 1 + 1 < w1.heap.size := (by omega)); (try have hz1_w_5 : w.heap.size + 1 + 1 + 1 + 1 + 1 < w1.heap.size := (by omega)); (try have hz1_w_6 : w.heap.size + 1 + 1 + 1 + 1 + 1 + 1 < w1.heap.size := (by omega)))
  go_returns
  exact ⟨rfl, by go_grown⟩
end Go.Proofs.YtgonaamjjhhiiaaGreatDoor
