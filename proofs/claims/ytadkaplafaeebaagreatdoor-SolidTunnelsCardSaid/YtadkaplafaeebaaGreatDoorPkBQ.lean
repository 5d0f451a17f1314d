/-
  The iterator over the cells of a solid.
-/
import Derived.Test.YtadkaplafaeebaaGreatDoorPkAQ
import Derived.RangeFuncBox
import Derived.RangeFuncNested
import Derived.RangeFuncBound
import Derived.RangeFuncCalls
import Derived.RangeFuncLeaves
import Derived.Shelf.Abstract
import Derived.Shelf.RegionOpen
import Derived.OwnWalkIn
import Derived.TacticsInMore
import Derived.RegionIn
import Derived.LoopNIn
import Derived.LoopIn
import Derived.Maps.AppendAt
set_option linter.unusedVariables false
set_option linter.unusedSimpArgs false
namespace Go.Proofs.YtadkaplafaeebaaGreatDoor
open Go Go.RowKit Go.Shelf

/-- The table of math/bits lies as its text lays it. -/
def Tab64 (w : World) : Prop := ∀ j, j < 64 → w.cell? ⟨0, j, none⟩ = some (.int .u8 (Lib.deBruijn64tab.getD j 0 : Nat))
theorem cell_lt {w : World} {a : Addr} {v : Value} (h : w.cell? a = some v) : a.block < w.heap.size := by
  unfold World.cell? at h
  rcases Nat.lt_or_ge a.block w.heap.size with h1 | h1
  · exact h1
  · rw [Array.getElem?_eq_none h1] at h; cases h
theorem Tab64.below {n : Nat} {w w' : World} (h : Tab64 w) (hb : Below n w w') (hn : w.heap.size ≤ n) : Tab64 w' := fun j hj => (hb.cell (p := ⟨_, j, none⟩) (Nat.lt_of_lt_of_le (cell_lt (h j hj)) hn)).trans (h j hj)
theorem Tab64.below' {n : Nat} {w w' : World} (h : Tab64 w) (hb : Below n w w') (hn : 0 < n) : Tab64 w' := fun j hj => (hb.cell (p := ⟨_, j, none⟩) hn).trans (h j hj)
theorem Tab64.pos {w : World} (h : Tab64 w) : 0 < w.heap.size := cell_lt (h 0 (by decide))
theorem tz_key (x a : Nat) (hx : x < 18446744073709551616) (hx0 : x ≠ 0) (hlow : x &&& (18446744073709551616 - x) = a) :
    IntKind.u64.wrap (bits BinOp.and IntKind.u64 (x : Int) (IntKind.u64.wrap (-(x : Int))) * 285870213051353865) / 288230376151711744 = ((a * 285870213051353865 % 18446744073709551616 / 288230376151711744 : Nat) : Int) := by
  have e1 : IntKind.u64.wrap (-(x : Int)) = ((18446744073709551616 - x : Nat) : Int) := by rw [IntKind.wrap_u64]; omega
  rw [e1, bits_and_u64_nat x _ hx (by omega), hlow, IntKind.wrap_u64]
  omega
theorem tz_core (x k idx : Nat) (w : World) (hx0 : ((x : Int) == 0) = false)
    (key : IntKind.u64.wrap (bits BinOp.and IntKind.u64 (x : Int) (IntKind.u64.wrap (-(x : Int))) * 285870213051353865) / 288230376151711744 = (idx : Int))
    (hi : idx < 64) (hk : k < 64) (hcell : w.cell? ⟨0, idx, none⟩ = some (.int .u8 k)) :
    Calls Tryz.prog 138 #[.int .u64 x] w fun e w' => e = .returned (.int .i64 k) ∧ w = w' := by
  go_enter Tryz.func138, Tryz.ntmps138
  go_wp2_with (simp only [key])
  go_ret
  exact ⟨rfl, rfl⟩
theorem tz_ok (x : Nat) (w : World) (hx : x < 18446744073709551616) (hx0 : x ≠ 0) (hT : Tab64 w) :
    Calls Tryz.prog 138 #[.int .u64 x] w fun e w' => e = .returned (.int .i64 (low x : Nat)) ∧ w = w' := by
  obtain ⟨hlow, hk⟩ := Lib.lowest_bit 64 x hx0 hx
  obtain ⟨hi, htab⟩ := Lib.deBruijn64_at _ hk
  rw [ctz_low hx0 hx] at *
  have hc := hT _ hi
  rw [htab] at hc
  exact tz_core x (low x) _ w (by simpa using hx0) (tz_key x _ hx hx0 hlow) hi hk hc
end Go.Proofs.YtadkaplafaeebaaGreatDoor
/-
  The iterator over the cells of a solid: its contract.
-/
set_option linter.unusedVariables false
set_option linter.unusedSimpArgs false
namespace Go.Proofs.YtadkaplafaeebaaGreatDoor
open Go Go.RowKit Go.Shelf

attribute [local go_sem] Oper.semAt_some

theorem abides_below {α : Type} {B : Nat} {J : List α → World → Prop} (h : AbidesFrom B J) {s : List α} {W W' : World} (hj : J s W) (hb : Below W.heap.size W W') : J s W' :=
  h s W W' none hj ⟨hb.os, hb.tape, hb.output, hb.size, fun i hi _ => hb.block i hi⟩ (fun _ e => by cases e)
set_option maxRecDepth 100000 in
theorem run_index_sol (f : Sol) (k : Nat) (hk : k < 8) (W : World) : (Instr.index 24 (.agg #[.int .u64 (f 0), .int .u64 (f 1), .int .u64 (f 2), .int .u64 (f 3), .int .u64 (f 4), .int .u64 (f 5), .int .u64 (f 6), .int .u64 (f 7)]) (.int .i64 (k : Int))).run Tryz.prog W = .ok (.int .u64 (f k)) W := by
  rcases lt8 hk with rfl | rfl | rfl | rfl | rfl | rfl | rfl | rfl <;> kernel_rfl
theorem cell_ci {k b : Nat} (hk : k < 8) (hb : b < 64) : cell (ci k b) = .agg #[.int .i64 ((b : Int) % 8), .int .i64 ((b : Int) / 8), .int .i64 ((k : Int))] := by
  unfold cell
  rw [ci_x hk hb, ci_y hk hb, ci_z hk hb]
  simp
theorem and_pred_lt {q : Nat} (h : q ≠ 0) : q &&& (q - 1) < q := Nat.lt_of_le_of_lt Nat.and_le_right (by omega)
theorem and_pred_bits {q : Nat} (h : q ≠ 0) (hq : q < 18446744073709551616) : bits .and .u64 (q : Int) ((q : Int) - 1) = ((q &&& (q - 1) : Nat) : Int) := by
  rw [show ((q : Int) - 1) = ((q - 1 : Nat) : Int) by omega]
  exact bits_and hq (by omega)

set_option maxRecDepth 100000 in
set_option maxHeartbeats 2000000 in
theorem cells1_in (n : Nat) (hn : 1 ≤ n) (l Bn n₀ B0 : Nat) (f : Sol) (hf : Fit f) (J Jx : List Cl → World → Prop) (hA : AbidesFrom B0 J) (hg : 0 < n₀)
    (hY : ∀ pre x W, J pre W → pre.length < (cellsL f).length → YieldAt Fence.wide (n - 1) Tryz.prog l #[cell x] W fun e W' =>
      (e = .returned (.bool true) ∧ J (pre ++ [x]) W' ∧ Below n₀ W W') ∨ (e = .returned (.bool false) ∧ Jx (pre ++ [x]) W'))
    (W : World) (hT : Tab64 W) (hB : BoxS W Bn f) (h0 : J [] W) :
    CallsIn Fence.wide n Tryz.prog 137 #[.func (.yield l) #[] #[], .pointer (some ⟨Bn, 0, none⟩)] W fun e W' => (∃ v, e = .returned v) ∧
      ((∃ ys, ys = cellsL f ∧ J ys W') ∨ (∃ pre, pre <+: cellsL f ∧ Jx pre W')) := by
  refine callsIn_of_wp Tryz.func137 rfl trivial ?_ rfl
  simp only [Tryz.ntmps137, List.size_toArray, List.length_cons, List.length_nil, Nat.reduceAdd, Nat.reduceSub, Array.replicate_succ, Array.replicate_zero, List.push_toArray, List.append_toArray, List.nil_append, List.cons_append]
  have c0 := (hB).cell (k := 0) (by omega); have c1 := (hB).cell (k := 1) (by omega); have c2 := (hB).cell (k := 2) (by omega); have c3 := (hB).cell (k := 3) (by omega); have c4 := (hB).cell (k := 4) (by omega); have c5 := (hB).cell (k := 5) (by omega); have c6 := (hB).cell (k := 6) (by omega); have c7 := (hB).cell (k := 7) (by omega)
  gi_wp2
  clear c0 c1 c2 c3 c4 c5 c6 c7
  gi_loopw [7] (fun c wr => ∃ (k : Nat) (pre : List Cl), k ≤ 8 ∧ c = .int .i64 k ∧ Hid (cellsL f = pre ++ restL f k) ∧ J pre wr ∧ Hid (Tab64 wr)) (fun c _ => 8 - (intOf c).toNat)
  case atStart => exact ⟨0, [], by omega, rfl, Lib.hid rfl, h0, Lib.hid hT⟩
  case round =>
    obtain ⟨k, pre, hk, rfl, HT, hJs, ht⟩ := hrel
    by_cases hlt : k < 8
    · have hix := run_index_sol f k hlt
      have b1 : f k < 18446744073709551616 := hf k
      have hd : decide ((k : Int) < 8) = true := decide_eq_true (by omega)
      gi_wp2
      obtain ⟨wo, rfl⟩ : ∃ wo : World, wo = wr := ⟨_, rfl⟩
      gi_loopw [4] (fun p wr => ∃ (q : Nat) (pre : List Cl), p = .int .u64 q ∧ q < 18446744073709551616 ∧ Hid (cellsL f = pre ++ (planeL k q ++ restL f (k + 1))) ∧ J pre wr ∧ Hid (Tab64 wr)) (fun p _ => (intOf p).toNat)
      case atStart => exact ⟨f k, pre, rfl, hf k, Lib.hid (by rw [HT.out, restL_succ f hlt]), hJs, ht⟩
      case round =>
        clear hJs ht HT pre
        obtain ⟨q, pre, rfl, hq, HT, hJs, ht⟩ := hrel
        by_cases hq0 : q = 0
        · subst hq0
          gi_wp2
          go_roundw
          case rel => exact ⟨k + 1, pre, by omega, by go_num, Lib.hid (by rw [HT.out, planeL_zero]; rfl), hJs, ht⟩
          case measure => simp [intOf]; omega
        · have hne : ((q : Int) != 0) = true := by simpa using hq0
          have hlow := low64 hq0 hq
          have hlt2 := Lib.hid (and_pred_lt hq0)
          have hpb := and_pred_bits hq0 hq
          have HP := Lib.hid (planeL_pos k hq0 hq)
          have HL : Hid (pre.length < (cellsL f).length) := by rw [HT.out, HP.out]; exact Lib.hid (by simp)
          have hq1 : (1 : Int) ≤ q := by omega
          have Y := hY pre (ci k (low q)) wr hJs HL.out
          rw [cell_ci hlt hlow] at Y
          obtain ⟨fn, tmps, assign, body, hy, hR⟩ := Y
          gi_wp2_with (refine ⟨trivial, ?_⟩; gi_at_call 138; refine (callsIn_wide.2 (tz_ok q _ hq hq0 ht.out)).mono ?_; rintro e w1 ⟨rfl, rfl⟩)
          refine hR.mono ?_
          rintro e W3 (⟨rfl, hJ3, hk3⟩ | ⟨rfl, hJx3⟩)
          · gi_wp2
            go_roundw
            case rel => exact ⟨q &&& (q - 1), pre ++ [ci k (low q)], rfl, pred_lt hq, Lib.hid (by rw [HT.out, HP.out]; simp), hJ3, Lib.hid (ht.out.below' hk3 hg)⟩
            case measure => have := hlt2.out; simp [intOf]; omega
          · gi_wp2
            refine bodyPost_ret (results_none rfl _ _ _) rfl ?_
            exact ⟨⟨_, rfl⟩, .inr ⟨pre ++ [ci k (low q)], ⟨planeL k (q &&& (q - 1)) ++ restL f (k + 1), by rw [HT.out, HP.out]; simp⟩, hJx3⟩⟩
    · obtain rfl : k = 8 := by omega
      gi_wp2
      go_end0
      exact ⟨⟨_, rfl⟩, .inl ⟨pre, by rw [HT.out, restL_end]; simp, hJs⟩⟩
theorem cells_stops (n : Nat) (hn : 1 ≤ n) (Bn n₀ : Nat) (f : Sol) (hf : Fit f) (w : World) (hT : Tab64 w) (hB : BoxS w Bn f) (hg : 0 < n₀) :
    SeqStopsK Fence.wide n Tryz.prog 137 #[.pointer (some ⟨Bn, 0, none⟩)] (fun x : Cl => #[cell x]) (Below n₀) (fun ys => ys = cellsL f) (fun pre => pre <+: cellsL f) (cellsL f).length w := fun l J Jx W hW hJ _ hY h0 =>
  cells1_in n hn l Bn n₀ _ f hf J Jx hJ hg hY W (hT.below hW (Nat.le_refl _)) (hB.below hW hB.lt) h0

set_option maxHeartbeats 1000000 in
theorem cells_in (n : Nat) (f : Sol) (w : World) :
    CallsIn Fence.wide n Tryz.prog 94 #[sol f] w fun e w' => e = .returned (.func (.func 137) #[] #[.pointer (some ⟨w.heap.size, 0, none⟩)]) ∧ w' = w.alloc (.cells (solC f) 24) := by
  have hmf : ∀ (fn : Fn) (first cap : Array Value) (w : World), (Instr.makeFunc fn first cap).run Tryz.prog w = .ok (.func fn first cap) w := fun _ _ _ _ => rfl
  refine callsIn_of_wp Tryz.func94 rfl trivial ?_ rfl
  simp only [Tryz.ntmps94, List.size_toArray, List.length_cons, List.length_nil, Nat.reduceAdd, Nat.reduceSub, Array.replicate_succ, Array.replicate_zero, List.push_toArray, List.append_toArray, List.nil_append, List.cons_append]
  gi_wp2
  go_ret
  exact ⟨rfl, rfl⟩
end Go.Proofs.YtadkaplafaeebaaGreatDoor
