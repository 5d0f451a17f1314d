/-
  The iterators over the cells that touch a cell, or have a face in common with it: the second one.
-/
import Derived.Test.YtadkaplafaeebaaGreatDoorPkC
set_option linter.unusedVariables false
set_option linter.unusedSimpArgs false
namespace Go.Proofs.YtadkaplafaeebaaGreatDoor
open Go Go.RowKit Go.Shelf

attribute [local go_sem] Oper.semAt_some

abbrev encI (c : I3) : Value := .agg #[.int .i64 (c.1), .int .i64 (c.2.1), .int .i64 (c.2.2)]
/-- What a round keeps: what lay below, and one block. -/
def KeepB (n₀ Bn : Nat) (W W' : World) : Prop := Below n₀ W W' ∧ ∀ o, W.heap[Bn]? = some o → W'.heap[Bn]? = some o
theorem keepB_t {n₀ Bn : Nat} {A B C : World} (h : KeepB n₀ Bn A B) (k : KeepB n₀ Bn B C) : KeepB n₀ Bn A C := ⟨h.1.trans k.1, fun o ho => k.2 o (h.2 o ho)⟩
theorem keepB_b {n₀ Bn : Nat} {w : World} (hn : n₀ ≤ w.heap.size) (hB : Bn < w.heap.size) (W : World) (l : Nat) (o o' : Obj) (hl : w.heap.size ≤ l) (h : W.heap[l]? = some o) (h1 : o.isCells = false) (h2 : o.isWalk = false) : KeepB n₀ Bn W (W.putObj l o') :=
  ⟨belowK_b hn W l o o' hl h h1 h2, fun x hx => (grownBy_putObj' W l o').block Bn (Array.getElem?_eq_some_iff.1 hx).1 (fun e => by cases e; omega) |>.trans hx⟩
def face3 (c : I3) (d : Int) : List I3 := [(c.1 + d, c.2.1, c.2.2), (c.1, c.2.1 + d, c.2.2), (c.1, c.2.1, c.2.2 + d)]
def facingL (c : I3) : List I3 := face3 c (-1) ++ face3 c 1
set_option maxRecDepth 100000 in
set_option maxHeartbeats 4000000 in
theorem facing1_in (n : Nat) (hn : 1 ≤ n) (l Bn n₀ B0 : Nat) (c : I3) (hs : Sm3 1000 c) (J Jx : List I3 → World → Prop) (hA : AbidesFrom B0 J)
    (hY : ∀ pre x W, J pre W → pre.length < 6 → YieldAt Fence.wide (n - 1) Tryz.prog l #[encI x] W fun e W' =>
      (e = .returned (.bool true) ∧ J (pre ++ [x]) W' ∧ KeepB n₀ Bn W W') ∨ (e = .returned (.bool false) ∧ Jx (pre ++ [x]) W'))
    (W : World) (hB : BoxC W Bn c.1 c.2.1 c.2.2) (h0 : J [] W) :
    CallsIn Fence.wide n Tryz.prog 154 #[.func (.yield l) #[] #[], .pointer (some ⟨Bn, 0, none⟩)] W fun e W' => (∃ v, e = .returned v) ∧
      ((∃ ys, ys = facingL c ∧ J ys W') ∨ (∃ pre, pre <+: facingL c ∧ Jx pre W')) := by
  obtain ⟨x, y, z⟩ := c
  unfold Sm3 at hs
  simp only at hs hB
  refine callsIn_of_wp Tryz.func154 rfl trivial ?_ rfl
  simp only [Tryz.ntmps154, List.size_toArray, List.length_cons, List.length_nil, Nat.reduceAdd, Nat.reduceSub, Array.replicate_succ, Array.replicate_zero, List.push_toArray, List.append_toArray, List.nil_append, List.cons_append]
  gi_wp2
  gi_loopw [6] (fun c wr => ∃ (k : Nat), k ≤ 2 ∧ c = .int .i64 k ∧ J ((facingL (x, y, z)).take (3 * k)) wr ∧ BoxC wr Bn x y z) (fun c _ => 2 - (intOf c).toNat)
  case atStart => exact ⟨0, by omega, rfl, h0, hB⟩
  case round =>
    clear hB h0
    obtain ⟨k, hk, rfl, hJ, hB⟩ := hrel
    have hc : k = 0 ∨ k = 1 ∨ k = 2 := by omega
    rcases hc with rfl | rfl | rfl
    · have hix : ∀ W, (Instr.index 130 (.agg #[.int .i64 (-1), .int .i64 1]) (.int .i64 0)).run Tryz.prog W = .ok (.int .i64 (-1)) W := fun _ => by kernel_rfl
      have c0 := hB.c0
      have c1 := hB.c1
      have c2 := hB.c2
      obtain ⟨p, hp⟩ : ∃ p, p = (facingL (x, y, z)).take (3 * 0) := ⟨_, rfl⟩
      rw [← hp] at hJ
      have lp : p.length = 0 := by rw [hp]; rfl
      have HP1 := Lib.hid (show p ++ [(x + -1, y, z)] <+: facingL (x, y, z) by rw [hp]; exact ⟨(facingL (x, y, z)).drop 1, rfl⟩)
      have HP2 := Lib.hid (show p ++ [(x + -1, y, z)] ++ [(x, y + -1, z)] <+: facingL (x, y, z) by rw [hp]; exact ⟨(facingL (x, y, z)).drop 2, rfl⟩)
      have HP3 := Lib.hid (show p ++ [(x + -1, y, z)] ++ [(x, y + -1, z)] ++ [(x, y, z + -1)] = (facingL (x, y, z)).take (3 * (0 + 1)) by rw [hp]; rfl)
      have LP := Lib.hid lp
      clear hp lp
      obtain ⟨fn, tmps, assign, body, hy, hR⟩ := hY _ (x + -1, y, z) wr hJ (by rw [LP.out]; omega)
      simp only [encI] at hy
      gi_wp2
      refine hR.mono ?_
      clear hR hy c0 c1 c2
      rintro e W1 (⟨rfl, hJ1, hk1⟩ | ⟨rfl, hJx⟩)
      · have hB1 : BoxC W1 Bn x y z := hk1.2 _ hB
        have c0 := hB1.c0
        have c1 := hB1.c1
        have c2 := hB1.c2
        obtain ⟨fn, tmps, assign, body, hy, hR⟩ := hY _ (x, y + -1, z) W1 hJ1 (by rw [List.length_append, LP.out]; simp)
        simp only [encI] at hy
        gi_wp2
        refine hR.mono ?_
        clear hR hy c0 c1 c2
        rintro e W2 (⟨rfl, hJ2, hk2⟩ | ⟨rfl, hJx⟩)
        · have hB2 : BoxC W2 Bn x y z := hk2.2 _ hB1
          have c0 := hB2.c0
          have c1 := hB2.c1
          have c2 := hB2.c2
          obtain ⟨fn, tmps, assign, body, hy, hR⟩ := hY _ (x, y, z + -1) W2 hJ2 (by rw [List.length_append, List.length_append, LP.out]; simp)
          simp only [encI] at hy
          gi_wp2
          refine hR.mono ?_
          clear hR hy c0 c1 c2
          rintro e W3 (⟨rfl, hJ3, hk3⟩ | ⟨rfl, hJx⟩)
          · have hB3 : BoxC W3 Bn x y z := hk3.2 _ hB2
            rw [HP3.out] at hJ3
            gi_wp2
            go_roundw
            case rel => exact ⟨0 + 1, by omega, by go_num, hJ3, hB3⟩
            case measure => simp [intOf]
          · gi_wp2
            refine bodyPost_ret (results_none rfl _ _ _) rfl ?_
            exact ⟨⟨_, rfl⟩, .inr ⟨_, by rw [HP3.out]; exact List.take_prefix _ _, hJx⟩⟩
        · gi_wp2
          refine ⟨fun _ h => (by cases h), ?_⟩
          gi_wp2
          refine bodyPost_ret (results_none rfl _ _ _) rfl ?_
          exact ⟨⟨_, rfl⟩, .inr ⟨_, HP2.out, hJx⟩⟩
      · gi_wp2
        refine ⟨fun _ h => (by cases h), ?_⟩
        gi_wp2
        refine bodyPost_ret (results_none rfl _ _ _) rfl ?_
        exact ⟨⟨_, rfl⟩, .inr ⟨_, HP1.out, hJx⟩⟩
    · have hix : ∀ W, (Instr.index 130 (.agg #[.int .i64 (-1), .int .i64 1]) (.int .i64 1)).run Tryz.prog W = .ok (.int .i64 (1)) W := fun _ => by kernel_rfl
      have c0 := hB.c0
      have c1 := hB.c1
      have c2 := hB.c2
      obtain ⟨p, hp⟩ : ∃ p, p = (facingL (x, y, z)).take (3 * 1) := ⟨_, rfl⟩
      rw [← hp] at hJ
      have lp : p.length = 3 := by rw [hp]; rfl
      have HP1 := Lib.hid (show p ++ [(x + 1, y, z)] <+: facingL (x, y, z) by rw [hp]; exact ⟨(facingL (x, y, z)).drop 4, rfl⟩)
      have HP2 := Lib.hid (show p ++ [(x + 1, y, z)] ++ [(x, y + 1, z)] <+: facingL (x, y, z) by rw [hp]; exact ⟨(facingL (x, y, z)).drop 5, rfl⟩)
      have HP3 := Lib.hid (show p ++ [(x + 1, y, z)] ++ [(x, y + 1, z)] ++ [(x, y, z + 1)] = (facingL (x, y, z)).take (3 * (1 + 1)) by rw [hp]; rfl)
      have LP := Lib.hid lp
      clear hp lp
      obtain ⟨fn, tmps, assign, body, hy, hR⟩ := hY _ (x + 1, y, z) wr hJ (by rw [LP.out]; omega)
      simp only [encI] at hy
      gi_wp2
      refine hR.mono ?_
      clear hR hy c0 c1 c2
      rintro e W1 (⟨rfl, hJ1, hk1⟩ | ⟨rfl, hJx⟩)
      · have hB1 : BoxC W1 Bn x y z := hk1.2 _ hB
        have c0 := hB1.c0
        have c1 := hB1.c1
        have c2 := hB1.c2
        obtain ⟨fn, tmps, assign, body, hy, hR⟩ := hY _ (x, y + 1, z) W1 hJ1 (by rw [List.length_append, LP.out]; simp)
        simp only [encI] at hy
        gi_wp2
        refine hR.mono ?_
        clear hR hy c0 c1 c2
        rintro e W2 (⟨rfl, hJ2, hk2⟩ | ⟨rfl, hJx⟩)
        · have hB2 : BoxC W2 Bn x y z := hk2.2 _ hB1
          have c0 := hB2.c0
          have c1 := hB2.c1
          have c2 := hB2.c2
          obtain ⟨fn, tmps, assign, body, hy, hR⟩ := hY _ (x, y, z + 1) W2 hJ2 (by rw [List.length_append, List.length_append, LP.out]; simp)
          simp only [encI] at hy
          gi_wp2
          refine hR.mono ?_
          clear hR hy c0 c1 c2
          rintro e W3 (⟨rfl, hJ3, hk3⟩ | ⟨rfl, hJx⟩)
          · have hB3 : BoxC W3 Bn x y z := hk3.2 _ hB2
            rw [HP3.out] at hJ3
            gi_wp2
            go_roundw
            case rel => exact ⟨1 + 1, by omega, by go_num, hJ3, hB3⟩
            case measure => simp [intOf]
          · gi_wp2
            refine bodyPost_ret (results_none rfl _ _ _) rfl ?_
            exact ⟨⟨_, rfl⟩, .inr ⟨_, by rw [HP3.out]; exact List.take_prefix _ _, hJx⟩⟩
        · gi_wp2
          refine ⟨fun _ h => (by cases h), ?_⟩
          gi_wp2
          refine bodyPost_ret (results_none rfl _ _ _) rfl ?_
          exact ⟨⟨_, rfl⟩, .inr ⟨_, HP2.out, hJx⟩⟩
      · gi_wp2
        refine ⟨fun _ h => (by cases h), ?_⟩
        gi_wp2
        refine bodyPost_ret (results_none rfl _ _ _) rfl ?_
        exact ⟨⟨_, rfl⟩, .inr ⟨_, HP1.out, hJx⟩⟩
    · gi_wp2
      go_end0
      exact ⟨⟨_, rfl⟩, .inl ⟨_, rfl, hJ⟩⟩
theorem facing_stops (n : Nat) (hn : 1 ≤ n) (Bn n₀ : Nat) (c : I3) (hs : Sm3 1000 c) (w : World) (hB : BoxC w Bn c.1 c.2.1 c.2.2) :
    SeqStopsK Fence.wide n Tryz.prog 154 #[.pointer (some ⟨Bn, 0, none⟩)] (fun x : I3 => #[encI x]) (KeepB n₀ Bn) (fun ys => ys = facingL c) (fun pre => pre <+: facingL c) 6 w := fun l J Jx W hW hJ _ hY h0 =>
  facing1_in n hn l Bn n₀ _ c hs J Jx hJ hY W (hB.below hW hB.lt) h0
set_option maxHeartbeats 1000000 in
theorem facing_in (n : Nat) (x y z : Int) (w : World) :
    CallsIn Fence.wide n Tryz.prog 125 #[.agg #[.int .i64 (x), .int .i64 (y), .int .i64 (z)]] w fun e w' => e = .returned (.func (.func 154) #[] #[.pointer (some ⟨w.heap.size, 0, none⟩)]) ∧ w' = w.alloc (.cells #[.int .i64 (x), .int .i64 (y), .int .i64 (z)] 26) := by
  have hmf : ∀ (fn : Fn) (first cap : Array Value) (w : World), (Instr.makeFunc fn first cap).run Tryz.prog w = .ok (.func fn first cap) w := fun _ _ _ _ => rfl
  refine callsIn_of_wp Tryz.func125 rfl trivial ?_ rfl
  simp only [Tryz.ntmps125, List.size_toArray, List.length_cons, List.length_nil, Nat.reduceAdd, Nat.reduceSub, Array.replicate_succ, Array.replicate_zero, List.push_toArray, List.append_toArray, List.nil_append, List.cons_append]
  gi_wp2
  go_ret
  exact ⟨rfl, rfl⟩
end Go.Proofs.YtadkaplafaeebaaGreatDoor
/-
  The iterator over the cells that touch a cell.
-/
set_option linter.unusedVariables false
set_option linter.unusedSimpArgs false
namespace Go.Proofs.YtadkaplafaeebaaGreatDoor
open Go Go.RowKit Go.Shelf

attribute [local go_sem] Oper.semAt_some

/-- The cells that touch a cell, from one on: z, then y, then x. -/
def rowT (x y z : Int) (k : Nat) : List I3 := (List.range' k (3 - k)).map fun (i : Nat) => (x - 1 + (i : Int), y, z)
def planeT (x y z : Int) (k : Nat) : List I3 := (List.range' k (3 - k)).flatMap fun (j : Nat) => rowT x (y - 1 + (j : Int)) z 0
def allT (x y z : Int) (k : Nat) : List I3 := (List.range' k (3 - k)).flatMap fun (j : Nat) => planeT x y (z - 1 + (j : Int)) 0
def touchL (c : I3) : List I3 := allT c.1 c.2.1 c.2.2 0
theorem rowT_succ (x y z : Int) {k : Nat} (h : k < 3) : rowT x y z k = (x - 1 + (k : Int), y, z) :: rowT x y z (k + 1) := by
  unfold rowT
  rw [show 3 - k = (3 - (k + 1)) + 1 by omega, List.range'_succ, List.map_cons]
theorem planeT_succ (x y z : Int) {k : Nat} (h : k < 3) : planeT x y z k = rowT x (y - 1 + (k : Int)) z 0 ++ planeT x y z (k + 1) := by
  unfold planeT
  rw [show 3 - k = (3 - (k + 1)) + 1 by omega, List.range'_succ, List.flatMap_cons]
theorem allT_succ (x y z : Int) {k : Nat} (h : k < 3) : allT x y z k = planeT x y (z - 1 + (k : Int)) 0 ++ allT x y z (k + 1) := by
  unfold allT
  rw [show 3 - k = (3 - (k + 1)) + 1 by omega, List.range'_succ, List.flatMap_cons]
theorem touchL_len (c : I3) : (touchL c).length = 27 := rfl
set_option maxRecDepth 100000 in
set_option maxHeartbeats 4000000 in
theorem touch1_in (n : Nat) (hn : 1 ≤ n) (l Bn n₀ B0 : Nat) (x y z : Int) (hs : Sm3 1000 (x, y, z)) (J Jx : List I3 → World → Prop) (hA : AbidesFrom B0 J)
    (hY : ∀ pre x W, J pre W → pre.length < 27 → YieldAt Fence.wide (n - 1) Tryz.prog l #[encI x] W fun e W' =>
      (e = .returned (.bool true) ∧ J (pre ++ [x]) W' ∧ KeepB n₀ Bn W W') ∨ (e = .returned (.bool false) ∧ Jx (pre ++ [x]) W'))
    (W : World) (hB : BoxC W Bn x y z) (h0 : J [] W) :
    CallsIn Fence.wide n Tryz.prog 152 #[.func (.yield l) #[] #[], .pointer (some ⟨Bn, 0, none⟩)] W fun e W' => (∃ v, e = .returned v) ∧
      ((∃ ys, ys = touchL (x, y, z) ∧ J ys W') ∨ (∃ pre, pre <+: touchL (x, y, z) ∧ Jx pre W')) := by
  unfold Sm3 at hs
  simp only at hs
  obtain ⟨s1, s2, s3, s4, s5, s6⟩ := hs
  refine callsIn_of_wp Tryz.func152 rfl trivial ?_ rfl
  simp only [Tryz.ntmps152, List.size_toArray, List.length_cons, List.length_nil, Nat.reduceAdd, Nat.reduceSub, Array.replicate_succ, Array.replicate_zero, List.push_toArray, List.append_toArray, List.nil_append, List.cons_append]
  have c2 := hB.c2
  gi_wp2
  clear c2
  gi_loopw [3] (fun c wr => ∃ (k : Nat) (pre : List I3), k ≤ 3 ∧ c = .int .i64 (z - 1 + k) ∧ Hid (touchL (x, y, z) = pre ++ allT x y z k) ∧ J pre wr ∧ BoxC wr Bn x y z) (fun c _ => (z + 2 - intOf c).toNat)
  case atStart => exact ⟨0, [], by omega, by simp, Lib.hid rfl, h0, hB⟩
  case round =>
    clear hB h0
    obtain ⟨k, pre, hk, rfl, HT, hJ, hB⟩ := hrel
    have c0 := hB.c0
    have c1 := hB.c1
    have c2 := hB.c2
    by_cases hlt : k < 3
    · have hd : decide (z - 1 + (k : Int) ≤ z + 1) = true := decide_eq_true (by omega)
      gi_wp2
      clear c0 c1 c2
      obtain ⟨wo, rfl⟩ : ∃ wo : World, wo = wr := ⟨_, rfl⟩
      gi_loopw [4] (fun c wr => ∃ (j : Nat) (pre : List I3), j ≤ 3 ∧ c = .int .i64 (y - 1 + j) ∧ Hid (touchL (x, y, z) = pre ++ (planeT x y (z - 1 + k) j ++ allT x y z (k + 1))) ∧ J pre wr ∧ BoxC wr Bn x y z) (fun c _ => (y + 2 - intOf c).toNat)
      case atStart => exact ⟨0, pre, by omega, by simp, Lib.hid (by rw [HT.out, allT_succ x y z hlt]), hJ, hB⟩
      case round =>
        clear hJ hB HT pre
        obtain ⟨j, pre, hj, rfl, HT, hJ, hB⟩ := hrel
        have c0 := hB.c0
        have c1 := hB.c1
        have c2 := hB.c2
        by_cases hlt2 : j < 3
        · have hd2 : decide (y - 1 + (j : Int) ≤ y + 1) = true := decide_eq_true (by omega)
          gi_wp2
          clear c0 c1 c2
          obtain ⟨wp, rfl⟩ : ∃ wp : World, wp = wr := ⟨_, rfl⟩
          gi_loopw [5] (fun c wr => ∃ (i : Nat) (pre : List I3), i ≤ 3 ∧ c = .int .i64 (x - 1 + i) ∧ Hid (touchL (x, y, z) = pre ++ (rowT x (y - 1 + j) (z - 1 + k) i ++ (planeT x y (z - 1 + k) (j + 1) ++ allT x y z (k + 1)))) ∧ J pre wr ∧ BoxC wr Bn x y z) (fun c _ => (x + 2 - intOf c).toNat)
          case atStart => exact ⟨0, pre, by omega, by simp, Lib.hid (by rw [HT.out, planeT_succ x y _ hlt2]; simp), hJ, hB⟩
          case round =>
            clear hJ hB HT pre
            obtain ⟨i, pre, hi, rfl, HT, hJ, hB⟩ := hrel
            have c0 := hB.c0
            have c1 := hB.c1
            have c2 := hB.c2
            by_cases hlt3 : i < 3
            · have hd3 : decide (x - 1 + (i : Int) ≤ x + 1) = true := decide_eq_true (by omega)
              have HR := Lib.hid (show touchL (x, y, z) = (pre ++ [(x - 1 + (i : Int), y - 1 + (j : Int), z - 1 + (k : Int))]) ++ (rowT x (y - 1 + j) (z - 1 + k) (i + 1) ++ (planeT x y (z - 1 + k) (j + 1) ++ allT x y z (k + 1))) by rw [HT.out, rowT_succ x _ _ hlt3]; simp)
              have HL : Hid (pre.length < 27) := by
                have h := congrArg List.length HR.out
                rw [touchL_len, List.length_append, List.length_append] at h
                exact Lib.hid (by simp at h; omega)
              obtain ⟨fn, tmps, assign, body, hy, hR⟩ := hY _ (x - 1 + (i : Int), y - 1 + (j : Int), z - 1 + (k : Int)) wr hJ HL.out
              simp only [encI] at hy
              gi_wp2
              refine hR.mono ?_
              clear hR hy c0 c1 c2
              rintro e W1 (⟨rfl, hJ1, hk1⟩ | ⟨rfl, hJx⟩)
              · have hB1 : BoxC W1 Bn x y z := hk1.2 _ hB
                gi_wp2
                go_roundw
                case rel => exact ⟨i + 1, _, by omega, by simp; omega, HR, hJ1, hB1⟩
                case measure => simp [intOf]; omega
              · gi_wp2
                refine bodyPost_ret (results_none rfl _ _ _) rfl ?_
                exact ⟨⟨_, rfl⟩, .inr ⟨_, ⟨_, HR.out.symm⟩, hJx⟩⟩
            · obtain rfl : i = 3 := by omega
              have hd3 : decide (x - 1 + ((3 : Nat) : Int) ≤ x + 1) = false := decide_eq_false (by omega)
              gi_wp2
              go_roundw
              case rel => exact ⟨j + 1, pre, by omega, by simp; omega, Lib.hid (by rw [HT.out]; rfl), hJ, hB⟩
              case measure => simp [intOf]; omega
        · obtain rfl : j = 3 := by omega
          have hd2 : decide (y - 1 + ((3 : Nat) : Int) ≤ y + 1) = false := decide_eq_false (by omega)
          gi_wp2
          go_roundw
          case rel => exact ⟨k + 1, pre, by omega, by simp; omega, Lib.hid (by rw [HT.out]; rfl), hJ, hB⟩
          case measure => simp [intOf]; omega
    · obtain rfl : k = 3 := by omega
      have hd : decide (z - 1 + ((3 : Nat) : Int) ≤ z + 1) = false := decide_eq_false (by omega)
      gi_wp2
      go_end0
      exact ⟨⟨_, rfl⟩, .inl ⟨pre, by rw [HT.out]; simp [allT], hJ⟩⟩
theorem touch_stops (n : Nat) (hn : 1 ≤ n) (Bn n₀ : Nat) (x y z : Int) (hs : Sm3 1000 (x, y, z)) (w : World) (hB : BoxC w Bn x y z) :
    SeqStopsK Fence.wide n Tryz.prog 152 #[.pointer (some ⟨Bn, 0, none⟩)] (fun x : I3 => #[encI x]) (KeepB n₀ Bn) (fun ys => ys = touchL (x, y, z)) (fun pre => pre <+: touchL (x, y, z)) 27 w := fun l J Jx W hW hJ _ hY h0 =>
  touch1_in n hn l Bn n₀ _ x y z hs J Jx hJ hY W (hB.below hW hB.lt) h0
set_option maxHeartbeats 1000000 in
theorem touching_in (n : Nat) (x y z : Int) (w : World) :
    CallsIn Fence.wide n Tryz.prog 123 #[.agg #[.int .i64 (x), .int .i64 (y), .int .i64 (z)]] w fun e w' => e = .returned (.func (.func 152) #[] #[.pointer (some ⟨w.heap.size, 0, none⟩)]) ∧ w' = w.alloc (.cells #[.int .i64 (x), .int .i64 (y), .int .i64 (z)] 26) := by
  have hmf : ∀ (fn : Fn) (first cap : Array Value) (w : World), (Instr.makeFunc fn first cap).run Tryz.prog w = .ok (.func fn first cap) w := fun _ _ _ _ => rfl
  refine callsIn_of_wp Tryz.func123 rfl trivial ?_ rfl
  simp only [Tryz.ntmps123, List.size_toArray, List.length_cons, List.length_nil, Nat.reduceAdd, Nat.reduceSub, Array.replicate_succ, Array.replicate_zero, List.push_toArray, List.append_toArray, List.nil_append, List.cons_append]
  gi_wp2
  go_ret
  exact ⟨rfl, rfl⟩
end Go.Proofs.YtadkaplafaeebaaGreatDoor
