/-
  The iterators over the cells that touch a cell, or have a face in common with it: the second one.
-/
import Derived.Test.YtadkaplafaeebaaGreatDoorPkCQ
import Derived.Test.YtadkaplafaeebaaGreatDoorPkDQ
set_option linter.unusedVariables false
set_option linter.unusedSimpArgs false
namespace Go.Proofs.YtadkaplafaeebaaGreatDoor
open Go Go.RowKit Go.Shelf

attribute [local go_sem] Oper.semAt_some

abbrev encI (c : I3) : Value := .agg #[.int .i64 (c.1), .int .i64 (c.2.1), .int .i64 (c.2.2)]
/-- What a round keeps: what lay below, and one block. -/
def KeepB (n₀ Bn : Nat) (W W' : World) : Prop := Below n₀ W W' ∧ ∀ o, W.heap[Bn]? = some o → W'.heap[Bn]? = some o
theorem keepB_t {n₀ Bn : Nat} {A B C : World} (h : KeepB n₀ Bn A B) (k : KeepB n₀ Bn B C) : KeepB n₀ Bn A C := ⟨h.1.trans k.1, fun o ho => k.2 o (h.2 o ho)⟩
theorem keepB_b {n₀ Bn : Nat} {w : World} (hn : n₀ ≤ w.heap.size) (hB : Bn < w.heap.size) (W : World) (l : Nat) (o o' : Obj) (hl : w.heap.size ≤ l) (h : W.heap[l]? = some o) (h1 : o.isCells = false) (h2 : o.isWalk = false) : KeepB n₀ Bn W (W.putObj l o') :=
  ⟨belowK_b hn W l o o' hl h h1 h2, fun x hx => (grownBy_putObj' W l o').block Bn (Array.getElem?_eq_some_iff.1 hx).1 (fun e => by cases e; omega) |>.trans hx⟩
def face3 (c : I3) (d : Int) : List I3 := [(c.1 + d, c.2.1, c.2.2), (c.1, c.2.1 + d, c.2.2), (c.1, c.2.1, c.2.2 + d)]
def facingL (c : I3) : List I3 := face3 c (-1) ++ face3 c 1
set_option maxRecDepth 100000 in
set_option maxHeartbeats 4000000 in
theorem facing1_in (n : Nat) (hn : 1 ≤ n) (l Bn n₀ B0 : Nat) (c : I3) (hs : Sm3 1000 c) (J Jx : List I3 → World → Prop) (hA : AbidesFrom B0 J)
    (hY : ∀ pre x W, J pre W → pre.length < 6 → YieldAt Fence.wide (n - 1) Tryz.prog l #[encI x] W fun e W' =>
      (e = .returned (.bool true) ∧ J (pre ++ [x]) W' ∧ KeepB n₀ Bn W W') ∨ (e = .returned (.bool false) ∧ Jx (pre ++ [x]) W'))
    (W : World) (hB : BoxC W Bn c.1 c.2.1 c.2.2) (h0 : J [] W) :
    CallsIn Fence.wide n Tryz.prog 154 #[.func (.yield l) #[] #[], .pointer (some ⟨Bn, 0, none⟩)] W fun e W' => (∃ v, e = .returned v) ∧
      ((∃ ys, ys = facingL c ∧ J ys W') ∨ (∃ pre, pre <+: facingL c ∧ Jx pre W')) := by
  obtain ⟨x, y, z⟩ := c
  unfold Sm3 at hs
  simp only at hs hB
  refine callsIn_of_wp Tryz.func154 rfl trivial ?_ rfl
  simp only [Tryz.ntmps154, List.size_toArray, List.length_cons, List.length_nil, Nat.reduceAdd, Nat.reduceSub, Array.replicate_succ, Array.replicate_zero, List.push_toArray, List.append_toArray, List.nil_append, List.cons_append]
  gi_wp2
  gi_loopw [6] (fun c wr => ∃ (k : Nat), k ≤ 2 ∧ c = .int .i64 k ∧ J ((facingL (x, y, z)).take (3 * k)) wr ∧ BoxC wr Bn x y z) (fun c _ => 2 - (intOf c).toNat)
  case atStart => exact ⟨0, by omega, rfl, h0, hB⟩
  case round =>
    clear hB h0
    obtain ⟨k, hk, rfl, hJ, hB⟩ := hrel
    have hc : k = 0 ∨ k = 1 ∨ k = 2 := by omega
    rcases hc with rfl | rfl | rfl
    · have hix : ∀ W, (Instr.index 130 (.agg #[.int .i64 (-1), .int .i64 1]) (.int .i64 0)).run Tryz.prog W = .ok (.int .i64 (-1)) W := fun _ => by kernel_rfl
      have c0 := hB.c0
      have c1 := hB.c1
      have c2 := hB.c2
      obtain ⟨p, hp⟩ : ∃ p, p = (facingL (x, y, z)).take (3 * 0) := ⟨_, rfl⟩
      rw [← hp] at hJ
      have lp : p.length = 0 := by rw [hp]; rfl
      have HP1 := Lib.hid (show p ++ [(x + -1, y, z)] <+: facingL (x, y, z) by rw [hp]; exact ⟨(facingL (x, y, z)).drop 1, rfl⟩)
      have HP2 := Lib.hid (show p ++ [(x + -1, y, z)] ++ [(x, y + -1, z)] <+: facingL (x, y, z) by rw [hp]; exact ⟨(facingL (x, y, z)).drop 2, rfl⟩)
      have HP3 := Lib.hid (show p ++ [(x + -1, y, z)] ++ [(x, y + -1, z)] ++ [(x, y, z + -1)] = (facingL (x, y, z)).take (3 * (0 + 1)) by rw [hp]; rfl)
      have LP := Lib.hid lp
      clear hp lp
      obtain ⟨fn, tmps, assign, body, hy, hR⟩ := hY _ (x + -1, y, z) wr hJ (by rw [LP.out]; omega)
      simp only [encI] at hy
      gi_wp2
      refine hR.mono ?_
      clear hR hy c0 c1 c2
      rintro e W1 (⟨rfl, hJ1, hk1⟩ | ⟨rfl, hJx⟩)
      · have hB1 : BoxC W1 Bn x y z := hk1.2 _ hB
        have c0 := hB1.c0
        have c1 := hB1.c1
        have c2 := hB1.c2
        obtain ⟨fn, tmps, assign, body, hy, hR⟩ := hY _ (x, y + -1, z) W1 hJ1 (by rw [List.length_append, LP.out]; simp)
        simp only [encI] at hy
        gi_wp2
        refine hR.mono ?_
        clear hR hy c0 c1 c2
        rintro e W2 (⟨rfl, hJ2, hk2⟩ | ⟨rfl, hJx⟩)
        · have hB2 : BoxC W2 Bn x y z := hk2.2 _ hB1
          have c0 := hB2.c0
          have c1 := hB2.c1
          have c2 := hB2.c2
          obtain ⟨fn, tmps, assign, body, hy, hR⟩ := hY _ (x, y, z + -1) W2 hJ2 (by rw [List.length_append, List.length_append, LP.out]; simp)
          simp only [encI] at hy
          gi_wp2
          refine hR.mono ?_
          clear hR hy c0 c1 c2
          rintro e W3 (⟨rfl, hJ3, hk3⟩ | ⟨rfl, hJx⟩)
          · have hB3 : BoxC W3 Bn x y z := hk3.2 _ hB2
            rw [HP3.out] at hJ3
            gi_wp2
            go_roundw
            case rel => exact ⟨0 + 1, by omega, by go_num, hJ3, hB3⟩
            case measure => simp [intOf]
          · gi_wp2
            refine bodyPost_ret (results_none rfl _ _ _) rfl ?_
            exact ⟨⟨_, rfl⟩, .inr ⟨_, by rw [HP3.out]; exact List.take_prefix _ _, hJx⟩⟩
        · gi_wp2
          refine ⟨fun _ h => (by cases h), ?_⟩
          gi_wp2
          refine bodyPost_ret (results_none rfl _ _ _) rfl ?_
          exact ⟨⟨_, rfl⟩, .inr ⟨_, HP2.out, hJx⟩⟩
      · gi_wp2
        refine ⟨fun _ h => (by cases h), ?_⟩
        gi_wp2
        refine bodyPost_ret (results_none rfl _ _ _) rfl ?_
        exact ⟨⟨_, rfl⟩, .inr ⟨_, HP1.out, hJx⟩⟩
    · have hix : ∀ W, (Instr.index 130 (.agg #[.int .i64 (-1), .int .i64 1]) (.int .i64 1)).run Tryz.prog W = .ok (.int .i64 (1)) W := fun _ => by kernel_rfl
      have c0 := hB.c0
      have c1 := hB.c1
      have c2 := hB.c2
      obtain ⟨p, hp⟩ : ∃ p, p = (facingL (x, y, z)).take (3 * 1) := ⟨_, rfl⟩
      rw [← hp] at hJ
      have lp : p.length = 3 := by rw [hp]; rfl
      have HP1 := Lib.hid (show p ++ [(x + 1, y, z)] <+: facingL (x, y, z) by rw [hp]; exact ⟨(facingL (x, y, z)).drop 4, rfl⟩)
      have HP2 := Lib.hid (show p ++ [(x + 1, y, z)] ++ [(x, y + 1, z)] <+: facingL (x, y, z) by rw [hp]; exact ⟨(facingL (x, y, z)).drop 5, rfl⟩)
      have HP3 := Lib.hid (show p ++ [(x + 1, y, z)] ++ [(x, y + 1, z)] ++ [(x, y, z + 1)] = (facingL (x, y, z)).take (3 * (1 + 1)) by rw [hp]; rfl)
      have LP := Lib.hid lp
      clear hp lp
      obtain ⟨fn, tmps, assign, body, hy, hR⟩ := hY _ (x + 1, y, z) wr hJ (by rw [LP.out]; omega)
      simp only [encI] at hy
      gi_wp2
      refine hR.mono ?_
      clear hR hy c0 c1 c2
      rintro e W1 (⟨rfl, hJ1, hk1⟩ | ⟨rfl, hJx⟩)
      · have hB1 : BoxC W1 Bn x y z := hk1.2 _ hB
        have c0 := hB1.c0
        have c1 := hB1.c1
        have c2 := hB1.c2
        obtain ⟨fn, tmps, assign, body, hy, hR⟩ := hY _ (x, y + 1, z) W1 hJ1 (by rw [List.length_append, LP.out]; simp)
        simp only [encI] at hy
        gi_wp2
        refine hR.mono ?_
        clear hR hy c0 c1 c2
        rintro e W2 (⟨rfl, hJ2, hk2⟩ | ⟨rfl, hJx⟩)
        · have hB2 : BoxC W2 Bn x y z := hk2.2 _ hB1
          have c0 := hB2.c0
          have c1 := hB2.c1
          have c2 := hB2.c2
          obtain ⟨fn, tmps, assign, body, hy, hR⟩ := hY _ (x, y, z + 1) W2 hJ2 (by rw [List.length_append, List.length_append, LP.out]; simp)
          simp only [encI] at hy
          gi_wp2
          refine hR.mono ?_
          clear hR hy c0 c1 c2
          rintro e W3 (⟨rfl, hJ3, hk3⟩ | ⟨rfl, hJx⟩)
          · have hB3 : BoxC W3 Bn x y z := hk3.2 _ hB2
            rw [HP3.out] at hJ3
            gi_wp2
            go_roundw
            case rel => exact ⟨1 + 1, by omega, by go_num, hJ3, hB3⟩
            case measure => simp [intOf]
          · gi_wp2
            refine bodyPost_ret (results_none rfl _ _ _) rfl ?_
            exact ⟨⟨_, rfl⟩, .inr ⟨_, by rw [HP3.out]; exact List.take_prefix _ _, hJx⟩⟩
        · gi_wp2
          refine ⟨fun _ h => (by cases h), ?_⟩
          gi_wp2
          refine bodyPost_ret (results_none rfl _ _ _) rfl ?_
          exact ⟨⟨_, rfl⟩, .inr ⟨_, HP2.out, hJx⟩⟩
      · gi_wp2
        refine ⟨fun _ h => (by cases h), ?_⟩
        gi_wp2
        refine bodyPost_ret (results_none rfl _ _ _) rfl ?_
        exact ⟨⟨_, rfl⟩, .inr ⟨_, HP1.out, hJx⟩⟩
    · gi_wp2
      go_end0
      exact ⟨⟨_, rfl⟩, .inl ⟨_, rfl, hJ⟩⟩
theorem facing_stops (n : Nat) (hn : 1 ≤ n) (Bn n₀ : Nat) (c : I3) (hs : Sm3 1000 c) (w : World) (hB : BoxC w Bn c.1 c.2.1 c.2.2) :
    SeqStopsK Fence.wide n Tryz.prog 154 #[.pointer (some ⟨Bn, 0, none⟩)] (fun x : I3 => #[encI x]) (KeepB n₀ Bn) (fun ys => ys = facingL c) (fun pre => pre <+: facingL c) 6 w := fun l J Jx W hW hJ _ hY h0 =>
  facing1_in n hn l Bn n₀ _ c hs J Jx hJ hY W (hB.below hW hB.lt) h0
set_option maxHeartbeats 1000000 in
theorem facing_in (n : Nat) (x y z : Int) (w : World) :
    CallsIn Fence.wide n Tryz.prog 125 #[.agg #[.int .i64 (x), .int .i64 (y), .int .i64 (z)]] w fun e w' => e = .returned (.func (.func 154) #[] #[.pointer (some ⟨w.heap.size, 0, none⟩)]) ∧ w' = w.alloc (.cells #[.int .i64 (x), .int .i64 (y), .int .i64 (z)] 26) := by
  have hmf : ∀ (fn : Fn) (first cap : Array Value) (w : World), (Instr.makeFunc fn first cap).run Tryz.prog w = .ok (.func fn first cap) w := fun _ _ _ _ => rfl
  refine callsIn_of_wp Tryz.func125 rfl trivial ?_ rfl
  simp only [Tryz.ntmps125, List.size_toArray, List.length_cons, List.length_nil, Nat.reduceAdd, Nat.reduceSub, Array.replicate_succ, Array.replicate_zero, List.push_toArray, List.append_toArray, List.nil_append, List.cons_append]
  gi_wp2
  go_ret
  exact ⟨rfl, rfl⟩
end Go.Proofs.YtadkaplafaeebaaGreatDoor
/-
  The iterator over the cells that touch a cell.
-/
set_option linter.unusedVariables false
set_option linter.unusedSimpArgs false
namespace Go.Proofs.YtadkaplafaeebaaGreatDoor
open Go Go.RowKit Go.Shelf

attribute [local go_sem] Oper.semAt_some

/-- The cells that touch a cell, from one on: z, then y, then x. -/
def rowT (x y z : Int) (k : Nat) : List I3 := (List.range' k (3 - k)).map fun (i : Nat) => (x - 1 + (i : Int), y, z)
def planeT (x y z : Int) (k : Nat) : List I3 := (List.range' k (3 - k)).flatMap fun (j : Nat) => rowT x (y - 1 + (j : Int)) z 0
def allT (x y z : Int) (k : Nat) : List I3 := (List.range' k (3 - k)).flatMap fun (j : Nat) => planeT x y (z - 1 + (j : Int)) 0
def touchL (c : I3) : List I3 := allT c.1 c.2.1 c.2.2 0
theorem rowT_succ (x y z : Int) {k : Nat} (h : k < 3) : rowT x y z k = (x - 1 + (k : Int), y, z) :: rowT x y z (k + 1) := by
  unfold rowT
  rw [show 3 - k = (3 - (k + 1)) + 1 by omega, List.range'_succ, List.map_cons]
theorem planeT_succ (x y z : Int) {k : Nat} (h : k < 3) : planeT x y z k = rowT x (y - 1 + (k : Int)) z 0 ++ planeT x y z (k + 1) := by
  unfold planeT
  rw [show 3 - k = (3 - (k + 1)) + 1 by omega, List.range'_succ, List.flatMap_cons]
theorem allT_succ (x y z : Int) {k : Nat} (h : k < 3) : allT x y z k = planeT x y (z - 1 + (k : Int)) 0 ++ allT x y z (k + 1) := by
  unfold allT
  rw [show 3 - k = (3 - (k + 1)) + 1 by omega, List.range'_succ, List.flatMap_cons]
theorem touchL_len (c : I3) : (touchL c).length = 27 := rfl
set_option maxRecDepth 100000 in
set_option maxHeartbeats 4000000 in
theorem touch1_in (n : Nat) (hn : 1 ≤ n) (l Bn n₀ B0 : Nat) (x y z : Int) (hs : Sm3 1000 (x, y, z)) (J Jx : List I3 → World → Prop) (hA : AbidesFrom B0 J)
    (hY : ∀ pre x W, J pre W → pre.length < 27 → YieldAt Fence.wide (n - 1) Tryz.prog l #[encI x] W fun e W' =>
      (e = .returned (.bool true) ∧ J (pre ++ [x]) W' ∧ KeepB n₀ Bn W W') ∨ (e = .returned (.bool false) ∧ Jx (pre ++ [x]) W'))
    (W : World) (hB : BoxC W Bn x y z) (h0 : J [] W) :
    CallsIn Fence.wide n Tryz.prog 152 #[.func (.yield l) #[] #[], .pointer (some ⟨Bn, 0, none⟩)] W fun e W' => (∃ v, e = .returned v) ∧
      ((∃ ys, ys = touchL (x, y, z) ∧ J ys W') ∨ (∃ pre, pre <+: touchL (x, y, z) ∧ Jx pre W')) := by
  unfold Sm3 at hs
  simp only at hs
  obtain ⟨s1, s2, s3, s4, s5, s6⟩ := hs
  refine callsIn_of_wp Tryz.func152 rfl trivial ?_ rfl
  simp only [Tryz.ntmps152, List.size_toArray, List.length_cons, List.length_nil, Nat.reduceAdd, Nat.reduceSub, Array.replicate_succ, Array.replicate_zero, List.push_toArray, List.append_toArray, List.nil_append, List.cons_append]
  have c2 := hB.c2
  gi_wp2
  clear c2
  gi_loopw [3] (fun c wr => ∃ (k : Nat) (pre : List I3), k ≤ 3 ∧ c = .int .i64 (z - 1 + k) ∧ Hid (touchL (x, y, z) = pre ++ allT x y z k) ∧ J pre wr ∧ BoxC wr Bn x y z) (fun c _ => (z + 2 - intOf c).toNat)
  case atStart => exact ⟨0, [], by omega, by simp, Lib.hid rfl, h0, hB⟩
  case round =>
    clear hB h0
    obtain ⟨k, pre, hk, rfl, HT, hJ, hB⟩ := hrel
    have c0 := hB.c0
    have c1 := hB.c1
    have c2 := hB.c2
    by_cases hlt : k < 3
    · have hd : decide (z - 1 + (k : Int) ≤ z + 1) = true := decide_eq_true (by omega)
      gi_wp2
      clear c0 c1 c2
      obtain ⟨wo, rfl⟩ : ∃ wo : World, wo = wr := ⟨_, rfl⟩
      gi_loopw [4] (fun c wr => ∃ (j : Nat) (pre : List I3), j ≤ 3 ∧ c = .int .i64 (y - 1 + j) ∧ Hid (touchL (x, y, z) = pre ++ (planeT x y (z - 1 + k) j ++ allT x y z (k + 1))) ∧ J pre wr ∧ BoxC wr Bn x y z) (fun c _ => (y + 2 - intOf c).toNat)
      case atStart => exact ⟨0, pre, by omega, by simp, Lib.hid (by rw [HT.out, allT_succ x y z hlt]), hJ, hB⟩
      case round =>
        clear hJ hB HT pre
        obtain ⟨j, pre, hj, rfl, HT, hJ, hB⟩ := hrel
        have c0 := hB.c0
        have c1 := hB.c1
        have c2 := hB.c2
        by_cases hlt2 : j < 3
        · have hd2 : decide (y - 1 + (j : Int) ≤ y + 1) = true := decide_eq_true (by omega)
          gi_wp2
          clear c0 c1 c2
          obtain ⟨wp, rfl⟩ : ∃ wp : World, wp = wr := ⟨_, rfl⟩
          gi_loopw [5] (fun c wr => ∃ (i : Nat) (pre : List I3), i ≤ 3 ∧ c = .int .i64 (x - 1 + i) ∧ Hid (touchL (x, y, z) = pre ++ (rowT x (y - 1 + j) (z - 1 + k) i ++ (planeT x y (z - 1 + k) (j + 1) ++ allT x y z (k + 1)))) ∧ J pre wr ∧ BoxC wr Bn x y z) (fun c _ => (x + 2 - intOf c).toNat)
          case atStart => exact ⟨0, pre, by omega, by simp, Lib.hid (by rw [HT.out, planeT_succ x y _ hlt2]; simp), hJ, hB⟩
          case round =>
            clear hJ hB HT pre
            obtain ⟨i, pre, hi, rfl, HT, hJ, hB⟩ := hrel
            have c0 := hB.c0
            have c1 := hB.c1
            have c2 := hB.c2
            by_cases hlt3 : i < 3
            · have hd3 : decide (x - 1 + (i : Int) ≤ x + 1) = true := decide_eq_true (by omega)
              have HR := Lib.hid (show touchL (x, y, z) = (pre ++ [(x - 1 + (i : Int), y - 1 + (j : Int), z - 1 + (k : Int))]) ++ (rowT x (y - 1 + j) (z - 1 + k) (i + 1) ++ (planeT x y (z - 1 + k) (j + 1) ++ allT x y z (k + 1))) by rw [HT.out, rowT_succ x _ _ hlt3]; simp)
              have HL : Hid (pre.length < 27) := by
                have h := congrArg List.length HR.out
                rw [touchL_len, List.length_append, List.length_append] at h
                exact Lib.hid (by simp at h; omega)
              obtain ⟨fn, tmps, assign, body, hy, hR⟩ := hY _ (x - 1 + (i : Int), y - 1 + (j : Int), z - 1 + (k : Int)) wr hJ HL.out
              simp only [encI] at hy
              gi_wp2
              refine hR.mono ?_
              clear hR hy c0 c1 c2
              rintro e W1 (⟨rfl, hJ1, hk1⟩ | ⟨rfl, hJx⟩)
              · have hB1 : BoxC W1 Bn x y z := hk1.2 _ hB
                gi_wp2
                go_roundw
                case rel => exact ⟨i + 1, _, by omega, by simp; omega, HR, hJ1, hB1⟩
                case measure => simp [intOf]; omega
              · gi_wp2
                refine bodyPost_ret (results_none rfl _ _ _) rfl ?_
                exact ⟨⟨_, rfl⟩, .inr ⟨_, ⟨_, HR.out.symm⟩, hJx⟩⟩
            · obtain rfl : i = 3 := by omega
              have hd3 : decide (x - 1 + ((3 : Nat) : Int) ≤ x + 1) = false := decide_eq_false (by omega)
              gi_wp2
              go_roundw
              case rel => exact ⟨j + 1, pre, by omega, by simp; omega, Lib.hid (by rw [HT.out]; rfl), hJ, hB⟩
              case measure => simp [intOf]; omega
        · obtain rfl : j = 3 := by omega
          have hd2 : decide (y - 1 + ((3 : Nat) : Int) ≤ y + 1) = false := decide_eq_false (by omega)
          gi_wp2
          go_roundw
          case rel => exact ⟨k + 1, pre, by omega, by simp; omega, Lib.hid (by rw [HT.out]; rfl), hJ, hB⟩
          case measure => simp [intOf]; omega
    · obtain rfl : k = 3 := by omega
      have hd : decide (z - 1 + ((3 : Nat) : Int) ≤ z + 1) = false := decide_eq_false (by omega)
      gi_wp2
      go_end0
      exact ⟨⟨_, rfl⟩, .inl ⟨pre, by rw [HT.out]; simp [allT], hJ⟩⟩
theorem touch_stops (n : Nat) (hn : 1 ≤ n) (Bn n₀ : Nat) (x y z : Int) (hs : Sm3 1000 (x, y, z)) (w : World) (hB : BoxC w Bn x y z) :
    SeqStopsK Fence.wide n Tryz.prog 152 #[.pointer (some ⟨Bn, 0, none⟩)] (fun x : I3 => #[encI x]) (KeepB n₀ Bn) (fun ys => ys = touchL (x, y, z)) (fun pre => pre <+: touchL (x, y, z)) 27 w := fun l J Jx W hW hJ _ hY h0 =>
  touch1_in n hn l Bn n₀ _ x y z hs J Jx hJ hY W (hB.below hW hB.lt) h0
set_option maxHeartbeats 1000000 in
theorem touching_in (n : Nat) (x y z : Int) (w : World) :
    CallsIn Fence.wide n Tryz.prog 123 #[.agg #[.int .i64 (x), .int .i64 (y), .int .i64 (z)]] w fun e w' => e = .returned (.func (.func 152) #[] #[.pointer (some ⟨w.heap.size, 0, none⟩)]) ∧ w' = w.alloc (.cells #[.int .i64 (x), .int .i64 (y), .int .i64 (z)] 26) := by
  have hmf : ∀ (fn : Fn) (first cap : Array Value) (w : World), (Instr.makeFunc fn first cap).run Tryz.prog w = .ok (.func fn first cap) w := fun _ _ _ _ => rfl
  refine callsIn_of_wp Tryz.func123 rfl trivial ?_ rfl
  simp only [Tryz.ntmps123, List.size_toArray, List.length_cons, List.length_nil, Nat.reduceAdd, Nat.reduceSub, Array.replicate_succ, Array.replicate_zero, List.push_toArray, List.append_toArray, List.nil_append, List.cons_append]
  gi_wp2
  go_ret
  exact ⟨rfl, rfl⟩
end Go.Proofs.YtadkaplafaeebaaGreatDoor
/-
  Skin: a range over the neighbours of a cell within a range over the cells.
-/
set_option linter.unusedVariables false
set_option linter.unusedSimpArgs false
namespace Go.Proofs.YtadkaplafaeebaaGreatDoor
open Go Go.RowKit Go.Shelf

attribute [local go_sem] Oper.semAt_some

def hasI (f : Sol) (p : I3) : Bool := inG p.1 p.2.1 p.2.2 && hasC f (ofI p)
theorem has_ok (f : Sol) (p : I3) (w : World) (hf : Fit f) : Calls Tryz.prog 23 #[sol f, encI p] w fun e w' => e = .returned (.bool (hasI f p)) ∧ Below w.heap.size w w' := by
  unfold hasI
  by_cases h : inG p.1 p.2.1 p.2.2 = true
  · have h7 : In7 p := by unfold In7; exact of_decide_eq_true h
    have := has_yes f (ofI p) w hf
    unfold cell at this
    rw [ofI_x h7, ofI_y h7, ofI_z h7] at this
    rw [h]
    exact this
  · have h0 : inG p.1 p.2.1 p.2.2 = false := by simpa using h
    rw [h0]
    exact has_no f p.1 p.2.1 p.2.2 w h0
def outN (f : Sol) (l : List I3) : Nat := (l.filter fun x => !hasI f x).length
theorem outN_snoc (f : Sol) (l : List I3) (x : I3) : outN f (l ++ [x]) = outN f l + if hasI f x then 0 else 1 := by
  unfold outN
  rw [List.filter_append, List.length_append]
  cases h : hasI f x <;> simp [h]
theorem outN_le (f : Sol) (l : List I3) : outN f l ≤ l.length := List.length_filter_le _ _
def skinN (f : Sol) (l : List Cl) : Nat := (l.map fun c => outN f (facingL (toI c))).sum
theorem skinN_snoc (f : Sol) (l : List Cl) (c : Cl) : skinN f (l ++ [c]) = skinN f l + outN f (facingL (toI c)) := by simp [skinN]
theorem skinN_le (f : Sol) : ∀ l : List Cl, skinN f l ≤ 6 * l.length
  | [] => by simp [skinN]
  | c :: l => by
    have h1 := skinN_le f l
    have h2 := outN_le f (facingL (toI c))
    have h3 : (facingL (toI c)).length = 6 := rfl
    have h4 : skinN f (c :: l) = outN f (facingL (toI c)) + skinN f l := by simp [skinN]
    rw [h4, List.length_cons]
    omega
/-- Skin's number. -/
def skinF (f : Sol) : Nat := skinN f (cellsL f)
theorem toI_sm (c : Cl) : Sm3 1000 (toI c) := by
  have := toI_in7 c
  unfold In7 at this
  unfold Sm3
  omega

set_option maxRecDepth 100000 in
set_option maxHeartbeats 4000000 in
theorem skin_ok (f : Sol) (w : World) (hf : Fit f) (hT : Tab64 w) :
    Calls Tryz.prog 80 #[sol f] w fun e w' => e = .returned (.int .i64 (skinF f : Nat)) ∧ Below w.heap.size w w' := by
  have HF := Lib.hid hf
  have HTT := Lib.hid hT
  clear hf hT
  refine (callsIn_wide (n := 7)).1 ?_
  refine callsIn_of_wp_marks Tryz.func80 rfl trivial ?_ rfl
  simp only [Tryz.ntmps80, List.size_toArray, List.length_cons, List.length_nil, Nat.reduceAdd, Nat.reduceSub, Array.replicate_succ, Array.replicate_zero, List.push_toArray, List.append_toArray, List.nil_append, List.cons_append]
  gi_wp2_with (refine ⟨trivial, ?_⟩; gi_at_call 94; refine (cells_in _ f _).mono ?_; rintro e w1 ⟨rfl, rfl⟩)
  have bN : Boxed (((w.alloc (.cells (solC f) 24)).alloc (.cells #[.int .i64 0] 3)).alloc (.cells (solC f) 24)) (w.heap.size + 1) 3 (.int .i64 0) := (boxed_at (by simp)).alloc _
  have bS : BoxS (((w.alloc (.cells (solC f) 24)).alloc (.cells #[.int .i64 0] 3)).alloc (.cells (solC f) 24)) w.heap.size f := ((BoxS.new w f).alloc _).alloc _
  have bR : BoxS (((w.alloc (.cells (solC f) 24)).alloc (.cells #[.int .i64 0] 3)).alloc (.cells (solC f) 24)) (w.heap.size + 1 + 1) f := BoxS.new' (by simp)
  have hB0 : Below w.heap.size w (((w.alloc (.cells (solC f) 24)).alloc (.cells #[.int .i64 0] 3)).alloc (.cells (solC f) 24)) := by repeat' (first | (with_reducible exact Below.refl _ _) | (with_reducible assumption) | (with_reducible refine Below.alloc ?_ ?_ _) | (with_reducible refine Below.drew ?_) | (with_reducible refine below_drewN ?_ _) | (with_reducible refine Below.setCell ?_ ?_ _) | go_size)
  have hsz : (((w.alloc (.cells (solC f) 24)).alloc (.cells #[.int .i64 0] 3)).alloc (.cells (solC f) 24)).heap.size = w.heap.size + 3 := by simp
  obtain ⟨W0, hW0⟩ : ∃ W0, W0 = (((w.alloc (.cells (solC f) 24)).alloc (.cells #[.int .i64 0] 3)).alloc (.cells (solC f) 24)) := ⟨_, rfl⟩
  rw [← hW0] at bN bS bR hB0 hsz ⊢
  clear hW0
  refine wpIn_rangeFunc_ownH rfl (by omega) (gf := 137) (lb := #[.pointer (some ⟨w.heap.size + 1 + 1, 0, none⟩)]) rfl trivial (enters_of Tryz.func137 (by kernel_rfl) rfl)
    (cells_stops _ (by omega) (w.heap.size + 1 + 1) w.heap.size f HF.out W0 (HTT.out.below hB0 (Nat.le_refl _)) bR HTT.out.pos) belowK_t (belowK_b (by omega)) (Below.refl _ _) (fun _ => rfl)
    (fun (pre : List Cl) W => Boxed W (w.heap.size + 1) 3 (.int .i64 (skinN f pre : Nat)) ∧ BoxS W w.heap.size f ∧ Below w.heap.size w W)
    (fun _ _ _ => False)
    (OwnFrom.and (own_block' _ _ (fun pre : List Cl => .cells #[.int .i64 (skinN f pre : Nat)] 3 (0, 0)) fun _ => rfl) (OwnFrom.and (own_block _ _ _ rfl) (ownFrom_below (Nat.le_refl _) (by omega))))
    (fun _ _ _ _ _ hs _ _ => hs)
    ⟨bN, bS, hB0⟩
    (fun (x : Cl) a' W => ∃ Bx, w.heap.size + 1 < Bx ∧ BoxC W Bx (cX x : Nat) (cY x : Nat) (cZ x : Nat) ∧ a' = { tmps := #[sol f, .pointer (some ⟨w.heap.size, 0, none⟩), .int .i64 0, .pointer (some ⟨w.heap.size + 1, 0, none⟩), .pointer (some ⟨Bx, 0, none⟩), undef, sol f, .func (.func 137) #[] #[.pointer (some ⟨w.heap.size + 1 + 1, 0, none⟩)], cell x, undef, undef, undef, undef, undef, undef, undef, undef, undef, undef], defers := [] })
    (fun x a' s X Y row ⟨Bx, h1, h2, h3⟩ hg hr => ⟨Bx, h1, own_block (β := Unit) _ _ _ rfl () X Y row h2 hg hr, h3⟩) ?assign ?body ?done ?stop
  case assign =>
    rintro l pre x W K ⟨i1, i2, i3⟩ hK
    gi_wp2
    have hsW := i3.size
    have lx : w.heap.size + 1 < W.heap.size := (Array.getElem?_eq_some_iff.1 i1).1
    exact hK _ _ ((KeepsOthers.alloc _ _).from _) ((Below.refl _ W).alloc hsW _) ⟨i1.alloc _, i2.alloc _, i3.alloc hsW _⟩ ⟨W.heap.size, lx, BoxC.new rfl, rfl⟩
  case body =>
    rintro l pre x a' W hl ⟨r, hr⟩ ⟨i1, i2, i3⟩ ⟨Bx, hBx, bX, rfl⟩ hlt
    have c0 := bX.c0
    have c1 := bX.c1
    have c2 := bX.c2
    have hsW := i3.size
    have lB := bX.lt
    have hlen := cellsL_len f
    have hle := skinN_le f pre
    obtain ⟨m, hm⟩ : ∃ m, m = skinN f pre := ⟨_, rfl⟩
    rw [← hm] at i1 hle
    have HM := Lib.hid hm
    clear hm
    gi_wp2_with (refine ⟨trivial, ?_⟩; gi_at_call 125; refine (CallsIn.inRound l (facing_in _ _ _ _ _)).mono ?_; rintro e w' ⟨rfl, rfl⟩)
    have bY : BoxC (W.alloc (.cells #[.int .i64 ((cX x : Nat) : Int), .int .i64 ((cY x : Nat) : Int), .int .i64 ((cZ x : Nat) : Int)] 26)) W.heap.size (cX x : Nat) (cY x : Nat) (cZ x : Nat) := BoxC.new rfl
    have hr' : (W.alloc (.cells #[.int .i64 ((cX x : Nat) : Int), .int .i64 ((cY x : Nat) : Int), .int .i64 ((cZ x : Nat) : Int)] 26)).heap[l]? = some (.loop r) := (Below.heap_alloc W _ l (Array.getElem?_eq_some_iff.1 hr).1).trans hr
    refine wpIn_rangeFunc_ownN (l₀ := l) (r₀ := r) rfl hr' (by omega) (gf := 154) (lb := #[.pointer (some ⟨W.heap.size, 0, none⟩)]) rfl trivial (enters_of Tryz.func154 (by kernel_rfl) rfl)
      ((facing_stops _ (by omega) W.heap.size w.heap.size (toI x) (toI_sm x) _ bY).inRound l) keepB_t (keepB_b (by simp; omega) (by simp)) (Below.refl _ _) (fun _ => rfl)
      (fun (pre' : List I3) W' => Boxed W' (w.heap.size + 1) 3 (.int .i64 (m + outN f pre' : Nat)) ∧ BoxS W' w.heap.size f ∧ Below w.heap.size W W' ∧ KeepsFrom W0.heap.size W W')
      (fun _ _ _ => False)
      (OwnFrom.and (own_block' _ _ (fun pre' : List I3 => .cells #[.int .i64 (m + outN f pre' : Nat)] 3 (0, 0)) fun _ => rfl) (OwnFrom.and (own_block _ _ _ rfl) (OwnFrom.and (ownFrom_below hsW (by simp; omega)) (ownFrom_keepsFrom (by simp)))))
      (fun _ _ _ _ _ hs _ _ => hs)
      ⟨i1.alloc _, i2.alloc _, (Below.refl _ W).alloc hsW _, (KeepsOthers.alloc _ _).from _⟩
      (fun (y : I3) a'' W' => ∃ By, w.heap.size + 1 < By ∧ BoxC W' By y.1 y.2.1 y.2.2 ∧ a'' = { tmps := #[sol f, .pointer (some ⟨w.heap.size, 0, none⟩), .int .i64 0, .pointer (some ⟨w.heap.size + 1, 0, none⟩), .pointer (some ⟨Bx, 0, none⟩), .pointer (some ⟨By, 0, none⟩), sol f, .func (.func 137) #[] #[.pointer (some ⟨w.heap.size + 1 + 1, 0, none⟩)], cell x, cell x, .func (.func 154) #[] #[.pointer (some ⟨W.heap.size, 0, none⟩)], encI y, undef, undef, undef, undef, undef, undef, undef], defers := [] })
      (fun x a' s X Y row ⟨Bx, h1, h2, h3⟩ hg hr => ⟨Bx, h1, own_block (β := Unit) _ _ _ rfl () X Y row h2 hg hr, h3⟩)
      ?assign2 ?body2 ?done2 ?stop2
    case assign2 =>
      rintro l2 pre' y W' K ⟨j1, j2, j3, j4⟩ hK
      gi_wp2
      have hs' := j3.size
      exact hK _ _ ((KeepsOthers.alloc _ _).from _) ⟨(Below.refl _ W').alloc (by omega) _, fun o ho => (Below.heap_alloc W' _ _ (Array.getElem?_eq_some_iff.1 ho).1).trans ho⟩ ⟨j1.alloc _, j2.alloc _, j3.alloc (by omega) _, j4.trans ((KeepsOthers.alloc _ _).from _)⟩ ⟨W'.heap.size, by omega, BoxC.new rfl, rfl⟩
    case body2 =>
      rintro l2 pre' y a'' W' _ _ ⟨j1, j2, j3, j4⟩ ⟨By, hBy, bY2, rfl⟩ hlt2
      have d0 := bY2.c0
      have d1 := bY2.c1
      have d2 := bY2.c2
      have v0 := (j2).cell (k := 0) (by omega); have v1 := (j2).cell (k := 1) (by omega); have v2 := (j2).cell (k := 2) (by omega); have v3 := (j2).cell (k := 3) (by omega); have v4 := (j2).cell (k := 4) (by omega); have v5 := (j2).cell (k := 5) (by omega); have v6 := (j2).cell (k := 6) (by omega); have v7 := (j2).cell (k := 7) (by omega)
      have hq2 := outN_le f pre'
      have HSN := Lib.hid (outN_snoc f pre' y)
      obtain ⟨q, hq⟩ : ∃ q, q = m + outN f pre' := ⟨_, rfl⟩
      have hql : (q : Int) ≤ 4000 := by omega
      rw [← hq] at j1
      have HQ := Lib.hid hq
      clear hq
      have lN : w.heap.size + 1 < W'.heap.size := (Array.getElem?_eq_some_iff.1 j1).1
      have lS := j2.lt
      have hsW2 := j3.size
      have cn := j1.cell
      have fn := j1.frozen
      cases hh : hasI f y
      all_goals
        gi_wp2_with (refine ⟨trivial, ?_⟩; gi_at_call 23; refine (CallsIn.inRound l2 (CallsIn.inRound l (callsIn_wide.2 (has_ok f y _ HF.out)))).mono ?_; rintro e w3 ⟨rfl, hb3⟩; obtain ⟨hc3, hf3⟩ := bcell hb3; rw [hh])
      · have e : ((m + outN f (pre' ++ [y]) : Nat) : Int) = (q : Int) + 1 := by have := HQ.out; rw [HSN.out, hh]; simp; omega
        have m1 : Boxed w3 (w.heap.size + 1) 3 (.int .i64 (q : Int)) := (hb3.block _ lN).trans j1
        have l3 := hb3.size
        refine ⟨(keeps_below hb3).trans ((KeepsOthers.setCell _ _ _).from _), ⟨(hb3.mono (by omega)).setCell (p := ⟨w.heap.size + 1, 0, none⟩) (by simp) _, fun o ho => ?_⟩, ?_, ?_, ?_, ?_⟩
        · exact (Below.heap_setCell w3 ⟨w.heap.size + 1, 0, none⟩ _ _ (by simp; omega)).trans ((hb3.block _ (Array.getElem?_eq_some_iff.1 ho).1).trans ho)
        · rw [e]; exact m1.set _
        · exact (j2.below hb3 lS).other (by omega) _
        · exact (j3.trans (hb3.mono (by omega))).setCell (p := ⟨w.heap.size + 1, 0, none⟩) (by simp) _
        · exact (j4.trans (keeps_below hb3)).trans ((KeepsOthers.setCell _ _ _).from _)
      · have e : ((m + outN f (pre' ++ [y]) : Nat) : Int) = (q : Int) := by have := HQ.out; rw [HSN.out, hh]; simp; omega
        refine ⟨keeps_below hb3, ⟨hb3.mono (by omega), fun o ho => (hb3.block _ (Array.getElem?_eq_some_iff.1 ho).1).trans ho⟩, ?_, j2.below hb3 lS, j3.trans (hb3.mono (by omega)), j4.trans (keeps_below hb3)⟩
        rw [e]
        exact (hb3.block _ lN).trans j1
    case done2 =>
      rintro ys' W' rfl ⟨j1, j2, j3, j4⟩
      gi_wp2
      refine ⟨j4, j3, ?_, j2, i3.trans j3⟩
      rw [skinN_snoc, ← HM.out]
      exact j1
    case stop2 =>
      rintro c pre' W' _ h
      exact h.elim
  case done =>
    rintro D ys W hD rfl ⟨i1, i2, i3⟩ hK
    have cS := i1.cell
    gi_wp2
    refine ⟨by simp, .inl ⟨_, _, rfl, run_takeDeferred hK, ?_⟩⟩
    exact ⟨_, results_tmp rfl _ _ _, rfl, i3.trans (belowK_b (w := w) (Nat.le_refl _) W D _ _ (by omega) hK rfl rfl)⟩
  case stop =>
    rintro D c pre W _ _ h _
    exact h.elim
end Go.Proofs.YtadkaplafaeebaaGreatDoor
/-
  classes: plain mathematics of the walk through a class, and what its closure keeps.
-/
set_option linter.unusedVariables false
set_option linter.unusedSimpArgs false
namespace Go.Proofs.YtadkaplafaeebaaGreatDoor
open Go Go.RowKit Go.Shelf

def delS (g : Sol) (c : Cl) : Sol := up8 g (cZ c) (andN (g (cZ c)) (bitN (cX c) (cY c)))
theorem delS_fit {g : Sol} (h : Fit g) (c : Cl) : Fit (delS g c) := by
  intro i
  unfold delS up8
  by_cases hi : i = cZ c
  · rw [if_pos hi]; exact andN_lt (h _)
  · rw [if_neg hi]; exact h i
theorem has_del (g : Sol) (c d : Cl) : hasC (delS g c) d = (hasC g d && decide (d ≠ c)) := by
  unfold hasC delS up8
  by_cases hz : cZ d = cZ c
  · rw [if_pos hz, andN_bit, hz]
    congr 1
    unfold bitN
    rw [Nat.testBit_two_pow]
    have h1 := X_le c; have h2 := Y_le c; have h3 := X_le d; have h4 := Y_le d
    by_cases e : d = c
    · subst e; simp
    · have : 8 * cY c + cX c ≠ 8 * cY d + cX d := by
        intro h
        apply e
        have hx : cX d = cX c := by omega
        have hy : cY d = cY c := by omega
        unfold cX at hx
        unfold cY at hy
        unfold cZ at hz
        apply Fin.ext
        omega
      rw [decide_eq_false this, decide_eq_true e]
      rfl
  · rw [if_neg hz]
    have : d ≠ c := fun e => hz (by rw [e])
    rw [decide_eq_true this, Bool.and_true]
def allC : List Cl := (List.range 512).map fun i => ⟨i % 512, Nat.mod_lt _ (by omega)⟩
theorem mem_allC (c : Cl) : c ∈ allC := List.mem_map.2 ⟨c.1, List.mem_range.2 c.2, Fin.ext (Nat.mod_eq_of_lt c.2)⟩
/-- How many cells there are. -/
def cnt (g : Sol) : Nat := allC.countP (hasC g)
theorem countP_le {α} (p q : α → Bool) (h : ∀ a, q a = true → p a = true) : ∀ l : List α, l.countP q ≤ l.countP p
  | [] => by simp
  | a :: l => by
    have := countP_le p q h l
    rw [List.countP_cons, List.countP_cons]
    have ha := h a
    cases hq : q a <;> cases hp : p a <;> simp_all <;> omega
theorem countP_lt {α} (p q : α → Bool) (h : ∀ a, q a = true → p a = true) {b : α} (hb : p b = true) (hq : q b = false) : ∀ l : List α, b ∈ l → l.countP q < l.countP p
  | [], hm => by simp at hm
  | a :: l, hm => by
    rw [List.countP_cons, List.countP_cons]
    have h1 := countP_le p q h l
    rcases List.mem_cons.1 hm with rfl | hm
    · rw [if_neg (by simp [hq]), if_pos hb]; omega
    · have h2 := countP_lt p q h hb hq l hm
      have ha := h a
      cases hq2 : q a <;> cases hp : p a <;> simp_all <;> omega
theorem cnt_del {g : Sol} {c : Cl} (h : hasC g c = true) : cnt (delS g c) < cnt g :=
  countP_lt _ _ (fun a ha => by rw [has_del, Bool.and_eq_true] at ha; exact ha.1) h (by rw [has_del]; simp) _ (mem_allC c)
theorem cnt_le (g : Sol) : cnt g ≤ 512 := by
  have := List.countP_le_length (p := hasC g) (l := allC)
  simpa [cnt, allC] using this
/-- The walk: what is left, and the class. -/
def dfs (nb : I3 → List I3) : Nat → I3 → Sol × Sol → Sol × Sol
  | 0, _, s => s
  | n + 1, c, s => if hasI s.1 c then (nb c).foldl (fun s d => dfs nb n d s) (delS s.1 (ofI c), setC s.2 (ofI c)) else s
theorem dfs_cnt (nb : I3 → List I3) : ∀ n c s, cnt (dfs nb n c s).1 ≤ cnt s.1 := by
  intro n
  induction n with
  | zero => intro c s; exact Nat.le_refl _
  | succ n ih =>
    intro c s
    rw [dfs]
    by_cases h : hasI s.1 c = true
    · rw [if_pos h]
      have h2 : ∀ (l : List I3) (t : Sol × Sol), cnt (l.foldl (fun s d => dfs nb n d s) t).1 ≤ cnt t.1 := by
        intro l
        induction l with
        | nil => intro t; exact Nat.le_refl _
        | cons d l ih2 => intro t; exact Nat.le_trans (ih2 _) (ih d t)
      refine Nat.le_trans (h2 _ _) (Nat.le_of_lt (cnt_del ?_))
      unfold hasI at h
      rw [Bool.and_eq_true] at h
      exact h.2
    · rw [if_neg h]; exact Nat.le_refl _
theorem dfs_fit (nb : I3 → List I3) : ∀ n c (s : Sol × Sol), Fit s.1 → Fit s.2 → Fit (dfs nb n c s).1 ∧ Fit (dfs nb n c s).2 := by
  intro n
  induction n with
  | zero => intro c s h1 h2; exact ⟨h1, h2⟩
  | succ n ih =>
    intro c s h1 h2
    rw [dfs]
    by_cases h : hasI s.1 c = true
    · rw [if_pos h]
      have h3 : ∀ (l : List I3) (t : Sol × Sol), Fit t.1 → Fit t.2 → Fit (l.foldl (fun s d => dfs nb n d s) t).1 ∧ Fit (l.foldl (fun s d => dfs nb n d s) t).2 := by
        intro l
        induction l with
        | nil => intro t a b; exact ⟨a, b⟩
        | cons d l ih2 => intro t a b; exact ih2 _ (ih d t a b).1 (ih d t a b).2
      exact h3 _ _ (delS_fit h1 _) (setC_fit h2 _)
    · rw [if_neg h]; exact ⟨h1, h2⟩
/-- The fold of a round: where it stands after some neighbours. -/
def dfsL (nb : I3 → List I3) (n : Nat) (l : List I3) (t : Sol × Sol) : Sol × Sol := l.foldl (fun s d => dfs nb n d s) t
theorem dfsL_snoc (nb : I3 → List I3) (n : Nat) (l : List I3) (d : I3) (t : Sol × Sol) : dfsL nb n (l ++ [d]) t = dfs nb n d (dfsL nb n l t) := by simp [dfsL]
theorem dfsL_cnt (nb : I3 → List I3) (n : Nat) (l : List I3) : ∀ t, cnt (dfsL nb n l t).1 ≤ cnt t.1 := by
  induction l with
  | nil => intro t; exact Nat.le_refl _
  | cons d l ih => intro t; exact Nat.le_trans (ih _) (dfs_cnt nb n d t)
theorem dfsL_fit (nb : I3 → List I3) (n : Nat) (l : List I3) : ∀ t : Sol × Sol, Fit t.1 → Fit t.2 → Fit (dfsL nb n l t).1 ∧ Fit (dfsL nb n l t).2 := by
  induction l with
  | nil => intro t a b; exact ⟨a, b⟩
  | cons d l ih => intro t a b; exact ih _ (dfs_fit nb n d t a b).1 (dfs_fit nb n d t a b).2

/-- What the closure lies over: what is left, the class, the neighbours, itself. -/
def LeadW (g : Nat) (B : Nat) (W : World) (s : Sol × Sol) : Prop :=
  BoxS W (B + 1 + 1) s.1 ∧ BoxS W (B + 1 + 1 + 1) s.2 ∧ Boxed W (B + 1) 106 (.func (.func g) #[] #[]) ∧
    Boxed W (B + 1 + 1 + 1 + 1) 127 (.func (.func 151) #[] #[.pointer (some ⟨B + 1 + 1, 0, none⟩), .pointer (some ⟨B + 1 + 1 + 1, 0, none⟩), .pointer (some ⟨B + 1, 0, none⟩), .pointer (some ⟨B + 1 + 1 + 1 + 1, 0, none⟩)])
def Keep2 (B : Nat) (W W' : World) : Prop := Below B W W' ∧ ∀ k, k < W.heap.size → k ≠ B + 1 + 1 → k ≠ B + 1 + 1 + 1 → W'.heap[k]? = W.heap[k]?
theorem Keep2.refl (B : Nat) (W : World) : Keep2 B W W := ⟨Below.refl _ _, fun _ _ _ _ => rfl⟩
theorem Keep2.trans {B : Nat} {X Y Z : World} (h : Keep2 B X Y) (k : Keep2 B Y Z) : Keep2 B X Z := ⟨h.1.trans k.1, fun i hi h2 h3 => (k.2 i (Nat.lt_of_lt_of_le hi h.1.size) h2 h3).trans (h.2 i hi h2 h3)⟩
theorem Keep2.below {B : Nat} {W W' : World} (h : Below W.heap.size W W') (hB : B ≤ W.heap.size) : Keep2 B W W' := ⟨h.mono hB, fun i hi _ _ => h.block i hi⟩
theorem Keep2.alloc {B : Nat} {W W' : World} (h : Keep2 B W W') (hB : B ≤ W'.heap.size) (o : Obj) : Keep2 B W (W'.alloc o) := h.trans (Keep2.below ((Below.refl _ W').alloc (Nat.le_refl _) o) hB)
theorem Keep2.setR {B : Nat} {W W' : World} (h : Keep2 B W W') (k : Nat) (v : Value) : Keep2 B W (W'.setCell ⟨B + 1 + 1, k, none⟩ v) :=
  ⟨h.1.setCell (p := ⟨B + 1 + 1, k, none⟩) (by simp <;> omega) v, fun i hi h2 h3 => (Below.heap_setCell W' ⟨B + 1 + 1, k, none⟩ v i h2).trans (h.2 i hi h2 h3)⟩
theorem Keep2.setK {B : Nat} {W W' : World} (h : Keep2 B W W') (k : Nat) (v : Value) : Keep2 B W (W'.setCell ⟨B + 1 + 1 + 1, k, none⟩ v) :=
  ⟨h.1.setCell (p := ⟨B + 1 + 1 + 1, k, none⟩) (by simp <;> omega) v, fun i hi h2 h3 => (Below.heap_setCell W' ⟨B + 1 + 1 + 1, k, none⟩ v i h3).trans (h.2 i hi h2 h3)⟩
theorem Keep2.keeps {g B D : Nat} {W W' : World} {s : Sol × Sol} (hL : LeadW g B W s) (h : Keep2 B W W') : KeepsFrom D W W' :=
  ⟨h.1.size, fun k o _ hk ho => (h.2 k (Array.getElem?_eq_some_iff.1 hk).1 (fun e => by subst e; rw [show W.heap[B + 1 + 1]? = _ from hL.1] at hk; cases hk; cases ho) (fun e => by subst e; rw [show W.heap[B + 1 + 1 + 1]? = _ from hL.2.1] at hk; cases hk; cases ho)).trans hk⟩
theorem own_keep2 {β : Type} {B D : Nat} {w₀ : World} (hB : B ≤ w₀.heap.size) (hD : w₀.heap.size ≤ D) : OwnFrom D (fun (_ : β) W => Keep2 B w₀ W) := fun s X Y row hs hg hr =>
  ⟨ownFrom_below (β := β) (n₀ := B) (B := D) hB (Nat.le_trans hB hD) s X Y row hs.1 hg hr, fun i hi h2 h3 => (hg.block i (Nat.lt_of_lt_of_le hi hs.1.size) (fun e => by have := (hr i e.symm).1; omega)).trans (hs.2 i hi h2 h3)⟩
theorem LeadW.below {g B : Nat} {W W' : World} {s : Sol × Sol} (h : LeadW g B W s) (hb : Below W.heap.size W W') : LeadW g B W' s :=
  ⟨h.1.below hb h.1.lt, h.2.1.below hb h.2.1.lt, (hb.block _ (Array.getElem?_eq_some_iff.1 h.2.2.1).1).trans h.2.2.1, (hb.block _ (Array.getElem?_eq_some_iff.1 h.2.2.2).1).trans h.2.2.2⟩
theorem LeadW.lt {g B : Nat} {W : World} {s : Sol × Sol} (h : LeadW g B W s) : B + 1 + 1 + 1 + 1 < W.heap.size := (Array.getElem?_eq_some_iff.1 h.2.2.2).1
theorem LeadW.setR {g B : Nat} {W : World} {s : Sol × Sol} (h : LeadW g B W s) {k : Nat} (hk : k < 8) (v : Nat) : LeadW g B (W.setCell ⟨B + 1 + 1, k, none⟩ (.int .u64 (v : Int))) (up8 s.1 k v, s.2) :=
  ⟨h.1.set hk v, h.2.1.other (by omega) _, (Below.heap_setCell W _ _ _ (by simp <;> omega)).trans h.2.2.1, (Below.heap_setCell W _ _ _ (by simp <;> omega)).trans h.2.2.2⟩
theorem LeadW.setK {g B : Nat} {W : World} {s : Sol × Sol} (h : LeadW g B W s) {k : Nat} (hk : k < 8) (v : Nat) : LeadW g B (W.setCell ⟨B + 1 + 1 + 1, k, none⟩ (.int .u64 (v : Int))) (s.1, up8 s.2 k v) :=
  ⟨h.1.other (by omega) _, h.2.1.set hk v, (Below.heap_setCell W _ _ _ (by simp <;> omega)).trans h.2.2.1, (Below.heap_setCell W _ _ _ (by simp <;> omega)).trans h.2.2.2⟩
theorem own_leadW {β : Type} (g B D : Nat) (s : β → Sol × Sol) : OwnFrom D (fun (b : β) W => LeadW g B W (s b)) :=
  OwnFrom.and (own_block' _ _ (fun b => .cells (solC (s b).1) 24 (0, 0)) fun _ => rfl) (OwnFrom.and (own_block' _ _ (fun b => .cells (solC (s b).2) 24 (0, 0)) fun _ => rfl) (OwnFrom.and (own_block _ _ _ rfl) (own_block _ _ _ rfl)))
end Go.Proofs.YtadkaplafaeebaaGreatDoor
