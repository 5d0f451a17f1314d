/-
  The map's key: a cell.
-/
import Derived.Test.YtadkaplafaeebaaGreatDoorPkL
import Derived.DeepKeys4
import Derived.Maps.OwnIn
import Derived.Test.YtadkaplafaeebaaGreatDoorPkI
import Derived.Maps.OwnSet
set_option linter.unusedVariables false
set_option linter.unusedSimpArgs false
namespace Go.Proofs.YtadkaplafaeebaaGreatDoor
open Go Go.RowKit Go.Shelf
open Go.Maps (Keyed)

theorem cell_law : WideMaps.KeyLaw Tryz.prog 26 :=
  deep_law_laid (m := 5) (by kernel_rfl) (by decide) (of_decide_eq_true (by kernel_rfl)) (by kernel_rfl) (by kernel_rfl)
theorem cell_keyed : Keyed Tryz.prog 26 := Keyed.of_law cell_law
theorem under_int : Tryz.prog.underlying 3 = some (.int .i64) := by kernel_rfl
theorem key_int (d : Nat) (x : Int) (hx : (Lit.int .i64 x).wf = true) : Tryz.prog.keyLits (d + 1) 3 [.int .i64 x] = some [.int .i64 x] := by
  unfold Program.keyLits
  rw [under_int]
  simp only
  simp [hx]
theorem types_some : ∃ k, Tryz.prog.types.size = k + 1 := ⟨Tryz.prog.types.size - 1, by
  have : decide (0 < Tryz.prog.types.size) = true := by kernel_rfl
  have := of_decide_eq_true this
  omega⟩
theorem cell_type : Tryz.prog.keyType 26 = true := by kernel_rfl
theorem cell_cells : Tryz.prog.cellsOf 26 = 3 := by kernel_rfl
theorem int_cells : Tryz.prog.cellsOf 3 = 1 := by kernel_rfl
theorem under_cell : ∃ fs, Tryz.prog.underlying 26 = some (.struct fs) ∧ fs.all (·.name != "_") = true ∧ fs.toList.map (fun f => (f.type, f.offset)) = [(3, 0), (3, 1), (3, 2)] := ⟨_, Tryz.underlying26, by kernel_rfl, by kernel_rfl⟩
def cellKey (p : I3) : Lit := .string (keyBytes [.int .i64 p.1, .int .i64 p.2.1, .int .i64 p.2.2])
set_option maxRecDepth 100000 in
theorem cell_key (x y z : Int) (hx : (Lit.int .i64 x).wf = true) (hy : (Lit.int .i64 y).wf = true) (hz : (Lit.int .i64 z).wf = true) : keyOf Tryz.prog 26 (.agg #[.int .i64 (x), .int .i64 (y), .int .i64 (z)]) = some (cellKey (x, y, z)) := by
  obtain ⟨fs, hu, hn, hm⟩ := under_cell
  obtain ⟨k, hk⟩ := types_some
  have hl : (Tryz.prog.keyLits (k + 1 + 1) 26 [.int .i64 x, .int .i64 y, .int .i64 z]) = some [.int .i64 x, .int .i64 y, .int .i64 z] := by
    unfold Program.keyLits
    rw [hu]
    simp only
    rw [if_pos ⟨by rw [cell_cells]; rfl, hn⟩]
    obtain ⟨l⟩ := fs
    simp only at hm
    match l, hm with
    | [f0, f1, f2], hm =>
      simp only [List.map_cons, List.map_nil, List.cons.injEq, Prod.mk.injEq, and_true] at hm
      obtain ⟨⟨a0, b0⟩, ⟨a1, b1⟩, a2, b2⟩ := hm
      simp [List.mapM_cons, a0, b0, a1, b1, a2, b2, int_cells, key_int k x hx, key_int k y hy, key_int k z hz]
  unfold keyOf
  rw [hu, hk]
  simp only
  rw [cell_type, show (Value.agg #[.int .i64 x, .int .i64 y, .int .i64 z]).formed Tryz.prog 26 = true by simp [Value.formed, hu, cell_cells]]
  simp only [Bool.and_self, if_true, Value.cells]
  rw [hl]
  rfl
end Go.Proofs.YtadkaplafaeebaaGreatDoor
/-
  The iterator over the cells that touch a cell, whose elements are known to be small (a map's keys).
-/
set_option linter.unusedVariables false
set_option linter.unusedSimpArgs false
namespace Go.Proofs.YtadkaplafaeebaaGreatDoor
open Go Go.RowKit Go.Shelf

attribute [local go_sem] Oper.semAt_some

abbrev P3 := { p : I3 // Sm3 1001 p }
set_option maxRecDepth 100000 in
set_option maxHeartbeats 4000000 in
theorem touch1S_in (n : Nat) (hn : 1 ≤ n) (l Bn n₀ B0 : Nat) (x y z : Int) (hs : Sm3 1000 (x, y, z)) (J Jx : List P3 → World → Prop) (hA : AbidesFrom B0 J)
    (hY : ∀ pre x W, J pre W → pre.length < 27 → YieldAt Fence.wide (n - 1) Tryz.prog l #[encI x.1] W fun e W' =>
      (e = .returned (.bool true) ∧ J (pre ++ [x]) W' ∧ KeepB n₀ Bn W W') ∨ (e = .returned (.bool false) ∧ Jx (pre ++ [x]) W'))
    (W : World) (hB : BoxC W Bn x y z) (h0 : J [] W) :
    CallsIn Fence.wide n Tryz.prog 152 #[.func (.yield l) #[] #[], .pointer (some ⟨Bn, 0, none⟩)] W fun e W' => (∃ v, e = .returned v) ∧
      ((∃ ys, ys.map Subtype.val = touchL (x, y, z) ∧ J ys W') ∨ (∃ pre, pre.map Subtype.val <+: touchL (x, y, z) ∧ Jx pre W')) := by
  unfold Sm3 at hs
  simp only at hs
  obtain ⟨s1, s2, s3, s4, s5, s6⟩ := hs
  refine callsIn_of_wp Tryz.func152 rfl trivial ?_ rfl
  simp only [Tryz.ntmps152, List.size_toArray, List.length_cons, List.length_nil, Nat.reduceAdd, Nat.reduceSub, Array.replicate_succ, Array.replicate_zero, List.push_toArray, List.append_toArray, List.nil_append, List.cons_append]
  have c2 := hB.c2
  gi_wp2
  clear c2
  gi_loopw [3] (fun c wr => ∃ (k : Nat) (pre : List P3), k ≤ 3 ∧ c = .int .i64 (z - 1 + k) ∧ Hid (touchL (x, y, z) = pre.map Subtype.val ++ allT x y z k) ∧ J pre wr ∧ BoxC wr Bn x y z) (fun c _ => (z + 2 - intOf c).toNat)
  case atStart => exact ⟨0, [], by omega, by simp, Lib.hid rfl, h0, hB⟩
  case round =>
    clear hB h0
    obtain ⟨k, pre, hk, rfl, HT, hJ, hB⟩ := hrel
    have c0 := hB.c0
    have c1 := hB.c1
    have c2 := hB.c2
    by_cases hlt : k < 3
    · have hd : decide (z - 1 + (k : Int) ≤ z + 1) = true := decide_eq_true (by omega)
      gi_wp2
      clear c0 c1 c2
      obtain ⟨wo, rfl⟩ : ∃ wo : World, wo = wr := ⟨_, rfl⟩
      gi_loopw [4] (fun c wr => ∃ (j : Nat) (pre : List P3), j ≤ 3 ∧ c = .int .i64 (y - 1 + j) ∧ Hid (touchL (x, y, z) = pre.map Subtype.val ++ (planeT x y (z - 1 + k) j ++ allT x y z (k + 1))) ∧ J pre wr ∧ BoxC wr Bn x y z) (fun c _ => (y + 2 - intOf c).toNat)
      case atStart => exact ⟨0, pre, by omega, by simp, Lib.hid (by rw [HT.out, allT_succ x y z hlt]), hJ, hB⟩
      case round =>
        clear hJ hB HT pre
        obtain ⟨j, pre, hj, rfl, HT, hJ, hB⟩ := hrel
        have c0 := hB.c0
        have c1 := hB.c1
        have c2 := hB.c2
        by_cases hlt2 : j < 3
        · have hd2 : decide (y - 1 + (j : Int) ≤ y + 1) = true := decide_eq_true (by omega)
          gi_wp2
          clear c0 c1 c2
          obtain ⟨wp, rfl⟩ : ∃ wp : World, wp = wr := ⟨_, rfl⟩
          gi_loopw [5] (fun c wr => ∃ (i : Nat) (pre : List P3), i ≤ 3 ∧ c = .int .i64 (x - 1 + i) ∧ Hid (touchL (x, y, z) = pre.map Subtype.val ++ (rowT x (y - 1 + j) (z - 1 + k) i ++ (planeT x y (z - 1 + k) (j + 1) ++ allT x y z (k + 1)))) ∧ J pre wr ∧ BoxC wr Bn x y z) (fun c _ => (x + 2 - intOf c).toNat)
          case atStart => exact ⟨0, pre, by omega, by simp, Lib.hid (by rw [HT.out, planeT_succ x y _ hlt2]; simp), hJ, hB⟩
          case round =>
            clear hJ hB HT pre
            obtain ⟨i, pre, hi, rfl, HT, hJ, hB⟩ := hrel
            have c0 := hB.c0
            have c1 := hB.c1
            have c2 := hB.c2
            by_cases hlt3 : i < 3
            · have hd3 : decide (x - 1 + (i : Int) ≤ x + 1) = true := decide_eq_true (by omega)
              have hP := Lib.hid (show Sm3 1001 (x - 1 + (i : Int), y - 1 + (j : Int), z - 1 + (k : Int)) by unfold Sm3; simp only; omega)
              have HR := Lib.hid (show touchL (x, y, z) = (pre ++ [(⟨(x - 1 + (i : Int), y - 1 + (j : Int), z - 1 + (k : Int)), hP.out⟩ : P3)]).map Subtype.val ++ (rowT x (y - 1 + j) (z - 1 + k) (i + 1) ++ (planeT x y (z - 1 + k) (j + 1) ++ allT x y z (k + 1))) by rw [HT.out, rowT_succ x _ _ hlt3]; simp)
              have HL : Hid (pre.length < 27) := by
                have h := congrArg List.length HR.out
                rw [touchL_len, List.length_append, List.length_append] at h
                exact Lib.hid (by simp at h; omega)
              obtain ⟨fn, tmps, assign, body, hy, hR⟩ := hY _ ⟨(x - 1 + (i : Int), y - 1 + (j : Int), z - 1 + (k : Int)), hP.out⟩ wr hJ HL.out
              simp only [encI] at hy
              gi_wp2
              refine hR.mono ?_
              clear hR hy c0 c1 c2
              rintro e W1 (⟨rfl, hJ1, hk1⟩ | ⟨rfl, hJx⟩)
              · have hB1 : BoxC W1 Bn x y z := hk1.2 _ hB
                gi_wp2
                go_roundw
                case rel => exact ⟨i + 1, _, by omega, by simp; omega, HR, hJ1, hB1⟩
                case measure => simp [intOf]; omega
              · gi_wp2
                refine bodyPost_ret (results_none rfl _ _ _) rfl ?_
                exact ⟨⟨_, rfl⟩, .inr ⟨_, ⟨_, HR.out.symm⟩, hJx⟩⟩
            · obtain rfl : i = 3 := by omega
              have hd3 : decide (x - 1 + ((3 : Nat) : Int) ≤ x + 1) = false := decide_eq_false (by omega)
              gi_wp2
              go_roundw
              case rel => exact ⟨j + 1, pre, by omega, by simp; omega, Lib.hid (by rw [HT.out]; rfl), hJ, hB⟩
              case measure => simp [intOf]; omega
        · obtain rfl : j = 3 := by omega
          have hd2 : decide (y - 1 + ((3 : Nat) : Int) ≤ y + 1) = false := decide_eq_false (by omega)
          gi_wp2
          go_roundw
          case rel => exact ⟨k + 1, pre, by omega, by simp; omega, Lib.hid (by rw [HT.out]; rfl), hJ, hB⟩
          case measure => simp [intOf]; omega
    · obtain rfl : k = 3 := by omega
      have hd : decide (z - 1 + ((3 : Nat) : Int) ≤ z + 1) = false := decide_eq_false (by omega)
      gi_wp2
      go_end0
      exact ⟨⟨_, rfl⟩, .inl ⟨pre, by rw [HT.out]; simp [allT], hJ⟩⟩
theorem touchS_stops (n : Nat) (hn : 1 ≤ n) (Bn n₀ : Nat) (x y z : Int) (hs : Sm3 1000 (x, y, z)) (w : World) (hB : BoxC w Bn x y z) :
    SeqStopsK Fence.wide n Tryz.prog 152 #[.pointer (some ⟨Bn, 0, none⟩)] (fun x : P3 => #[encI x.1]) (KeepB n₀ Bn) (fun ys : List P3 => ys.map Subtype.val = touchL (x, y, z)) (fun pre : List P3 => pre.map Subtype.val <+: touchL (x, y, z)) 27 w := fun l J Jx W hW hJ _ hY h0 =>
  touch1S_in n hn l Bn n₀ _ x y z hs J Jx hJ hY W (hB.below hW hB.lt) h0
end Go.Proofs.YtadkaplafaeebaaGreatDoor
/-
  A set of points as a map from cells to bools.
-/
set_option linter.unusedVariables false
set_option linter.unusedSimpArgs false
namespace Go.Proofs.YtadkaplafaeebaaGreatDoor
open Go Go.RowKit Go.Shelf
open Go.Maps (Keyed)

theorem under_seen : Tryz.prog.underlying 108 = some (.map 26 4) := by kernel_rfl
theorem under_bool : Tryz.prog.underlying 4 = some .bool := by kernel_rfl
theorem zero_bool (w : World) : (zeroValue 4).run Tryz.prog w = .ok (.bool false) w := by kernel_rfl
theorem wf_sm {x : Int} (h : -1001 ≤ x ∧ x ≤ 1001) : (Lit.int .i64 x).wf = true := by
  have h1 : IntKind.i64.min = -9223372036854775808 := by decide
  have h2 : IntKind.i64.max = 9223372036854775807 := by decide
  simp only [Lit.wf, h1, h2, Bool.and_eq_true, decide_eq_true_eq]
  omega
theorem sm_key {p : I3} (h : Sm3 1001 p) : keyOf Tryz.prog 26 (.agg #[.int .i64 (p.1), .int .i64 (p.2.1), .int .i64 (p.2.2)]) = some (cellKey p) := by
  unfold Sm3 at h
  exact cell_key p.1 p.2.1 p.2.2 (wf_sm ⟨h.1, h.2.1⟩) (wf_sm ⟨h.2.2.1, h.2.2.2.1⟩) (wf_sm ⟨h.2.2.2.2.1, h.2.2.2.2.2⟩)
theorem key_inj {p q : I3} (hp : Sm3 1001 p) (hq : Sm3 1001 q) (h : cellKey p = cellKey q) : p = q := by
  have h1 := sm_key hp
  have h2 := sm_key hq
  rw [h] at h1
  have h3 := cell_law.inj h1 h2
  simp only [Value.agg.injEq, Array.mk.injEq, List.cons.injEq, Value.int.injEq, true_and, and_true] at h3
  obtain ⟨a, b, c⟩ := p
  obtain ⟨d, e, f⟩ := q
  simp_all
/-- The map holds just these points. -/
def Seen (W : World) (b n : Nat) (seen : List I3) : Prop := ∃ D : DataW Unit, W.ownsMap Tryz.prog 26 (plainElem Tryz.prog 4) b n D ∧ ∀ p, Sm3 1001 p → D.atKey (cellKey p) (.lit (.bool false)) = .lit (.bool (decide (p ∈ seen)))
theorem Seen.made (w : World) : Seen (w.alloc (.map #[] 0)) w.heap.size 0 [] := ⟨_, World.ownsMap_made w _ _ _, fun p _ => rfl⟩
theorem Seen.lt {W : World} {b n : Nat} {seen : List I3} (h : Seen W b n seen) : b < W.heap.size := by
  obtain ⟨D, h, _⟩ := h
  exact h.lt
theorem Seen.kept {W W' : World} {b n : Nat} {seen : List I3} (h : Seen W b n seen) {row : Option Nat} (hg : W.grownBy W' row) (hne : some b ≠ row) : Seen W' b n seen := by
  obtain ⟨D, h, k⟩ := h
  exact ⟨D, h.kept hg hne, k⟩
theorem Seen.look {W : World} {b n : Nat} {seen : List I3} (h : Seen W b n seen) {p : I3} (hp : Sm3 1001 p) : (Instr.lookup 108 (.map (some b)) (.agg #[.int .i64 (p.1), .int .i64 (p.2.1), .int .i64 (p.2.2)]) false).run Tryz.prog W = .ok (.bool (decide (p ∈ seen))) W := by
  obtain ⟨D, h, k⟩ := h
  obtain ⟨v, ps, hrun, hv⟩ := h.lookup cell_keyed under_seen (zero_bool W) (plainElem_bool under_bool false) (sm_key hp)
  rw [k p hp] at hv
  rw [hrun]
  have : v = .bool (decide (p ∈ seen)) := by
    unfold plainElem at hv
    rw [under_bool] at hv
    cases v <;> simp_all
  rw [this]
theorem Seen.put {W : World} {b n : Nat} {seen : List I3} (h : Seen W b n seen) (hn : n < maxLen) {p : I3} (hp : Sm3 1001 p) :
    ∃ W', (Instr.mapUpdate 108 (.map (some b)) (.agg #[.int .i64 (p.1), .int .i64 (p.2.1), .int .i64 (p.2.2)]) (.bool true)).run Tryz.prog W = .ok () W' ∧ Seen W' b (n + 1) (seen ++ [p]) ∧ W.grownBy W' (some b) := by
  obtain ⟨D, h, k⟩ := h
  obtain ⟨W', hrun, h2, h3⟩ := h.update cell_keyed under_seen hn (sm_key hp) (plainElem_bool under_bool true)
  refine ⟨W', hrun, ⟨_, h2, fun q hq => ?_⟩, h3⟩
  by_cases e : q = p
  · subst e
    rw [Go.Maps.atKey_put_same h.isMap (cell_keyed.key (sm_key hq))]
    simp
  · rw [Go.Maps.atKey_put_other (fun hc => e (key_inj hq hp hc)), k q hq]
    simp [e]
end Go.Proofs.YtadkaplafaeebaaGreatDoor
