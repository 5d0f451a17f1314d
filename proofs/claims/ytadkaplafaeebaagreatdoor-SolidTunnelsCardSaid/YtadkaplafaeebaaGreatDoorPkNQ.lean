/-
  The map's key: a cell.
-/
import Derived.Test.YtadkaplafaeebaaGreatDoorPkLQ
import Derived.DeepKeys4
import Derived.Maps.OwnIn
import Derived.Test.YtadkaplafaeebaaGreatDoorPkIQ
import Derived.Maps.OwnSet
set_option linter.unusedVariables false
set_option linter.unusedSimpArgs false
namespace Go.Proofs.YtadkaplafaeebaaGreatDoor
open Go Go.RowKit Go.Shelf
open Go.Maps (Keyed)

theorem cell_law : WideMaps.KeyLaw Tryz.prog 26 :=
  deep_law_laid (m := 5) (by kernel_rfl) (by decide) (of_decide_eq_true (by kernel_rfl)) (by kernel_rfl) (by kernel_rfl)
theorem cell_keyed : Keyed Tryz.prog 26 := Keyed.of_law cell_law
theorem under_int : Tryz.prog.underlying 3 = some (.int .i64) := by kernel_rfl
theorem key_int (d : Nat) (x : Int) (hx : (Lit.int .i64 x).wf = true) : Tryz.prog.keyLits (d + 1) 3 [.int .i64 x] = some [.int .i64 x] := by
  unfold Program.keyLits
  rw [under_int]
  simp only
  simp [hx]
theorem types_some : ∃ k, Tryz.prog.types.size = k + 1 := ⟨Tryz.prog.types.size - 1, by
  have : decide (0 < Tryz.prog.types.size) = true := by kernel_rfl
  have := of_decide_eq_true this
  omega⟩
theorem cell_type : Tryz.prog.keyType 26 = true := by kernel_rfl
theorem cell_cells : Tryz.prog.cellsOf 26 = 3 := by kernel_rfl
theorem int_cells : Tryz.prog.cellsOf 3 = 1 := by kernel_rfl
theorem under_cell : ∃ fs, Tryz.prog.underlying 26 = some (.struct fs) ∧ fs.all (·.name != "_") = true ∧ fs.toList.map (fun f => (f.type, f.offset)) = [(3, 0), (3, 1), (3, 2)] := ⟨_, Tryz.underlying26, by kernel_rfl, by kernel_rfl⟩
def cellKey (p : I3) : Lit := .string (keyBytes [.int .i64 p.1, .int .i64 p.2.1, .int .i64 p.2.2])
set_option maxRecDepth 100000 in
theorem cell_key (x y z : Int) (hx : (Lit.int .i64 x).wf = true) (hy : (Lit.int .i64 y).wf = true) (hz : (Lit.int .i64 z).wf = true) : keyOf Tryz.prog 26 (.agg #[.int .i64 (x), .int .i64 (y), .int .i64 (z)]) = some (cellKey (x, y, z)) := by
  obtain ⟨fs, hu, hn, hm⟩ := under_cell
  obtain ⟨k, hk⟩ := types_some
  have hl : (Tryz.prog.keyLits (k + 1 + 1) 26 [.int .i64 x, .int .i64 y, .int .i64 z]) = some [.int .i64 x, .int .i64 y, .int .i64 z] := by
    unfold Program.keyLits
    rw [hu]
    simp only
    rw [if_pos ⟨by rw [cell_cells]; rfl, hn⟩]
    obtain ⟨l⟩ := fs
    simp only at hm
    match l, hm with
    | [f0, f1, f2], hm =>
      simp only [List.map_cons, List.map_nil, List.cons.injEq, Prod.mk.injEq, and_true] at hm
      obtain ⟨⟨a0, b0⟩, ⟨a1, b1⟩, a2, b2⟩ := hm
      simp [List.mapM_cons, a0, b0, a1, b1, a2, b2, int_cells, key_int k x hx, key_int k y hy, key_int k z hz]
  unfold keyOf
  rw [hu, hk]
  simp only
  rw [cell_type, show (Value.agg #[.int .i64 x, .int .i64 y, .int .i64 z]).formed Tryz.prog 26 = true by simp [Value.formed, hu, cell_cells]]
  simp only [Bool.and_self, if_true, Value.cells]
  rw [hl]
  rfl
end Go.Proofs.YtadkaplafaeebaaGreatDoor
/-
  The iterator over the cells that touch a cell, whose elements are known to be small (a map's keys).
-/
set_option linter.unusedVariables false
set_option linter.unusedSimpArgs false
namespace Go.Proofs.YtadkaplafaeebaaGreatDoor
open Go Go.RowKit Go.Shelf

attribute [local go_sem] Oper.semAt_some

abbrev P3 := { p : I3 // Sm3 1001 p }
set_option maxRecDepth 100000 in
set_option maxHeartbeats 4000000 in
theorem touch1S_in (n : Nat) (hn : 1 ≤ n) (l Bn n₀ B0 : Nat) (x y z : Int) (hs : Sm3 1000 (x, y, z)) (J Jx : List P3 → World → Prop) (hA : AbidesFrom B0 J)
    (hY : ∀ pre x W, J pre W → pre.length < 27 → YieldAt Fence.wide (n - 1) Tryz.prog l #[encI x.1] W fun e W' =>
      (e = .returned (.bool true) ∧ J (pre ++ [x]) W' ∧ KeepB n₀ Bn W W') ∨ (e = .returned (.bool false) ∧ Jx (pre ++ [x]) W'))
    (W : World) (hB : BoxC W Bn x y z) (h0 : J [] W) :
    CallsIn Fence.wide n Tryz.prog 152 #[.func (.yield l) #[] #[], .pointer (some ⟨Bn, 0, none⟩)] W fun e W' => (∃ v, e = .returned v) ∧
      ((∃ ys, ys.map Subtype.val = touchL (x, y, z) ∧ J ys W') ∨ (∃ pre, pre.map Subtype.val <+: touchL (x, y, z) ∧ Jx pre W')) := by
  unfold Sm3 at hs
  simp only at hs
  obtain ⟨s1, s2, s3, s4, s5, s6⟩ := hs
  refine callsIn_of_wp Tryz.func152 rfl trivial ?_ rfl
  simp only [Tryz.ntmps152, List.size_toArray, List.length_cons, List.length_nil, Nat.reduceAdd, Nat.reduceSub, Array.replicate_succ, Array.replicate_zero, List.push_toArray, List.append_toArray, List.nil_append, List.cons_append]
  have c2 := hB.c2
  gi_wp2
  clear c2
  gi_loopw [3] (fun c wr => ∃ (k : Nat) (pre : List P3), k ≤ 3 ∧ c = .int .i64 (z - 1 + k) ∧ Hid (touchL (x, y, z) = pre.map Subtype.val ++ allT x y z k) ∧ J pre wr ∧ BoxC wr Bn x y z) (fun c _ => (z + 2 - intOf c).toNat)
  case atStart => exact ⟨0, [], by omega, by simp, Lib.hid rfl, h0, hB⟩
  case round =>
    clear hB h0
    obtain ⟨k, pre, hk, rfl, HT, hJ, hB⟩ := hrel
    have c0 := hB.c0
    have c1 := hB.c1
    have c2 := hB.c2
    by_cases hlt : k < 3
    · have hd : decide (z - 1 + (k : Int) ≤ z + 1) = true := decide_eq_true (by omega)
      gi_wp2
      clear c0 c1 c2
      obtain ⟨wo, rfl⟩ : ∃ wo : World, wo = wr := ⟨_, rfl⟩
      gi_loopw [4] (fun c wr => ∃ (j : Nat) (pre : List P3), j ≤ 3 ∧ c = .int .i64 (y - 1 + j) ∧ Hid (touchL (x, y, z) = pre.map Subtype.val ++ (planeT x y (z - 1 + k) j ++ allT x y z (k + 1))) ∧ J pre wr ∧ BoxC wr Bn x y z) (fun c _ => (y + 2 - intOf c).toNat)
      case atStart => exact ⟨0, pre, by omega, by simp, Lib.hid (by rw [HT.out, allT_succ x y z hlt]), hJ, hB⟩
      case round =>
        clear hJ hB HT pre
        obtain ⟨j, pre, hj, rfl, HT, hJ, hB⟩ := hrel
        have c0 := hB.c0
        have c1 := hB.c1
        have c2 := hB.c2
        by_cases hlt2 : j < 3
        · have hd2 : decide (y - 1 + (j : Int) ≤ y + 1) = true := decide_eq_true (by omega)
          gi_wp2
          clear c0 c1 c2
          obtain ⟨wp, rfl⟩ : ∃ wp : World, wp = wr := ⟨_, rfl⟩
          gi_loopw [5] (fun c wr => ∃ (i : Nat) (pre : List P3), i ≤ 3 ∧ c = .int .i64 (x - 1 + i) ∧ Hid (touchL (x, y, z) = pre.map Subtype.val ++ (rowT x (y - 1 + j) (z - 1 + k) i ++ (planeT x y (z - 1 + k) (j + 1) ++ allT x y z (k + 1)))) ∧ J pre wr ∧ BoxC wr Bn x y z) (fun c _ => (x + 2 - intOf c).toNat)
          case atStart => exact ⟨0, pre, by omega, by simp, Lib.hid (by rw [HT.out, planeT_succ x y _ hlt2]; simp), hJ, hB⟩
          case round =>
            clear hJ hB HT pre
            obtain ⟨i, pre, hi, rfl, HT, hJ, hB⟩ := hrel
            have c0 := hB.c0
            have c1 := hB.c1
            have c2 := hB.c2
            by_cases hlt3 : i < 3
            · have hd3 : decide (x - 1 + (i : Int) ≤ x + 1) = true := decide_eq_true (by omega)
              have hP := Lib.hid (show Sm3 1001 (x - 1 + (i : Int), y - 1 + (j : Int), z - 1 + (k : Int)) by unfold Sm3; simp only; omega)
              have HR := Lib.hid (show touchL (x, y, z) = (pre ++ [(⟨(x - 1 + (i : Int), y - 1 + (j : Int), z - 1 + (k : Int)), hP.out⟩ : P3)]).map Subtype.val ++ (rowT x (y - 1 + j) (z - 1 + k) (i + 1) ++ (planeT x y (z - 1 + k) (j + 1) ++ allT x y z (k + 1))) by rw [HT.out, rowT_succ x _ _ hlt3]; simp)
              have HL : Hid (pre.length < 27) := by
                have h := congrArg List.length HR.out
                rw [touchL_len, List.length_append, List.length_append] at h
                exact Lib.hid (by simp at h; omega)
              obtain ⟨fn, tmps, assign, body, hy, hR⟩ := hY _ ⟨(x - 1 + (i : Int), y - 1 + (j : Int), z - 1 + (k : Int)), hP.out⟩ wr hJ HL.out
              simp only [encI] at hy
              gi_wp2
              refine hR.mono ?_
              clear hR hy c0 c1 c2
              rintro e W1 (⟨rfl, hJ1, hk1⟩ | ⟨rfl, hJx⟩)
              · have hB1 : BoxC W1 Bn x y z := hk1.2 _ hB
                gi_wp2
                go_roundw
                case rel => exact ⟨i + 1, _, by omega, by simp; omega, HR, hJ1, hB1⟩
                case measure => simp [intOf]; omega
              · gi_wp2
                refine bodyPost_ret (results_none rfl _ _ _) rfl ?_
                exact ⟨⟨_, rfl⟩, .inr ⟨_, ⟨_, HR.out.symm⟩, hJx⟩⟩
            · obtain rfl : i = 3 := by omega
              have hd3 : decide (x - 1 + ((3 : Nat) : Int) ≤ x + 1) = false := decide_eq_false (by omega)
              gi_wp2
              go_roundw
              case rel => exact ⟨j + 1, pre, by omega, by simp; omega, Lib.hid (by rw [HT.out]; rfl), hJ, hB⟩
              case measure => simp [intOf]; omega
        · obtain rfl : j = 3 := by omega
          have hd2 : decide (y - 1 + ((3 : Nat) : Int) ≤ y + 1) = false := decide_eq_false (by omega)
          gi_wp2
          go_roundw
          case rel => exact ⟨k + 1, pre, by omega, by simp; omega, Lib.hid (by rw [HT.out]; rfl), hJ, hB⟩
          case measure => simp [intOf]; omega
    · obtain rfl : k = 3 := by omega
      have hd : decide (z - 1 + ((3 : Nat) : Int) ≤ z + 1) = false := decide_eq_false (by omega)
      gi_wp2
      go_end0
      exact ⟨⟨_, rfl⟩, .inl ⟨pre, by rw [HT.out]; simp [allT], hJ⟩⟩
theorem touchS_stops (n : Nat) (hn : 1 ≤ n) (Bn n₀ : Nat) (x y z : Int) (hs : Sm3 1000 (x, y, z)) (w : World) (hB : BoxC w Bn x y z) :
    SeqStopsK Fence.wide n Tryz.prog 152 #[.pointer (some ⟨Bn, 0, none⟩)] (fun x : P3 => #[encI x.1]) (KeepB n₀ Bn) (fun ys : List P3 => ys.map Subtype.val = touchL (x, y, z)) (fun pre : List P3 => pre.map Subtype.val <+: touchL (x, y, z)) 27 w := fun l J Jx W hW hJ _ hY h0 =>
  touch1S_in n hn l Bn n₀ _ x y z hs J Jx hJ hY W (hB.below hW hB.lt) h0
end Go.Proofs.YtadkaplafaeebaaGreatDoor
/-
  A set of points as a map from cells to bools.
-/
set_option linter.unusedVariables false
set_option linter.unusedSimpArgs false
namespace Go.Proofs.YtadkaplafaeebaaGreatDoor
open Go Go.RowKit Go.Shelf
open Go.Maps (Keyed)

theorem under_seen : Tryz.prog.underlying 108 = some (.map 26 4) := by kernel_rfl
theorem under_bool : Tryz.prog.underlying 4 = some .bool := by kernel_rfl
theorem zero_bool (w : World) : (zeroValue 4).run Tryz.prog w = .ok (.bool false) w := by kernel_rfl
theorem wf_sm {x : Int} (h : -1001 ≤ x ∧ x ≤ 1001) : (Lit.int .i64 x).wf = true := by
  have h1 : IntKind.i64.min = -9223372036854775808 := by decide
  have h2 : IntKind.i64.max = 9223372036854775807 := by decide
  simp only [Lit.wf, h1, h2, Bool.and_eq_true, decide_eq_true_eq]
  omega
theorem sm_key {p : I3} (h : Sm3 1001 p) : keyOf Tryz.prog 26 (.agg #[.int .i64 (p.1), .int .i64 (p.2.1), .int .i64 (p.2.2)]) = some (cellKey p) := by
  unfold Sm3 at h
  exact cell_key p.1 p.2.1 p.2.2 (wf_sm ⟨h.1, h.2.1⟩) (wf_sm ⟨h.2.2.1, h.2.2.2.1⟩) (wf_sm ⟨h.2.2.2.2.1, h.2.2.2.2.2⟩)
theorem key_inj {p q : I3} (hp : Sm3 1001 p) (hq : Sm3 1001 q) (h : cellKey p = cellKey q) : p = q := by
  have h1 := sm_key hp
  have h2 := sm_key hq
  rw [h] at h1
  have h3 := cell_law.inj h1 h2
  simp only [Value.agg.injEq, Array.mk.injEq, List.cons.injEq, Value.int.injEq, true_and, and_true] at h3
  obtain ⟨a, b, c⟩ := p
  obtain ⟨d, e, f⟩ := q
  simp_all
/-- The map holds just these points. -/
def Seen (W : World) (b n : Nat) (seen : List I3) : Prop := ∃ D : DataW Unit, W.ownsMap Tryz.prog 26 (plainElem Tryz.prog 4) b n D ∧ ∀ p, Sm3 1001 p → D.atKey (cellKey p) (.lit (.bool false)) = .lit (.bool (decide (p ∈ seen)))
theorem Seen.made (w : World) : Seen (w.alloc (.map #[] 0)) w.heap.size 0 [] := ⟨_, World.ownsMap_made w _ _ _, fun p _ => rfl⟩
theorem Seen.lt {W : World} {b n : Nat} {seen : List I3} (h : Seen W b n seen) : b < W.heap.size := by
  obtain ⟨D, h, _⟩ := h
  exact h.lt
theorem Seen.kept {W W' : World} {b n : Nat} {seen : List I3} (h : Seen W b n seen) {row : Option Nat} (hg : W.grownBy W' row) (hne : some b ≠ row) : Seen W' b n seen := by
  obtain ⟨D, h, k⟩ := h
  exact ⟨D, h.kept hg hne, k⟩
theorem Seen.look {W : World} {b n : Nat} {seen : List I3} (h : Seen W b n seen) {p : I3} (hp : Sm3 1001 p) : (Instr.lookup 108 (.map (some b)) (.agg #[.int .i64 (p.1), .int .i64 (p.2.1), .int .i64 (p.2.2)]) false).run Tryz.prog W = .ok (.bool (decide (p ∈ seen))) W := by
  obtain ⟨D, h, k⟩ := h
  obtain ⟨v, ps, hrun, hv⟩ := h.lookup cell_keyed under_seen (zero_bool W) (plainElem_bool under_bool false) (sm_key hp)
  rw [k p hp] at hv
  rw [hrun]
  have : v = .bool (decide (p ∈ seen)) := by
    unfold plainElem at hv
    rw [under_bool] at hv
    cases v <;> simp_all
  rw [this]
theorem Seen.put {W : World} {b n : Nat} {seen : List I3} (h : Seen W b n seen) (hn : n < maxLen) {p : I3} (hp : Sm3 1001 p) :
    ∃ W', (Instr.mapUpdate 108 (.map (some b)) (.agg #[.int .i64 (p.1), .int .i64 (p.2.1), .int .i64 (p.2.2)]) (.bool true)).run Tryz.prog W = .ok () W' ∧ Seen W' b (n + 1) (seen ++ [p]) ∧ W.grownBy W' (some b) := by
  obtain ⟨D, h, k⟩ := h
  obtain ⟨W', hrun, h2, h3⟩ := h.update cell_keyed under_seen hn (sm_key hp) (plainElem_bool under_bool true)
  refine ⟨W', hrun, ⟨_, h2, fun q hq => ?_⟩, h3⟩
  by_cases e : q = p
  · subst e
    rw [Go.Maps.atKey_put_same h.isMap (cell_keyed.key (sm_key hq))]
    simp
  · rw [Go.Maps.atKey_put_other (fun hc => e (key_inj hq hp hc)), k q hq]
    simp [e]
end Go.Proofs.YtadkaplafaeebaaGreatDoor
/-
  Euler.
-/
set_option linter.unusedVariables false
set_option linter.unusedSimpArgs false
namespace Go.Proofs.YtadkaplafaeebaaGreatDoor
open Go Go.RowKit Go.Shelf

attribute [local go_sem] Oper.semAt_some

def eulP (p : I3) : Bool := (p.1 + p.2.1 + p.2.2).tmod 2 == 0
def eulStep (s : List I3 × Int) (p : I3) : List I3 × Int := if p ∈ s.1 then s else (s.1 ++ [p], if eulP p then s.2 + 1 else s.2 - 1)
def eulI (s : List I3 × Int) (l : List I3) : List I3 × Int := l.foldl eulStep s
def dbl (c : Cl) : I3 := (2 * ((cX c : Nat) : Int) + 1, 2 * ((cY c : Nat) : Int) + 1, 2 * ((cZ c : Nat) : Int) + 1)
def eulN (l : List Cl) : List I3 × Int := l.foldl (fun s c => eulI s (touchL (dbl c))) ([], 0)
theorem eulI_snoc (s : List I3 × Int) (l : List I3) (p : I3) : eulI s (l ++ [p]) = eulStep (eulI s l) p := by simp [eulI]
theorem eulN_snoc (l : List Cl) (c : Cl) : eulN (l ++ [c]) = eulI (eulN l) (touchL (dbl c)) := by simp [eulN]
def EulB (s : List I3 × Int) (n : Nat) : Prop := s.1.length ≤ n ∧ -(n : Int) ≤ s.2 ∧ s.2 ≤ n
theorem eulStep_b {s : List I3 × Int} {n : Nat} (h : EulB s n) (p : I3) : EulB (eulStep s p) (n + 1) := by
  unfold EulB at *
  unfold eulStep
  by_cases e : p ∈ s.1
  · rw [if_pos e]; omega
  · rw [if_neg e]
    cases eulP p <;> simp <;> omega
theorem eulI_b (l : List I3) : ∀ {s : List I3 × Int} {n : Nat}, EulB s n → EulB (eulI s l) (n + l.length) := by
  induction l with
  | nil => intro s n h; exact h
  | cons p l ih =>
    intro s n h
    rw [List.length_cons, show n + (l.length + 1) = n + 1 + l.length by omega]
    exact ih (eulStep_b h p)
theorem eulN_b (l : List Cl) : EulB (eulN l) (27 * l.length) := by
  have key : ∀ (l : List Cl) (s : List I3 × Int) (n : Nat), EulB s n → EulB (l.foldl (fun s c => eulI s (touchL (dbl c))) s) (n + 27 * l.length) := by
    intro l
    induction l with
    | nil => intro s n h; exact h
    | cons c l ih =>
      intro s n h
      rw [List.foldl_cons, List.length_cons, show n + 27 * (l.length + 1) = n + 27 + 27 * l.length by omega]
      refine ih _ _ ?_
      have h2 := eulI_b (touchL (dbl c)) h
      rw [touchL_len] at h2
      exact h2
  have h := key l ([], 0) 0 (by unfold EulB; simp)
  rw [Nat.zero_add] at h
  exact h
theorem dbl_sm (c : Cl) : Sm3 1000 (dbl c) := by
  have h1 := X_le c; have h2 := Y_le c; have h3 := Z_le c
  unfold Sm3 dbl
  simp only
  omega
/-- Euler's number. -/
def eulF (f : Sol) : Int := (eulN (cellsL f)).2
theorem own_seen {β : Type} {b D : Nat} (hb : b < D) (n : β → Nat) (s : β → List I3) : OwnFrom D (fun (x : β) W => Seen W b (n x) (s x)) := fun x X Y row h hg hr =>
  h.kept hg (fun e => by have := (hr b e.symm).1; omega)

set_option maxRecDepth 100000 in
set_option maxHeartbeats 4000000 in
theorem euler_ok (f : Sol) (w : World) (hf : Fit f) (hT : Tab64 w) :
    Calls Tryz.prog 76 #[sol f] w fun e w' => e = .returned (.int .i64 (eulF f)) ∧ Below w.heap.size w w' := by
  have HF := Lib.hid hf
  have HTT := Lib.hid hT
  clear hf hT
  have hmm : ∀ (w : World), (Instr.makeMap 108 none).run Tryz.prog w = .ok (.map (some w.heap.size)) (w.alloc (.map #[] 0)) := fun _ => rfl
  refine (callsIn_wide (n := 7)).1 ?_
  refine callsIn_of_wp_marks Tryz.func76 rfl trivial ?_ rfl
  simp only [Tryz.ntmps76, List.size_toArray, List.length_cons, List.length_nil, Nat.reduceAdd, Nat.reduceSub, Array.replicate_succ, Array.replicate_zero, List.push_toArray, List.append_toArray, List.nil_append, List.cons_append]
  gi_wp2_with (refine ⟨trivial, ?_⟩; gi_at_call 94; refine (cells_in _ f _).mono ?_; rintro e w1 ⟨rfl, rfl⟩)
  have bM : Boxed (((((w.alloc (.cells (solC f) 24)).alloc (.map #[] 0)).alloc (.cells #[.map (some (w.heap.size + 1))] 108)).alloc (.cells #[.int .i64 0] 3)).alloc (.cells (solC f) 24)) (w.heap.size + 1 + 1) 108 (.map (some (w.heap.size + 1))) := ((boxed_at (by simp)).alloc _).alloc _
  have bN : Boxed (((((w.alloc (.cells (solC f) 24)).alloc (.map #[] 0)).alloc (.cells #[.map (some (w.heap.size + 1))] 108)).alloc (.cells #[.int .i64 0] 3)).alloc (.cells (solC f) 24)) (w.heap.size + 1 + 1 + 1) 3 (.int .i64 0) := (boxed_at (by simp)).alloc _
  have bR : BoxS (((((w.alloc (.cells (solC f) 24)).alloc (.map #[] 0)).alloc (.cells #[.map (some (w.heap.size + 1))] 108)).alloc (.cells #[.int .i64 0] 3)).alloc (.cells (solC f) 24)) (w.heap.size + 1 + 1 + 1 + 1) f := BoxS.new' (by simp)
  have sM : Seen (((((w.alloc (.cells (solC f) 24)).alloc (.map #[] 0)).alloc (.cells #[.map (some (w.heap.size + 1))] 108)).alloc (.cells #[.int .i64 0] 3)).alloc (.cells (solC f) 24)) (w.heap.size + 1) 0 [] := by
    have h := Seen.made (w.alloc (.cells (solC f) 24))
    rw [World.size_alloc] at h
    exact ((h.kept (World.grownBy_alloc _ _ none) (by simp)).kept (World.grownBy_alloc _ _ none) (by simp)).kept (World.grownBy_alloc _ _ none) (by simp)
  have hB0 : Below w.heap.size w (((((w.alloc (.cells (solC f) 24)).alloc (.map #[] 0)).alloc (.cells #[.map (some (w.heap.size + 1))] 108)).alloc (.cells #[.int .i64 0] 3)).alloc (.cells (solC f) 24)) := by repeat' (first | (with_reducible exact Below.refl _ _) | (with_reducible assumption) | (with_reducible refine Below.alloc ?_ ?_ _) | (with_reducible refine Below.drew ?_) | (with_reducible refine below_drewN ?_ _) | (with_reducible refine Below.setCell ?_ ?_ _) | go_size)
  have hsz : (((((w.alloc (.cells (solC f) 24)).alloc (.map #[] 0)).alloc (.cells #[.map (some (w.heap.size + 1))] 108)).alloc (.cells #[.int .i64 0] 3)).alloc (.cells (solC f) 24)).heap.size = w.heap.size + 5 := by simp
  obtain ⟨W0, hW0⟩ : ∃ W0, W0 = (((((w.alloc (.cells (solC f) 24)).alloc (.map #[] 0)).alloc (.cells #[.map (some (w.heap.size + 1))] 108)).alloc (.cells #[.int .i64 0] 3)).alloc (.cells (solC f) 24)) := ⟨_, rfl⟩
  rw [← hW0] at bM bN bR sM hB0 hsz ⊢
  clear hW0
  refine wpIn_rangeFunc_ownH rfl (by omega) (gf := 137) (lb := #[.pointer (some ⟨w.heap.size + 1 + 1 + 1 + 1, 0, none⟩)]) rfl trivial (enters_of Tryz.func137 (by kernel_rfl) rfl)
    (cells_stops _ (by omega) (w.heap.size + 1 + 1 + 1 + 1) w.heap.size f HF.out W0 (HTT.out.below hB0 (Nat.le_refl _)) bR HTT.out.pos) belowK_t (belowK_b (by omega)) (Below.refl _ _) (fun _ => rfl)
    (fun (pre : List Cl) W => Boxed W (w.heap.size + 1 + 1) 108 (.map (some (w.heap.size + 1))) ∧ Boxed W (w.heap.size + 1 + 1 + 1) 3 (.int .i64 (eulN pre).2) ∧ Seen W (w.heap.size + 1) (eulN pre).1.length (eulN pre).1 ∧ Below w.heap.size w W)
    (fun _ _ _ => False)
    (OwnFrom.and (own_block _ _ _ rfl) (OwnFrom.and (own_block' _ _ (fun pre : List Cl => .cells #[.int .i64 (eulN pre).2] 3 (0, 0)) fun _ => rfl) (OwnFrom.and (own_seen (by omega) (fun pre : List Cl => (eulN pre).1.length) fun pre => (eulN pre).1) (ownFrom_below (Nat.le_refl _) (by omega)))))
    (fun _ _ _ _ _ hs _ _ => hs)
    ⟨bM, bN, sM, hB0⟩
    (fun (x : Cl) a' W => ∃ Bx, w.heap.size + 1 + 1 + 1 < Bx ∧ BoxC W Bx (cX x : Nat) (cY x : Nat) (cZ x : Nat) ∧ a' = { tmps := #[sol f, .pointer (some ⟨w.heap.size, 0, none⟩), .int .i64 0, .pointer (some ⟨w.heap.size + 1 + 1, 0, none⟩), .pointer (some ⟨w.heap.size + 1 + 1 + 1, 0, none⟩), .pointer (some ⟨Bx, 0, none⟩), undef, .map (some (w.heap.size + 1)), sol f, .func (.func 137) #[] #[.pointer (some ⟨w.heap.size + 1 + 1 + 1 + 1, 0, none⟩)], cell x, undef, undef, undef, undef, undef, undef, undef, undef, undef, undef, undef, undef, undef, undef, undef, undef, undef, undef, undef, undef, undef, undef, undef, undef, undef, undef, undef, undef, undef, undef, undef, undef, undef, undef, undef], defers := [] })
    (fun x a' s X Y row ⟨Bx, h1, h2, h3⟩ hg hr => ⟨Bx, h1, own_block (β := Unit) _ _ _ rfl () X Y row h2 hg hr, h3⟩) ?assign ?body ?done ?stop
  case assign =>
    rintro l pre x W K ⟨i1, i2, i3, i4⟩ hK
    gi_wp2
    have hsW := i4.size
    have lx : w.heap.size + 1 + 1 + 1 < W.heap.size := (Array.getElem?_eq_some_iff.1 i2).1
    exact hK _ _ ((KeepsOthers.alloc _ _).from _) ((Below.refl _ W).alloc hsW _) ⟨i1.alloc _, i2.alloc _, i3.kept (World.grownBy_alloc _ _ none) (by simp), i4.alloc hsW _⟩ ⟨W.heap.size, lx, BoxC.new rfl, rfl⟩
  case body =>
    rintro l pre x a' W hl ⟨r, hr⟩ ⟨i1, i2, i3, i4⟩ ⟨Bx, hBx, bX, rfl⟩ hlt
    have c0 := bX.c0
    have c1 := bX.c1
    have c2 := bX.c2
    have hx := X_le x
    have hy := Y_le x
    have hz := Z_le x
    have hsW := i4.size
    have lB := bX.lt
    have hlen := cellsL_len f
    have hb := eulN_b pre
    have HS := Lib.hid (eulN_snoc pre x)
    obtain ⟨t, ht⟩ : ∃ t, t = eulN pre := ⟨_, rfl⟩
    rw [← ht] at i2 i3 hb HS
    clear ht
    gi_wp2_with (refine ⟨trivial, ?_⟩; gi_at_call 123; refine (CallsIn.inRound l (touching_in _ _ _ _ _)).mono ?_; rintro e w' ⟨rfl, rfl⟩)
    have bY : BoxC (W.alloc (.cells #[.int .i64 (2 * ((cX x : Nat) : Int) + 1), .int .i64 (2 * ((cY x : Nat) : Int) + 1), .int .i64 (2 * ((cZ x : Nat) : Int) + 1)] 26)) W.heap.size (2 * ((cX x : Nat) : Int) + 1) (2 * ((cY x : Nat) : Int) + 1) (2 * ((cZ x : Nat) : Int) + 1) := BoxC.new rfl
    have hr' : (W.alloc (.cells #[.int .i64 (2 * ((cX x : Nat) : Int) + 1), .int .i64 (2 * ((cY x : Nat) : Int) + 1), .int .i64 (2 * ((cZ x : Nat) : Int) + 1)] 26)).heap[l]? = some (.loop r) := (Below.heap_alloc W _ l (Array.getElem?_eq_some_iff.1 hr).1).trans hr
    refine wpIn_rangeFunc_ownN (l₀ := l) (r₀ := r) rfl hr' (by omega) (gf := 152) (lb := #[.pointer (some ⟨W.heap.size, 0, none⟩)]) rfl trivial (enters_of Tryz.func152 (by kernel_rfl) rfl)
      ((touchS_stops _ (by omega) W.heap.size w.heap.size _ _ _ (dbl_sm x) _ bY).inRound l) keepB_t (keepB_b (by simp; omega) (by simp)) (Below.refl _ _) (fun _ => rfl)
      (fun (pre' : List P3) W' => Boxed W' (w.heap.size + 1 + 1) 108 (.map (some (w.heap.size + 1))) ∧ Boxed W' (w.heap.size + 1 + 1 + 1) 3 (.int .i64 (eulI t (pre'.map Subtype.val)).2) ∧ Seen W' (w.heap.size + 1) (eulI t (pre'.map Subtype.val)).1.length (eulI t (pre'.map Subtype.val)).1 ∧ Below w.heap.size W W' ∧ KeepsFrom W0.heap.size W W')
      (fun _ _ _ => False)
      (OwnFrom.and (own_block _ _ _ rfl) (OwnFrom.and (own_block' _ _ (fun pre' : List P3 => .cells #[.int .i64 (eulI t (pre'.map Subtype.val)).2] 3 (0, 0)) fun _ => rfl) (OwnFrom.and (own_seen (by simp; omega) (fun pre' : List P3 => (eulI t (pre'.map Subtype.val)).1.length) fun pre' => (eulI t (pre'.map Subtype.val)).1) (OwnFrom.and (ownFrom_below hsW (by simp; omega)) (ownFrom_keepsFrom (by simp))))))
      (fun _ _ _ _ _ hs _ _ => hs)
      ⟨i1.alloc _, i2.alloc _, i3.kept (World.grownBy_alloc _ _ none) (by simp), (Below.refl _ W).alloc hsW _, (KeepsOthers.alloc _ _).from _⟩
      (fun (y : P3) a'' W' => ∃ By, w.heap.size + 1 + 1 + 1 < By ∧ BoxC W' By y.1.1 y.1.2.1 y.1.2.2 ∧ a'' = { tmps := #[sol f, .pointer (some ⟨w.heap.size, 0, none⟩), .int .i64 0, .pointer (some ⟨w.heap.size + 1 + 1, 0, none⟩), .pointer (some ⟨w.heap.size + 1 + 1 + 1, 0, none⟩), .pointer (some ⟨Bx, 0, none⟩), .pointer (some ⟨By, 0, none⟩), .map (some (w.heap.size + 1)), sol f, .func (.func 137) #[] #[.pointer (some ⟨w.heap.size + 1 + 1 + 1 + 1, 0, none⟩)], cell x,
        .pointer (some ⟨Bx, 0, none⟩), .int .i64 (cX x : Nat), .int .i64 (2 * ((cX x : Nat) : Int)), .int .i64 (2 * ((cX x : Nat) : Int) + 1), .pointer (some ⟨Bx, 1, none⟩), .int .i64 (cY x : Nat), .int .i64 (2 * ((cY x : Nat) : Int)), .int .i64 (2 * ((cY x : Nat) : Int) + 1), .pointer (some ⟨Bx, 2, none⟩), .int .i64 (cZ x : Nat), .int .i64 (2 * ((cZ x : Nat) : Int)), .int .i64 (2 * ((cZ x : Nat) : Int) + 1),
        .agg #[.int .i64 (2 * ((cX x : Nat) : Int) + 1), .int .i64 (2 * ((cY x : Nat) : Int) + 1), .int .i64 (2 * ((cZ x : Nat) : Int) + 1)], .func (.func 152) #[] #[.pointer (some ⟨W.heap.size, 0, none⟩)], encI y.1, undef, undef, undef, undef, undef, undef, undef, undef, undef, undef, undef, undef, undef, undef, undef, undef, undef, undef, undef, undef], defers := [] })
      (fun x a' s X Y row ⟨Bx, h1, h2, h3⟩ hg hr => ⟨Bx, h1, own_block (β := Unit) _ _ _ rfl () X Y row h2 hg hr, h3⟩)
      ?assign2 ?body2 ?done2 ?stop2
    case assign2 =>
      rintro l2 pre' y W' K ⟨j1, j2, j3, j4, j5⟩ hK
      gi_wp2
      have hs' := j4.size
      exact hK _ _ ((KeepsOthers.alloc _ _).from _) ⟨(Below.refl _ W').alloc (by omega) _, fun o ho => (Below.heap_alloc W' _ _ (Array.getElem?_eq_some_iff.1 ho).1).trans ho⟩ ⟨j1.alloc _, j2.alloc _, j3.kept (World.grownBy_alloc _ _ none) (by simp), j4.alloc (by omega) _, j5.trans ((KeepsOthers.alloc _ _).from _)⟩ ⟨W'.heap.size, by omega, BoxC.new rfl, rfl⟩
    case body2 =>
      rintro l2 pre' y a'' W' _ _ ⟨j1, j2, j3, j4, j5⟩ ⟨By, hBy, bY2, rfl⟩ hlt2
      obtain ⟨p, hp⟩ := y
      simp only at bY2
      have d0 := bY2.c0
      have d1 := bY2.c1
      have d2 := bY2.c2
      have cM := j1.cell
      have hb2 := eulI_b (pre'.map Subtype.val) hb
      have HS2 := Lib.hid (show eulI t ((pre' ++ [(⟨p, hp⟩ : P3)]).map Subtype.val) = eulStep (eulI t (pre'.map Subtype.val)) p by rw [List.map_append, List.map_cons, List.map_nil, eulI_snoc])
      rw [List.length_map] at hb2
      obtain ⟨t', ht'⟩ : ∃ t', t' = eulI t (pre'.map Subtype.val) := ⟨_, rfl⟩
      rw [← ht'] at j2 j3 hb2 HS2
      clear ht'
      obtain ⟨sn, nm⟩ := t'
      unfold EulB at hb2
      simp only at j2 j3 hb2
      obtain ⟨hb3, hb4, hb5⟩ := hb2
      have hlk := j3.look hp
      have hs2 := j4.size
      have lM := j3.lt
      have lN : w.heap.size + 1 + 1 + 1 < W'.heap.size := (Array.getElem?_eq_some_iff.1 j2).1
      have lY := bY2.lt
      by_cases hm : p ∈ sn
      · have hd : decide (p ∈ sn) = true := decide_eq_true hm
        rw [hd] at hlk
        have HE := Lib.hid (show eulI t ((pre' ++ [(⟨p, hp⟩ : P3)]).map Subtype.val) = (sn, nm) by rw [HS2.out]; unfold eulStep; rw [if_pos hm])
        clear hd hm
        gi_wp2
        exact ⟨KeepsFrom.refl _ _, ⟨Below.refl _ _, fun _ h => h⟩, j1, by rw [HE.out]; exact j2, by rw [HE.out]; exact j3, j4, j5⟩
      · have hd : decide (p ∈ sn) = false := decide_eq_false hm
        rw [hd] at hlk
        obtain ⟨W2, hput, s2, g2⟩ := j3.put (by simp only [maxLen]; omega) hp
        have cN := (show Boxed W2 (w.heap.size + 1 + 1 + 1) 3 (.int .i64 nm) from (g2.block _ lN (by simp <;> omega)).trans j2)
        have cM2 := (show Boxed W2 (w.heap.size + 1 + 1) 108 (.map (some (w.heap.size + 1))) from (g2.block _ (by omega) (by simp <;> omega)).trans j1)
        have bY3 : BoxC W2 By p.1 p.2.1 p.2.2 := (g2.block _ lY (by simp <;> omega)).trans bY2
        have e0 := bY3.c0
        have e1 := bY3.c1
        have e2 := bY3.c2
        have en := cN.cell
        have fn := cN.frozen
        have hg2 : Below w.heap.size W' W2 := (Below.refl _ W').grown g2 (by omega) (fun j ej => by cases ej; omega)
        have hk2 : ∀ D, w.heap.size + 1 < D → KeepsFrom D W' W2 := fun D hD => KeepsFrom.of_grownBy g2 (fun j ej => by cases ej; omega)
        have hw2 : ∀ o, W'.heap[W.heap.size]? = some o → W2.heap[W.heap.size]? = some o := fun o ho => (g2.block _ (Array.getElem?_eq_some_iff.1 ho).1 (by simp <;> omega)).trans ho
        have hp2 := hp
        unfold Sm3 at hp2
        obtain ⟨q1, q2, q3, q4, q5, q6⟩ := hp2
        have hsn : (sn ++ [p]).length = sn.length + 1 := by simp
        have hlp : (pre'.length : Int) < 27 := by omega
        cases hq : eulP p
        · have hq2 : ((p.1 + p.2.1 + p.2.2).tmod 2 == 0) = false := hq
          have HE := Lib.hid (show eulI t ((pre' ++ [(⟨p, hp⟩ : P3)]).map Subtype.val) = (sn ++ [p], nm - 1) by rw [HS2.out]; unfold eulStep; rw [if_neg hm, hq]; rfl)
          clear hd hm hq
          gi_wp2
          refine ⟨(hk2 _ (by simp <;> omega)).trans ((KeepsOthers.setCell _ _ _).from _), ⟨hg2.setCell (p := ⟨w.heap.size + 1 + 1 + 1, 0, none⟩) (by simp <;> omega) _, fun o ho => (Below.heap_setCell W2 ⟨w.heap.size + 1 + 1 + 1, 0, none⟩ _ _ (by simp <;> omega)).trans (hw2 o ho)⟩, boxed_set cM2 (by omega), by rw [HE.out]; exact cN.set _, ?_, (j4.trans hg2).setCell (p := ⟨w.heap.size + 1 + 1 + 1, 0, none⟩) (by simp <;> omega) _, (j5.trans (hk2 _ (by omega))).trans ((KeepsOthers.setCell _ _ _).from _)⟩
          rw [HE.out]
          simp only [hsn]
          exact s2.kept (grownBy_setCell' W2 (w.heap.size + 1 + 1 + 1) _) (by simp <;> omega)
        · have hq2 : ((p.1 + p.2.1 + p.2.2).tmod 2 == 0) = true := hq
          have HE := Lib.hid (show eulI t ((pre' ++ [(⟨p, hp⟩ : P3)]).map Subtype.val) = (sn ++ [p], nm + 1) by rw [HS2.out]; unfold eulStep; rw [if_neg hm, hq]; rfl)
          clear hd hm hq
          gi_wp2
          refine ⟨(hk2 _ (by simp <;> omega)).trans ((KeepsOthers.setCell _ _ _).from _), ⟨hg2.setCell (p := ⟨w.heap.size + 1 + 1 + 1, 0, none⟩) (by simp <;> omega) _, fun o ho => (Below.heap_setCell W2 ⟨w.heap.size + 1 + 1 + 1, 0, none⟩ _ _ (by simp <;> omega)).trans (hw2 o ho)⟩, boxed_set cM2 (by omega), by rw [HE.out]; exact cN.set _, ?_, (j4.trans hg2).setCell (p := ⟨w.heap.size + 1 + 1 + 1, 0, none⟩) (by simp <;> omega) _, (j5.trans (hk2 _ (by omega))).trans ((KeepsOthers.setCell _ _ _).from _)⟩
          rw [HE.out]
          simp only [hsn]
          exact s2.kept (grownBy_setCell' W2 (w.heap.size + 1 + 1 + 1) _) (by simp <;> omega)
    case done2 =>
      rintro ys' W' hys ⟨j1, j2, j3, j4, j5⟩
      gi_wp2
      have e : eulI t (ys'.map Subtype.val) = eulN (pre ++ [x]) := by rw [HS.out, hys]; rfl
      rw [e] at j2 j3
      exact ⟨j5, j4, j1, j2, j3, i4.trans j4⟩
    case stop2 =>
      rintro c pre' W' _ h
      exact h.elim
  case done =>
    rintro D ys W hD rfl ⟨i1, i2, i3, i4⟩ hK
    have cS := i2.cell
    gi_wp2
    refine ⟨by simp, .inl ⟨_, _, rfl, run_takeDeferred hK, ?_⟩⟩
    exact ⟨_, results_tmp rfl _ _ _, rfl, i4.trans (belowK_b (w := w) (Nat.le_refl _) W D _ _ (by omega) hK rfl rfl)⟩
  case stop =>
    rintro D c pre W _ _ h _
    exact h.elim
end Go.Proofs.YtadkaplafaeebaaGreatDoor
