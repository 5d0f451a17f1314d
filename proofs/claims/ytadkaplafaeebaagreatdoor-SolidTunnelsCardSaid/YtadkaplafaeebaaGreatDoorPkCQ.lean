/-
  turned: a solid with a turn: a range over the cells whose rounds set bits.
-/
import Derived.Test.YtadkaplafaeebaaGreatDoorTurnQ
import Derived.Test.YtadkaplafaeebaaGreatDoorPkBQ
import Derived.Test.YtadkaplafaeebaaGreatDoorPkAQ
set_option linter.unusedVariables false
set_option linter.unusedSimpArgs false
namespace Go.Proofs.YtadkaplafaeebaaGreatDoor
open Go Go.RowKit Go.Shelf

attribute [local go_sem] Oper.semAt_some

theorem own_block {β : Type} (B b : Nat) (o : Obj) (hc : o.isCells = true) : OwnFrom B (fun (_ : β) W => W.heap[b]? = some o) := fun s X Y row hs hg hr =>
  (hg.block b (Array.getElem?_eq_some_iff.1 hs).1 (fun e => by obtain ⟨_, o', ho, hn⟩ := hr b e.symm; rw [hs] at ho; cases ho; rw [hc] at hn; cases hn)).trans hs
theorem own_block' {β : Type} (B b : Nat) (o : β → Obj) (hc : ∀ s, (o s).isCells = true) : OwnFrom B (fun (s : β) W => W.heap[b]? = some (o s)) := fun s X Y row hs hg hr =>
  (hg.block b (Array.getElem?_eq_some_iff.1 hs).1 (fun e => by obtain ⟨_, o', ho, hn⟩ := hr b e.symm; rw [hs] at ho; cases ho; rw [hc] at hn; cases hn)).trans hs

/-- The cell with some coordinates. -/
def ofI (p : I3) : Cl := ⟨(64 * p.2.2.toNat + 8 * p.2.1.toNat + p.1.toNat) % 512, Nat.mod_lt _ (by omega)⟩
def In7 (p : I3) : Prop := 0 ≤ p.1 ∧ p.1 ≤ 7 ∧ 0 ≤ p.2.1 ∧ p.2.1 ≤ 7 ∧ 0 ≤ p.2.2 ∧ p.2.2 ≤ 7
theorem rollI_in7 {p : I3} (h : In7 p) (k : Nat) : In7 (rollI 7 k p) := by
  obtain ⟨x, y, z⟩ := p
  unfold In7 at *
  unfold rollI
  split <;> simp_all <;> omega
theorem upN_in7 {p : I3} (h : In7 p) : ∀ n, In7 (upN 7 n p)
  | 0 => h
  | n + 1 => by
    have := upN_in7 h n
    unfold In7 at *
    unfold upN upI
    simp only
    omega
theorem turnI_in7 {p : I3} (h : In7 p) (t : Nat) : In7 (turnI 7 t p) := upN_in7 (rollI_in7 h _) _
theorem ofI_val {p : I3} (h : In7 p) : (ofI p).1 = 64 * p.2.2.toNat + 8 * p.2.1.toNat + p.1.toNat := by
  unfold In7 at h
  exact Nat.mod_eq_of_lt (by omega)
theorem ofI_x {p : I3} (h : In7 p) : ((cX (ofI p) : Nat) : Int) = p.1 := by unfold cX; rw [ofI_val h]; unfold In7 at h; omega
theorem ofI_y {p : I3} (h : In7 p) : ((cY (ofI p) : Nat) : Int) = p.2.1 := by unfold cY; rw [ofI_val h]; unfold In7 at h; omega
theorem ofI_z {p : I3} (h : In7 p) : ((cZ (ofI p) : Nat) : Int) = p.2.2 := by unfold cZ; rw [ofI_val h]; unfold In7 at h; omega
abbrev toI (c : Cl) : I3 := ((cX c : Nat), (cY c : Nat), (cZ c : Nat))
theorem toI_in7 (c : Cl) : In7 (toI c) := by
  have := X_le c
  have := Y_le c
  have := Z_le c
  unfold In7 toI
  simp only
  omega
def turnC (t : Nat) (c : Cl) : Cl := ofI (turnI 7 t (toI c))
/-- A solid with a cell more. -/
def setC (g : Sol) (c : Cl) : Sol := up8 g (cZ c) (g (cZ c) ||| bitN (cX c) (cY c))
def solOf (l : List Cl) : Sol := l.foldl setC (fun _ => 0)
def turnedF (f : Sol) (t : Nat) : Sol := solOf ((cellsL f).map (turnC t))
theorem bit_lt {x y : Nat} (hx : x ≤ 7) (hy : y ≤ 7) : bitN x y < 18446744073709551616 := Nat.pow_lt_pow_right (a := 2) (m := 8 * y + x) (n := 64) (by decide) (by omega)
theorem boxed_at {W : World} {n : Nat} {t : TypeId} {v : Value} (h : n = W.heap.size) : Boxed (W.alloc (.cells #[v] t)) n t v := by subst h; exact Boxed.new W t v
theorem boxed_set {W : World} {B b o : Nat} {t : TypeId} {v u : Value} (h : Boxed W B t v) (hne : B ≠ b) : Boxed (W.setCell ⟨b, o, none⟩ u) B t v := (Below.heap_setCell W ⟨b, o, none⟩ u B hne).trans h
theorem keeps_put8 (W : World) (B : Nat) (g : Sol) : KeepsOthers W (put8 W B g) := (((((((KeepsOthers.setCell _ _ _).trans (KeepsOthers.setCell _ _ _)).trans (KeepsOthers.setCell _ _ _)).trans (KeepsOthers.setCell _ _ _)).trans (KeepsOthers.setCell _ _ _)).trans (KeepsOthers.setCell _ _ _)).trans (KeepsOthers.setCell _ _ _)).trans (KeepsOthers.setCell _ _ _)
theorem below_put8 {B0 : Nat} {a W : World} (h : Below B0 a W) {B : Nat} (hB : B0 ≤ B) (g : Sol) : Below B0 a (put8 W B g) :=
  (((((((h.setCell (p := ⟨B, 0, none⟩) hB _).setCell (p := ⟨B, 1, none⟩) hB _).setCell (p := ⟨B, 2, none⟩) hB _).setCell (p := ⟨B, 3, none⟩) hB _).setCell (p := ⟨B, 4, none⟩) hB _).setCell (p := ⟨B, 5, none⟩) hB _).setCell (p := ⟨B, 6, none⟩) hB _).setCell (p := ⟨B, 7, none⟩) hB _
theorem keeps_below {B : Nat} {W W' : World} (h : Below W.heap.size W W') : KeepsFrom B W W' := ⟨h.size, fun k o _ hk _ => (h.block k (Array.getElem?_eq_some_iff.1 hk).1).trans hk⟩
theorem setC_fit {g : Sol} (h : Fit g) (c : Cl) : Fit (setC g c) := fun i => by
  unfold setC up8
  by_cases hi : i = cZ c
  · rw [if_pos hi]; exact Nat.or_lt_two_pow (n := 64) (h _) (bit_lt (X_le c) (Y_le c))
  · rw [if_neg hi]; exact h i
theorem foldl_fit (l : List Cl) : ∀ {g : Sol}, Fit g → Fit (l.foldl setC g) := by
  induction l with
  | nil => exact fun h => h
  | cons c l ih => exact fun h => ih (setC_fit h c)
theorem fit0 : Fit (fun _ => 0) := fun _ => show 0 < 18446744073709551616 by omega
theorem solOf_fit (l : List Cl) : Fit (solOf l) := foldl_fit l fit0
theorem solOf_snoc (l : List Cl) (c : Cl) : solOf (l ++ [c]) = setC (solOf l) c := by unfold solOf; rw [List.foldl_append]; rfl

theorem turnC_ok (t : Nat) (c : Cl) (w : World) (ht : t < 24) : Calls Tryz.prog 107 #[.int .i64 7, cell c, .int .i64 t] w fun e w' => e = .returned (cell (turnC t c)) ∧ Below w.heap.size w w' := by
  have h := turnI_in7 (toI_in7 c) t
  have hs : Sm3 30 (((cX c : Nat) : Int), ((cY c : Nat) : Int), ((cZ c : Nat) : Int)) := by
    have := toI_in7 c
    unfold In7 toI at this
    unfold Sm3
    simp only at *
    omega
  refine (turn_ok 7 t _ _ _ w ht (by omega) (by omega) hs).mono ?_
  rintro e w' ⟨rfl, hb⟩
  refine ⟨?_, hb⟩
  unfold cell turnC
  rw [ofI_x h, ofI_y h, ofI_z h]

set_option maxRecDepth 100000 in
set_option maxHeartbeats 4000000 in
theorem turned_ok (f : Sol) (t : Nat) (w : World) (hf : Fit f) (ht : t < 24) (hT : Tab64 w) :
    Calls Tryz.prog 100 #[sol f, .int .i64 t] w fun e w' => e = .returned (sol (turnedF f t)) ∧ Below w.heap.size w w' := by
  have HF := Lib.hid hf
  have HTT := Lib.hid hT
  clear hf hT
  refine (callsIn_wide (n := 5)).1 ?_
  refine callsIn_of_wp_marks Tryz.func100 rfl trivial ?_ rfl
  simp only [Tryz.ntmps100, List.size_toArray, List.length_cons, List.length_nil, Nat.reduceAdd, Nat.reduceSub, Array.replicate_succ, Array.replicate_zero, List.push_toArray, List.append_toArray, List.nil_append, List.cons_append]
  gi_wp2_with (refine ⟨trivial, ?_⟩; gi_at_call 94; refine (cells_in _ f _).mono ?_; rintro e w1 ⟨rfl, rfl⟩)
  refine wpIn_rangeFunc_ownH rfl (by omega) (gf := 137) (lb := #[.pointer (some ⟨w.heap.size + 1 + 1 + 1 + 1, 0, none⟩)]) rfl trivial (enters_of Tryz.func137 (by kernel_rfl) rfl)
    (cells_stops _ (by omega) (w.heap.size + 1 + 1 + 1 + 1) w.heap.size f HF.out _ (HTT.out.below (n := w.heap.size) (by repeat' (first | (with_reducible exact Below.refl _ _) | (with_reducible assumption) | (with_reducible refine Below.alloc ?_ ?_ _) | (with_reducible refine Below.drew ?_) | (with_reducible refine below_drewN ?_ _) | (with_reducible refine Below.setCell ?_ ?_ _) | go_size)) (Nat.le_refl _)) (BoxS.new' (by simp)) HTT.out.pos) belowK_t (belowK_b (by simp; omega)) (Below.refl _ _) (fun _ => rfl)
    (fun (pre : List Cl) W => BoxS W (w.heap.size + 1 + 1 + 1) (solOf (pre.map (turnC t))) ∧ Boxed W (w.heap.size + 1) 3 (.int .i64 t) ∧ BoxS W (w.heap.size + 1 + 1) (fun _ => 0) ∧ Below w.heap.size w W)
    (fun _ _ _ => False)
    (OwnFrom.and (own_block' _ _ (fun pre : List Cl => .cells (solC (solOf (pre.map (turnC t)))) 24 (0, 0)) fun _ => rfl) (OwnFrom.and (own_block _ _ _ rfl) (OwnFrom.and (own_block _ _ _ rfl) (ownFrom_below (Nat.le_refl _) (by simp; omega)))))
    (fun _ _ _ _ _ hs _ _ => hs)
    ⟨(BoxS.zero (by simp)).alloc _, (((boxed_at (by simp)).alloc _).alloc _).alloc _, ((BoxS.zero (by simp)).alloc _).alloc _, by repeat' (first | (with_reducible exact Below.refl _ _) | (with_reducible assumption) | (with_reducible refine Below.alloc ?_ ?_ _) | (with_reducible refine Below.drew ?_) | (with_reducible refine below_drewN ?_ _) | (with_reducible refine Below.setCell ?_ ?_ _) | go_size)⟩
    (fun (x : Cl) a' W => ∃ Bx, w.heap.size + 1 + 1 + 1 < Bx ∧ BoxC W Bx (cX x : Nat) (cY x : Nat) (cZ x : Nat) ∧ a' = { tmps := #[sol f, .int .i64 t, .pointer (some ⟨w.heap.size, 0, none⟩), .pointer (some ⟨w.heap.size + 1, 0, none⟩), .pointer (some ⟨w.heap.size + 1 + 1, 0, none⟩), .pointer (some ⟨w.heap.size + 1 + 1 + 1, 0, none⟩), .pointer (some ⟨Bx, 0, none⟩), undef, sol f, .func (.func 137) #[] #[.pointer (some ⟨w.heap.size + 1 + 1 + 1 + 1, 0, none⟩)], cell x, undef, undef, undef, undef, undef, undef, undef, undef, undef, undef, undef, undef], defers := [] })
    (fun x a' s X Y row ⟨Bx, h1, h2, h3⟩ hg hr => ⟨Bx, h1, own_block (β := Unit) _ _ _ rfl () X Y row h2 hg hr, h3⟩) ?assign ?body ?done ?stop
  case assign =>
    rintro l pre x W K ⟨i1, i2, i3, i4⟩ hK
    gi_wp2
    have hsz := i4.size
    have lx := i1.lt
    exact hK _ _ ((KeepsOthers.alloc _ _).from _) ((Below.refl _ W).alloc hsz _) ⟨i1.alloc _, i2.alloc _, i3.alloc _, i4.alloc hsz _⟩ ⟨W.heap.size, lx, BoxC.new rfl, rfl⟩
  case body =>
    rintro l pre x a' W hl ⟨r, hr⟩ ⟨i1, i2, i3, i4⟩ ⟨Bx, hBx, bX, rfl⟩ hlt
    have c0 := bX.c0
    have c1 := bX.c1
    have c2 := bX.c2
    have ct := i2.cell
    have lx := bX.lt
    gi_wp2_with (refine ⟨trivial, ?_⟩; gi_at_call 107; refine (CallsIn.inRound l (callsIn_wide.2 (turnC_ok t x _ ht))).mono ?_; rintro e w1 ⟨rfl, hb1⟩; obtain ⟨hc1, hf1⟩ := bcell hb1)
    obtain ⟨d, hd⟩ : ∃ d, d = turnC t x := ⟨_, rfl⟩
    rw [← hd]
    have hx := X_le d
    have hy := Y_le d
    have hz := Z_le d
    have hsz := i4.size
    have l1 := hb1.size
    have j1 := i1.below hb1 i1.lt
    have j2 := (show Boxed w1 _ _ _ from (hb1.block _ i2.lt).trans i2)
    have j3 := i3.below hb1 i3.lt
    have hBW := i4.trans (hb1.mono hsz)
    obtain ⟨W2, hW2⟩ : ∃ W2, W2 = w1.alloc (.cells #[.int .i64 ((cX d : Nat) : Int), .int .i64 ((cY d : Nat) : Int), .int .i64 ((cZ d : Nat) : Int)] 26) := ⟨_, rfl⟩
    have nB : BoxC W2 w1.heap.size (cX d : Nat) (cY d : Nat) (cZ d : Nat) := by rw [hW2]; exact BoxC.new rfl
    have k1 : BoxS W2 (w.heap.size + 1 + 1 + 1) (solOf (pre.map (turnC t))) := by rw [hW2]; exact j1.alloc _
    have k2 : Boxed W2 (w.heap.size + 1) 3 (.int .i64 t) := by rw [hW2]; exact j2.alloc _
    have k3 : BoxS W2 (w.heap.size + 1 + 1) (fun _ => 0) := by rw [hW2]; exact j3.alloc _
    have k4 : Below w.heap.size w W2 := by rw [hW2]; exact hBW.alloc (by omega) _
    have k5 : Below W.heap.size W W2 := by rw [hW2]; exact hb1.alloc l1 _
    have k6 : Below w.heap.size W W2 := by rw [hW2]; exact (hb1.mono hsz).alloc (by omega) _
    rw [← hW2]
    have n0 := nB.c0
    have n1 := nB.c1
    have n2 := nB.c2
    have ln := nB.lt
    have lk := k1.lt
    have v1 := k1.cell (k := cZ d) (by omega)
    have v2 := k1.free (cZ d)
    obtain ⟨G, hG⟩ : ∃ G, G = solOf (pre.map (turnC t)) := ⟨_, rfl⟩
    rw [← hG] at v1
    have hGF : G (cZ d) < 18446744073709551616 := by rw [hG]; exact solOf_fit _ _
    have hor := bits_or hGF (bit_lt hx hy)
    clear c0 c1 c2 ct hc1 hf1 hW2
    have HD := Lib.hid hd
    clear hd
    have hmx : Tryz.prog.follows .mixedOrders = true := by kernel_rfl
    gi_region_with_o (refine ⟨trivial, ?_⟩; gi_at_call 91; (with_reducible refine CallsIn.mono (CallsIn.inRound l (callsIn_wide.2 (bit_ok (cX d) (cY d) _ _ hx hy))) ?_); rintro e w3 ⟨rfl, hb3⟩; replace hb3 := below_undrew hb3; obtain ⟨hc3, hf3⟩ := bcell hb3)
    all_goals
      gi_wp2
      rw [← hG, hor]
      have m1 : BoxS w3 (w.heap.size + 1 + 1 + 1) G := by rw [hG]; exact k1.below hb3 lk
      have m2 := boxed_set (b := w.heap.size + 1 + 1 + 1) (o := cZ d) (u := .int .u64 ((G (cZ d) ||| bitN (cX d) (cY d) : Nat) : Int)) (show Boxed w3 (w.heap.size + 1) 3 (.int .i64 t) from (hb3.block _ k2.lt).trans k2) (by omega)
      have m3 := (k3.below hb3 k3.lt).other (b := w.heap.size + 1 + 1 + 1) (o := cZ d) (by omega) (.int .u64 ((G (cZ d) ||| bitN (cX d) (cY d) : Nat) : Int))
      have m4 := (k4.trans (hb3.mono k4.size)).setCell (p := ⟨w.heap.size + 1 + 1 + 1, cZ d, none⟩) (by simp; omega) (.int .u64 ((G (cZ d) ||| bitN (cX d) (cY d) : Nat) : Int))
      have m6 := (k6.trans (hb3.mono k4.size)).setCell (p := ⟨w.heap.size + 1 + 1 + 1, cZ d, none⟩) (by simp; omega) (.int .u64 ((G (cZ d) ||| bitN (cX d) (cY d) : Nat) : Int))
      refine ⟨(keeps_below (k5.trans (hb3.mono k5.size))).trans ((KeepsOthers.setCell _ _ _).from _), m6, ?_, m2, m3, m4⟩
      · rw [List.map_append, List.map_cons, List.map_nil, solOf_snoc, ← hG, ← HD.out]
        exact m1.set (by omega) _
  case done =>
    rintro D ys W hD rfl ⟨i1, i2, i3, i4⟩ hK
    have c0 := (i1).cell (k := 0) (by omega); have c1 := (i1).cell (k := 1) (by omega); have c2 := (i1).cell (k := 2) (by omega); have c3 := (i1).cell (k := 3) (by omega); have c4 := (i1).cell (k := 4) (by omega); have c5 := (i1).cell (k := 5) (by omega); have c6 := (i1).cell (k := 6) (by omega); have c7 := (i1).cell (k := 7) (by omega)
    have r0 := (i3).cell (k := 0) (by omega); have r1 := (i3).cell (k := 1) (by omega); have r2 := (i3).cell (k := 2) (by omega); have r3 := (i3).cell (k := 3) (by omega); have r4 := (i3).cell (k := 4) (by omega); have r5 := (i3).cell (k := 5) (by omega); have r6 := (i3).cell (k := 6) (by omega); have r7 := (i3).cell (k := 7) (by omega)
    have q0 := (i3).free 0; have q1 := (i3).free 1; have q2 := (i3).free 2; have q3 := (i3).free 3; have q4 := (i3).free 4; have q5 := (i3).free 5; have q6 := (i3).free 6; have q7 := (i3).free 7
    gi_wp2
    have hk2 := (keeps_put8 W (w.heap.size + 1 + 1) (solOf ((cellsL f).map (turnC t)))).same D _ hK rfl
    refine ⟨by simp, .inl ⟨_, _, rfl, run_takeDeferred hk2, ?_⟩⟩
    refine ⟨_, res_s (own_block (β := Unit) _ _ _ rfl () _ _ _ (i3.put _) (grownBy_putObj' _ D _) (fun r e => by cases e; exact ⟨hD, _, hk2, rfl⟩)) Tryz.results100 rfl, rfl, ?_⟩
    exact (below_put8 i4 (by omega) _).trans (belowK_b (w := w) (Nat.le_refl _) _ D _ _ (by simp at hD; omega) hk2 rfl rfl)
  case stop =>
    rintro D c pre W _ _ h _
    exact h.elim
end Go.Proofs.YtadkaplafaeebaaGreatDoor
/-
  Motions: isMotion, turnTo, Then, Back.
-/
set_option linter.unusedVariables false
set_option linter.unusedSimpArgs false
namespace Go.Proofs.YtadkaplafaeebaaGreatDoor
open Go Go.RowKit

def motB (t x y z : Int) : Bool := decide (0 ≤ t ∧ t < 24) && mvB x y z
theorem isMotion_no (t x y z : Int) (w : World) (ht : ¬ (0 ≤ t ∧ t < 24)) : Calls Tryz.prog 105 #[.agg #[.int .i64 (t), .int .i64 (x), .int .i64 (y), .int .i64 (z)]] w fun e w' => e = .returned (.bool false) ∧ Below w.heap.size w w' := by
  have hd : decide (0 ≤ t ∧ t < 24) = false := decide_eq_false ht
  have H := Lib.hid ht
  clear ht
  go_enter Tryz.func105, Tryz.ntmps105
  go_wp2_with ((refine (isTurn_ok t _).mono ?_; rintro e w1 ⟨rfl, hb1⟩; obtain ⟨hc1, hf1⟩ := bcell hb1; have hB1 : Below w.heap.size w w1 := up hb1 (by go_grown); have hz1 := hb1.size; (try simp at hz1); (try have hz1_w_p1 : w.heap.size < w1.heap.size + 1 := (by omega)); (try have hz1_w_p2 : w.heap.size < w1.heap.size + 1 + 1 := (by omega)); (try have hz1_w_p3 : w.heap.size < w1.heap.size + 1 + 1 + 1 := (by omega)); (try have hz1_w_0 : w.heap.size < w1.heap.size := (by omega)); (try have hz1_w_1 : w.heap.size + 1 < w1.heap.size := (by omega)); (try have hz1_w_2 : w.heap.size + 1 + 1 < w1.heap.size := (by omega)); (try have hz1_w_3 : w.heap.size + 1 + 1 + 1 < w1.heap.size := (by omega)); (try have hz1_w_4 : w.heap.size + 1 + 1 + 1 + 1 < w1.heap.size := (by omega)); (try have hz1_w_5 : w.heap.size + 1 + 1 + 1 + 1 + 1 < w1.heap.size := (by omega)); (try have hz1_w_6 : w.heap.size + 1 + 1 + 1 + 1 + 1 + 1 < w1.heap.size := (by omega))); (try simp only [hd]))
  all_goals
    go_ret
    exact ⟨rfl, by go_grown⟩
theorem isMotion_yes (t x y z : Int) (w : World) (ht : 0 ≤ t ∧ t < 24) : Calls Tryz.prog 105 #[.agg #[.int .i64 (t), .int .i64 (x), .int .i64 (y), .int .i64 (z)]] w fun e w' => e = .returned (.bool (mvB x y z)) ∧ Below w.heap.size w w' := by
  have hd : decide (0 ≤ t ∧ t < 24) = true := decide_eq_true ht
  have H := Lib.hid ht
  clear ht
  go_enter Tryz.func105, Tryz.ntmps105
  go_wp2_with fail
  (refine (isTurn_ok t _).mono ?_; rintro e w1 ⟨rfl, hb1⟩; obtain ⟨hc1, hf1⟩ := bcell hb1; have hB1 : Below w.heap.size w w1 := up hb1 (by go_grown); have hz1 := hb1.size; (try simp at hz1); (try have hz1_w_p1 : w.heap.size < w1.heap.size + 1 := (by omega)); (try have hz1_w_p2 : w.heap.size < w1.heap.size + 1 + 1 := (by omega)); (try have hz1_w_p3 : w.heap.size < w1.heap.size + 1 + 1 + 1 := (by omega)); (try have hz1_w_0 : w.heap.size < w1.heap.size := (by omega)); (try have hz1_w_1 : w.heap.size + 1 < w1.heap.size := (by omega)); (try have hz1_w_2 : w.heap.size + 1 + 1 < w1.heap.size := (by omega)); (try have hz1_w_3 : w.heap.size + 1 + 1 + 1 < w1.heap.size := (by omega)); (try have hz1_w_4 : w.heap.size + 1 + 1 + 1 + 1 < w1.heap.size := (by omega)); (try have hz1_w_5 : w.heap.size + 1 + 1 + 1 + 1 + 1 < w1.heap.size := (by omega)); (try have hz1_w_6 : w.heap.size + 1 + 1 + 1 + 1 + 1 + 1 < w1.heap.size := (by omega)))
  simp only [hd]
  go_wp2_with fail
  (refine (moveOf_ok t x y z _).mono ?_; rintro e w2 ⟨rfl, hb2⟩; obtain ⟨hc2, hf2⟩ := bcell hb2; have hB2 : Below w.heap.size w w2 := up hb2 (by go_grown); have hz2 := hb2.size; (try simp at hz2); (try have hz2_w_p1 : w.heap.size < w2.heap.size + 1 := (by omega)); (try have hz2_w_p2 : w.heap.size < w2.heap.size + 1 + 1 := (by omega)); (try have hz2_w_p3 : w.heap.size < w2.heap.size + 1 + 1 + 1 := (by omega)); (try have hz2_w1_p1 : w1.heap.size < w2.heap.size + 1 := (by omega)); (try have hz2_w1_p2 : w1.heap.size < w2.heap.size + 1 + 1 := (by omega)); (try have hz2_w1_p3 : w1.heap.size < w2.heap.size + 1 + 1 + 1 := (by omega)); (try have hz2_w_0 : w.heap.size < w2.heap.size := (by omega)); (try have hz2_w_1 : w.heap.size + 1 < w2.heap.size := (by omega)); (try have hz2_w_2 : w.heap.size + 1 + 1 < w2.heap.size := (by omega)); (try have hz2_w_3 : w.heap.size + 1 + 1 + 1 < w2.heap.size := (by omega)); (try have hz2_w_4 : w.heap.size + 1 + 1 + 1 + 1 < w2.heap.size := (by omega)); (try have hz2_w_5 : w.heap.size + 1 + 1 + 1 + 1 + 1 < w2.heap.size := (by omega)); (try have hz2_w_6 : w.heap.size + 1 + 1 + 1 + 1 + 1 + 1 < w2.heap.size := (by omega)); (try have hz2_w1_0 : w1.heap.size < w2.heap.size := (by omega)); (try have hz2_w1_1 : w1.heap.size + 1 < w2.heap.size := (by omega)); (try have hz2_w1_2 : w1.heap.size + 1 + 1 < w2.heap.size := (by omega)); (try have hz2_w1_3 : w1.heap.size + 1 + 1 + 1 < w2.heap.size := (by omega)))
  go_wp2_with fail
  (refine (isMove_ok x y z _).mono ?_; rintro e w3 ⟨rfl, hb3⟩; obtain ⟨hc3, hf3⟩ := bcell hb3; have hB3 : Below w.heap.size w w3 := up hb3 (by go_grown); have hz3 := hb3.size; (try simp at hz3); (try have hz3_w_p1 : w.heap.size < w3.heap.size + 1 := (by omega)); (try have hz3_w_p2 : w.heap.size < w3.heap.size + 1 + 1 := (by omega)); (try have hz3_w_p3 : w.heap.size < w3.heap.size + 1 + 1 + 1 := (by omega)); (try have hz3_w1_p1 : w1.heap.size < w3.heap.size + 1 := (by omega)); (try have hz3_w1_p2 : w1.heap.size < w3.heap.size + 1 + 1 := (by omega)); (try have hz3_w1_p3 : w1.heap.size < w3.heap.size + 1 + 1 + 1 := (by omega)); (try have hz3_w2_p1 : w2.heap.size < w3.heap.size + 1 := (by omega)); (try have hz3_w2_p2 : w2.heap.size < w3.heap.size + 1 + 1 := (by omega)); (try have hz3_w2_p3 : w2.heap.size < w3.heap.size + 1 + 1 + 1 := (by omega)); (try have hz3_w_0 : w.heap.size < w3.heap.size := (by omega)); (try have hz3_w_1 : w.heap.size + 1 < w3.heap.size := (by omega)); (try have hz3_w_2 : w.heap.size + 1 + 1 < w3.heap.size := (by omega)); (try have hz3_w_3 : w.heap.size + 1 + 1 + 1 < w3.heap.size := (by omega)); (try have hz3_w_4 : w.heap.size + 1 + 1 + 1 + 1 < w3.heap.size := (by omega)); (try have hz3_w_5 : w.heap.size + 1 + 1 + 1 + 1 + 1 < w3.heap.size := (by omega)); (try have hz3_w_6 : w.heap.size + 1 + 1 + 1 + 1 + 1 + 1 < w3.heap.size := (by omega)); (try have hz3_w1_0 : w1.heap.size < w3.heap.size := (by omega)); (try have hz3_w1_1 : w1.heap.size + 1 < w3.heap.size := (by omega)); (try have hz3_w1_2 : w1.heap.size + 1 + 1 < w3.heap.size := (by omega)); (try have hz3_w1_3 : w1.heap.size + 1 + 1 + 1 < w3.heap.size := (by omega)); (try have hz3_w2_0 : w2.heap.size < w3.heap.size := (by omega)); (try have hz3_w2_1 : w2.heap.size + 1 < w3.heap.size := (by omega)); (try have hz3_w2_2 : w2.heap.size + 1 + 1 < w3.heap.size := (by omega)); (try have hz3_w2_3 : w2.heap.size + 1 + 1 + 1 < w3.heap.size := (by omega)))
  go_wp2_with fail
  all_goals
    go_ret
    exact ⟨rfl, by go_grown⟩
theorem isMotion_ok (t x y z : Int) (w : World) : Calls Tryz.prog 105 #[.agg #[.int .i64 (t), .int .i64 (x), .int .i64 (y), .int .i64 (z)]] w fun e w' => e = .returned (.bool (motB t x y z)) ∧ Below w.heap.size w w' := by
  by_cases h : 0 ≤ t ∧ t < 24
  · have : motB t x y z = mvB x y z := by unfold motB; rw [decide_eq_true h]; rfl
    rw [this]
    exact isMotion_yes t x y z w h
  · have : motB t x y z = false := by unfold motB; rw [decide_eq_false h]; rfl
    rw [this]
    exact isMotion_no t x y z w h

def eqC (p q : I3) : Bool := decide (p = q)
@[go_sem high] theorem run_eql_cell (W : World) (x y z a b c : Int) : (Op.equalIn 10000 26 (.agg #[.int .i64 (x), .int .i64 (y), .int .i64 (z)]) (.agg #[.int .i64 (a), .int .i64 (b), .int .i64 (c)])).run Tryz.prog W = .ok (eqC (x, y, z) (a, b, c)) W := by
  have h := run_equalIn_struct (P := Tryz.prog) W 9999 26 #[.int .i64 x, .int .i64 y, .int .i64 z] #[.int .i64 a, .int .i64 b, .int .i64 c] (by kernel_rfl) (by kernel_rfl)
  refine Eq.trans h ?_
  simp [go_sem]
  unfold eqC
  by_cases h1 : x = a
  · by_cases h2 : y = b
    · by_cases h3 : z = c <;> simp [h1, h2, h3]
    · simp [h1, h2]
  · simp [h1]

/-- The turn that takes the one to the other. -/
def toTurn (p q : I3) (T : Nat) : Prop := turnI 0 T p = q ∧ ∀ j, j < T → turnI 0 j p ≠ q
set_option maxRecDepth 100000 in
set_option maxHeartbeats 2000000 in
theorem turnTo_ok (x y z a b c : Int) (T : Nat) (w : World) (hT : T < 24) (h : toTurn (x, y, z) (a, b, c) T) (hs : Sm3 30 (x, y, z)) :
    Calls Tryz.prog 112 #[.agg #[.int .i64 (x), .int .i64 (y), .int .i64 (z)], .agg #[.int .i64 (a), .int .i64 (b), .int .i64 (c)]] w fun e w' => e = .returned (.int .i64 (T : Nat)) ∧ Below w.heap.size w w' := by
  have H := Lib.hid h
  have HS := Lib.hid hs
  clear h hs
  go_enter Tryz.func112, Tryz.ntmps112
  go_wp2
  go_loopw [5] (fun q wr => ∃ j : Nat, j ≤ T ∧ q = .int .i64 j ∧ BoxC wr w.heap.size x y z ∧ BoxC wr (w.heap.size + 1) a b c ∧ Below w.heap.size w wr) (fun q _ => T - (intOf q).toNat)
  case atStart => exact ⟨0, by omega, rfl, (BoxC.new rfl).alloc _, BoxC.new (by simp), by go_grown⟩
  case round =>
    obtain ⟨j, hj, rfl, hA, hR, hB⟩ := hrel
    have a0 := hA.c0
    have a1 := hA.c1
    have a2 := hA.c2
    have r0 := hR.c0
    have r1 := hR.c1
    have r2 := hR.c2
    have lA := hA.lt
    have lR := hR.lt
    by_cases hlt : j < T
    · have he : eqC ((turnI 0 j (x, y, z)).1, (turnI 0 j (x, y, z)).2.1, (turnI 0 j (x, y, z)).2.2) (a, b, c) = false := decide_eq_false (H.out.2 j hlt)
      go_wp2
      go_region_with (((with_reducible refine Calls.mono (turn_ok 0 j x y z _ (by omega) (by omega) (by omega) HS.out) ?_); rintro e w1 ⟨rfl, hb1⟩; replace hb1 := below_undrew hb1; obtain ⟨hc1, hf1⟩ := bcell hb1; have hB1 : Below w.heap.size w w1 := hB.trans (hb1.mono hB.size); have hA1 := hA.below hb1 lA; have hR1 := hR.below hb1 lR))
      all_goals
        go_wp2
        go_roundw
        case rel => exact ⟨j + 1, by omega, by go_num, hA1, hR1, hB1⟩
        case measure => simp [intOf]; omega
    · obtain rfl : j = T := by omega
      have he : eqC ((turnI 0 j (x, y, z)).1, (turnI 0 j (x, y, z)).2.1, (turnI 0 j (x, y, z)).2.2) (a, b, c) = true := decide_eq_true H.out.1
      go_wp2
      go_region_with (((with_reducible refine Calls.mono (turn_ok 0 j x y z _ (by omega) (by omega) (by omega) HS.out) ?_); rintro e w1 ⟨rfl, hb1⟩; replace hb1 := below_undrew hb1; obtain ⟨hc1, hf1⟩ := bcell hb1; have hB1 : Below w.heap.size w w1 := hB.trans (hb1.mono hB.size); have hA1 := hA.below hb1 lA; have hR1 := hR.below hb1 lR))
      all_goals
        go_wp2
        go_ret
        exact ⟨rfl, hB1⟩
end Go.Proofs.YtadkaplafaeebaaGreatDoor
/-
  In and Has.
-/
set_option linter.unusedVariables false
set_option linter.unusedSimpArgs false
namespace Go.Proofs.YtadkaplafaeebaaGreatDoor
open Go Go.RowKit

def inB (f g : Sol) : Bool := eqS (meetF f g) f
set_option maxRecDepth 100000 in
set_option maxHeartbeats 4000000 in
theorem in_ok (f g : Sol) (w : World) (hf : Fit f) (hg : Fit g) :
    Calls Tryz.prog 36 #[sol f, sol g] w fun e w' => e = .returned (.bool (inB f g)) ∧ Below w.heap.size w w' := by
  have HF := Lib.hid hf
  have HG := Lib.hid hg
  clear hf hg
  go_enter Tryz.func36, Tryz.ntmps36
  go_wp2
  go_region_with (((with_reducible refine Calls.mono (meet_ok f g _ HF.out HG.out) ?_); rintro e w1 ⟨rfl, hb1⟩; replace hb1 := below_undrew hb1; obtain ⟨hc1, hf1⟩ := bcell hb1; have hB1 : Below w.heap.size w w1 := up hb1 (by repeat' (first | (with_reducible exact Below.refl _ _) | (with_reducible assumption) | (with_reducible refine Below.alloc ?_ ?_ _) | (with_reducible refine Below.drew ?_) | (with_reducible refine below_drewN ?_ _) | (with_reducible refine Below.setCell ?_ ?_ _) | go_size))))
  all_goals
    go_wp2
    go_ret
    exact ⟨rfl, by first | exact hB1 | repeat' (first | (with_reducible exact Below.refl _ _) | (with_reducible assumption) | (with_reducible refine Below.alloc ?_ ?_ _) | (with_reducible refine Below.drew ?_) | (with_reducible refine below_drewN ?_ _) | (with_reducible refine Below.setCell ?_ ?_ _) | go_size)⟩

end Go.Proofs.YtadkaplafaeebaaGreatDoor
