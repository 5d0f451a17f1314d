/-
  Mirrored, at the three axes.
-/
import Derived.Test.YtadkaplafaeebaaGreatDoorPkCQ
import Derived.Test.YtadkaplafaeebaaGreatDoorPkFQ
import Derived.Deep.Cut
set_option linter.unusedVariables false
set_option linter.unusedSimpArgs false
namespace Go.Proofs.YtadkaplafaeebaaGreatDoor
open Go Go.RowKit Go.Shelf

attribute [local go_sem] Oper.semAt_some

def mirI (a : Nat) (p : I3) : I3 := (if a = 0 then 7 - p.1 else p.1, if a = 1 then 7 - p.2.1 else p.2.1, if a = 2 then 7 - p.2.2 else p.2.2)
theorem mirI_in7 (a : Nat) {p : I3} (h : In7 p) : In7 (mirI a p) := by
  unfold In7 mirI at *
  simp only
  (repeat' split) <;> omega
def mirC (a : Nat) (c : Cl) : Cl := ofI (mirI a (toI c))
def mirF (f : Sol) (a : Nat) : Sol := solOf ((cellsL f).map (mirC a))
theorem mirC_x (a : Nat) (c : Cl) : ((cX (mirC a c) : Nat) : Int) = (mirI a (toI c)).1 := ofI_x (mirI_in7 a (toI_in7 c))
theorem mirC_y (a : Nat) (c : Cl) : ((cY (mirC a c) : Nat) : Int) = (mirI a (toI c)).2.1 := ofI_y (mirI_in7 a (toI_in7 c))
theorem mirC_z (a : Nat) (c : Cl) : ((cZ (mirC a c) : Nat) : Int) = (mirI a (toI c)).2.2 := ofI_z (mirI_in7 a (toI_in7 c))

set_option maxRecDepth 100000 in
set_option maxHeartbeats 4000000 in
theorem Mirrored_0 (f : Sol) (w : World) (hf : Fit f) (hT : Tab64 w) :
    Calls Tryz.prog 46 #[sol f, .int .i64 0] w fun e w' => e = .returned (.tuple #[sol (mirF f 0), .int .i64 0]) ∧ Below w.heap.size w w' := by
  have HF := Lib.hid hf
  have HTT := Lib.hid hT
  clear hf hT
  refine (callsIn_wide (n := 5)).1 ?_
  refine callsIn_of_wp_marks Tryz.func46 rfl trivial ?_ rfl
  simp only [Tryz.ntmps46, List.size_toArray, List.length_cons, List.length_nil, Nat.reduceAdd, Nat.reduceSub, Array.replicate_succ, Array.replicate_zero, List.push_toArray, List.append_toArray, List.nil_append, List.cons_append]
  gi_wp2_with (refine ⟨trivial, ?_⟩; gi_at_call 94; refine (cells_in _ f _).mono ?_; rintro e w1 ⟨rfl, rfl⟩)
  refine wpIn_rangeFunc_ownH rfl (by omega) (gf := 137) (lb := #[.pointer (some ⟨w.heap.size + 1 + 1 + 1 + 1, 0, none⟩)]) rfl trivial (enters_of Tryz.func137 (by kernel_rfl) rfl)
    (cells_stops _ (by omega) (w.heap.size + 1 + 1 + 1 + 1) w.heap.size f HF.out _ (HTT.out.below (n := w.heap.size) (by repeat' (first | (with_reducible exact Below.refl _ _) | (with_reducible assumption) | (with_reducible refine Below.alloc ?_ ?_ _) | (with_reducible refine Below.drew ?_) | (with_reducible refine below_drewN ?_ _) | (with_reducible refine Below.setCell ?_ ?_ _) | go_size)) (Nat.le_refl _)) (BoxS.new' (by simp)) HTT.out.pos) belowK_t (belowK_b (by simp; omega)) (Below.refl _ _) (fun _ => rfl)
    (fun (pre : List Cl) W => BoxS W (w.heap.size + 1 + 1 + 1) (solOf (pre.map (mirC 0))) ∧ Boxed W (w.heap.size + 1) 3 (.int .i64 0) ∧ BoxS W (w.heap.size + 1 + 1) (fun _ => 0) ∧ Below w.heap.size w W)
    (fun _ _ _ => False)
    (OwnFrom.and (own_block' _ _ (fun pre : List Cl => .cells (solC (solOf (pre.map (mirC 0)))) 24 (0, 0)) fun _ => rfl) (OwnFrom.and (own_block _ _ _ rfl) (OwnFrom.and (own_block _ _ _ rfl) (ownFrom_below (Nat.le_refl _) (by simp; omega)))))
    (fun _ _ _ _ _ hs _ _ => hs)
    ⟨(BoxS.zero (by simp)).alloc _, (((boxed_at (by simp)).alloc _).alloc _).alloc _, ((BoxS.zero (by simp)).alloc _).alloc _, by repeat' (first | (with_reducible exact Below.refl _ _) | (with_reducible assumption) | (with_reducible refine Below.alloc ?_ ?_ _) | (with_reducible refine Below.drew ?_) | (with_reducible refine below_drewN ?_ _) | (with_reducible refine Below.setCell ?_ ?_ _) | go_size)⟩
    (fun (x : Cl) a' W => ∃ Bx, w.heap.size + 1 + 1 + 1 < Bx ∧ BoxC W Bx (cX x : Nat) (cY x : Nat) (cZ x : Nat) ∧ a' = { tmps := #[sol f, .int .i64 0, .pointer (some ⟨w.heap.size, 0, none⟩), .pointer (some ⟨w.heap.size + 1, 0, none⟩), .pointer (some ⟨w.heap.size + 1 + 1, 0, none⟩), .int .i64 0, .pointer (some ⟨w.heap.size + 1 + 1 + 1, 0, none⟩), .pointer (some ⟨Bx, 0, none⟩), .int .i64 0, .bool false, .bool false, .int .i64 0, .bool false, .bool false, undef, sol f, .func (.func 137) #[] #[.pointer (some ⟨w.heap.size + 1 + 1 + 1 + 1, 0, none⟩)], cell x, undef, undef, undef, undef, undef, undef, undef, undef, undef, undef, undef, undef, undef, undef, undef, undef, undef, undef, undef, undef, undef, undef, undef, undef, undef, undef, undef, undef], defers := [] })
    (fun x a' s X Y row ⟨Bx, h1, h2, h3⟩ hg hr => ⟨Bx, h1, own_block (β := Unit) _ _ _ rfl () X Y row h2 hg hr, h3⟩) ?assign ?body ?done ?stop
  case assign =>
    rintro l pre x W K ⟨i1, i2, i3, i4⟩ hK
    gi_wp2
    have hsz := i4.size
    have lx := i1.lt
    exact hK _ _ ((KeepsOthers.alloc _ _).from _) ((Below.refl _ W).alloc hsz _) ⟨i1.alloc _, i2.alloc _, i3.alloc _, i4.alloc hsz _⟩ ⟨W.heap.size, lx, BoxC.new rfl, rfl⟩
  case body =>
    rintro l pre x a' W hl ⟨r, hr⟩ ⟨i1, i2, i3, i4⟩ ⟨Bx, hBx, bX, rfl⟩ hlt
    have c0 := bX.c0
    have c1 := bX.c1
    have c2 := bX.c2
    have fx := bX.free 0
    have ct := i2.cell
    have lx := bX.lt
    have hx0 := X_le x
    have hy0 := Y_le x
    have hz0 := Z_le x
    gi_wp2
    obtain ⟨d, hd⟩ : ∃ d, d = mirC 0 x := ⟨_, rfl⟩
    have ex := mirC_x 0 x
    have ey := mirC_y 0 x
    have ez := mirC_z 0 x
    rw [← hd] at ex ey ez
    simp [mirI, toI] at ex ey ez
    have HD := Lib.hid hd
    clear hd
    have hx := X_le d
    have hy := Y_le d
    have hz := Z_le d
    have hsz := i4.size
    obtain ⟨W2, hW2⟩ : ∃ W2, W2 = W.setCell ⟨Bx, 0, none⟩ (.int .i64 (7 - ((cX x : Nat) : Int))) := ⟨_, rfl⟩
    have nB : BoxC W2 Bx (cX d : Nat) (cY d : Nat) (cZ d : Nat) := by rw [hW2, ex, ey, ez]; exact bX.set0 _
    have k1 : BoxS W2 (w.heap.size + 1 + 1 + 1) (solOf (pre.map (mirC 0))) := by rw [hW2]; exact i1.other (by omega) _
    have k2 : Boxed W2 (w.heap.size + 1) 3 (.int .i64 0) := by rw [hW2]; exact boxed_set i2 (by omega)
    have k3 : BoxS W2 (w.heap.size + 1 + 1) (fun _ => 0) := by rw [hW2]; exact i3.other (by omega) _
    have k4 : Below w.heap.size w W2 := by rw [hW2]; exact i4.setCell (p := ⟨Bx, 0, none⟩) (by simp; omega) _
    have k5 : KeepsOthers W W2 := by rw [hW2]; exact KeepsOthers.setCell _ _ _
    have k6 : Below w.heap.size W W2 := by rw [hW2]; exact (Below.refl _ W).setCell (p := ⟨Bx, 0, none⟩) (by simp; omega) _
    rw [← hW2]
    have n0 := nB.c0
    have n1 := nB.c1
    have n2 := nB.c2
    have ln := nB.lt
    have lk := k1.lt
    have v1 := k1.cell (k := cZ d) (by omega)
    have v2 := k1.free (cZ d)
    obtain ⟨G, hG⟩ : ∃ G, G = solOf (pre.map (mirC 0)) := ⟨_, rfl⟩
    rw [← hG] at v1
    have hGF : G (cZ d) < 18446744073709551616 := by rw [hG]; exact solOf_fit _ _
    have hor := bits_or hGF (bit_lt hx hy)
    clear c0 c1 c2 ct fx hW2 ex ey ez
    have hmx : Tryz.prog.follows .mixedOrders = true := by kernel_rfl
    gi_region_with_o (refine ⟨trivial, ?_⟩; gi_at_call 91; (with_reducible refine CallsIn.mono (CallsIn.inRound l (callsIn_wide.2 (bit_ok (cX d) (cY d) _ _ hx hy))) ?_); rintro e w3 ⟨rfl, hb3⟩; replace hb3 := below_undrew hb3; obtain ⟨hc3, hf3⟩ := bcell hb3)
    all_goals
      gi_wp2
      rw [← hG, hor]
      have m1 : BoxS w3 (w.heap.size + 1 + 1 + 1) G := by rw [hG]; exact k1.below hb3 lk
      have m2 := boxed_set (b := w.heap.size + 1 + 1 + 1) (o := cZ d) (u := .int .u64 ((G (cZ d) ||| bitN (cX d) (cY d) : Nat) : Int)) (show Boxed w3 (w.heap.size + 1) 3 (.int .i64 0) from (hb3.block _ k2.lt).trans k2) (by omega)
      have m3 := (k3.below hb3 k3.lt).other (b := w.heap.size + 1 + 1 + 1) (o := cZ d) (by omega) (.int .u64 ((G (cZ d) ||| bitN (cX d) (cY d) : Nat) : Int))
      have m4 := (k4.trans (hb3.mono k4.size)).setCell (p := ⟨w.heap.size + 1 + 1 + 1, cZ d, none⟩) (by simp; omega) (.int .u64 ((G (cZ d) ||| bitN (cX d) (cY d) : Nat) : Int))
      have m6 := (k6.trans (hb3.mono k4.size)).setCell (p := ⟨w.heap.size + 1 + 1 + 1, cZ d, none⟩) (by simp; omega) (.int .u64 ((G (cZ d) ||| bitN (cX d) (cY d) : Nat) : Int))
      refine ⟨((k5.from _).trans (keeps_below hb3)).trans ((KeepsOthers.setCell _ _ _).from _), m6, ?_, m2, m3, m4⟩
      rw [List.map_append, List.map_cons, List.map_nil, solOf_snoc, ← hG, ← HD.out]
      exact m1.set (by omega) _
  case done =>
    rintro D ys W hD rfl ⟨i1, i2, i3, i4⟩ hK
    have c0 := (i1).cell (k := 0) (by omega); have c1 := (i1).cell (k := 1) (by omega); have c2 := (i1).cell (k := 2) (by omega); have c3 := (i1).cell (k := 3) (by omega); have c4 := (i1).cell (k := 4) (by omega); have c5 := (i1).cell (k := 5) (by omega); have c6 := (i1).cell (k := 6) (by omega); have c7 := (i1).cell (k := 7) (by omega)
    have r0 := (i3).cell (k := 0) (by omega); have r1 := (i3).cell (k := 1) (by omega); have r2 := (i3).cell (k := 2) (by omega); have r3 := (i3).cell (k := 3) (by omega); have r4 := (i3).cell (k := 4) (by omega); have r5 := (i3).cell (k := 5) (by omega); have r6 := (i3).cell (k := 6) (by omega); have r7 := (i3).cell (k := 7) (by omega)
    have q0 := (i3).free 0; have q1 := (i3).free 1; have q2 := (i3).free 2; have q3 := (i3).free 3; have q4 := (i3).free 4; have q5 := (i3).free 5; have q6 := (i3).free 6; have q7 := (i3).free 7
    gi_wp2
    have hk2 := (keeps_put8 W (w.heap.size + 1 + 1) (solOf ((cellsL f).map (mirC 0)))).same D _ hK rfl
    refine ⟨by simp, .inl ⟨_, _, rfl, run_takeDeferred hk2, ?_⟩⟩
    refine ⟨_, res_se (own_block (β := Unit) _ _ _ rfl () _ _ _ (i3.put _) (grownBy_putObj' _ D _) (fun r e => by cases e; exact ⟨hD, _, hk2, rfl⟩)) Tryz.results46 rfl, rfl, ?_⟩
    exact (below_put8 i4 (by omega) _).trans (belowK_b (w := w) (Nat.le_refl _) _ D _ _ (by simp at hD; omega) hk2 rfl rfl)
  case stop =>
    rintro D c pre W _ _ h _
    exact h.elim

set_option maxRecDepth 100000 in
set_option maxHeartbeats 4000000 in
theorem Mirrored_1 (f : Sol) (w : World) (hf : Fit f) (hT : Tab64 w) :
    Calls Tryz.prog 46 #[sol f, .int .i64 1] w fun e w' => e = .returned (.tuple #[sol (mirF f 1), .int .i64 0]) ∧ Below w.heap.size w w' := by
  have HF := Lib.hid hf
  have HTT := Lib.hid hT
  clear hf hT
  refine (callsIn_wide (n := 5)).1 ?_
  refine callsIn_of_wp_marks Tryz.func46 rfl trivial ?_ rfl
  simp only [Tryz.ntmps46, List.size_toArray, List.length_cons, List.length_nil, Nat.reduceAdd, Nat.reduceSub, Array.replicate_succ, Array.replicate_zero, List.push_toArray, List.append_toArray, List.nil_append, List.cons_append]
  gi_wp2_with (refine ⟨trivial, ?_⟩; gi_at_call 94; refine (cells_in _ f _).mono ?_; rintro e w1 ⟨rfl, rfl⟩)
  refine wpIn_rangeFunc_ownH rfl (by omega) (gf := 137) (lb := #[.pointer (some ⟨w.heap.size + 1 + 1 + 1 + 1, 0, none⟩)]) rfl trivial (enters_of Tryz.func137 (by kernel_rfl) rfl)
    (cells_stops _ (by omega) (w.heap.size + 1 + 1 + 1 + 1) w.heap.size f HF.out _ (HTT.out.below (n := w.heap.size) (by repeat' (first | (with_reducible exact Below.refl _ _) | (with_reducible assumption) | (with_reducible refine Below.alloc ?_ ?_ _) | (with_reducible refine Below.drew ?_) | (with_reducible refine below_drewN ?_ _) | (with_reducible refine Below.setCell ?_ ?_ _) | go_size)) (Nat.le_refl _)) (BoxS.new' (by simp)) HTT.out.pos) belowK_t (belowK_b (by simp; omega)) (Below.refl _ _) (fun _ => rfl)
    (fun (pre : List Cl) W => BoxS W (w.heap.size + 1 + 1 + 1) (solOf (pre.map (mirC 1))) ∧ Boxed W (w.heap.size + 1) 3 (.int .i64 1) ∧ BoxS W (w.heap.size + 1 + 1) (fun _ => 0) ∧ Below w.heap.size w W)
    (fun _ _ _ => False)
    (OwnFrom.and (own_block' _ _ (fun pre : List Cl => .cells (solC (solOf (pre.map (mirC 1)))) 24 (0, 0)) fun _ => rfl) (OwnFrom.and (own_block _ _ _ rfl) (OwnFrom.and (own_block _ _ _ rfl) (ownFrom_below (Nat.le_refl _) (by simp; omega)))))
    (fun _ _ _ _ _ hs _ _ => hs)
    ⟨(BoxS.zero (by simp)).alloc _, (((boxed_at (by simp)).alloc _).alloc _).alloc _, ((BoxS.zero (by simp)).alloc _).alloc _, by repeat' (first | (with_reducible exact Below.refl _ _) | (with_reducible assumption) | (with_reducible refine Below.alloc ?_ ?_ _) | (with_reducible refine Below.drew ?_) | (with_reducible refine below_drewN ?_ _) | (with_reducible refine Below.setCell ?_ ?_ _) | go_size)⟩
    (fun (x : Cl) a' W => ∃ Bx, w.heap.size + 1 + 1 + 1 < Bx ∧ BoxC W Bx (cX x : Nat) (cY x : Nat) (cZ x : Nat) ∧ a' = { tmps := #[sol f, .int .i64 1, .pointer (some ⟨w.heap.size, 0, none⟩), .pointer (some ⟨w.heap.size + 1, 0, none⟩), .pointer (some ⟨w.heap.size + 1 + 1, 0, none⟩), .int .i64 0, .pointer (some ⟨w.heap.size + 1 + 1 + 1, 0, none⟩), .pointer (some ⟨Bx, 0, none⟩), .int .i64 1, .bool false, .bool false, .int .i64 1, .bool false, .bool false, undef, sol f, .func (.func 137) #[] #[.pointer (some ⟨w.heap.size + 1 + 1 + 1 + 1, 0, none⟩)], cell x, undef, undef, undef, undef, undef, undef, undef, undef, undef, undef, undef, undef, undef, undef, undef, undef, undef, undef, undef, undef, undef, undef, undef, undef, undef, undef, undef, undef], defers := [] })
    (fun x a' s X Y row ⟨Bx, h1, h2, h3⟩ hg hr => ⟨Bx, h1, own_block (β := Unit) _ _ _ rfl () X Y row h2 hg hr, h3⟩) ?assign ?body ?done ?stop
  case assign =>
    rintro l pre x W K ⟨i1, i2, i3, i4⟩ hK
    gi_wp2
    have hsz := i4.size
    have lx := i1.lt
    exact hK _ _ ((KeepsOthers.alloc _ _).from _) ((Below.refl _ W).alloc hsz _) ⟨i1.alloc _, i2.alloc _, i3.alloc _, i4.alloc hsz _⟩ ⟨W.heap.size, lx, BoxC.new rfl, rfl⟩
  case body =>
    rintro l pre x a' W hl ⟨r, hr⟩ ⟨i1, i2, i3, i4⟩ ⟨Bx, hBx, bX, rfl⟩ hlt
    have c0 := bX.c0
    have c1 := bX.c1
    have c2 := bX.c2
    have fx := bX.free 1
    have ct := i2.cell
    have lx := bX.lt
    have hx0 := X_le x
    have hy0 := Y_le x
    have hz0 := Z_le x
    gi_wp2
    obtain ⟨d, hd⟩ : ∃ d, d = mirC 1 x := ⟨_, rfl⟩
    have ex := mirC_x 1 x
    have ey := mirC_y 1 x
    have ez := mirC_z 1 x
    rw [← hd] at ex ey ez
    simp [mirI, toI] at ex ey ez
    have HD := Lib.hid hd
    clear hd
    have hx := X_le d
    have hy := Y_le d
    have hz := Z_le d
    have hsz := i4.size
    obtain ⟨W2, hW2⟩ : ∃ W2, W2 = W.setCell ⟨Bx, 1, none⟩ (.int .i64 (7 - ((cY x : Nat) : Int))) := ⟨_, rfl⟩
    have nB : BoxC W2 Bx (cX d : Nat) (cY d : Nat) (cZ d : Nat) := by rw [hW2, ex, ey, ez]; exact bX.set1 _
    have k1 : BoxS W2 (w.heap.size + 1 + 1 + 1) (solOf (pre.map (mirC 1))) := by rw [hW2]; exact i1.other (by omega) _
    have k2 : Boxed W2 (w.heap.size + 1) 3 (.int .i64 1) := by rw [hW2]; exact boxed_set i2 (by omega)
    have k3 : BoxS W2 (w.heap.size + 1 + 1) (fun _ => 0) := by rw [hW2]; exact i3.other (by omega) _
    have k4 : Below w.heap.size w W2 := by rw [hW2]; exact i4.setCell (p := ⟨Bx, 1, none⟩) (by simp; omega) _
    have k5 : KeepsOthers W W2 := by rw [hW2]; exact KeepsOthers.setCell _ _ _
    have k6 : Below w.heap.size W W2 := by rw [hW2]; exact (Below.refl _ W).setCell (p := ⟨Bx, 1, none⟩) (by simp; omega) _
    rw [← hW2]
    have n0 := nB.c0
    have n1 := nB.c1
    have n2 := nB.c2
    have ln := nB.lt
    have lk := k1.lt
    have v1 := k1.cell (k := cZ d) (by omega)
    have v2 := k1.free (cZ d)
    obtain ⟨G, hG⟩ : ∃ G, G = solOf (pre.map (mirC 1)) := ⟨_, rfl⟩
    rw [← hG] at v1
    have hGF : G (cZ d) < 18446744073709551616 := by rw [hG]; exact solOf_fit _ _
    have hor := bits_or hGF (bit_lt hx hy)
    clear c0 c1 c2 ct fx hW2 ex ey ez
    have hmx : Tryz.prog.follows .mixedOrders = true := by kernel_rfl
    gi_region_with_o (refine ⟨trivial, ?_⟩; gi_at_call 91; (with_reducible refine CallsIn.mono (CallsIn.inRound l (callsIn_wide.2 (bit_ok (cX d) (cY d) _ _ hx hy))) ?_); rintro e w3 ⟨rfl, hb3⟩; replace hb3 := below_undrew hb3; obtain ⟨hc3, hf3⟩ := bcell hb3)
    all_goals
      gi_wp2
      rw [← hG, hor]
      have m1 : BoxS w3 (w.heap.size + 1 + 1 + 1) G := by rw [hG]; exact k1.below hb3 lk
      have m2 := boxed_set (b := w.heap.size + 1 + 1 + 1) (o := cZ d) (u := .int .u64 ((G (cZ d) ||| bitN (cX d) (cY d) : Nat) : Int)) (show Boxed w3 (w.heap.size + 1) 3 (.int .i64 1) from (hb3.block _ k2.lt).trans k2) (by omega)
      have m3 := (k3.below hb3 k3.lt).other (b := w.heap.size + 1 + 1 + 1) (o := cZ d) (by omega) (.int .u64 ((G (cZ d) ||| bitN (cX d) (cY d) : Nat) : Int))
      have m4 := (k4.trans (hb3.mono k4.size)).setCell (p := ⟨w.heap.size + 1 + 1 + 1, cZ d, none⟩) (by simp; omega) (.int .u64 ((G (cZ d) ||| bitN (cX d) (cY d) : Nat) : Int))
      have m6 := (k6.trans (hb3.mono k4.size)).setCell (p := ⟨w.heap.size + 1 + 1 + 1, cZ d, none⟩) (by simp; omega) (.int .u64 ((G (cZ d) ||| bitN (cX d) (cY d) : Nat) : Int))
      refine ⟨((k5.from _).trans (keeps_below hb3)).trans ((KeepsOthers.setCell _ _ _).from _), m6, ?_, m2, m3, m4⟩
      rw [List.map_append, List.map_cons, List.map_nil, solOf_snoc, ← hG, ← HD.out]
      exact m1.set (by omega) _
  case done =>
    rintro D ys W hD rfl ⟨i1, i2, i3, i4⟩ hK
    have c0 := (i1).cell (k := 0) (by omega); have c1 := (i1).cell (k := 1) (by omega); have c2 := (i1).cell (k := 2) (by omega); have c3 := (i1).cell (k := 3) (by omega); have c4 := (i1).cell (k := 4) (by omega); have c5 := (i1).cell (k := 5) (by omega); have c6 := (i1).cell (k := 6) (by omega); have c7 := (i1).cell (k := 7) (by omega)
    have r0 := (i3).cell (k := 0) (by omega); have r1 := (i3).cell (k := 1) (by omega); have r2 := (i3).cell (k := 2) (by omega); have r3 := (i3).cell (k := 3) (by omega); have r4 := (i3).cell (k := 4) (by omega); have r5 := (i3).cell (k := 5) (by omega); have r6 := (i3).cell (k := 6) (by omega); have r7 := (i3).cell (k := 7) (by omega)
    have q0 := (i3).free 0; have q1 := (i3).free 1; have q2 := (i3).free 2; have q3 := (i3).free 3; have q4 := (i3).free 4; have q5 := (i3).free 5; have q6 := (i3).free 6; have q7 := (i3).free 7
    gi_wp2
    have hk2 := (keeps_put8 W (w.heap.size + 1 + 1) (solOf ((cellsL f).map (mirC 1)))).same D _ hK rfl
    refine ⟨by simp, .inl ⟨_, _, rfl, run_takeDeferred hk2, ?_⟩⟩
    refine ⟨_, res_se (own_block (β := Unit) _ _ _ rfl () _ _ _ (i3.put _) (grownBy_putObj' _ D _) (fun r e => by cases e; exact ⟨hD, _, hk2, rfl⟩)) Tryz.results46 rfl, rfl, ?_⟩
    exact (below_put8 i4 (by omega) _).trans (belowK_b (w := w) (Nat.le_refl _) _ D _ _ (by simp at hD; omega) hk2 rfl rfl)
  case stop =>
    rintro D c pre W _ _ h _
    exact h.elim

set_option maxRecDepth 100000 in
set_option maxHeartbeats 4000000 in
theorem Mirrored_2 (f : Sol) (w : World) (hf : Fit f) (hT : Tab64 w) :
    Calls Tryz.prog 46 #[sol f, .int .i64 2] w fun e w' => e = .returned (.tuple #[sol (mirF f 2), .int .i64 0]) ∧ Below w.heap.size w w' := by
  have HF := Lib.hid hf
  have HTT := Lib.hid hT
  clear hf hT
  refine (callsIn_wide (n := 5)).1 ?_
  refine callsIn_of_wp_marks Tryz.func46 rfl trivial ?_ rfl
  simp only [Tryz.ntmps46, List.size_toArray, List.length_cons, List.length_nil, Nat.reduceAdd, Nat.reduceSub, Array.replicate_succ, Array.replicate_zero, List.push_toArray, List.append_toArray, List.nil_append, List.cons_append]
  gi_wp2_with (refine ⟨trivial, ?_⟩; gi_at_call 94; refine (cells_in _ f _).mono ?_; rintro e w1 ⟨rfl, rfl⟩)
  refine wpIn_rangeFunc_ownH rfl (by omega) (gf := 137) (lb := #[.pointer (some ⟨w.heap.size + 1 + 1 + 1 + 1, 0, none⟩)]) rfl trivial (enters_of Tryz.func137 (by kernel_rfl) rfl)
    (cells_stops _ (by omega) (w.heap.size + 1 + 1 + 1 + 1) w.heap.size f HF.out _ (HTT.out.below (n := w.heap.size) (by repeat' (first | (with_reducible exact Below.refl _ _) | (with_reducible assumption) | (with_reducible refine Below.alloc ?_ ?_ _) | (with_reducible refine Below.drew ?_) | (with_reducible refine below_drewN ?_ _) | (with_reducible refine Below.setCell ?_ ?_ _) | go_size)) (Nat.le_refl _)) (BoxS.new' (by simp)) HTT.out.pos) belowK_t (belowK_b (by simp; omega)) (Below.refl _ _) (fun _ => rfl)
    (fun (pre : List Cl) W => BoxS W (w.heap.size + 1 + 1 + 1) (solOf (pre.map (mirC 2))) ∧ Boxed W (w.heap.size + 1) 3 (.int .i64 2) ∧ BoxS W (w.heap.size + 1 + 1) (fun _ => 0) ∧ Below w.heap.size w W)
    (fun _ _ _ => False)
    (OwnFrom.and (own_block' _ _ (fun pre : List Cl => .cells (solC (solOf (pre.map (mirC 2)))) 24 (0, 0)) fun _ => rfl) (OwnFrom.and (own_block _ _ _ rfl) (OwnFrom.and (own_block _ _ _ rfl) (ownFrom_below (Nat.le_refl _) (by simp; omega)))))
    (fun _ _ _ _ _ hs _ _ => hs)
    ⟨(BoxS.zero (by simp)).alloc _, (((boxed_at (by simp)).alloc _).alloc _).alloc _, ((BoxS.zero (by simp)).alloc _).alloc _, by repeat' (first | (with_reducible exact Below.refl _ _) | (with_reducible assumption) | (with_reducible refine Below.alloc ?_ ?_ _) | (with_reducible refine Below.drew ?_) | (with_reducible refine below_drewN ?_ _) | (with_reducible refine Below.setCell ?_ ?_ _) | go_size)⟩
    (fun (x : Cl) a' W => ∃ Bx, w.heap.size + 1 + 1 + 1 < Bx ∧ BoxC W Bx (cX x : Nat) (cY x : Nat) (cZ x : Nat) ∧ a' = { tmps := #[sol f, .int .i64 2, .pointer (some ⟨w.heap.size, 0, none⟩), .pointer (some ⟨w.heap.size + 1, 0, none⟩), .pointer (some ⟨w.heap.size + 1 + 1, 0, none⟩), .int .i64 0, .pointer (some ⟨w.heap.size + 1 + 1 + 1, 0, none⟩), .pointer (some ⟨Bx, 0, none⟩), .int .i64 2, .bool false, .bool false, .int .i64 2, .bool false, .bool false, undef, sol f, .func (.func 137) #[] #[.pointer (some ⟨w.heap.size + 1 + 1 + 1 + 1, 0, none⟩)], cell x, undef, undef, undef, undef, undef, undef, undef, undef, undef, undef, undef, undef, undef, undef, undef, undef, undef, undef, undef, undef, undef, undef, undef, undef, undef, undef, undef, undef], defers := [] })
    (fun x a' s X Y row ⟨Bx, h1, h2, h3⟩ hg hr => ⟨Bx, h1, own_block (β := Unit) _ _ _ rfl () X Y row h2 hg hr, h3⟩) ?assign ?body ?done ?stop
  case assign =>
    rintro l pre x W K ⟨i1, i2, i3, i4⟩ hK
    gi_wp2
    have hsz := i4.size
    have lx := i1.lt
    exact hK _ _ ((KeepsOthers.alloc _ _).from _) ((Below.refl _ W).alloc hsz _) ⟨i1.alloc _, i2.alloc _, i3.alloc _, i4.alloc hsz _⟩ ⟨W.heap.size, lx, BoxC.new rfl, rfl⟩
  case body =>
    rintro l pre x a' W hl ⟨r, hr⟩ ⟨i1, i2, i3, i4⟩ ⟨Bx, hBx, bX, rfl⟩ hlt
    have c0 := bX.c0
    have c1 := bX.c1
    have c2 := bX.c2
    have fx := bX.free 2
    have ct := i2.cell
    have lx := bX.lt
    have hx0 := X_le x
    have hy0 := Y_le x
    have hz0 := Z_le x
    gi_wp2
    obtain ⟨d, hd⟩ : ∃ d, d = mirC 2 x := ⟨_, rfl⟩
    have ex := mirC_x 2 x
    have ey := mirC_y 2 x
    have ez := mirC_z 2 x
    rw [← hd] at ex ey ez
    simp [mirI, toI] at ex ey ez
    have HD := Lib.hid hd
    clear hd
    have hx := X_le d
    have hy := Y_le d
    have hz := Z_le d
    have hsz := i4.size
    obtain ⟨W2, hW2⟩ : ∃ W2, W2 = W.setCell ⟨Bx, 2, none⟩ (.int .i64 (7 - ((cZ x : Nat) : Int))) := ⟨_, rfl⟩
    have nB : BoxC W2 Bx (cX d : Nat) (cY d : Nat) (cZ d : Nat) := by rw [hW2, ex, ey, ez]; exact bX.set2 _
    have k1 : BoxS W2 (w.heap.size + 1 + 1 + 1) (solOf (pre.map (mirC 2))) := by rw [hW2]; exact i1.other (by omega) _
    have k2 : Boxed W2 (w.heap.size + 1) 3 (.int .i64 2) := by rw [hW2]; exact boxed_set i2 (by omega)
    have k3 : BoxS W2 (w.heap.size + 1 + 1) (fun _ => 0) := by rw [hW2]; exact i3.other (by omega) _
    have k4 : Below w.heap.size w W2 := by rw [hW2]; exact i4.setCell (p := ⟨Bx, 2, none⟩) (by simp; omega) _
    have k5 : KeepsOthers W W2 := by rw [hW2]; exact KeepsOthers.setCell _ _ _
    have k6 : Below w.heap.size W W2 := by rw [hW2]; exact (Below.refl _ W).setCell (p := ⟨Bx, 2, none⟩) (by simp; omega) _
    rw [← hW2]
    have n0 := nB.c0
    have n1 := nB.c1
    have n2 := nB.c2
    have ln := nB.lt
    have lk := k1.lt
    have v1 := k1.cell (k := cZ d) (by omega)
    have v2 := k1.free (cZ d)
    obtain ⟨G, hG⟩ : ∃ G, G = solOf (pre.map (mirC 2)) := ⟨_, rfl⟩
    rw [← hG] at v1
    have hGF : G (cZ d) < 18446744073709551616 := by rw [hG]; exact solOf_fit _ _
    have hor := bits_or hGF (bit_lt hx hy)
    clear c0 c1 c2 ct fx hW2 ex ey ez
    have hmx : Tryz.prog.follows .mixedOrders = true := by kernel_rfl
    gi_region_with_o (refine ⟨trivial, ?_⟩; gi_at_call 91; (with_reducible refine CallsIn.mono (CallsIn.inRound l (callsIn_wide.2 (bit_ok (cX d) (cY d) _ _ hx hy))) ?_); rintro e w3 ⟨rfl, hb3⟩; replace hb3 := below_undrew hb3; obtain ⟨hc3, hf3⟩ := bcell hb3)
    all_goals
      gi_wp2
      rw [← hG, hor]
      have m1 : BoxS w3 (w.heap.size + 1 + 1 + 1) G := by rw [hG]; exact k1.below hb3 lk
      have m2 := boxed_set (b := w.heap.size + 1 + 1 + 1) (o := cZ d) (u := .int .u64 ((G (cZ d) ||| bitN (cX d) (cY d) : Nat) : Int)) (show Boxed w3 (w.heap.size + 1) 3 (.int .i64 2) from (hb3.block _ k2.lt).trans k2) (by omega)
      have m3 := (k3.below hb3 k3.lt).other (b := w.heap.size + 1 + 1 + 1) (o := cZ d) (by omega) (.int .u64 ((G (cZ d) ||| bitN (cX d) (cY d) : Nat) : Int))
      have m4 := (k4.trans (hb3.mono k4.size)).setCell (p := ⟨w.heap.size + 1 + 1 + 1, cZ d, none⟩) (by simp; omega) (.int .u64 ((G (cZ d) ||| bitN (cX d) (cY d) : Nat) : Int))
      have m6 := (k6.trans (hb3.mono k4.size)).setCell (p := ⟨w.heap.size + 1 + 1 + 1, cZ d, none⟩) (by simp; omega) (.int .u64 ((G (cZ d) ||| bitN (cX d) (cY d) : Nat) : Int))
      refine ⟨((k5.from _).trans (keeps_below hb3)).trans ((KeepsOthers.setCell _ _ _).from _), m6, ?_, m2, m3, m4⟩
      rw [List.map_append, List.map_cons, List.map_nil, solOf_snoc, ← hG, ← HD.out]
      exact m1.set (by omega) _
  case done =>
    rintro D ys W hD rfl ⟨i1, i2, i3, i4⟩ hK
    have c0 := (i1).cell (k := 0) (by omega); have c1 := (i1).cell (k := 1) (by omega); have c2 := (i1).cell (k := 2) (by omega); have c3 := (i1).cell (k := 3) (by omega); have c4 := (i1).cell (k := 4) (by omega); have c5 := (i1).cell (k := 5) (by omega); have c6 := (i1).cell (k := 6) (by omega); have c7 := (i1).cell (k := 7) (by omega)
    have r0 := (i3).cell (k := 0) (by omega); have r1 := (i3).cell (k := 1) (by omega); have r2 := (i3).cell (k := 2) (by omega); have r3 := (i3).cell (k := 3) (by omega); have r4 := (i3).cell (k := 4) (by omega); have r5 := (i3).cell (k := 5) (by omega); have r6 := (i3).cell (k := 6) (by omega); have r7 := (i3).cell (k := 7) (by omega)
    have q0 := (i3).free 0; have q1 := (i3).free 1; have q2 := (i3).free 2; have q3 := (i3).free 3; have q4 := (i3).free 4; have q5 := (i3).free 5; have q6 := (i3).free 6; have q7 := (i3).free 7
    gi_wp2
    have hk2 := (keeps_put8 W (w.heap.size + 1 + 1) (solOf ((cellsL f).map (mirC 2)))).same D _ hK rfl
    refine ⟨by simp, .inl ⟨_, _, rfl, run_takeDeferred hk2, ?_⟩⟩
    refine ⟨_, res_se (own_block (β := Unit) _ _ _ rfl () _ _ _ (i3.put _) (grownBy_putObj' _ D _) (fun r e => by cases e; exact ⟨hD, _, hk2, rfl⟩)) Tryz.results46 rfl, rfl, ?_⟩
    exact (below_put8 i4 (by omega) _).trans (belowK_b (w := w) (Nat.le_refl _) _ D _ _ (by simp at hD; omega) hk2 rfl rfl)
  case stop =>
    rintro D c pre W _ _ h _
    exact h.elim
end Go.Proofs.YtadkaplafaeebaaGreatDoor
/-
  Mirrored, where the number is no axis.
-/
set_option linter.unusedVariables false
set_option linter.unusedSimpArgs false
namespace Go.Proofs.YtadkaplafaeebaaGreatDoor
open Go Go.RowKit

set_option maxRecDepth 100000 in
set_option maxHeartbeats 1000000 in
theorem Mirrored_no (f : Sol) (a : Int) (w : World) (h : a < 0 ∨ 2 < a) :
    Calls Tryz.prog 46 #[sol f, .int .i64 a] w fun e w' => e = .returned (.tuple #[sol (fun _ => 0), .int .i64 1]) ∧ Below w.heap.size w w' := by
  have bR : BoxS (((w.alloc (.cells (solC f) 24)).alloc (.cells #[.int .i64 a] 3)).alloc (.cells #[.int .u64 0, .int .u64 0, .int .u64 0, .int .u64 0, .int .u64 0, .int .u64 0, .int .u64 0, .int .u64 0] 24)) (w.heap.size + 1 + 1) (fun _ => 0) := BoxS.zero (by simp)
  have hB : Below w.heap.size w (((w.alloc (.cells (solC f) 24)).alloc (.cells #[.int .i64 a] 3)).alloc (.cells #[.int .u64 0, .int .u64 0, .int .u64 0, .int .u64 0, .int .u64 0, .int .u64 0, .int .u64 0, .int .u64 0] 24)) := by repeat' (first | (with_reducible exact Below.refl _ _) | (with_reducible assumption) | (with_reducible refine Below.alloc ?_ ?_ _) | (with_reducible refine Below.drew ?_) | (with_reducible refine below_drewN ?_ _) | (with_reducible refine Below.setCell ?_ ?_ _) | go_size)
  by_cases h0 : a < 0
  · have hd : decide (a < 0) = true := decide_eq_true h0
    refine (callsIn_wide (n := 5)).1 ?_
    refine callsIn_of_wp_marks Tryz.func46 rfl trivial ?_ rfl
    simp only [Tryz.ntmps46, List.size_toArray, List.length_cons, List.length_nil, Nat.reduceAdd, Nat.reduceSub, Array.replicate_succ, Array.replicate_zero, List.push_toArray, List.append_toArray, List.nil_append, List.cons_append]
    refine wpIn_wide.2 ?_
    have c0 := (bR).cell (k := 0) (by omega); have c1 := (bR).cell (k := 1) (by omega); have c2 := (bR).cell (k := 2) (by omega); have c3 := (bR).cell (k := 3) (by omega); have c4 := (bR).cell (k := 4) (by omega); have c5 := (bR).cell (k := 5) (by omega); have c6 := (bR).cell (k := 6) (by omega); have c7 := (bR).cell (k := 7) (by omega)
    have q0 := (bR).free 0; have q1 := (bR).free 1; have q2 := (bR).free 2; have q3 := (bR).free 3; have q4 := (bR).free 4; have q5 := (bR).free 5; have q6 := (bR).free 6; have q7 := (bR).free 7
    go_wp2_with fail
    exact ⟨_, res_se bR Tryz.results46 rfl, rfl, hB⟩
  · have hd : decide (a < 0) = false := decide_eq_false h0
    have hd2 : decide (a > 2) = true := decide_eq_true (by omega)
    refine (callsIn_wide (n := 5)).1 ?_
    refine callsIn_of_wp_marks Tryz.func46 rfl trivial ?_ rfl
    simp only [Tryz.ntmps46, List.size_toArray, List.length_cons, List.length_nil, Nat.reduceAdd, Nat.reduceSub, Array.replicate_succ, Array.replicate_zero, List.push_toArray, List.append_toArray, List.nil_append, List.cons_append]
    refine wpIn_wide.2 ?_
    have c0 := (bR).cell (k := 0) (by omega); have c1 := (bR).cell (k := 1) (by omega); have c2 := (bR).cell (k := 2) (by omega); have c3 := (bR).cell (k := 3) (by omega); have c4 := (bR).cell (k := 4) (by omega); have c5 := (bR).cell (k := 5) (by omega); have c6 := (bR).cell (k := 6) (by omega); have c7 := (bR).cell (k := 7) (by omega)
    have q0 := (bR).free 0; have q1 := (bR).free 1; have q2 := (bR).free 2; have q3 := (bR).free 3; have q4 := (bR).free 4; have q5 := (bR).free 5; have q6 := (bR).free 6; have q7 := (bR).free 7
    go_wp2_with fail
    exact ⟨_, res_se bR Tryz.results46 rfl, rfl, hB⟩
end Go.Proofs.YtadkaplafaeebaaGreatDoor
/-
  Moved of an empty solid.
-/
set_option linter.unusedVariables false
set_option linter.unusedSimpArgs false
namespace Go.Proofs.YtadkaplafaeebaaGreatDoor
open Go Go.RowKit

theorem bounds_no' (f : Sol) (a : Int) (ha : a = 0) (w : World) (h : emptyS f = true) : Calls Tryz.prog 38 #[sol f] w fun e w' => e = .returned (.tuple #[.agg #[.int .i64 (a), .int .i64 (a), .int .i64 (a), .int .i64 (a), .int .i64 (a), .int .i64 (a)], .bool false]) ∧ Below w.heap.size w w' := by
  subst ha
  exact bounds_no f w h
set_option maxRecDepth 100000 in
set_option maxHeartbeats 400000 in
theorem moved_empty (f : Sol) (x y z : Int) (w : World) (h : emptyS f = true) :
    Calls Tryz.prog 44 #[sol f, .int .i64 x, .int .i64 y, .int .i64 z] w fun e w' => e = .returned (.tuple #[sol f, .int .i64 0]) ∧ Below w.heap.size w w' := by
  obtain ⟨a, ha⟩ : ∃ a : Int, a = 0 := ⟨0, rfl⟩
  have HA := Lib.hid ha
  have H := Lib.hid h
  clear h ha
  go_enter Tryz.func44, Tryz.ntmps44
  go_wp2_with fail
  refine (bounds_no' f a HA.out _ H.out).mono ?_
  rintro e w1 ⟨rfl, hb1⟩
  have bS : BoxS w1 w.heap.size f := ((BoxS.new w f).alloc _).below hb1 (by simp <;> omega)
  have bR : BoxS w1 (w.heap.size + 1) (fun _ => 0) := (BoxS.zero (by simp)).below hb1 (by simp <;> omega)
  have hB1 : Below w.heap.size w w1 := up hb1 (by repeat' (first | (with_reducible exact Below.refl _ _) | (with_reducible assumption) | (with_reducible refine Below.alloc ?_ ?_ _) | (with_reducible refine Below.drew ?_) | (with_reducible refine below_drewN ?_ _) | (with_reducible refine Below.setCell ?_ ?_ _) | go_size))
  have l0 := bS.lt
  have l1 := bR.lt
  have bS2 := bS.alloc (.cells #[.int .i64 (a), .int .i64 (a), .int .i64 (a), .int .i64 (a), .int .i64 (a), .int .i64 (a)] 40)
  have bR2 := bR.alloc (.cells #[.int .i64 (a), .int .i64 (a), .int .i64 (a), .int .i64 (a), .int .i64 (a), .int .i64 (a)] 40)
  have hB2 := hB1.alloc hB1.size (.cells #[.int .i64 (a), .int .i64 (a), .int .i64 (a), .int .i64 (a), .int .i64 (a), .int .i64 (a)] 40)
  go_upto_region 3 with fail
  obtain ⟨W, hW⟩ : ∃ W, W = w1.alloc (.cells #[.int .i64 (a), .int .i64 (a), .int .i64 (a), .int .i64 (a), .int .i64 (a), .int .i64 (a)] 40) := ⟨_, rfl⟩
  rw [← hW] at bS2 bR2 hB2 ⊢
  clear hW bS bR hB1 l0 l1 hb1
  have l0 := bS2.lt
  have l1 := bR2.lt
  have c0 := (bS2).cell (k := 0) (by omega); have c1 := (bS2).cell (k := 1) (by omega); have c2 := (bS2).cell (k := 2) (by omega); have c3 := (bS2).cell (k := 3) (by omega); have c4 := (bS2).cell (k := 4) (by omega); have c5 := (bS2).cell (k := 5) (by omega); have c6 := (bS2).cell (k := 6) (by omega); have c7 := (bS2).cell (k := 7) (by omega)
  have r0 := (bR2).cell (k := 0) (by omega); have r1 := (bR2).cell (k := 1) (by omega); have r2 := (bR2).cell (k := 2) (by omega); have r3 := (bR2).cell (k := 3) (by omega); have r4 := (bR2).cell (k := 4) (by omega); have r5 := (bR2).cell (k := 5) (by omega); have r6 := (bR2).cell (k := 6) (by omega); have r7 := (bR2).cell (k := 7) (by omega)
  have q0 := (bR2).free 0; have q1 := (bR2).free 1; have q2 := (bR2).free 2; have q3 := (bR2).free 3; have q4 := (bR2).free 4; have q5 := (bR2).free 5; have q6 := (bR2).free 6; have q7 := (bR2).free 7
  go_wp2
  refine bodyPost_ret (res_se (bR2.put f) Tryz.results44 rfl) rfl ⟨rfl, ?_⟩
  exact below_put8 hB2 (by omega) _
end Go.Proofs.YtadkaplafaeebaaGreatDoor
