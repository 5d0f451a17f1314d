/-
  Placed, where no cell leaves the grid.
-/
import Derived.Test.YtadkaplafaeebaaGreatDoorPkFQ
import Derived.Test.YtadkaplafaeebaaGreatDoorPkBQ
set_option linter.unusedVariables false
set_option linter.unusedSimpArgs false
namespace Go.Proofs.YtadkaplafaeebaaGreatDoor
open Go Go.RowKit

set_option maxRecDepth 100000 in
set_option maxHeartbeats 4000000 in
theorem Placed_in (f : Sol) (t : Nat) (x y z : Int) (w : World) (hf : Fit f) (ht : t < 24) (hm : mvB x y z = true) (hT : Tab64 w) (he : emptyS (turnedF f t) = false) (ho : outB (turnedF f t) x y z = false) :
    Calls Tryz.prog 48 #[sol f, .agg #[.int .i64 (t), .int .i64 (x), .int .i64 (y), .int .i64 (z)]] w fun e w' => e = .returned (.tuple #[sol (shiftS (turnedF f t) x y z), .int .i64 0]) ∧ Below w.heap.size w w' := by
  have H := Lib.hid (show motB t x y z = true by unfold motB; rw [decide_eq_true (by omega), hm]; rfl)
  have HF := Lib.hid hf
  have HT := Lib.hid hT
  have HE := Lib.hid he
  have HO := Lib.hid ho
  clear hf hT he ho hm
  go_enter Tryz.func48, Tryz.ntmps48
  go_wp2_with fail
  refine (isMotion_is H.out _).mono ?_
  rintro e w1 ⟨rfl, hb1⟩
  have bS : BoxS w1 w.heap.size f := (((BoxS.new w f).alloc _).alloc _).below hb1 (by simp <;> omega)
  have bM : w1.heap[w.heap.size + 1]? = some (.cells #[.int .i64 t, .int .i64 x, .int .i64 y, .int .i64 z] 46 (0, 0)) := (hb1.block _ (by simp)).trans ((Below.heap_alloc _ _ _ (by simp)).trans (blk_new (by simp)))
  have bR : BoxS w1 (w.heap.size + 1 + 1) (fun _ => 0) := (BoxS.zero (by simp)).below hb1 (by simp <;> omega)
  have hB1 : Below w.heap.size w w1 := up hb1 (by repeat' (first | (with_reducible exact Below.refl _ _) | (with_reducible assumption) | (with_reducible refine Below.alloc ?_ ?_ _) | (with_reducible refine Below.drew ?_) | (with_reducible refine below_drewN ?_ _) | (with_reducible refine Below.setCell ?_ ?_ _) | go_size))
  have l0 := bS.lt
  have l1 := bR.lt
  have lm : w.heap.size + 1 < w1.heap.size := by omega
  have m0 := blk_cell (k := 0) bM; have m1 := blk_cell (k := 1) bM; have m2 := blk_cell (k := 2) bM; have m3 := blk_cell (k := 3) bM
  simp only [List.getElem?_toArray, List.getElem?_cons_zero, List.getElem?_cons_succ] at m0 m1 m2 m3
  have c0 := (bS).cell (k := 0) (by omega); have c1 := (bS).cell (k := 1) (by omega); have c2 := (bS).cell (k := 2) (by omega); have c3 := (bS).cell (k := 3) (by omega); have c4 := (bS).cell (k := 4) (by omega); have c5 := (bS).cell (k := 5) (by omega); have c6 := (bS).cell (k := 6) (by omega); have c7 := (bS).cell (k := 7) (by omega)
  go_wp2_with fail
  (refine wp_region_quiet_tail 13 (fun w' => Below w1.heap.size w1 w') (by kernel_rfl) (by kernel_rfl) (Below.drew (Below.refl _ _)) ?_; simp only [List.take_succ_cons, List.take_zero, List.drop_succ_cons, List.drop_zero]; (iterate 13 (refine wpQuiet_step (fun K hK => ?_); go_simp; first | (refine hK _ ?_; clear hK K) | (apply Exists.intro; refine ⟨fun W' hW' => ?_, hK _ ?_⟩; (focus (first | (with_reducible exact rfl) | (with_reducible exact ⟨rfl, rfl⟩) | (obtain ⟨hcq, hfq⟩ := bcell hW'; have hzq := hW'.size; (try go_simp); first | (with_reducible exact rfl) | (with_reducible exact ⟨rfl, rfl⟩) | (first | (refine (turned_ok f t _ HF.out ht (HT.out.below (hB1.trans (hW'.mono hB1.size)) (Nat.le_refl _))).mono ?_; rintro e w2 ⟨rfl, hb2⟩; exact ⟨rfl, hW'.trans (hb2.mono hW'.size)⟩) | (refine (moved_in (turnedF f t) x y z _ (turnedF_fit f t) HE.out HO.out).mono ?_; rintro e w2 ⟨rfl, hb2⟩; exact ⟨rfl, hW'.trans (hb2.mono hW'.size)⟩))))); clear hK K))); refine wpQuiet_nil ?_; intro w1q hb1q)
  have bR2 := bR.below hb1q l1
  have l2 := bR2.lt
  have p0 := (bR2).cell (k := 0) (by omega); have p1 := (bR2).cell (k := 1) (by omega); have p2 := (bR2).cell (k := 2) (by omega); have p3 := (bR2).cell (k := 3) (by omega); have p4 := (bR2).cell (k := 4) (by omega); have p5 := (bR2).cell (k := 5) (by omega); have p6 := (bR2).cell (k := 6) (by omega); have p7 := (bR2).cell (k := 7) (by omega)
  have v0 := (bR2).free 0; have v1 := (bR2).free 1; have v2 := (bR2).free 2; have v3 := (bR2).free 3; have v4 := (bR2).free 4; have v5 := (bR2).free 5; have v6 := (bR2).free 6; have v7 := (bR2).free 7
  have hB2 : Below w.heap.size w w1q := up hb1q hB1
  clear c0 c1 c2 c3 c4 c5 c6 c7
  go_wp2
  refine bodyPost_ret (res_se (bR2.put (shiftS (turnedF f t) x y z)) Tryz.results48 rfl) rfl ⟨rfl, ?_⟩
  exact below_put8 hB2 (by omega) _
end Go.Proofs.YtadkaplafaeebaaGreatDoor
/-
  Back.
-/
set_option linter.unusedVariables false
set_option linter.unusedSimpArgs false
namespace Go.Proofs.YtadkaplafaeebaaGreatDoor
open Go Go.RowKit

theorem blk_lt {W : World} {b : Nat} {o : Obj} (h : W.heap[b]? = some o) : b < W.heap.size := (Array.getElem?_eq_some_iff.1 h).1
theorem blk_below {W W' : World} {b n : Nat} {o : Obj} (h : W.heap[b]? = some o) (hb : Below n W W') (hn : b < n) : W'.heap[b]? = some o := (hb.block b hn).trans h
theorem blk_alloc {W : World} {b : Nat} {o : Obj} (h : W.heap[b]? = some o) (o' : Obj) : (W.alloc o').heap[b]? = some o := (Below.heap_alloc W o' b (blk_lt h)).trans h
theorem blk_other {W : World} {b c k : Nat} {o : Obj} (h : W.heap[b]? = some o) (hne : b ≠ c) (v : Value) : (W.setCell ⟨c, k, none⟩ v).heap[b]? = some o := (Below.heap_setCell W ⟨c, k, none⟩ v b hne).trans h
/-- The greatest of the three numbers' sizes stays with a turn of a move. -/
theorem rollI0_sm {b : Int} {c : I3} (h : Sm3 b c) (k : Nat) : Sm3 b (rollI 0 k c) := by
  obtain ⟨x, y, z⟩ := c
  unfold Sm3 at *
  unfold rollI
  split <;> simp_all <;> omega
theorem upN0_sm {b : Int} {c : I3} (h : Sm3 b c) : ∀ n : Nat, Sm3 b (upN 0 n c)
  | 0 => h
  | n + 1 => by
    have := upN0_sm h n
    unfold Sm3 at *
    unfold upN upI
    simp only
    omega
theorem turnI0_sm {b : Int} {c : I3} (h : Sm3 b c) (t : Nat) : Sm3 b (turnI 0 t c) := upN0_sm (rollI0_sm h _) _
/-- A block of four numbers, or of three. -/
abbrev Q4 (W : World) (b : Nat) (t x y z : Int) : Prop := W.heap[b]? = some (.cells #[.int .i64 t, .int .i64 x, .int .i64 y, .int .i64 z] 46 (0, 0))
theorem Q4.cells {W : World} {b : Nat} {t x y z : Int} (h : Q4 W b t x y z) : W.cell? ⟨b, 0, none⟩ = some (.int .i64 t) ∧ W.cell? ⟨b, 1, none⟩ = some (.int .i64 x) ∧ W.cell? ⟨b, 2, none⟩ = some (.int .i64 y) ∧ W.cell? ⟨b, 3, none⟩ = some (.int .i64 z) := ⟨blk_cell h, blk_cell h, blk_cell h, blk_cell h⟩
theorem BoxC.cells {W : World} {b : Nat} {x y z : Int} (h : BoxC W b x y z) : W.cell? ⟨b, 0, none⟩ = some (.int .i64 x) ∧ W.cell? ⟨b, 1, none⟩ = some (.int .i64 y) ∧ W.cell? ⟨b, 2, none⟩ = some (.int .i64 z) := ⟨h.c0, h.c1, h.c2⟩
set_option maxRecDepth 100000 in
set_option maxHeartbeats 4000000 in
theorem back_in (t1 : Nat) (x1 y1 z1 a b c : Int) (T : Nat) (w : World) (h1 : t1 < 24) (m1 : mvB x1 y1 z1 = true) (hT : T < 24) (hto : toTurn (turnI 0 t1 (1, 2, 3)) (1, 2, 3) T) (ha : turnI 0 T (-x1, -y1, -z1) = (a, b, c)) :
    Calls Tryz.prog 52 #[.agg #[.int .i64 (t1), .int .i64 (x1), .int .i64 (y1), .int .i64 (z1)]] w fun e w' => e = .returned (.tuple #[.agg #[.int .i64 (T), .int .i64 (a), .int .i64 (b), .int .i64 (c)], .int .i64 0]) ∧ Below w.heap.size w w' := by
  have H1 := Lib.hid (show motB t1 x1 y1 z1 = true by unfold motB; rw [decide_eq_true (by omega), m1]; rfl)
  have s1 : Sm3 30 (-x1, -y1, -z1) := by have := of_decide_eq_true m1; unfold Sm3; simp only; omega
  have s0 : Sm3 30 (1, 2, 3) := by unfold Sm3; simp only; omega
  have s2 : Sm3 30 (turnI 0 t1 (1, 2, 3)) := turnI0_sm (by unfold Sm3; simp only; omega) t1
  have bm := of_decide_eq_true m1
  obtain ⟨p, hp⟩ : ∃ p, p = turnI 0 t1 (1, 2, 3) := ⟨_, rfl⟩
  have HTT := fun W => turn_ok 0 t1 1 2 3 W h1 (by omega) (by omega) s0
  rw [← hp] at hto s2 HTT
  obtain ⟨p1, p2, p3⟩ := p
  have HTU := Lib.hid HTT
  have HTO := Lib.hid hto
  have HTA := fun W => turn_ok 0 T (-x1) (-y1) (-z1) W hT (by omega) (by omega) s1
  rw [ha] at HTA
  have HTB := Lib.hid HTA
  clear hto ha m1 hp HTT HTA
  go_enter Tryz.func52, Tryz.ntmps52
  go_wp2_with fail
  refine (isMotion_is H1.out _).mono ?_
  rintro e w1 ⟨rfl, hb1⟩
  have M1 : Q4 w1 w.heap.size t1 x1 y1 z1 := blk_below (blk_alloc (blk_new rfl) _) hb1 (by simp <;> omega)
  have R1 : Q4 w1 (w.heap.size + 1) 0 0 0 0 := blk_below (blk_new (by simp)) hb1 (by simp <;> omega)
  have hB1 : Below w.heap.size w w1 := up hb1 (by repeat' (first | (with_reducible exact Below.refl _ _) | (with_reducible assumption) | (with_reducible refine Below.alloc ?_ ?_ _) | (with_reducible refine Below.drew ?_) | (with_reducible refine below_drewN ?_ _) | (with_reducible refine Below.setCell ?_ ?_ _) | go_size))
  obtain ⟨n0, n1, n2, n3⟩ := M1.cells
  have lM := blk_lt M1
  have lR := blk_lt R1
  go_wp2_with fail
  (refine wp_region_quiet (C := fun w' => Below w1.heap.size w1 w') (by kernel_rfl) (by kernel_rfl) (Below.drew (Below.refl _ _)) ?_; (iterate 7 (refine wpQuiet_step (fun K hK => ?_); go_simp; first | (refine hK _ ?_; clear hK K) | (apply Exists.intro; refine ⟨fun W' hW' => ?_, hK _ ?_⟩; (focus (first | (with_reducible exact rfl) | (with_reducible exact ⟨rfl, rfl⟩) | (obtain ⟨hcq, hfq⟩ := bcell hW'; have hzq := hW'.size; (try go_simp); first | (with_reducible exact rfl) | (with_reducible exact ⟨rfl, rfl⟩) | (first | (refine (lopsided_ok _).mono ?_; rintro e w9 ⟨rfl, hb9⟩; exact ⟨rfl, hW'.trans (hb9.mono hW'.size)⟩) | (refine (HTU.out _).mono ?_; rintro e w9 ⟨rfl, hb9⟩; exact ⟨rfl, hW'.trans (hb9.mono hW'.size)⟩) | (refine (turnTo_ok p1 p2 p3 1 2 3 T _ hT HTO.out s2).mono ?_; rintro e w9 ⟨rfl, hb9⟩; exact ⟨rfl, hW'.trans (hb9.mono hW'.size)⟩))))); clear hK K))); refine wpQuiet_nil ?_; intro w1q hb1q)
  have M2 := blk_below M1 hb1q lM
  have R2 := blk_below R1 hb1q lR
  have hB2 : Below w.heap.size w w1q := up hb1q hB1
  clear M1 R1 n0 n1 n2 n3 lM lR hb1
  obtain ⟨n0, n1, n2, n3⟩ := Q4.cells M2
  have lM := blk_lt M2
  have lR := blk_lt R2
  go_wp2_with fail
  refine (HTB.out _).mono ?_
  rintro e w3 ⟨rfl, hb3⟩
  have R3 := blk_below (blk_alloc R2 _) hb3 (by simp; omega)
  have hB3 : Below w.heap.size w w3 := up hb3 (by repeat' (first | (with_reducible exact Below.refl _ _) | (with_reducible assumption) | (with_reducible refine Below.alloc ?_ ?_ _) | (with_reducible refine Below.drew ?_) | (with_reducible refine below_drewN ?_ _) | (with_reducible refine Below.setCell ?_ ?_ _) | go_size))
  have lR3 := blk_lt R3
  clear n0 n1 n2 n3 M2
  go_wp2_with fail
  refine (motionOf_ok (T : Int) a b c _).mono ?_
  rintro e w4 ⟨rfl, hb4⟩
  have R4 := blk_below R3 hb4 lR3
  have hB4 : Below w.heap.size w w4 := up hb4 hB3
  have lR4 := blk_lt R4
  obtain ⟨n0, n1, n2, n3⟩ := Q4.cells R4
  have f0 := blk_free (k := 0) R4; have f1 := blk_free (k := 1) R4; have f2 := blk_free (k := 2) R4; have f3 := blk_free (k := 3) R4
  go_wp2_with fail
  have bE := blk_set (k := 3) (blk_set (k := 2) (blk_set (k := 1) (blk_set (k := 0) R4 (.int .i64 T)) (.int .i64 a)) (.int .i64 b)) (.int .i64 c)
  refine bodyPost_ret (res_4e Tryz.results52 rfl (blk_cell (k := 0) bE) (blk_cell (k := 1) bE) (blk_cell (k := 2) bE) (blk_cell (k := 3) bE)) rfl ⟨rfl, ?_⟩
  repeat' (first | (with_reducible exact Below.refl _ _) | (with_reducible assumption) | (with_reducible refine Below.alloc ?_ ?_ _) | (with_reducible refine Below.drew ?_) | (with_reducible refine below_drewN ?_ _) | (with_reducible refine Below.setCell ?_ ?_ _) | go_size)
end Go.Proofs.YtadkaplafaeebaaGreatDoor
/-
  compare: solids plane by plane.
-/
set_option linter.unusedVariables false
set_option linter.unusedSimpArgs false
namespace Go.Proofs.YtadkaplafaeebaaGreatDoor
open Go Go.RowKit

theorem isNaN_ok (x : Nat) (w : World) : Calls Tryz.prog 185 #[.int .u64 x] w fun e w' => e = .returned (.bool false) ∧ w = w' := by
  go_enter Tryz.func185, Tryz.ntmps185
  go_wp2
  go_ret
  exact ⟨by simp, rfl⟩
def cmpN (a b : Nat) : Int := if a < b then -1 else if b < a then 1 else 0
set_option maxRecDepth 100000 in
set_option maxHeartbeats 2000000 in
theorem cmp_ok (a b : Nat) (w : World) : Calls Tryz.prog 163 #[.int .u64 a, .int .u64 b] w fun e w' => e = .returned (.int .i64 (cmpN a b)) ∧ w = w' := by
  unfold cmpN
  by_cases h1 : a < b
  · have d1 : decide (a < b) = true := decide_eq_true h1
    rw [if_pos h1]
    clear h1
    go_enter Tryz.func163, Tryz.ntmps163
    go_wp2_with (first | (refine (isNaN_ok a _).mono ?_; rintro e w' ⟨rfl, rfl⟩) | (refine (isNaN_ok b _).mono ?_; rintro e w' ⟨rfl, rfl⟩))
    go_ret
    exact ⟨rfl, rfl⟩
  · have d1 : decide (a < b) = false := decide_eq_false h1
    rw [if_neg h1]
    by_cases h2 : b < a
    · have d2 : decide (b < a) = true := decide_eq_true h2
      rw [if_pos h2]
      clear h1 h2
      go_enter Tryz.func163, Tryz.ntmps163
      go_wp2_with (first | (refine (isNaN_ok a _).mono ?_; rintro e w' ⟨rfl, rfl⟩) | (refine (isNaN_ok b _).mono ?_; rintro e w' ⟨rfl, rfl⟩))
      go_ret
      exact ⟨rfl, rfl⟩
    · have d2 : decide (b < a) = false := decide_eq_false h2
      rw [if_neg h2]
      clear h1 h2
      go_enter Tryz.func163, Tryz.ntmps163
      go_wp2_with (first | (refine (isNaN_ok a _).mono ?_; rintro e w' ⟨rfl, rfl⟩) | (refine (isNaN_ok b _).mono ?_; rintro e w' ⟨rfl, rfl⟩))
      go_ret
      exact ⟨rfl, rfl⟩
/-- How two solids sort, from a plane on. -/
def cmpFrom (f g : Sol) : Nat → Nat → Int
  | 0, _ => 0
  | n + 1, k => if cmpN (f k) (g k) = 0 then cmpFrom f g n (k + 1) else cmpN (f k) (g k)
def cmpS (f g : Sol) : Int := cmpFrom f g 8 0
set_option maxRecDepth 100000 in
set_option maxHeartbeats 2000000 in
theorem slices_compare_ok (f g : Sol) (b1 b2 : Nat) (w : World) (h1 : BoxS w b1 f) (h2 : BoxS w b2 g) :
    Calls Tryz.prog 150 #[.slice (some ⟨b1, 0, none⟩) 8 8, .slice (some ⟨b2, 0, none⟩) 8 8] w fun e w' => e = .returned (.int .i64 (cmpS f g)) ∧ w = w' := by
  go_enter Tryz.func150, Tryz.ntmps150
  go_wp2
  go_loopw [11] (fun c wr => ∃ k : Nat, k ≤ 8 ∧ c = .int .i64 k ∧ Hid (cmpS f g = cmpFrom f g (8 - k) k) ∧ w = wr) (fun c _ => 8 - (intOf c).toNat)
  case atStart => exact ⟨0, by omega, rfl, Lib.hid rfl, rfl⟩
  case round =>
    obtain ⟨k, hk, rfl, HC, rfl⟩ := hrel
    by_cases hlt : k < 8
    · have hd : decide ((k : Int) < 8) = true := decide_eq_true (by omega)
      have hd2 : decide ((8 : Int) ≤ k) = false := decide_eq_false (by omega)
      have c1 := h1.cell hlt
      have c2 := h2.cell hlt
      have e1 : cmpFrom f g (8 - k) k = if cmpN (f k) (g k) = 0 then cmpFrom f g (8 - (k + 1)) (k + 1) else cmpN (f k) (g k) := by
        rw [show 8 - k = (8 - (k + 1)) + 1 by omega]; rfl
      have E1 := Lib.hid e1
      clear e1
      obtain ⟨c, hc⟩ : ∃ c, c = cmpN (f k) (g k) := ⟨_, rfl⟩
      have HCM := Lib.hid (fun W => hc ▸ cmp_ok (f k) (g k) W)
      have HCE := Lib.hid hc
      clear hc
      by_cases hz : c = 0
      · have hz2 : (c != 0) = false := by simp [hz]
        have HZ := Lib.hid hz
        clear hz
        go_wp2_with (refine (HCM.out _).mono ?_; rintro e w' ⟨rfl, rfl⟩)
        go_roundw
        case rel => exact ⟨k + 1, by omega, by go_num, Lib.hid (by rw [HC.out, E1.out, if_pos (by rw [← HCE.out]; exact HZ.out)]), trivial⟩
        case measure => simp [intOf]; omega
      · have hz2 : (c != 0) = true := by simp [hz]
        have HZ := Lib.hid hz
        clear hz
        go_wp2_with (refine (HCM.out _).mono ?_; rintro e w' ⟨rfl, rfl⟩)
        go_ret
        exact ⟨retI (by rw [HC.out, E1.out, if_neg (by rw [← HCE.out]; exact HZ.out)]; exact HCE.out), rfl⟩
    · obtain rfl : k = 8 := by omega
      have hd : decide ((8 : Int) < 8) = false := by decide
      go_wp2
      go_ret
      exact ⟨retI (by rw [HC.out]; rfl), rfl⟩
set_option maxRecDepth 100000 in
set_option maxHeartbeats 2000000 in
theorem compare_ok (f g : Sol) (w : World) :
    Calls Tryz.prog 118 #[sol f, sol g] w fun e w' => e = .returned (.int .i64 (cmpS f g)) ∧ Below w.heap.size w w' := by
  have b1 := (BoxS.new w f).alloc (.cells (solC g) 24)
  have b2 : BoxS ((w.alloc (.cells (solC f) 24)).alloc (.cells (solC g) 24)) (w.heap.size + 1) g := BoxS.new' (by simp)
  go_enter Tryz.func118, Tryz.ntmps118
  go_wp2
  obtain ⟨W, hW⟩ : ∃ W, W = ((w.alloc (.cells (solC f) 24)).alloc (.cells (solC g) 24)) := ⟨_, rfl⟩
  have hBW : Below w.heap.size w W := by rw [hW]; repeat' (first | (with_reducible exact Below.refl _ _) | (with_reducible assumption) | (with_reducible refine Below.alloc ?_ ?_ _) | (with_reducible refine Below.drew ?_) | (with_reducible refine below_drewN ?_ _) | (with_reducible refine Below.setCell ?_ ?_ _) | go_size)
  rw [← hW] at b1 b2 ⊢
  have l1 := b1.lt
  have l2 := b2.lt
  clear hW
  (refine wp_region_quiet (C := fun w' => Below W.heap.size W w') (by kernel_rfl) (by kernel_rfl) (Below.drew (Below.refl _ _)) ?_; (iterate 4 (refine wpQuiet_step (fun K hK => ?_); go_simp; first | (refine hK _ ?_; clear hK K) | (apply Exists.intro; refine ⟨fun W' hW' => ?_, hK _ ?_⟩; (focus (first | (with_reducible exact rfl) | (with_reducible exact ⟨rfl, rfl⟩) | (obtain ⟨hcq, hfq⟩ := bcell hW'; have hzq := hW'.size; (try go_simp); first | (with_reducible exact rfl) | (with_reducible exact ⟨rfl, rfl⟩) | (refine (slices_compare_ok f g _ _ _ (b1.below hW' l1) (b2.below hW' l2)).mono ?_; rintro e w9 ⟨rfl, rfl⟩; exact ⟨rfl, hW'⟩)))); clear hK K))); refine wpQuiet_nil ?_; intro w1q hb1q)
  go_wp2
  go_ret
  exact ⟨rfl, hBW.trans (hb1q.mono hBW.size)⟩
end Go.Proofs.YtadkaplafaeebaaGreatDoor
/-
  The least image of a solid: plain mathematics.
-/
set_option linter.unusedVariables false
set_option linter.unusedSimpArgs false
namespace Go.Proofs.YtadkaplafaeebaaGreatDoor
open Go Go.RowKit

theorem BoxS.putOther {W : World} {B b : Nat} {f : Sol} (h : BoxS W B f) (hne : B ≠ b) (g : Sol) : BoxS (put8 W b g) B f := (((((((h.other hne _).other hne _).other hne _).other hne _).other hne _).other hne _).other hne _).other hne _
theorem shl_lt {b : Int} {p : Nat} (h : p < 18446744073709551616) : shl b p < 18446744073709551616 := by
  unfold shl
  split
  · exact Nat.lt_of_le_of_lt (Nat.div_le_self _ _) h
  · exact Nat.mod_lt _ (by omega)
theorem shiftF_fit {f : Sol} (hf : Fit f) (x y z : Int) : ∀ k, Fit (shiftF f x y z k)
  | 0 => fit0
  | k + 1 => by
    have ih := shiftF_fit hf x y z k
    unfold shiftF
    split
    · exact ih
    · intro i
      unfold up8
      split
      · exact shl_lt (hf k)
      · exact ih i
theorem cornF_fit {f : Sol} (hf : Fit f) : Fit (cornF f) := shiftF_fit hf _ _ _ 8
theorem setC_ne (g : Sol) (c : Cl) : setC g c (cZ c) ≠ 0 := by
  unfold setC up8
  rw [if_pos rfl]
  exact or_ne (.inr (Nat.pos_iff_ne_zero.1 (Nat.two_pow_pos _)))
theorem setC_keep {g : Sol} {k : Nat} (h : g k ≠ 0) (c : Cl) : setC g c k ≠ 0 := by
  unfold setC up8
  split
  · rename_i e; subst e; exact or_ne (.inl h)
  · exact h
theorem foldl_keep (l : List Cl) : ∀ {g : Sol} {k : Nat}, g k ≠ 0 → l.foldl setC g k ≠ 0 := by
  induction l with
  | nil => exact fun h => h
  | cons c l ih => exact fun h => ih (setC_keep h c)
theorem solOf_ne {l : List Cl} (h : l ≠ []) : emptyS (solOf l) = false := by
  cases l with
  | nil => exact absurd rfl h
  | cons c l =>
    have h1 : solOf (c :: l) (cZ c) ≠ 0 := foldl_keep l (setC_ne _ c)
    cases he : emptyS (solOf (c :: l)) with
    | false => rfl
    | true => exact absurd ((empty_iff _).1 he _ (by have := Z_le c; omega)) h1
theorem cellsL_ne {f : Sol} (hf : Fit f) (h : emptyS f = false) : cellsL f ≠ [] := by
  intro h0
  have hz : ∀ k, k < 8 → f k = 0 := by
    intro k hk
    refine Classical.byContradiction fun hne => ?_
    have hm : ci k (low (f k)) ∈ cellsL f := by
      unfold cellsL restL
      refine List.mem_flatMap.2 ⟨k, List.mem_range'_1.2 ⟨by omega, by omega⟩, ?_⟩
      rw [planeL_pos k hne (hf k)]
      exact List.mem_cons_self
    rw [h0] at hm
    cases hm
  rw [(empty_iff f).2 hz] at h
  cases h
theorem turnedF_ne {f : Sol} (hf : Fit f) (h : emptyS f = false) (t : Nat) : emptyS (turnedF f t) = false := solOf_ne fun e => cellsL_ne hf h (List.map_eq_nil_iff.1 e)
/-- An image: a turn, moved to the corner. -/
def imgF (f : Sol) (t : Nat) : Sol := cornF (turnedF f t)
theorem imgF_fit (f : Sol) (t : Nat) : Fit (imgF f t) := cornF_fit (solOf_fit _)
def canonN (f : Sol) : Nat → Sol
  | 0 => cornF f
  | t + 1 => if cmpS (imgF f t) (canonN f t) < 0 then imgF f t else canonN f t
def canonF (f : Sol) : Sol := canonN f 24
end Go.Proofs.YtadkaplafaeebaaGreatDoor
/-
  Canon and Same.
-/
set_option linter.unusedVariables false
set_option linter.unusedSimpArgs false
namespace Go.Proofs.YtadkaplafaeebaaGreatDoor
open Go Go.RowKit

set_option maxRecDepth 100000 in
set_option maxHeartbeats 4000000 in
theorem canon_any (f : Sol) (w : World) (hf : Fit f) (hT : Tab64 w) :
    Calls Tryz.prog 62 #[sol f] w fun e w' => e = .returned (sol (canonF f)) ∧ Below w.heap.size w w' := by
  have HF := Lib.hid hf
  have HT := Lib.hid hT
  clear hf hT
  go_enter Tryz.func62, Tryz.ntmps62
  go_wp2_with fail
  refine (cornered_any f _ HF.out).mono ?_
  rintro e w1 ⟨rfl, hb1⟩
  have bS : BoxS w1 w.heap.size f := ((BoxS.new w f).alloc _).below hb1 (by simp <;> omega)
  have bR : BoxS w1 (w.heap.size + 1) (fun _ => 0) := (BoxS.zero (by simp)).below hb1 (by simp <;> omega)
  have hB1 : Below w.heap.size w w1 := up hb1 (by repeat' (first | (with_reducible exact Below.refl _ _) | (with_reducible assumption) | (with_reducible refine Below.alloc ?_ ?_ _) | (with_reducible refine Below.drew ?_) | (with_reducible refine below_drewN ?_ _) | (with_reducible refine Below.setCell ?_ ?_ _) | go_size))
  have lS := bS.lt
  have lR := bR.lt
  go_wp2_with fail
  go_loopw [8] (fun c wr => ∃ t : Nat, t ≤ 24 ∧ c = .int .i64 t ∧ BoxS wr w.heap.size f ∧ BoxS wr (w.heap.size + 1) (fun _ => 0) ∧ BoxS wr w1.heap.size (canonN f t) ∧ Below w.heap.size w wr) (fun c _ => 24 - (intOf c).toNat)
  case atStart => exact ⟨0, by omega, rfl, bS.alloc _, bR.alloc _, BoxS.new' rfl, hB1.alloc (by omega) _⟩
  case round =>
    clear bS bR hB1 hb1
    obtain ⟨t, ht, rfl, bS, bR, bL, hB⟩ := hrel
    have kS := bS.lt
    have kR := bR.lt
    have kL := bL.lt
    have c0 := (bS).cell (k := 0) (by omega); have c1 := (bS).cell (k := 1) (by omega); have c2 := (bS).cell (k := 2) (by omega); have c3 := (bS).cell (k := 3) (by omega); have c4 := (bS).cell (k := 4) (by omega); have c5 := (bS).cell (k := 5) (by omega); have c6 := (bS).cell (k := 6) (by omega); have c7 := (bS).cell (k := 7) (by omega)
    by_cases hlt : t < 24
    · have hd : decide ((t : Int) < 24) = true := decide_eq_true (by omega)
      go_wp2_with fail
      refine (turned_ok f t _ HF.out hlt (HT.out.below hB (Nat.le_refl _))).mono ?_
      rintro e w2 ⟨rfl, hb2⟩
      have bS2 := bS.below hb2 kS
      have bR2 := bR.below hb2 kR
      have bL2 := bL.below hb2 kL
      have hB2 : Below w.heap.size w w2 := up hb2 hB
      have s2 := hb2.size
      go_wp2_with fail
      refine (cornered_any (turnedF f t) _ (solOf_fit _)).mono ?_
      rintro e w3 ⟨rfl, hb3⟩
      have bS3 := bS2.below hb3 bS2.lt
      have bR3 := bR2.below hb3 bR2.lt
      have bL3 := bL2.below hb3 bL2.lt
      have hB3 : Below w.heap.size w w3 := up hb3 hB2
      have s3 := hb3.size
      clear c0 c1 c2 c3 c4 c5 c6 c7
      have lL3 := bL3.lt
      have c0 := (bL3).cell (k := 0) (by omega); have c1 := (bL3).cell (k := 1) (by omega); have c2 := (bL3).cell (k := 2) (by omega); have c3 := (bL3).cell (k := 3) (by omega); have c4 := (bL3).cell (k := 4) (by omega); have c5 := (bL3).cell (k := 5) (by omega); have c6 := (bL3).cell (k := 6) (by omega); have c7 := (bL3).cell (k := 7) (by omega)
      have q0 := (bL3).free 0; have q1 := (bL3).free 1; have q2 := (bL3).free 2; have q3 := (bL3).free 3; have q4 := (bL3).free 4; have q5 := (bL3).free 5; have q6 := (bL3).free 6; have q7 := (bL3).free 7
      go_wp2_with fail
      have HC := compare_ok (imgF f t) (canonN f t)
      obtain ⟨d, hd2⟩ : ∃ d, d = cmpS (imgF f t) (canonN f t) := ⟨_, rfl⟩
      rw [← hd2] at HC
      have HD := Lib.hid hd2
      clear hd2
      refine (HC _).mono ?_
      rintro e w4 ⟨rfl, hb4⟩
      have bI4 : BoxS w4 w3.heap.size (imgF f t) := (BoxS.new' rfl).below hb4 (by simp)
      have bS4 := (bS3.alloc (.cells (solC (imgF f t)) 24)).below hb4 (by have := bS3.lt; simp; omega)
      have bR4 := (bR3.alloc (.cells (solC (imgF f t)) 24)).below hb4 (by have := bR3.lt; simp; omega)
      have bL4 := (bL3.alloc (.cells (solC (imgF f t)) 24)).below hb4 (by simp; omega)
      have hB4 : Below w.heap.size w w4 := up hb4 (hB3.alloc (by omega) _)
      clear c0 c1 c2 c3 c4 c5 c6 c7 q0 q1 q2 q3 q4 q5 q6 q7 HC
      by_cases hz : d < 0
      · have hz2 : decide (d < 0) = true := decide_eq_true hz
        have lI := bI4.lt
        have lL := bL4.lt
        have c0 := (bI4).cell (k := 0) (by omega); have c1 := (bI4).cell (k := 1) (by omega); have c2 := (bI4).cell (k := 2) (by omega); have c3 := (bI4).cell (k := 3) (by omega); have c4 := (bI4).cell (k := 4) (by omega); have c5 := (bI4).cell (k := 5) (by omega); have c6 := (bI4).cell (k := 6) (by omega); have c7 := (bI4).cell (k := 7) (by omega)
        have p0 := (bL4).cell (k := 0) (by omega); have p1 := (bL4).cell (k := 1) (by omega); have p2 := (bL4).cell (k := 2) (by omega); have p3 := (bL4).cell (k := 3) (by omega); have p4 := (bL4).cell (k := 4) (by omega); have p5 := (bL4).cell (k := 5) (by omega); have p6 := (bL4).cell (k := 6) (by omega); have p7 := (bL4).cell (k := 7) (by omega)
        have q0 := (bL4).free 0; have q1 := (bL4).free 1; have q2 := (bL4).free 2; have q3 := (bL4).free 3; have q4 := (bL4).free 4; have q5 := (bL4).free 5; have q6 := (bL4).free 6; have q7 := (bL4).free 7
        go_wp2_with fail
        have bL5 := bL4.put (imgF f t)
        go_roundw
        case rel => exact ⟨t + 1, by omega, by go_num, bS4.putOther (by omega) _, bR4.putOther (by omega) _, by rw [show canonN f (t + 1) = imgF f t by rw [canonN, if_pos (by rw [← HD.out]; exact hz)]]; exact bL5, below_put8 hB4 (by omega) _⟩
        case measure => simp [intOf]; omega
      · have hz2 : decide (d < 0) = false := decide_eq_false hz
        go_wp2_with fail
        go_roundw
        case rel => exact ⟨t + 1, by omega, by go_num, bS4, bR4, by rw [show canonN f (t + 1) = canonN f t by rw [canonN, if_neg (by rw [← HD.out]; omega)]]; exact bL4, hB4⟩
        case measure => simp [intOf]; omega
    · obtain rfl : t = 24 := by omega
      have hd : decide ((24 : Int) < 24) = false := by decide
      have p0 := (bL).cell (k := 0) (by omega); have p1 := (bL).cell (k := 1) (by omega); have p2 := (bL).cell (k := 2) (by omega); have p3 := (bL).cell (k := 3) (by omega); have p4 := (bL).cell (k := 4) (by omega); have p5 := (bL).cell (k := 5) (by omega); have p6 := (bL).cell (k := 6) (by omega); have p7 := (bL).cell (k := 7) (by omega)
      have r0 := (bR).cell (k := 0) (by omega); have r1 := (bR).cell (k := 1) (by omega); have r2 := (bR).cell (k := 2) (by omega); have r3 := (bR).cell (k := 3) (by omega); have r4 := (bR).cell (k := 4) (by omega); have r5 := (bR).cell (k := 5) (by omega); have r6 := (bR).cell (k := 6) (by omega); have r7 := (bR).cell (k := 7) (by omega)
      have q0 := (bR).free 0; have q1 := (bR).free 1; have q2 := (bR).free 2; have q3 := (bR).free 3; have q4 := (bR).free 4; have q5 := (bR).free 5; have q6 := (bR).free 6; have q7 := (bR).free 7
      go_wp2_with fail
      refine bodyPost_ret (res_s (bR.put (canonN f 24)) Tryz.results62 rfl) rfl ⟨rfl, ?_⟩
      exact below_put8 hB (by omega) _
end Go.Proofs.YtadkaplafaeebaaGreatDoor
/-
  Same.
-/
set_option linter.unusedVariables false
set_option linter.unusedSimpArgs false
namespace Go.Proofs.YtadkaplafaeebaaGreatDoor
open Go Go.RowKit

def sameB (f g : Sol) : Bool := eqS (canonF f) (canonF g)
set_option maxRecDepth 100000 in
set_option maxHeartbeats 4000000 in
theorem same_any (f g : Sol) (w : World) (hf : Fit f) (hg : Fit g) (hT : Tab64 w) :
    Calls Tryz.prog 64 #[sol f, sol g] w fun e w' => e = .returned (.bool (sameB f g)) ∧ Below w.heap.size w w' := by
  have b1 := (BoxS.new w f).alloc (.cells (solC g) 24)
  have b2 : BoxS ((w.alloc (.cells (solC f) 24)).alloc (.cells (solC g) 24)) (w.heap.size + 1) g := BoxS.new' (by simp)
  have HF := Lib.hid hf
  have HG := Lib.hid hg
  have HT := Lib.hid hT
  have CF := Lib.hid (fun W (h : Below w.heap.size w W) => canon_any f W HF.out (HT.out.below h (Nat.le_refl _)))
  have CG := Lib.hid (fun W (h : Below w.heap.size w W) => canon_any g W HG.out (HT.out.below h (Nat.le_refl _)))
  clear hf hg hT
  go_enter Tryz.func64, Tryz.ntmps64
  go_wp2_with fail
  obtain ⟨W, hW⟩ : ∃ W, W = ((w.alloc (.cells (solC f) 24)).alloc (.cells (solC g) 24)) := ⟨_, rfl⟩
  have hBW : Below w.heap.size w W := by rw [hW]; repeat' (first | (with_reducible exact Below.refl _ _) | (with_reducible assumption) | (with_reducible refine Below.alloc ?_ ?_ _) | (with_reducible refine Below.drew ?_) | (with_reducible refine below_drewN ?_ _) | (with_reducible refine Below.setCell ?_ ?_ _) | go_size)
  rw [← hW] at b1 b2 ⊢
  have l1 := b1.lt
  have l2 := b2.lt
  clear hW
  have c0 := (b1).cell (k := 0) (by omega); have c1 := (b1).cell (k := 1) (by omega); have c2 := (b1).cell (k := 2) (by omega); have c3 := (b1).cell (k := 3) (by omega); have c4 := (b1).cell (k := 4) (by omega); have c5 := (b1).cell (k := 5) (by omega); have c6 := (b1).cell (k := 6) (by omega); have c7 := (b1).cell (k := 7) (by omega)
  have r0 := (b2).cell (k := 0) (by omega); have r1 := (b2).cell (k := 1) (by omega); have r2 := (b2).cell (k := 2) (by omega); have r3 := (b2).cell (k := 3) (by omega); have r4 := (b2).cell (k := 4) (by omega); have r5 := (b2).cell (k := 5) (by omega); have r6 := (b2).cell (k := 6) (by omega); have r7 := (b2).cell (k := 7) (by omega)
  (refine wp_region_quiet (C := fun w' => Below W.heap.size W w') (by kernel_rfl) (by kernel_rfl) (Below.drew (Below.refl _ _)) ?_; (iterate 6 (refine wpQuiet_step (fun K hK => ?_); go_simp; first | (refine hK _ ?_; clear hK K) | (apply Exists.intro; refine ⟨fun W' hW' => ?_, hK _ ?_⟩; (focus (first | (with_reducible exact rfl) | (with_reducible exact ⟨rfl, rfl⟩) | (obtain ⟨hcq, hfq⟩ := bcell hW'; have hzq := hW'.size; (try go_simp); first | (with_reducible exact rfl) | (with_reducible exact ⟨rfl, rfl⟩) | (first | ((with_reducible refine Calls.mono (CF.out _ (hBW.trans (hW'.mono hBW.size))) ?_); rintro e w9 ⟨rfl, hb9⟩; exact ⟨rfl, hW'.trans (hb9.mono hW'.size)⟩) | ((with_reducible refine Calls.mono (CG.out _ (hBW.trans (hW'.mono hBW.size))) ?_); rintro e w9 ⟨rfl, hb9⟩; exact ⟨rfl, hW'.trans (hb9.mono hW'.size)⟩))))); clear hK K))); refine wpQuiet_nil ?_; intro w1q hb1q)
  go_wp2_with fail
  go_ret
  exact ⟨rfl, hBW.trans (hb1q.mono hBW.size)⟩
theorem same_ok (f g : Sol) (w : World) (hf : Fit f) (hg : Fit g) (h : emptyS f = false) (h' : emptyS g = false) (hT : Tab64 w) :
    Calls Tryz.prog 64 #[sol f, sol g] w fun e w' => e = .returned (.bool (sameB f g)) ∧ Below w.heap.size w w' := same_any f g w hf hg hT
end Go.Proofs.YtadkaplafaeebaaGreatDoor
