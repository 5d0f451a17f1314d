/-
  Where a turn takes a cell.
-/
import Derived.Test.YtadkaplafaeebaaGreatDoorPkAQ
import Derived.Deep.RegionWith
import Derived.Laws.EntriesVeiled
set_option linter.unusedVariables false
set_option linter.unusedSimpArgs false
namespace Go.Proofs.YtadkaplafaeebaaGreatDoor
open Go Go.RowKit

/-- A block that holds a cell's three numbers. -/
def BoxC (W : World) (B : Nat) (x y z : Int) : Prop := W.heap[B]? = some (.cells #[.int .i64 x, .int .i64 y, .int .i64 z] 26 (0, 0))
section
variable {W : World} {B : Nat} {x y z : Int}
theorem BoxC.lt (h : BoxC W B x y z) : B < W.heap.size := (Array.getElem?_eq_some_iff.1 h).1
theorem BoxC.c0 (h : BoxC W B x y z) : W.cell? ⟨B, 0, none⟩ = some (.int .i64 x) := by simp [World.cell?, show W.heap[B]? = _ from h]
theorem BoxC.c1 (h : BoxC W B x y z) : W.cell? ⟨B, 1, none⟩ = some (.int .i64 y) := by simp [World.cell?, show W.heap[B]? = _ from h]
theorem BoxC.c2 (h : BoxC W B x y z) : W.cell? ⟨B, 2, none⟩ = some (.int .i64 z) := by simp [World.cell?, show W.heap[B]? = _ from h]
theorem BoxC.free (h : BoxC W B x y z) (k : Nat) : W.frozen? ⟨B, k, none⟩ = false := by simp [World.frozen?, show W.heap[B]? = _ from h]
theorem BoxC.new {n : Nat} (h : n = W.heap.size) : BoxC (W.alloc (.cells #[.int .i64 x, .int .i64 y, .int .i64 z] 26)) n x y z := by
  subst h
  show (W.heap.push _)[W.heap.size]? = _
  rw [Array.getElem?_push, if_pos rfl]
theorem BoxC.alloc (h : BoxC W B x y z) (o : Obj) : BoxC (W.alloc o) B x y z := (Below.heap_alloc W o B h.lt).trans h
theorem BoxC.drew (h : BoxC W B x y z) : BoxC W.drew B x y z := h
theorem BoxC.other (h : BoxC W B x y z) {b o : Nat} (hne : B ≠ b) (v : Value) : BoxC (W.setCell ⟨b, o, none⟩ v) B x y z := (Below.heap_setCell W ⟨b, o, none⟩ v B hne).trans h
theorem BoxC.below {W' : World} {n : Nat} (h : BoxC W B x y z) (hb : Below n W W') (hB : B < n) : BoxC W' B x y z := (hb.block B hB).trans h
theorem BoxC.set0 (h : BoxC W B x y z) (v : Int) : BoxC (W.setCell ⟨B, 0, none⟩ (.int .i64 v)) B v y z := by
  obtain ⟨hlt, he⟩ := Array.getElem?_eq_some_iff.1 h
  show (W.heap.modify B _)[B]? = _
  rw [Array.getElem?_eq_getElem (by rw [Array.size_modify]; exact hlt), Array.getElem_modify_self, he]; rfl
theorem BoxC.set1 (h : BoxC W B x y z) (v : Int) : BoxC (W.setCell ⟨B, 1, none⟩ (.int .i64 v)) B x v z := by
  obtain ⟨hlt, he⟩ := Array.getElem?_eq_some_iff.1 h
  show (W.heap.modify B _)[B]? = _
  rw [Array.getElem?_eq_getElem (by rw [Array.size_modify]; exact hlt), Array.getElem_modify_self, he]; rfl
theorem BoxC.set2 (h : BoxC W B x y z) (v : Int) : BoxC (W.setCell ⟨B, 2, none⟩ (.int .i64 v)) B x y v := by
  obtain ⟨hlt, he⟩ := Array.getElem?_eq_some_iff.1 h
  show (W.heap.modify B _)[B]? = _
  rw [Array.getElem?_eq_getElem (by rw [Array.size_modify]; exact hlt), Array.getElem_modify_self, he]; rfl
theorem BoxC.put (h : BoxC W B x y z) (a b c : Int) : BoxC (((W.setCell ⟨B, 0, none⟩ (.int .i64 a)).setCell ⟨B, 1, none⟩ (.int .i64 b)).setCell ⟨B, 2, none⟩ (.int .i64 c)) B a b c := ((h.set0 a).set1 b).set2 c
end

abbrev I3 := Int × Int × Int
def rollI (f : Int) : Nat → I3 → I3
  | 0, (x, y, z) => (x, y, z)
  | 1, (x, y, z) => (x, f - z, y)
  | 2, (x, y, z) => (x, f - y, f - z)
  | 3, (x, y, z) => (x, z, f - y)
  | 4, (x, y, z) => (z, y, f - x)
  | _, (x, y, z) => (f - z, y, x)
def upI (f : Int) (c : I3) : I3 := (f - c.2.1, c.1, c.2.2)
def upN (f : Int) : Nat → I3 → I3
  | 0, c => c
  | n + 1, c => upI f (upN f n c)
def turnI (f : Int) (t : Nat) (c : I3) : I3 := upN f (t % 4) (rollI f (t / 4) c)
/-- All three numbers are small. -/
def Sm3 (b : Int) (c : I3) : Prop := -b ≤ c.1 ∧ c.1 ≤ b ∧ -b ≤ c.2.1 ∧ c.2.1 ≤ b ∧ -b ≤ c.2.2 ∧ c.2.2 ≤ b
theorem rollI_sm {f b : Int} (h0 : 0 ≤ f) (h1 : f ≤ 7) {c : I3} (h : Sm3 b c) (k : Nat) : Sm3 (b + 7) (rollI f k c) := by
  obtain ⟨x, y, z⟩ := c
  unfold Sm3 at *
  unfold rollI
  split <;> simp_all <;> omega
theorem upN_sm {f b : Int} (h0 : 0 ≤ f) (h1 : f ≤ 7) {c : I3} (h : Sm3 b c) : ∀ n : Nat, Sm3 (b + 7 * n) (upN f n c)
  | 0 => by simpa [upN] using h
  | n + 1 => by
    have := upN_sm h0 h1 h n
    unfold Sm3 at *
    unfold upN upI
    simp only
    omega

theorem roll_ok (f : Int) (k : Nat) (x y z : Int) (w : World) (hk : k < 6) (hf : Sm f) (hx : Sm x) (hy : Sm y) (hz : Sm z) : Calls Tryz.prog (140 + k) #[.int .i64 f, .agg #[.int .i64 (x), .int .i64 (y), .int .i64 (z)]] w fun e w' => e = .returned (.agg #[.int .i64 ((rollI f k (x, y, z)).1), .int .i64 ((rollI f k (x, y, z)).2.1), .int .i64 ((rollI f k (x, y, z)).2.2)]) ∧ Below w.heap.size w w' := by
  have h : k = 0 ∨ k = 1 ∨ k = 2 ∨ k = 3 ∨ k = 4 ∨ k = 5 := by omega
  rcases h with rfl | rfl | rfl | rfl | rfl | rfl
  · exact roll0_ok f x y z w
  · exact roll1_ok f x y z w hf hx hy hz
  · exact roll2_ok f x y z w hf hx hy hz
  · exact roll3_ok f x y z w hf hx hy hz
  · exact roll4_ok f x y z w hf hx hy hz
  · exact roll5_ok f x y z w hf hx hy hz

set_option maxRecDepth 100000 in
set_option maxHeartbeats 2000000 in
theorem turn_core (f : Int) (t : Nat) (k r : Nat) (x y z a b c : Int) (w : World) (hk : (t : Int) / 4 = k) (hr : (t : Int) % 4 = r) (hr4 : r < 4) (ht : t < 24) (f0 : 0 ≤ f) (f7 : f ≤ 7) (hs : Sm3 37 (a, b, c)) (g : Nat) (hg : g = 140 + k) (hk6 : k < 6)
    (hroll : ∀ W, Calls Tryz.prog g #[.int .i64 f, .agg #[.int .i64 (x), .int .i64 (y), .int .i64 (z)]] W fun e w' => e = .returned (.agg #[.int .i64 (a), .int .i64 (b), .int .i64 (c)]) ∧ Below W.heap.size W w') :
    Calls Tryz.prog 107 #[.int .i64 f, .agg #[.int .i64 (x), .int .i64 (y), .int .i64 (z)], .int .i64 t] w fun e w' => e = .returned (.agg #[.int .i64 ((upN f r (a, b, c)).1), .int .i64 ((upN f r (a, b, c)).2.1), .int .i64 ((upN f r (a, b, c)).2.2)]) ∧ Below w.heap.size w w' := by
  have HR := Lib.hid hroll
  clear hroll
  have hc : k = 0 ∨ k = 1 ∨ k = 2 ∨ k = 3 ∨ k = 4 ∨ k = 5 := by omega
  clear hk6
  rcases hc with rfl | rfl | rfl | rfl | rfl | rfl
  all_goals
    simp only [Nat.reduceAdd] at hg
    subst hg
    go_enter Tryz.func107, Tryz.ntmps107
    go_wp2
    go_region_with (((with_reducible refine Calls.mono (HR.out _) ?_); rintro e w1 ⟨rfl, hb1⟩; replace hb1 := below_undrew hb1; obtain ⟨hc1, hf1⟩ := bcell hb1; have hB1 : Below w.heap.size w w1 := up hb1 (by repeat' (first | (with_reducible exact Below.refl _ _) | (with_reducible assumption) | (with_reducible refine Below.alloc ?_ ?_ _) | (with_reducible refine Below.drew ?_) | (with_reducible refine below_drewN ?_ _) | (with_reducible refine Below.setCell ?_ ?_ _) | go_size)); have hz1 := hb1.size; (try simp at hz1); (have l0 : w.heap.size < w1.heap.size := (by omega))))
    all_goals
      go_wp2
      have bA : BoxC w1 w.heap.size x y z := (((BoxC.new rfl).alloc _).alloc _).below hb1 (by simp; omega)
      have bR : BoxC w1 (w.heap.size + 1) 0 0 0 := ((BoxC.new (by simp)).alloc _).below hb1 (by simp)
      have bA2 := bA.put a b c
      have bR2 := ((bR.other (b := w.heap.size) (o := 0) (by omega) (.int .i64 a)).other (b := w.heap.size) (o := 1) (by omega) (.int .i64 b)).other (b := w.heap.size) (o := 2) (by omega) (.int .i64 c)
      have hB2 := ((hB1.setCell (p := ⟨w.heap.size, 0, none⟩) (Nat.le_refl _) (.int .i64 a)).setCell (p := ⟨w.heap.size, 1, none⟩) (Nat.le_refl _) (.int .i64 b)).setCell (p := ⟨w.heap.size, 2, none⟩) (Nat.le_refl _) (.int .i64 c)
      simp only [hr]
      clear hr hk
      go_loopw [29] (fun q wr => ∃ j : Nat, j ≤ r ∧ q = .int .i64 j ∧ BoxC wr w.heap.size (upN f j (a, b, c)).1 (upN f j (a, b, c)).2.1 (upN f j (a, b, c)).2.2 ∧ BoxC wr (w.heap.size + 1) 0 0 0 ∧ Below w.heap.size w wr) (fun q _ => r - (intOf q).toNat)
      case atStart => exact ⟨0, by omega, rfl, bA2, bR2, hB2⟩
      case round =>
        clear bA bR bA2 bR2 hB2 hB1 hc1 hf1 hz1 l0 hb1
        obtain ⟨j, hj, rfl, hA, hR, hB⟩ := hrel
        have a0 := hA.c0
        have a1 := hA.c1
        have a2 := hA.c2
        have p0 := hA.free 0
        have p1 := hA.free 1
        have p2 := hA.free 2
        have r0 := hR.c0
        have r1 := hR.c1
        have r2 := hR.c2
        have q0 := hR.free 0
        have q1 := hR.free 1
        have q2 := hR.free 2
        have lA := hA.lt
        have lR := hR.lt
        by_cases hlt : j < r
        · have hd : decide ((j : Int) < r) = true := decide_eq_true (by omega)
          have sm := upN_sm f0 f7 hs j
          unfold Sm3 at sm
          obtain ⟨s1, s2, s3, s4, s5, s6⟩ := sm
          have e1 : (upN f (j + 1) (a, b, c)).1 = f - (upN f j (a, b, c)).2.1 := rfl
          have e2 : (upN f (j + 1) (a, b, c)).2.1 = (upN f j (a, b, c)).1 := rfl
          have e3 : (upN f (j + 1) (a, b, c)).2.2 = (upN f j (a, b, c)).2.2 := rfl
          have E1 := Lib.hid e1
          have E2 := Lib.hid e2
          have E3 := Lib.hid e3
          clear e1 e2 e3
          go_wp2_with ((with_reducible refine Calls.mono (upright_ok f _ _ _ _ (by unfold Sm; omega) (by unfold Sm; omega) (by unfold Sm; omega) (by unfold Sm; omega)) ?_); rintro e w2 ⟨rfl, hb2⟩; obtain ⟨hc2, hf2⟩ := bcell hb2)
          have hA2 := (hA.below hb2 lA).put (f - (upN f j (a, b, c)).2.1) (upN f j (a, b, c)).1 (upN f j (a, b, c)).2.2
          have hR2 := (((hR.below hb2 lR).other (b := w.heap.size) (o := 0) (by omega) (.int .i64 (f - (upN f j (a, b, c)).2.1))).other (b := w.heap.size) (o := 1) (by omega) (.int .i64 (upN f j (a, b, c)).1)).other (b := w.heap.size) (o := 2) (by omega) (.int .i64 (upN f j (a, b, c)).2.2)
          have hB3 := (((hB.trans (hb2.mono hB.size)).setCell (p := ⟨w.heap.size, 0, none⟩) (Nat.le_refl _) (.int .i64 (f - (upN f j (a, b, c)).2.1))).setCell (p := ⟨w.heap.size, 1, none⟩) (Nat.le_refl _) (.int .i64 (upN f j (a, b, c)).1)).setCell (p := ⟨w.heap.size, 2, none⟩) (Nat.le_refl _) (.int .i64 (upN f j (a, b, c)).2.2)
          go_roundw
          case rel => exact ⟨j + 1, by omega, by go_num, by rw [E1.out, E2.out, E3.out]; exact hA2, hR2, hB3⟩
          case measure => simp [intOf]; omega
        · obtain rfl : j = r := by omega
          have hd : decide ((j : Int) < j) = false := decide_eq_false (by omega)
          go_wp2
          refine bodyPost_ret (res_3 Tryz.results107 rfl (by go_cell) (by go_cell) (by go_cell)) rfl ⟨rfl, ?_⟩
          repeat' (first | (with_reducible exact Below.refl _ _) | (with_reducible assumption) | (with_reducible refine Below.alloc ?_ ?_ _) | (with_reducible refine Below.drew ?_) | (with_reducible refine below_drewN ?_ _) | (with_reducible refine Below.setCell ?_ ?_ _) | go_size)
/-- Where a turn takes a cell or a move. -/
theorem turn_ok (f : Int) (t : Nat) (x y z : Int) (w : World) (ht : t < 24) (f0 : 0 ≤ f) (f7 : f ≤ 7) (hs : Sm3 30 (x, y, z)) :
    Calls Tryz.prog 107 #[.int .i64 f, .agg #[.int .i64 (x), .int .i64 (y), .int .i64 (z)], .int .i64 t] w fun e w' => e = .returned (.agg #[.int .i64 ((turnI f t (x, y, z)).1), .int .i64 ((turnI f t (x, y, z)).2.1), .int .i64 ((turnI f t (x, y, z)).2.2)]) ∧ Below w.heap.size w w' := by
  have h1 := rollI_sm f0 f7 hs (t / 4)
  unfold turnI
  have hh := hs
  unfold Sm3 at hh
  simp only at hh
  have hr := fun W => roll_ok f (t / 4) x y z W (by omega) (by unfold Sm; omega) (by unfold Sm; omega) (by unfold Sm; omega) (by unfold Sm; omega)
  generalize rollI f (t / 4) (x, y, z) = q at *
  obtain ⟨a, b, c⟩ := q
  exact turn_core f t (t / 4) (t % 4) x y z a b c w (by omega) (by omega) (Nat.mod_lt _ (by omega)) ht f0 f7 (by simpa using h1) _ rfl (by omega) hr
end Go.Proofs.YtadkaplafaeebaaGreatDoor
