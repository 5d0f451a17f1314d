/-
  The reference's Then and Back.
-/
import Derived.Test.YtadkaplafaeebaaGreatDoorPkTA
import Derived.Test.YtadkaplafaeebaaGreatDoorThen
set_option linter.unusedVariables false
set_option linter.unusedSimpArgs false
namespace Go.Proofs.YtadkaplafaeebaaGreatDoor
open Go Go.RowKit

def up12 (a : Nat → I3) (k : Nat) (v : I3) : Nat → I3 := fun i => if i = k then v else a i
theorem B12.at {W : World} {b : Nat} {a : Nat → I3} (h : B12 W b a) {k : Nat} (hk : k < 4) : W.cell? ⟨b, k * 3, none⟩ = some (.int .i64 (a k).1) ∧ W.cell? ⟨b, k * 3 + 1, none⟩ = some (.int .i64 (a k).2.1) ∧ W.cell? ⟨b, k * 3 + 2, none⟩ = some (.int .i64 (a k).2.2) := by
  obtain ⟨⟨⟨a0, a1, a2⟩, a3, a4, a5⟩, ⟨a6, a7, a8⟩, a9, a10, a11⟩ := h.cells
  rcases (show k = 0 ∨ k = 1 ∨ k = 2 ∨ k = 3 by omega) with rfl | rfl | rfl | rfl
  · exact ⟨a0, a1, a2⟩
  · exact ⟨a3, a4, a5⟩
  · exact ⟨a6, a7, a8⟩
  · exact ⟨a9, a10, a11⟩
theorem B12.put {W : World} {b : Nat} {a : Nat → I3} (h : B12 W b a) {k : Nat} (hk : k < 4) (v : I3) :
    B12 (((W.setCell ⟨b, k * 3, none⟩ (.int .i64 v.1)).setCell ⟨b, k * 3 + 1, none⟩ (.int .i64 v.2.1)).setCell ⟨b, k * 3 + 2, none⟩ (.int .i64 v.2.2)) b (up12 a k v) := by
  have h1 := blk_set (k := k * 3 + 2) (blk_set (k := k * 3 + 1) (blk_set (k := k * 3) h (.int .i64 v.1)) (.int .i64 v.2.1)) (.int .i64 v.2.2)
  rcases (show k = 0 ∨ k = 1 ∨ k = 2 ∨ k = 3 by omega) with rfl | rfl | rfl | rfl <;> exact h1
theorem B12.congr {W : World} {b : Nat} {a a' : Nat → I3} (h : B12 W b a) (e : ∀ k, k < 4 → a k = a' k) : B12 W b a' := by
  unfold B12 at *
  rw [← e 0 (by omega), ← e 1 (by omega), ← e 2 (by omega), ← e 3 (by omega)]
  exact h
theorem in7_ee (k : Nat) : In7 (ee k) := by
  unfold In7
  match k with
  | 0 => simp [ee, e0]
  | 1 => simp [ee, e1]
  | 2 => simp [ee, e2]
  | k + 3 => simp [ee, e3]
theorem mv_bound {t : Nat} {x y z : Int} (hm : mvB x y z = true) (k : Nat) : (-7 ≤ (mvA t (x, y, z) (ee k)).1 ∧ (mvA t (x, y, z) (ee k)).1 ≤ 14) ∧ (-7 ≤ (mvA t (x, y, z) (ee k)).2.1 ∧ (mvA t (x, y, z) (ee k)).2.1 ≤ 14) ∧ (-7 ≤ (mvA t (x, y, z) (ee k)).2.2 ∧ (mvA t (x, y, z) (ee k)).2.2 ≤ 14) := by
  have h7 := turnI_in7 (in7_ee k) t
  have hb := of_decide_eq_true hm
  unfold In7 at h7
  unfold mvA
  simp only
  omega
/-- Points before a number that are replaced. -/
def mixI (D a : Nat → I3) (n : Nat) : Nat → I3 := fun k => if k < n then D k else a k
set_option maxRecDepth 100000 in
set_option maxHeartbeats 4000000 in
theorem rthen_no (t1 x1 y1 z1 t2 x2 y2 z2 : Int) (w : World) (h : motB t1 x1 y1 z1 = false ∨ (motB t1 x1 y1 z1 = true ∧ motB t2 x2 y2 z2 = false)) :
    Calls Tryz.prog 51 #[.agg #[.int .i64 (t1), .int .i64 (x1), .int .i64 (y1), .int .i64 (z1)], .agg #[.int .i64 (t2), .int .i64 (x2), .int .i64 (y2), .int .i64 (z2)]] w fun e w' => e = .returned (.tuple #[.agg #[.int .i64 (0), .int .i64 (0), .int .i64 (0), .int .i64 (0)], .int .i64 1]) ∧ Below w.heap.size w w' := by
  have N0 : Q4 (((w.alloc (.cells #[.int .i64 (t1), .int .i64 (x1), .int .i64 (y1), .int .i64 (z1)] 46)).alloc (.cells #[.int .i64 (t2), .int .i64 (x2), .int .i64 (y2), .int .i64 (z2)] 46)).alloc (.cells #[.int .i64 (0), .int .i64 (0), .int .i64 (0), .int .i64 (0)] 46)) (w.heap.size + 1) t2 x2 y2 z2 := blk_alloc (blk_new (by simp)) _
  have R0 : Q4 (((w.alloc (.cells #[.int .i64 (t1), .int .i64 (x1), .int .i64 (y1), .int .i64 (z1)] 46)).alloc (.cells #[.int .i64 (t2), .int .i64 (x2), .int .i64 (y2), .int .i64 (z2)] 46)).alloc (.cells #[.int .i64 (0), .int .i64 (0), .int .i64 (0), .int .i64 (0)] 46)) (w.heap.size + 1 + 1) 0 0 0 0 := blk_new (by simp)
  have hB0 : Below w.heap.size w (((w.alloc (.cells #[.int .i64 (t1), .int .i64 (x1), .int .i64 (y1), .int .i64 (z1)] 46)).alloc (.cells #[.int .i64 (t2), .int .i64 (x2), .int .i64 (y2), .int .i64 (z2)] 46)).alloc (.cells #[.int .i64 (0), .int .i64 (0), .int .i64 (0), .int .i64 (0)] 46)) := by repeat' (first | (with_reducible exact Below.refl _ _) | (with_reducible assumption) | (with_reducible refine Below.alloc ?_ ?_ _) | (with_reducible refine Below.drew ?_) | (with_reducible refine below_drewN ?_ _) | (with_reducible refine Below.setCell ?_ ?_ _) | go_size)
  rcases h with h | ⟨h1, h2⟩
  · have H := Lib.hid h
    clear h
    go_enter Tryz.func51, Tryz.ntmps51
    go_wp2_with fail
    refine (rmotion_is H.out _).mono ?_
    rintro e w1 ⟨rfl, b1⟩
    have R1 := blk_below R0 b1 (blk_lt R0)
    have hB1 : Below w.heap.size w w1 := up b1 hB0
    have lR := blk_lt R1
    obtain ⟨n0, n1, n2, n3⟩ := Q4.cells R1
    have f0 := blk_free (k := 0) R1; have f1 := blk_free (k := 1) R1; have f2 := blk_free (k := 2) R1; have f3 := blk_free (k := 3) R1
    go_wp2_with fail
    have bE := blk_set (k := 3) (blk_set (k := 2) (blk_set (k := 1) (blk_set (k := 0) R1 (.int .i64 0)) (.int .i64 0)) (.int .i64 0)) (.int .i64 0)
    refine bodyPost_ret (res_4e Tryz.results51 rfl (blk_cell (k := 0) bE) (blk_cell (k := 1) bE) (blk_cell (k := 2) bE) (blk_cell (k := 3) bE)) rfl ⟨rfl, ?_⟩
    repeat' (first | (with_reducible exact Below.refl _ _) | (with_reducible assumption) | (with_reducible refine Below.alloc ?_ ?_ _) | (with_reducible refine Below.drew ?_) | (with_reducible refine below_drewN ?_ _) | (with_reducible refine Below.setCell ?_ ?_ _) | go_size)
  · have H1 := Lib.hid h1
    have H2 := Lib.hid h2
    clear h1 h2
    go_enter Tryz.func51, Tryz.ntmps51
    go_wp2_with fail
    refine (rmotion_is H1.out _).mono ?_
    rintro e w1 ⟨rfl, b1⟩
    have R1 := blk_below R0 b1 (blk_lt R0)
    have N1 := blk_below N0 b1 (blk_lt N0)
    have hB1 : Below w.heap.size w w1 := up b1 hB0
    have lN := blk_lt N1
    obtain ⟨n0, n1, n2, n3⟩ := Q4.cells N1
    go_wp2_with fail
    refine (rmotion_is H2.out _).mono ?_
    rintro e w2 ⟨rfl, b2⟩
    have R2 := blk_below R1 b2 (blk_lt R1)
    have hB2 : Below w.heap.size w w2 := up b2 hB1
    have lR := blk_lt R2
    clear n0 n1 n2 n3
    obtain ⟨n0, n1, n2, n3⟩ := Q4.cells R2
    have f0 := blk_free (k := 0) R2; have f1 := blk_free (k := 1) R2; have f2 := blk_free (k := 2) R2; have f3 := blk_free (k := 3) R2
    go_wp2_with fail
    have bE := blk_set (k := 3) (blk_set (k := 2) (blk_set (k := 1) (blk_set (k := 0) R2 (.int .i64 0)) (.int .i64 0)) (.int .i64 0)) (.int .i64 0)
    refine bodyPost_ret (res_4e Tryz.results51 rfl (blk_cell (k := 0) bE) (blk_cell (k := 1) bE) (blk_cell (k := 2) bE) (blk_cell (k := 3) bE)) rfl ⟨rfl, ?_⟩
    repeat' (first | (with_reducible exact Below.refl _ _) | (with_reducible assumption) | (with_reducible refine Below.alloc ?_ ?_ _) | (with_reducible refine Below.drew ?_) | (with_reducible refine below_drewN ?_ _) | (with_reducible refine Below.setCell ?_ ?_ _) | go_size)
set_option maxRecDepth 100000 in
set_option maxHeartbeats 4000000 in
theorem rthen_in (t1 t2 : Nat) (x1 y1 z1 x2 y2 z2 : Int) (T : Nat) (V : I3) (res : Array Value) (w : World) (h1 : t1 < 24) (h2 : t2 < 24) (m1 : mvB x1 y1 z1 = true) (m2 : mvB x2 y2 z2 = true) (hT : T < 24)
    (hof : ∀ W : World, Calls Tryz.prog 115 #[v12 ee, v12 fun i => mvA t2 (x2, y2, z2) (mvA t1 (x1, y1, z1) (ee i))] W fun e w' => e = .returned (.tuple #[.agg #[.int .i64 (T), .int .i64 (V.1), .int .i64 (V.2.1), .int .i64 (V.2.2)], .bool true]) ∧ Below W.heap.size W w')
    (hres : res = if mvB V.1 V.2.1 V.2.2 = true then #[.agg #[.int .i64 (T), .int .i64 (V.1), .int .i64 (V.2.1), .int .i64 (V.2.2)], .int .i64 0] else #[.agg #[.int .i64 (0), .int .i64 (0), .int .i64 (0), .int .i64 (0)], .int .i64 20]) :
    Calls Tryz.prog 51 #[.agg #[.int .i64 (t1), .int .i64 (x1), .int .i64 (y1), .int .i64 (z1)], .agg #[.int .i64 (t2), .int .i64 (x2), .int .i64 (y2), .int .i64 (z2)]] w fun e w' => e = .returned (.tuple res) ∧ Below w.heap.size w w' := by
  have HR := Lib.hid hres
  clear hres
  have M0 : Q4 (((w.alloc (.cells #[.int .i64 (t1), .int .i64 (x1), .int .i64 (y1), .int .i64 (z1)] 46)).alloc (.cells #[.int .i64 (t2), .int .i64 (x2), .int .i64 (y2), .int .i64 (z2)] 46)).alloc (.cells #[.int .i64 (0), .int .i64 (0), .int .i64 (0), .int .i64 (0)] 46)) w.heap.size t1 x1 y1 z1 := blk_alloc (blk_alloc (blk_new rfl) _) _
  have N0 : Q4 (((w.alloc (.cells #[.int .i64 (t1), .int .i64 (x1), .int .i64 (y1), .int .i64 (z1)] 46)).alloc (.cells #[.int .i64 (t2), .int .i64 (x2), .int .i64 (y2), .int .i64 (z2)] 46)).alloc (.cells #[.int .i64 (0), .int .i64 (0), .int .i64 (0), .int .i64 (0)] 46)) (w.heap.size + 1) t2 x2 y2 z2 := blk_alloc (blk_new (by simp)) _
  have R0 : Q4 (((w.alloc (.cells #[.int .i64 (t1), .int .i64 (x1), .int .i64 (y1), .int .i64 (z1)] 46)).alloc (.cells #[.int .i64 (t2), .int .i64 (x2), .int .i64 (y2), .int .i64 (z2)] 46)).alloc (.cells #[.int .i64 (0), .int .i64 (0), .int .i64 (0), .int .i64 (0)] 46)) (w.heap.size + 1 + 1) 0 0 0 0 := blk_new (by simp)
  have hB0 : Below w.heap.size w (((w.alloc (.cells #[.int .i64 (t1), .int .i64 (x1), .int .i64 (y1), .int .i64 (z1)] 46)).alloc (.cells #[.int .i64 (t2), .int .i64 (x2), .int .i64 (y2), .int .i64 (z2)] 46)).alloc (.cells #[.int .i64 (0), .int .i64 (0), .int .i64 (0), .int .i64 (0)] 46)) := by repeat' (first | (with_reducible exact Below.refl _ _) | (with_reducible assumption) | (with_reducible refine Below.alloc ?_ ?_ _) | (with_reducible refine Below.drew ?_) | (with_reducible refine below_drewN ?_ _) | (with_reducible refine Below.setCell ?_ ?_ _) | go_size)
  have H1 := Lib.hid (show motB t1 x1 y1 z1 = true by unfold motB; rw [decide_eq_true (by omega), m1]; rfl)
  have H2 := Lib.hid (show motB t2 x2 y2 z2 = true by unfold motB; rw [decide_eq_true (by omega), m2]; rfl)
  have HOF := Lib.hid hof
  have HM1 := Lib.hid m1
  have HM2 := Lib.hid m2
  clear hof m1 m2
  go_enter Tryz.func51, Tryz.ntmps51
  go_wp2_with fail
  refine (rmotion_is H1.out _).mono ?_
  rintro e w1 ⟨rfl, b1⟩
  have M1 := blk_below M0 b1 (blk_lt M0)
  have N1 := blk_below N0 b1 (blk_lt N0)
  have R1 := blk_below R0 b1 (blk_lt R0)
  have hB1 : Below w.heap.size w w1 := up b1 hB0
  have lN := blk_lt N1
  obtain ⟨n0, n1, n2, n3⟩ := Q4.cells N1
  go_wp2_with fail
  refine (rmotion_is H2.out _).mono ?_
  rintro e w2 ⟨rfl, b2⟩
  have M2 := blk_below M1 b2 (blk_lt M1)
  have N2 := blk_below N1 b2 lN
  have R2 := blk_below R1 b2 (blk_lt R1)
  have hB2 : Below w.heap.size w w2 := up b2 hB1
  clear n0 n1 n2 n3 M0 N0 R0 M1 N1 R1 hB0 hB1 b1 b2 lN
  go_wp2_with fail
  refine (corners_ok _).mono ?_
  rintro e w3 ⟨rfl, b3⟩
  have M3 := blk_alloc (blk_below M2 b3 (blk_lt M2)) (.cells #[.int .i64 (0), .int .i64 (0), .int .i64 (0), .int .i64 (1), .int .i64 (0), .int .i64 (0), .int .i64 (0), .int .i64 (1), .int .i64 (0), .int .i64 (0), .int .i64 (0), .int .i64 (1)] 96)
  have N3 := blk_alloc (blk_below N2 b3 (blk_lt N2)) (.cells #[.int .i64 (0), .int .i64 (0), .int .i64 (0), .int .i64 (1), .int .i64 (0), .int .i64 (0), .int .i64 (0), .int .i64 (1), .int .i64 (0), .int .i64 (0), .int .i64 (0), .int .i64 (1)] 96)
  have R3 := blk_alloc (blk_below R2 b3 (blk_lt R2)) (.cells #[.int .i64 (0), .int .i64 (0), .int .i64 (0), .int .i64 (1), .int .i64 (0), .int .i64 (0), .int .i64 (0), .int .i64 (1), .int .i64 (0), .int .i64 (0), .int .i64 (0), .int .i64 (1)] 96)
  have lR3 : w.heap.size + 1 + 1 < w3.heap.size := Nat.lt_of_lt_of_le (blk_lt R2) b3.size
  have hB3q : Below w.heap.size w w3 := up b3 hB2
  have hB3 := hB3q.alloc hB3q.size (.cells #[.int .i64 (0), .int .i64 (0), .int .i64 (0), .int .i64 (1), .int .i64 (0), .int .i64 (0), .int .i64 (0), .int .i64 (1), .int .i64 (0), .int .i64 (0), .int .i64 (0), .int .i64 (1)] 96)
  have F3 : B12 (w3.alloc (.cells #[.int .i64 (0), .int .i64 (0), .int .i64 (0), .int .i64 (1), .int .i64 (0), .int .i64 (0), .int .i64 (0), .int .i64 (1), .int .i64 (0), .int .i64 (0), .int .i64 (0), .int .i64 (1)] 96)) w3.heap.size ee := blk_new rfl
  clear M2 N2 R2 hB2 b3 hB3q
  go_wp2_with fail
  refine (corners_ok _).mono ?_
  rintro e w4 ⟨rfl, b4⟩
  have M4 := blk_alloc (blk_below M3 b4 (blk_lt M3)) (.cells #[.int .i64 (0), .int .i64 (0), .int .i64 (0), .int .i64 (1), .int .i64 (0), .int .i64 (0), .int .i64 (0), .int .i64 (1), .int .i64 (0), .int .i64 (0), .int .i64 (0), .int .i64 (1)] 96)
  have N4 := blk_alloc (blk_below N3 b4 (blk_lt N3)) (.cells #[.int .i64 (0), .int .i64 (0), .int .i64 (0), .int .i64 (1), .int .i64 (0), .int .i64 (0), .int .i64 (0), .int .i64 (1), .int .i64 (0), .int .i64 (0), .int .i64 (0), .int .i64 (1)] 96)
  have R4 := blk_alloc (blk_below R3 b4 (blk_lt R3)) (.cells #[.int .i64 (0), .int .i64 (0), .int .i64 (0), .int .i64 (1), .int .i64 (0), .int .i64 (0), .int .i64 (0), .int .i64 (1), .int .i64 (0), .int .i64 (0), .int .i64 (0), .int .i64 (1)] 96)
  have F4 := blk_alloc (blk_below F3 b4 (blk_lt F3)) (.cells #[.int .i64 (0), .int .i64 (0), .int .i64 (0), .int .i64 (1), .int .i64 (0), .int .i64 (0), .int .i64 (0), .int .i64 (1), .int .i64 (0), .int .i64 (0), .int .i64 (0), .int .i64 (1)] 96)
  have hB4q : Below w.heap.size w w4 := up b4 hB3
  have hB4 := hB4q.alloc hB4q.size (.cells #[.int .i64 (0), .int .i64 (0), .int .i64 (0), .int .i64 (1), .int .i64 (0), .int .i64 (0), .int .i64 (0), .int .i64 (1), .int .i64 (0), .int .i64 (0), .int .i64 (0), .int .i64 (1)] 96)
  have G4 : B12 (w4.alloc (.cells #[.int .i64 (0), .int .i64 (0), .int .i64 (0), .int .i64 (1), .int .i64 (0), .int .i64 (0), .int .i64 (0), .int .i64 (1), .int .i64 (0), .int .i64 (0), .int .i64 (0), .int .i64 (1)] 96)) w4.heap.size ee := blk_new rfl
  have l34 : w3.heap.size < w4.heap.size := by have := b4.size; simp at this; omega
  clear M3 N3 R3 F3 hB3 b4 hB4q
  obtain ⟨D, hD⟩ : ∃ D : Nat → I3, D = fun i => mvA t2 (x2, y2, z2) (mvA t1 (x1, y1, z1) (ee i)) := ⟨_, rfl⟩
  rw [← hD] at HOF
  have HD := Lib.hid hD
  clear hD
  go_wp2_with fail
  go_loopw [8] (fun c wr => ∃ i : Nat, i ≤ 4 ∧ c = .int .i64 i ∧ Q4 wr w.heap.size t1 x1 y1 z1 ∧ Q4 wr (w.heap.size + 1) t2 x2 y2 z2 ∧ Q4 wr (w.heap.size + 1 + 1) 0 0 0 0 ∧ B12 wr w3.heap.size ee ∧ B12 wr w4.heap.size (mixI D ee i) ∧ Below w.heap.size w wr) (fun c _ => 4 - (intOf c).toNat)
  case atStart => exact ⟨0, by omega, rfl, M4, N4, R4, F4, B12.congr G4 fun k _ => rfl, hB4⟩
  case round =>
    clear M4 N4 R4 F4 G4 hB4
    obtain ⟨i, hi, rfl, M, N, R, F, G, hB⟩ := hrel
    have lM := blk_lt M
    have lN := blk_lt N
    have lR := blk_lt R
    have lF := blk_lt F
    have lG := blk_lt G
    by_cases hlt : i < 4
    · have hd : decide ((i : Int) < 4) = true := decide_eq_true (by omega)
      have hib : (i : Int) < 4 := by omega
      have hb1 := mv_bound (t := t1) HM1.out i
      have hx := of_decide_eq_true HM1.out
      have hx2 := of_decide_eq_true HM2.out
      have C1 := Lib.hid (fun (X : World) => carried_ok (ee i) t1 x1 y1 z1 X (in7_sf (in7_ee i)) h1 (by unfold Sm; omega) (by unfold Sm; omega) (by unfold Sm; omega))
      have C2 := Lib.hid (fun (X : World) => carried_ok (mvA t1 (x1, y1, z1) (ee i)) t2 x2 y2 z2 X (by unfold Sf; omega) h2 (by unfold Sm; omega) (by unfold Sm; omega) (by unfold Sm; omega))
      rw [show plus (turnI 7 t1 (ee i)) (x1, y1, z1) = mvA t1 (x1, y1, z1) (ee i) from rfl] at C1
      have hDi : plus (turnI 7 t2 (mvA t1 (x1, y1, z1) (ee i))) (x2, y2, z2) = D i := by rw [HD.out]; rfl
      rw [hDi] at C2
      obtain ⟨m, hm⟩ : ∃ m, m = mvA t1 (x1, y1, z1) (ee i) := ⟨_, rfl⟩
      rw [← hm] at C1 C2
      clear hm hb1 hx hx2 hDi
      obtain ⟨k0, k1, k2⟩ := B12.at F hlt
      obtain ⟨m0, m1, m2, m3⟩ := Q4.cells M
      obtain ⟨n0, n1, n2, n3⟩ := Q4.cells N
      go_wp2_with fail
      have lM : w.heap.size < wr.heap.size := lM
      have lN : w.heap.size + 1 < wr.heap.size := lN
      have lF : w3.heap.size < wr.heap.size := lF
      have lG : w4.heap.size < wr.heap.size := lG
      (refine wp_region_quiet_tail 9 (fun w' => Below wr.heap.size wr w') (by kernel_rfl) (by kernel_rfl) (Below.drew (Below.refl _ _)) ?_; simp only [List.take_succ_cons, List.take_zero, List.drop_succ_cons, List.drop_zero]; (iterate 9 (refine wpQuiet_step (fun K hK => ?_); go_simp; first | (refine hK _ ?_; clear hK K) | (apply Exists.intro; refine ⟨fun W' hW' => ?_, hK _ ?_⟩; (focus (first | (with_reducible exact rfl) | (with_reducible exact ⟨rfl, rfl⟩) | (obtain ⟨hcq, hfq⟩ := bcell hW'; have hzq := hW'.size; (try go_simp); first | (with_reducible exact rfl) | (with_reducible exact ⟨rfl, rfl⟩) | (first | ((with_reducible refine Calls.mono (C1.out _) ?_); rintro e w9 ⟨rfl, hb9⟩; exact ⟨rfl, hW'.trans (hb9.mono hW'.size)⟩) | ((with_reducible refine Calls.mono (C2.out _) ?_); rintro e w9 ⟨rfl, hb9⟩; exact ⟨rfl, hW'.trans (hb9.mono hW'.size)⟩))))); clear hK K))); refine wpQuiet_nil ?_; intro w1q hb1q)
      have M1 := blk_below M hb1q lM
      have N1 := blk_below N hb1q lN
      have R1 := blk_below R hb1q lR
      have F1 := blk_below F hb1q lF
      have G1 : B12 w1q w4.heap.size (mixI D ee i) := blk_below G hb1q lG
      have hB1 : Below w.heap.size w w1q := up hb1q hB
      clear k0 k1 k2 m0 m1 m2 m3 n0 n1 n2 n3 M N R F G hB
      obtain ⟨k0, k1, k2⟩ := B12.at G1 hlt
      have f0 := blk_free (k := i * 3) G1; have f1 := blk_free (k := i * 3 + 1) G1; have f2 := blk_free (k := i * 3 + 2) G1
      have G2 := B12.put G1 hlt (D i)
      have G3 := B12.congr G2 (a' := mixI D ee (i + 1)) fun k hk => by
        unfold up12 mixI
        by_cases e : k = i
        · rw [if_pos e, if_pos (by omega), e]
        · rw [if_neg e]
          by_cases h : k < i
          · rw [if_pos h, if_pos (by omega)]
          · rw [if_neg h, if_neg (by omega)]
      go_wp2_with fail
      have o3 : ∀ {b : Nat} {o : Obj}, w1q.heap[b]? = some o → b ≠ w4.heap.size → (((w1q.setCell ⟨w4.heap.size, i * 3, none⟩ (.int .i64 (D i).1)).setCell ⟨w4.heap.size, i * 3 + 1, none⟩ (.int .i64 (D i).2.1)).setCell ⟨w4.heap.size, i * 3 + 2, none⟩ (.int .i64 (D i).2.2)).heap[b]? = some o := fun h hne => blk_other (blk_other (blk_other h hne _) hne _) hne _
      case roundEnd => exact ⟨⟨i + 1, by omega, by simp, o3 M1 (by omega), o3 N1 (by omega), o3 R1 (by omega), o3 F1 (by omega), G3, ((hB1.setCell (p := ⟨w4.heap.size, i * 3, none⟩) (by simp; omega) _).setCell (p := ⟨w4.heap.size, i * 3 + 1, none⟩) (by simp; omega) _).setCell (p := ⟨w4.heap.size, i * 3 + 2, none⟩) (by simp; omega) _⟩, by simp [intOf]; omega⟩
    · obtain rfl : i = 4 := by omega
      have hd : decide (((4 : Nat) : Int) < 4) = false := by decide
      have G4 : B12 wr w4.heap.size D := B12.congr G fun k hk => if_pos hk
      obtain ⟨⟨⟨a0, a1, a2⟩, a3, a4, a5⟩, ⟨a6, a7, a8⟩, a9, a10, a11⟩ := B12.cells F
      obtain ⟨⟨⟨b0, b1, b2⟩, b3, b4, b5'⟩, ⟨b6, b7, b8⟩, b9, b10, b11⟩ := B12.cells G4
      go_wp2_with fail
      refine (HOF.out _).mono ?_
      rintro e w5 ⟨rfl, b5⟩
      have R5 := blk_alloc (blk_below R b5 lR) (.cells #[.int .i64 (T), .int .i64 (V.1), .int .i64 (V.2.1), .int .i64 (V.2.2)] 46)
      have O5 : Q4 (w5.alloc (.cells #[.int .i64 (T), .int .i64 (V.1), .int .i64 (V.2.1), .int .i64 (V.2.2)] 46)) w5.heap.size T V.1 V.2.1 V.2.2 := blk_new rfl
      have hB5q : Below w.heap.size w w5 := up b5 hB
      have hB5 := hB5q.alloc hB5q.size (.cells #[.int .i64 (T), .int .i64 (V.1), .int .i64 (V.2.1), .int .i64 (V.2.2)] 46)
      clear a0 a1 a2 a3 a4 a5 a6 a7 a8 a9 a10 a11 b0 b1 b2 b3 b4 b5' b6 b7 b8 b9 b10 b11 M N R F G G4 hB b5 hB5q
      go_wp2_with fail
      have hmo : motB T V.1 V.2.1 V.2.2 = mvB V.1 V.2.1 V.2.2 := by unfold motB; rw [decide_eq_true (by omega), Bool.true_and]
      cases hv : mvB V.1 V.2.1 V.2.2
      · rw [hv] at hmo
        refine (rmotion_is hmo _).mono ?_
        rintro e w6 ⟨rfl, b6⟩
        have R6 := blk_below R5 b6 (blk_lt R5)
        have hB6 : Below w.heap.size w w6 := up b6 hB5
        have lR := blk_lt R6
        obtain ⟨n0, n1, n2, n3⟩ := Q4.cells R6
        have f0 := blk_free (k := 0) R6; have f1 := blk_free (k := 1) R6; have f2 := blk_free (k := 2) R6; have f3 := blk_free (k := 3) R6
        go_wp2_with fail
        have bE := blk_set (k := 3) (blk_set (k := 2) (blk_set (k := 1) (blk_set (k := 0) R6 (.int .i64 0)) (.int .i64 0)) (.int .i64 0)) (.int .i64 0)
        refine bodyPost_ret (res_4e Tryz.results51 rfl (blk_cell (k := 0) bE) (blk_cell (k := 1) bE) (blk_cell (k := 2) bE) (blk_cell (k := 3) bE)) rfl ⟨by rw [HR.out, hv]; rfl, ?_⟩
        repeat' (first | (with_reducible exact Below.refl _ _) | (with_reducible assumption) | (with_reducible refine Below.alloc ?_ ?_ _) | (with_reducible refine Below.drew ?_) | (with_reducible refine below_drewN ?_ _) | (with_reducible refine Below.setCell ?_ ?_ _) | go_size)
      · rw [hv] at hmo
        refine (rmotion_is hmo _).mono ?_
        rintro e w6 ⟨rfl, b6⟩
        have R6 := blk_below R5 b6 (blk_lt R5)
        have O6 := blk_below O5 b6 (blk_lt O5)
        have hB6 : Below w.heap.size w w6 := up b6 hB5
        have lR := blk_lt R6
        have lO := blk_lt O6
        obtain ⟨o0, o1, o2, o3⟩ := Q4.cells O6
        obtain ⟨n0, n1, n2, n3⟩ := Q4.cells R6
        have f0 := blk_free (k := 0) R6; have f1 := blk_free (k := 1) R6; have f2 := blk_free (k := 2) R6; have f3 := blk_free (k := 3) R6
        go_wp2_with fail
        have bE := blk_set (k := 3) (blk_set (k := 2) (blk_set (k := 1) (blk_set (k := 0) R6 (.int .i64 T)) (.int .i64 V.1)) (.int .i64 V.2.1)) (.int .i64 V.2.2)
        refine bodyPost_ret (res_4e Tryz.results51 rfl (blk_cell (k := 0) bE) (blk_cell (k := 1) bE) (blk_cell (k := 2) bE) (blk_cell (k := 3) bE)) rfl ⟨by rw [HR.out, hv]; rfl, ?_⟩
        repeat' (first | (with_reducible exact Below.refl _ _) | (with_reducible assumption) | (with_reducible refine Below.alloc ?_ ?_ _) | (with_reducible refine Below.drew ?_) | (with_reducible refine below_drewN ?_ _) | (with_reducible refine Below.setCell ?_ ?_ _) | go_size)
end Go.Proofs.YtadkaplafaeebaaGreatDoor
/-
  The reference's Back.
-/
set_option linter.unusedVariables false
set_option linter.unusedSimpArgs false
namespace Go.Proofs.YtadkaplafaeebaaGreatDoor
open Go Go.RowKit

set_option maxRecDepth 100000 in
set_option maxHeartbeats 4000000 in
theorem rback_no (t1 x1 y1 z1 : Int) (w : World) (h : motB t1 x1 y1 z1 = false) :
    Calls Tryz.prog 53 #[.agg #[.int .i64 (t1), .int .i64 (x1), .int .i64 (y1), .int .i64 (z1)]] w fun e w' => e = .returned (.tuple #[.agg #[.int .i64 (0), .int .i64 (0), .int .i64 (0), .int .i64 (0)], .int .i64 1]) ∧ Below w.heap.size w w' := by
  have R0 : Q4 ((w.alloc (.cells #[.int .i64 (t1), .int .i64 (x1), .int .i64 (y1), .int .i64 (z1)] 46)).alloc (.cells #[.int .i64 (0), .int .i64 (0), .int .i64 (0), .int .i64 (0)] 46)) (w.heap.size + 1) 0 0 0 0 := blk_new (by simp)
  have hB0 : Below w.heap.size w ((w.alloc (.cells #[.int .i64 (t1), .int .i64 (x1), .int .i64 (y1), .int .i64 (z1)] 46)).alloc (.cells #[.int .i64 (0), .int .i64 (0), .int .i64 (0), .int .i64 (0)] 46)) := by repeat' (first | (with_reducible exact Below.refl _ _) | (with_reducible assumption) | (with_reducible refine Below.alloc ?_ ?_ _) | (with_reducible refine Below.drew ?_) | (with_reducible refine below_drewN ?_ _) | (with_reducible refine Below.setCell ?_ ?_ _) | go_size)
  have H := Lib.hid h
  clear h
  go_enter Tryz.func53, Tryz.ntmps53
  go_wp2_with fail
  refine (rmotion_is H.out _).mono ?_
  rintro e w1 ⟨rfl, b1⟩
  have R1 := blk_below R0 b1 (blk_lt R0)
  have hB1 : Below w.heap.size w w1 := up b1 hB0
  have lR := blk_lt R1
  obtain ⟨n0, n1, n2, n3⟩ := Q4.cells R1
  have f0 := blk_free (k := 0) R1; have f1 := blk_free (k := 1) R1; have f2 := blk_free (k := 2) R1; have f3 := blk_free (k := 3) R1
  go_wp2_with fail
  have bE := blk_set (k := 3) (blk_set (k := 2) (blk_set (k := 1) (blk_set (k := 0) R1 (.int .i64 0)) (.int .i64 0)) (.int .i64 0)) (.int .i64 0)
  refine bodyPost_ret (res_4e Tryz.results53 rfl (blk_cell (k := 0) bE) (blk_cell (k := 1) bE) (blk_cell (k := 2) bE) (blk_cell (k := 3) bE)) rfl ⟨rfl, ?_⟩
  repeat' (first | (with_reducible exact Below.refl _ _) | (with_reducible assumption) | (with_reducible refine Below.alloc ?_ ?_ _) | (with_reducible refine Below.drew ?_) | (with_reducible refine below_drewN ?_ _) | (with_reducible refine Below.setCell ?_ ?_ _) | go_size)
set_option maxRecDepth 100000 in
set_option maxHeartbeats 4000000 in
theorem rback_in (t1 : Nat) (x1 y1 z1 : Int) (T : Nat) (V : I3) (w : World) (h1 : t1 < 24) (m1 : mvB x1 y1 z1 = true)
    (hof : ∀ W : World, Calls Tryz.prog 115 #[v12 fun i => mvA t1 (x1, y1, z1) (ee i), v12 ee] W fun e w' => e = .returned (.tuple #[.agg #[.int .i64 (T), .int .i64 (V.1), .int .i64 (V.2.1), .int .i64 (V.2.2)], .bool true]) ∧ Below W.heap.size W w') :
    Calls Tryz.prog 53 #[.agg #[.int .i64 (t1), .int .i64 (x1), .int .i64 (y1), .int .i64 (z1)]] w fun e w' => e = .returned (.tuple #[.agg #[.int .i64 (T), .int .i64 (V.1), .int .i64 (V.2.1), .int .i64 (V.2.2)], .int .i64 0]) ∧ Below w.heap.size w w' := by
  have M0 : Q4 ((w.alloc (.cells #[.int .i64 (t1), .int .i64 (x1), .int .i64 (y1), .int .i64 (z1)] 46)).alloc (.cells #[.int .i64 (0), .int .i64 (0), .int .i64 (0), .int .i64 (0)] 46)) w.heap.size t1 x1 y1 z1 := blk_alloc (blk_new rfl) _
  have R0 : Q4 ((w.alloc (.cells #[.int .i64 (t1), .int .i64 (x1), .int .i64 (y1), .int .i64 (z1)] 46)).alloc (.cells #[.int .i64 (0), .int .i64 (0), .int .i64 (0), .int .i64 (0)] 46)) (w.heap.size + 1) 0 0 0 0 := blk_new (by simp)
  have hB0 : Below w.heap.size w ((w.alloc (.cells #[.int .i64 (t1), .int .i64 (x1), .int .i64 (y1), .int .i64 (z1)] 46)).alloc (.cells #[.int .i64 (0), .int .i64 (0), .int .i64 (0), .int .i64 (0)] 46)) := by repeat' (first | (with_reducible exact Below.refl _ _) | (with_reducible assumption) | (with_reducible refine Below.alloc ?_ ?_ _) | (with_reducible refine Below.drew ?_) | (with_reducible refine below_drewN ?_ _) | (with_reducible refine Below.setCell ?_ ?_ _) | go_size)
  have H1 := Lib.hid (show motB t1 x1 y1 z1 = true by unfold motB; rw [decide_eq_true (by omega), m1]; rfl)
  have HOF := Lib.hid hof
  have HM1 := Lib.hid m1
  clear hof m1
  go_enter Tryz.func53, Tryz.ntmps53
  go_wp2_with fail
  refine (rmotion_is H1.out _).mono ?_
  rintro e w2 ⟨rfl, b2⟩
  have M2 := blk_below M0 b2 (blk_lt M0)
  have R2 := blk_below R0 b2 (blk_lt R0)
  have hB2 : Below w.heap.size w w2 := up b2 hB0
  clear M0 R0 hB0 b2
  go_wp2_with fail
  refine (corners_ok _).mono ?_
  rintro e w3 ⟨rfl, b3⟩
  have M3 := blk_alloc (blk_below M2 b3 (blk_lt M2)) (.cells #[.int .i64 (0), .int .i64 (0), .int .i64 (0), .int .i64 (1), .int .i64 (0), .int .i64 (0), .int .i64 (0), .int .i64 (1), .int .i64 (0), .int .i64 (0), .int .i64 (0), .int .i64 (1)] 96)
  have R3 := blk_alloc (blk_below R2 b3 (blk_lt R2)) (.cells #[.int .i64 (0), .int .i64 (0), .int .i64 (0), .int .i64 (1), .int .i64 (0), .int .i64 (0), .int .i64 (0), .int .i64 (1), .int .i64 (0), .int .i64 (0), .int .i64 (0), .int .i64 (1)] 96)
  have lR3 : w.heap.size + 1 < w3.heap.size := Nat.lt_of_lt_of_le (blk_lt R2) b3.size
  have hB3q : Below w.heap.size w w3 := up b3 hB2
  have hB3 := hB3q.alloc hB3q.size (.cells #[.int .i64 (0), .int .i64 (0), .int .i64 (0), .int .i64 (1), .int .i64 (0), .int .i64 (0), .int .i64 (0), .int .i64 (1), .int .i64 (0), .int .i64 (0), .int .i64 (0), .int .i64 (1)] 96)
  have F3 : B12 (w3.alloc (.cells #[.int .i64 (0), .int .i64 (0), .int .i64 (0), .int .i64 (1), .int .i64 (0), .int .i64 (0), .int .i64 (0), .int .i64 (1), .int .i64 (0), .int .i64 (0), .int .i64 (0), .int .i64 (1)] 96)) w3.heap.size ee := blk_new rfl
  clear M2 R2 hB2 b3 hB3q
  go_wp2_with fail
  refine (corners_ok _).mono ?_
  rintro e w4 ⟨rfl, b4⟩
  have M4 := blk_alloc (blk_below M3 b4 (blk_lt M3)) (.cells #[.int .i64 (0), .int .i64 (0), .int .i64 (0), .int .i64 (1), .int .i64 (0), .int .i64 (0), .int .i64 (0), .int .i64 (1), .int .i64 (0), .int .i64 (0), .int .i64 (0), .int .i64 (1)] 96)
  have R4 := blk_alloc (blk_below R3 b4 (blk_lt R3)) (.cells #[.int .i64 (0), .int .i64 (0), .int .i64 (0), .int .i64 (1), .int .i64 (0), .int .i64 (0), .int .i64 (0), .int .i64 (1), .int .i64 (0), .int .i64 (0), .int .i64 (0), .int .i64 (1)] 96)
  have F4 := blk_alloc (blk_below F3 b4 (blk_lt F3)) (.cells #[.int .i64 (0), .int .i64 (0), .int .i64 (0), .int .i64 (1), .int .i64 (0), .int .i64 (0), .int .i64 (0), .int .i64 (1), .int .i64 (0), .int .i64 (0), .int .i64 (0), .int .i64 (1)] 96)
  have hB4q : Below w.heap.size w w4 := up b4 hB3
  have hB4 := hB4q.alloc hB4q.size (.cells #[.int .i64 (0), .int .i64 (0), .int .i64 (0), .int .i64 (1), .int .i64 (0), .int .i64 (0), .int .i64 (0), .int .i64 (1), .int .i64 (0), .int .i64 (0), .int .i64 (0), .int .i64 (1)] 96)
  have G4 : B12 (w4.alloc (.cells #[.int .i64 (0), .int .i64 (0), .int .i64 (0), .int .i64 (1), .int .i64 (0), .int .i64 (0), .int .i64 (0), .int .i64 (1), .int .i64 (0), .int .i64 (0), .int .i64 (0), .int .i64 (1)] 96)) w4.heap.size ee := blk_new rfl
  have l34 : w3.heap.size < w4.heap.size := by have := b4.size; simp at this; omega
  clear M3 R3 F3 hB3 b4 hB4q
  obtain ⟨D, hD⟩ : ∃ D : Nat → I3, D = fun i => mvA t1 (x1, y1, z1) (ee i) := ⟨_, rfl⟩
  rw [← hD] at HOF
  have HD := Lib.hid hD
  clear hD
  go_wp2_with fail
  go_loopw [6] (fun c wr => ∃ i : Nat, i ≤ 4 ∧ c = .int .i64 i ∧ Q4 wr w.heap.size t1 x1 y1 z1 ∧ Q4 wr (w.heap.size + 1) 0 0 0 0 ∧ B12 wr w3.heap.size ee ∧ B12 wr w4.heap.size (mixI D ee i) ∧ Below w.heap.size w wr) (fun c _ => 4 - (intOf c).toNat)
  case atStart => exact ⟨0, by omega, rfl, M4, R4, F4, B12.congr G4 fun k _ => rfl, hB4⟩
  case round =>
    clear M4 R4 F4 G4 hB4
    obtain ⟨i, hi, rfl, M, R, F, G, hB⟩ := hrel
    have lM := blk_lt M
    have lR := blk_lt R
    have lF := blk_lt F
    have lG := blk_lt G
    by_cases hlt : i < 4
    · have hd : decide ((i : Int) < 4) = true := decide_eq_true (by omega)
      have hib : (i : Int) < 4 := by omega
      have hx := of_decide_eq_true HM1.out
      have C1 := Lib.hid (fun (X : World) => carried_ok (ee i) t1 x1 y1 z1 X (in7_sf (in7_ee i)) h1 (by unfold Sm; omega) (by unfold Sm; omega) (by unfold Sm; omega))
      have hDi : plus (turnI 7 t1 (ee i)) (x1, y1, z1) = D i := by rw [HD.out]; rfl
      rw [hDi] at C1
      clear hx hDi
      obtain ⟨k0, k1, k2⟩ := B12.at F hlt
      obtain ⟨m0, m1, m2, m3⟩ := Q4.cells M
      go_wp2_with fail
      have lM : w.heap.size < wr.heap.size := lM
      have lF : w3.heap.size < wr.heap.size := lF
      have lG : w4.heap.size < wr.heap.size := lG
      (refine wp_region_quiet_tail 7 (fun w' => Below wr.heap.size wr w') (by kernel_rfl) (by kernel_rfl) (Below.drew (Below.refl _ _)) ?_; simp only [List.take_succ_cons, List.take_zero, List.drop_succ_cons, List.drop_zero]; (iterate 7 (refine wpQuiet_step (fun K hK => ?_); go_simp; first | (refine hK _ ?_; clear hK K) | (apply Exists.intro; refine ⟨fun W' hW' => ?_, hK _ ?_⟩; (focus (first | (with_reducible exact rfl) | (with_reducible exact ⟨rfl, rfl⟩) | (obtain ⟨hcq, hfq⟩ := bcell hW'; have hzq := hW'.size; (try go_simp); first | (with_reducible exact rfl) | (with_reducible exact ⟨rfl, rfl⟩) | (first | ((with_reducible refine Calls.mono (C1.out _) ?_); rintro e w9 ⟨rfl, hb9⟩; exact ⟨rfl, hW'.trans (hb9.mono hW'.size)⟩))))); clear hK K))); refine wpQuiet_nil ?_; intro w1q hb1q)
      have M1 := blk_below M hb1q lM
      have R1 := blk_below R hb1q lR
      have F1 := blk_below F hb1q lF
      have G1 : B12 w1q w4.heap.size (mixI D ee i) := blk_below G hb1q lG
      have hB1 : Below w.heap.size w w1q := up hb1q hB
      clear k0 k1 k2 m0 m1 m2 m3 M R F G hB
      obtain ⟨k0, k1, k2⟩ := B12.at G1 hlt
      have f0 := blk_free (k := i * 3) G1; have f1 := blk_free (k := i * 3 + 1) G1; have f2 := blk_free (k := i * 3 + 2) G1
      have G2 := B12.put G1 hlt (D i)
      have G3 := B12.congr G2 (a' := mixI D ee (i + 1)) fun k hk => by
        unfold up12 mixI
        by_cases e : k = i
        · rw [if_pos e, if_pos (by omega), e]
        · rw [if_neg e]
          by_cases h : k < i
          · rw [if_pos h, if_pos (by omega)]
          · rw [if_neg h, if_neg (by omega)]
      go_wp2_with fail
      have o3 : ∀ {b : Nat} {o : Obj}, w1q.heap[b]? = some o → b ≠ w4.heap.size → (((w1q.setCell ⟨w4.heap.size, i * 3, none⟩ (.int .i64 (D i).1)).setCell ⟨w4.heap.size, i * 3 + 1, none⟩ (.int .i64 (D i).2.1)).setCell ⟨w4.heap.size, i * 3 + 2, none⟩ (.int .i64 (D i).2.2)).heap[b]? = some o := fun h hne => blk_other (blk_other (blk_other h hne _) hne _) hne _
      case roundEnd => exact ⟨⟨i + 1, by omega, by simp, o3 M1 (by omega), o3 R1 (by omega), o3 F1 (by omega), G3, ((hB1.setCell (p := ⟨w4.heap.size, i * 3, none⟩) (by simp; omega) _).setCell (p := ⟨w4.heap.size, i * 3 + 1, none⟩) (by simp; omega) _).setCell (p := ⟨w4.heap.size, i * 3 + 2, none⟩) (by simp; omega) _⟩, by simp [intOf]; omega⟩
    · obtain rfl : i = 4 := by omega
      have hd : decide (((4 : Nat) : Int) < 4) = false := by decide
      have G4 : B12 wr w4.heap.size D := B12.congr G fun k hk => if_pos hk
      obtain ⟨⟨⟨a0, a1, a2⟩, a3, a4, a5⟩, ⟨a6, a7, a8⟩, a9, a10, a11⟩ := B12.cells F
      obtain ⟨⟨⟨b0, b1, b2⟩, b3, b4, b5'⟩, ⟨b6, b7, b8⟩, b9, b10, b11⟩ := B12.cells G4
      go_wp2_with fail
      refine (HOF.out _).mono ?_
      rintro e w5 ⟨rfl, b5⟩
      have R5 := blk_below R b5 lR
      have O5 : Q4 (w5.alloc (.cells #[.int .i64 (T), .int .i64 (V.1), .int .i64 (V.2.1), .int .i64 (V.2.2)] 46)) w5.heap.size T V.1 V.2.1 V.2.2 := blk_new rfl
      have hB5q : Below w.heap.size w w5 := up b5 hB
      have lR5 : w.heap.size + 1 < w5.heap.size := Nat.lt_of_lt_of_le lR b5.size
      clear a0 a1 a2 a3 a4 a5 a6 a7 a8 a9 a10 a11 b0 b1 b2 b3 b4 b5' b6 b7 b8 b9 b10 b11 M R F G G4 hB b5
      obtain ⟨o0, o1, o2, o3⟩ := Q4.cells O5
      obtain ⟨n0, n1, n2, n3⟩ := Q4.cells R5
      have f0 := blk_free (k := 0) R5; have f1 := blk_free (k := 1) R5; have f2 := blk_free (k := 2) R5; have f3 := blk_free (k := 3) R5
      go_wp2_with fail
      have bE := blk_alloc (blk_set (k := 3) (blk_set (k := 2) (blk_set (k := 1) (blk_set (k := 0) R5 (.int .i64 T)) (.int .i64 V.1)) (.int .i64 V.2.1)) (.int .i64 V.2.2)) (.cells #[.int .i64 (T), .int .i64 (V.1), .int .i64 (V.2.1), .int .i64 (V.2.2)] 46)
      refine bodyPost_ret (res_4e Tryz.results53 rfl (blk_cell (k := 0) bE) (blk_cell (k := 1) bE) (blk_cell (k := 2) bE) (blk_cell (k := 3) bE)) rfl ⟨rfl, ?_⟩
      repeat' (first | (with_reducible exact Below.refl _ _) | (with_reducible assumption) | (with_reducible refine Below.alloc ?_ ?_ _) | (with_reducible refine Below.drew ?_) | (with_reducible refine below_drewN ?_ _) | (with_reducible refine Below.setCell ?_ ?_ _) | go_size)
end Go.Proofs.YtadkaplafaeebaaGreatDoor
/-
  Then of a move that is too great; Back of no motion.
-/
set_option linter.unusedVariables false
set_option linter.unusedSimpArgs false
namespace Go.Proofs.YtadkaplafaeebaaGreatDoor
open Go Go.RowKit

set_option maxRecDepth 100000 in
set_option maxHeartbeats 4000000 in
theorem then_out (t1 t2 : Nat) (x1 y1 z1 x2 y2 z2 a b c X Y Z : Int) (T : Nat) (w : World) (h1 : t1 < 24) (h2 : t2 < 24) (m1 : mvB x1 y1 z1 = true) (m2 : mvB x2 y2 z2 = true) (hT : T < 24)
    (ha : turnI 0 t2 (x1, y1, z1) = (a, b, c)) (hX : X = a + x2) (hY : Y = b + y2) (hZ : Z = c + z2) (hm : mvB X Y Z = false) (hto : toTurn (1, 2, 3) (turnI 0 t2 (turnI 0 t1 (1, 2, 3))) T) :
    Calls Tryz.prog 50 #[.agg #[.int .i64 (t1), .int .i64 (x1), .int .i64 (y1), .int .i64 (z1)], .agg #[.int .i64 (t2), .int .i64 (x2), .int .i64 (y2), .int .i64 (z2)]] w fun e w' => e = .returned (.tuple #[.agg #[.int .i64 (0), .int .i64 (0), .int .i64 (0), .int .i64 (0)], .int .i64 20]) ∧ Below w.heap.size w w' := by
  have H1 := Lib.hid (show motB t1 x1 y1 z1 = true by unfold motB; rw [decide_eq_true (by omega), m1]; rfl)
  have H2 := Lib.hid (show motB t2 x2 y2 z2 = true by unfold motB; rw [decide_eq_true (by omega), m2]; rfl)
  have s1 : Sm3 30 (x1, y1, z1) := by have := of_decide_eq_true m1; unfold Sm3; simp only; omega
  have HX := Lib.hid hX
  have HY := Lib.hid hY
  have HZ := Lib.hid hZ
  have HA := Lib.hid ha
  have HM := Lib.hid hm
  have HTH := fun W => turn_ok 0 t2 x1 y1 z1 W h2 (by omega) (by omega) s1
  rw [ha] at HTH
  have HTU := Lib.hid HTH
  clear HTH
  have s0 : Sm3 30 (1, 2, 3) := by unfold Sm3; simp only; omega
  have sp : Sm3 30 (turnI 0 t1 (1, 2, 3)) := turnI0_sm s0 t1
  obtain ⟨p, hp⟩ : ∃ p, p = turnI 0 t1 (1, 2, 3) := ⟨_, rfl⟩
  have HT1 := fun W => turn_ok 0 t1 1 2 3 W h1 (by omega) (by omega) s0
  rw [← hp] at hto sp HT1
  obtain ⟨p1, p2, p3⟩ := p
  have sr : Sm3 30 (turnI 0 t2 (p1, p2, p3)) := turnI0_sm sp t2
  obtain ⟨r, hr⟩ : ∃ r, r = turnI 0 t2 (p1, p2, p3) := ⟨_, rfl⟩
  have HT2 := fun W => turn_ok 0 t2 p1 p2 p3 W h2 (by omega) (by omega) sp
  rw [← hr] at hto sr HT2
  obtain ⟨r1, r2, r3⟩ := r
  have HTA := Lib.hid HT1
  have HTB := Lib.hid HT2
  have HTO := Lib.hid hto
  clear HT1 HT2 hp hr sp sr
  have b2 := of_decide_eq_true m2
  have ba : -30 ≤ a ∧ a ≤ 30 ∧ -30 ≤ b ∧ b ≤ 30 ∧ -30 ≤ c ∧ c ≤ 30 := by
    have hh := turnI0_sm (b := 7) (c := (x1, y1, z1)) (by have := of_decide_eq_true m1; unfold Sm3; simp only; omega) t2
    rw [ha] at hh
    unfold Sm3 at hh
    simp only at hh
    omega
  clear hX hY hZ ha hm hto m1 m2
  go_enter Tryz.func50, Tryz.ntmps50
  go_wp2_with fail
  refine (isMotion_is H1.out _).mono ?_
  rintro e w1 ⟨rfl, hb1⟩
  have M1 : Q4 w1 w.heap.size t1 x1 y1 z1 := blk_below (blk_alloc (blk_alloc (blk_new rfl) _) _) hb1 (by simp <;> omega)
  have N1 : Q4 w1 (w.heap.size + 1) t2 x2 y2 z2 := blk_below (blk_alloc (blk_new (by simp)) _) hb1 (by simp <;> omega)
  have R1 : Q4 w1 (w.heap.size + 1 + 1) 0 0 0 0 := blk_below (blk_new (by simp)) hb1 (by simp <;> omega)
  have hB1 : Below w.heap.size w w1 := up hb1 (by repeat' (first | (with_reducible exact Below.refl _ _) | (with_reducible assumption) | (with_reducible refine Below.alloc ?_ ?_ _) | (with_reducible refine Below.drew ?_) | (with_reducible refine below_drewN ?_ _) | (with_reducible refine Below.setCell ?_ ?_ _) | go_size))
  obtain ⟨n0, n1, n2, n3⟩ := N1.cells
  have lM := blk_lt M1
  have lN := blk_lt N1
  have lR := blk_lt R1
  go_wp2_with fail
  refine (isMotion_is H2.out _).mono ?_
  rintro e w2 ⟨rfl, hb2⟩
  have M2 := blk_below M1 hb2 lM
  have N2 := blk_below N1 hb2 lN
  have R2 := blk_below R1 hb2 lR
  have hB2 : Below w.heap.size w w2 := up hb2 hB1
  clear M1 N1 R1 n0 n1 n2 n3 lM lN lR hb1
  obtain ⟨m0', m1', m2', m3'⟩ := Q4.cells M2
  obtain ⟨n0, n1, n2, n3⟩ := Q4.cells N2
  have lM := blk_lt M2
  have lN := blk_lt N2
  have lR := blk_lt R2
  go_wp2_with fail
  have hC2 : Below w2.heap.size w2 w2.drew := Below.drew (Below.refl _ _)
  refine wp_region_relT 6 (V3 w2.heap.size (w.heap.size + 1) t1 t2 x1 y1 z1 a b c) (fun W => Below w2.heap.size w2 W) (by kernel_rfl) (by kernel_rfl) (by kernel_rfl) (by kernel_rfl) (by kernel_rfl) (by kernel_rfl) (by kernel_rfl) (by kernel_rfl) hC2 ?hst ?hop ?hend
  case hst =>
    intro j v W W' hb hv
    rcases j with _ | _ | _ | _ | _ | _ | j
    all_goals first | exact hv | exact NewC.below hv hb
  case hop =>
    intro i o hi ho a' W hC hin hfix K hK
    have M3 := blk_below M2 hC lM
    have N3 := blk_below N2 hC lN
    obtain ⟨m0', m1', m2', m3'⟩ := Q4.cells M3
    obtain ⟨n0, n1, n2, n3⟩ := Q4.cells N3
    have q2 : a'.tmps[2]? = some (.pointer (some ⟨w.heap.size, 0, none⟩)) := hfix 2 (by kernel_rfl)
    have q3 : a'.tmps[3]? = some (.pointer (some ⟨w.heap.size + 1, 0, none⟩)) := hfix 3 (by kernel_rfl)
    rcases (show i = 0 ∨ i = 1 ∨ i = 2 ∨ i = 3 ∨ i = 4 ∨ i = 5 by omega) with rfl | rfl | rfl | rfl | rfl | rfl
    · obtain rfl := Option.some.inj ho
      clear hin hfix ho
      go_simp
      exact hK _ _ rfl hC (Below.refl _ _)
    · obtain ⟨v0, rfl, h0⟩ := hin 0 18 (by kernel_rfl) (by kernel_rfl)
      obtain rfl := Option.some.inj ho
      clear hin hfix ho
      go_simp
      refine (moveOf_ok t1 x1 y1 z1 _).mono ?_
      rintro e W2 ⟨rfl, hb⟩
      exact hK _ _ rfl (hC.trans (hb.mono hC.size)) hb
    · obtain rfl := Option.some.inj ho
      clear hin hfix ho
      go_simp
      exact hK _ _ rfl hC (Below.refl _ _)
    · obtain ⟨v0, rfl, h0⟩ := hin 2 20 (by kernel_rfl) (by kernel_rfl)
      obtain rfl := Option.some.inj ho
      clear hin hfix ho
      go_simp
      exact hK _ _ rfl hC (Below.refl _ _)
    · obtain ⟨v1, rfl, h1⟩ := hin 1 19 (by kernel_rfl) (by kernel_rfl)
      obtain ⟨v3, rfl, h3⟩ := hin 3 21 (by kernel_rfl) (by kernel_rfl)
      obtain rfl := Option.some.inj ho
      clear hin hfix ho
      go_simp
      refine (HTU.out _).mono ?_
      rintro e W2 ⟨rfl, hb⟩
      exact hK _ _ rfl (hC.trans (hb.mono hC.size)) hb
    · obtain rfl := Option.some.inj ho
      clear hin hfix ho
      go_simp
      exact hK _ _ ⟨W.heap.size, rfl, hC.size, World.alloc_heap_new W _⟩ (hC.alloc hC.size _) ((Below.refl _ W).alloc (Nat.le_refl _) _)
  case hend =>
    intro vals W hC hV
    have z0 := hV 0 (by decide)
    have z1 := hV 1 (by decide)
    have z2 := hV 2 (by decide)
    have z3 := hV 3 (by decide)
    have z4 := hV 4 (by decide)
    obtain ⟨g, z5, hg, bG⟩ := hV 5 (by decide)
    clear hV
    simp only [V3] at z0 z1 z2 z3 z4
    have hr : List.range 6 = [0, 1, 2, 3, 4, 5] := rfl
    simp only [List.drop_succ_cons, List.drop_zero, putA, hr, List.foldl_cons, List.foldl_nil, dstR, List.getElem?_toArray, List.getElem?_cons_succ, List.getElem?_cons_zero, Option.bind_some, Act.put, List.setIfInBounds_toArray, List.set_cons_succ, List.set_cons_zero, z0, z1, z2, z3, z4, z5]
    clear hr z0 z1 z2 z3 z4 z5 vals
    have M3 := blk_below M2 hC lM
    have N3 := blk_below N2 hC lN
    have R3 := blk_below R2 hC lR
    have hB3 : Below w.heap.size w W := up hC hB2
    have g0 := bG.c0
    have g1 := bG.c1
    have g2 := bG.c2
    have gl := bG.lt
    have f0 := blk_free (k := 0) bG; have f1 := blk_free (k := 1) bG; have f2 := blk_free (k := 2) bG
    have s2 := hC.size
    have hlN : w.heap.size + 1 < w2.heap.size := lN
    have hlM : w.heap.size < w2.heap.size := lM
    have hlR : w.heap.size + 1 + 1 < w2.heap.size := lR
    have bG3 : BoxC (((W.setCell ⟨g, 0, none⟩ (.int .i64 a)).setCell ⟨g, 1, none⟩ (.int .i64 b)).setCell ⟨g, 2, none⟩ (.int .i64 c)) g a b c := blk_set (k := 2) (blk_set (k := 1) (blk_set (k := 0) bG (.int .i64 a)) (.int .i64 b)) (.int .i64 c)
    have o3 : ∀ {B : Nat} {o : Obj}, W.heap[B]? = some o → B < w2.heap.size → (((W.setCell ⟨g, 0, none⟩ (.int .i64 a)).setCell ⟨g, 1, none⟩ (.int .i64 b)).setCell ⟨g, 2, none⟩ (.int .i64 c)).heap[B]? = some o := fun h hl => blk_other (blk_other (blk_other h (by omega) _) (by omega) _) (by omega) _
    have N4 := o3 N3 hlN
    have M4 := o3 M3 hlM
    have R4 := o3 R3 hlR
    have HO3 := Lib.hid hC
    clear o3
    obtain ⟨n0, n1, n2, n3⟩ := Q4.cells N4
    have k0 := bG3.c0
    have k1 := bG3.c1
    have k2 := bG3.c2
    have e0 := blk_free (k := 0) bG3; have e1 := blk_free (k := 1) bG3; have e2 := blk_free (k := 2) bG3
    have hB4 : Below w.heap.size w (((W.setCell ⟨g, 0, none⟩ (.int .i64 a)).setCell ⟨g, 1, none⟩ (.int .i64 b)).setCell ⟨g, 2, none⟩ (.int .i64 c)) := ((hB3.setCell (p := ⟨g, 0, none⟩) (by simp; omega) _).setCell (p := ⟨g, 1, none⟩) (by simp; omega) _).setCell (p := ⟨g, 2, none⟩) (by simp; omega) _
    go_wp2_with fail
    clear n0 n1 n2 n3 k0 k1 k2 e0 e1 e2 g0 g1 g2 f0 f1 f2
    have bG5 : BoxC ((((((W.setCell ⟨g, 0, none⟩ (.int .i64 a)).setCell ⟨g, 1, none⟩ (.int .i64 b)).setCell ⟨g, 2, none⟩ (.int .i64 c)).setCell ⟨g, 0, none⟩ (.int .i64 (a + x2))).setCell ⟨g, 1, none⟩ (.int .i64 (b + y2))).setCell ⟨g, 2, none⟩ (.int .i64 (c + z2))) g (a + x2) (b + y2) (c + z2) := blk_set (k := 2) (blk_set (k := 1) (blk_set (k := 0) bG3 (.int .i64 (a + x2))) (.int .i64 (b + y2))) (.int .i64 (c + z2))
    have o5 : ∀ {B : Nat} {o : Obj}, (((W.setCell ⟨g, 0, none⟩ (.int .i64 a)).setCell ⟨g, 1, none⟩ (.int .i64 b)).setCell ⟨g, 2, none⟩ (.int .i64 c)).heap[B]? = some o → B < w2.heap.size → ((((((W.setCell ⟨g, 0, none⟩ (.int .i64 a)).setCell ⟨g, 1, none⟩ (.int .i64 b)).setCell ⟨g, 2, none⟩ (.int .i64 c)).setCell ⟨g, 0, none⟩ (.int .i64 (a + x2))).setCell ⟨g, 1, none⟩ (.int .i64 (b + y2))).setCell ⟨g, 2, none⟩ (.int .i64 (c + z2))).heap[B]? = some o := fun h hl => blk_other (blk_other (blk_other h (by omega) _) (by omega) _) (by omega) _
    have N5 := o5 N4 hlN
    have M5 := o5 M4 hlM
    have R5 := o5 R4 hlR
    have hB5 : Below w.heap.size w ((((((W.setCell ⟨g, 0, none⟩ (.int .i64 a)).setCell ⟨g, 1, none⟩ (.int .i64 b)).setCell ⟨g, 2, none⟩ (.int .i64 c)).setCell ⟨g, 0, none⟩ (.int .i64 (a + x2))).setCell ⟨g, 1, none⟩ (.int .i64 (b + y2))).setCell ⟨g, 2, none⟩ (.int .i64 (c + z2))) := ((hB4.setCell (p := ⟨g, 0, none⟩) (by simp; omega) _).setCell (p := ⟨g, 1, none⟩) (by simp; omega) _).setCell (p := ⟨g, 2, none⟩) (by simp; omega) _
    have hs5 : ((((((W.setCell ⟨g, 0, none⟩ (.int .i64 a)).setCell ⟨g, 1, none⟩ (.int .i64 b)).setCell ⟨g, 2, none⟩ (.int .i64 c)).setCell ⟨g, 0, none⟩ (.int .i64 (a + x2))).setCell ⟨g, 1, none⟩ (.int .i64 (b + y2))).setCell ⟨g, 2, none⟩ (.int .i64 (c + z2))).heap.size = W.heap.size := by simp
    obtain ⟨U, hU⟩ : ∃ U, U = ((((((W.setCell ⟨g, 0, none⟩ (.int .i64 a)).setCell ⟨g, 1, none⟩ (.int .i64 b)).setCell ⟨g, 2, none⟩ (.int .i64 c)).setCell ⟨g, 0, none⟩ (.int .i64 (a + x2))).setCell ⟨g, 1, none⟩ (.int .i64 (b + y2))).setCell ⟨g, 2, none⟩ (.int .i64 (c + z2))) := ⟨_, rfl⟩
    rw [← hU] at bG5 N5 M5 R5 hB5 hs5 ⊢
    rw [← HX.out, ← HY.out, ← HZ.out] at bG5 ⊢
    clear o5 hU N4 M4 R4 N3 M3 R3 hB3 hB4 bG3 bG M2 N2 R2 hB2 HO3 hC s2
    have hmv := isMove_ok X Y Z U
    rw [HM.out] at hmv
    refine hmv.mono ?_
    clear hmv
    rintro e w6 ⟨rfl, hb6⟩
    have R6 := blk_below R5 hb6 (blk_lt R5)
    have hB6 : Below w.heap.size w w6 := up hb6 hB5
    clear N5 M5 R5 bG5 hB5 hs5 hb6 gl
    have lR6 := blk_lt R6
    obtain ⟨n0, n1, n2, n3⟩ := Q4.cells R6
    have f0 := blk_free (k := 0) R6; have f1 := blk_free (k := 1) R6; have f2 := blk_free (k := 2) R6; have f3 := blk_free (k := 3) R6
    go_wp2_with fail
    have bE := blk_set (k := 3) (blk_set (k := 2) (blk_set (k := 1) (blk_set (k := 0) R6 (.int .i64 0)) (.int .i64 0)) (.int .i64 0)) (.int .i64 0)
    refine bodyPost_ret (res_4e Tryz.results50 rfl (blk_cell (k := 0) bE) (blk_cell (k := 1) bE) (blk_cell (k := 2) bE) (blk_cell (k := 3) bE)) rfl ⟨rfl, ?_⟩
    repeat' (first | (with_reducible exact Below.refl _ _) | (with_reducible assumption) | (with_reducible refine Below.alloc ?_ ?_ _) | (with_reducible refine Below.drew ?_) | (with_reducible refine below_drewN ?_ _) | (with_reducible refine Below.setCell ?_ ?_ _) | go_size)
set_option maxRecDepth 100000 in
set_option maxHeartbeats 2000000 in
theorem back_no (t1 x1 y1 z1 : Int) (w : World) (h : motB t1 x1 y1 z1 = false) :
    Calls Tryz.prog 52 #[.agg #[.int .i64 (t1), .int .i64 (x1), .int .i64 (y1), .int .i64 (z1)]] w fun e w' => e = .returned (.tuple #[.agg #[.int .i64 (0), .int .i64 (0), .int .i64 (0), .int .i64 (0)], .int .i64 1]) ∧ Below w.heap.size w w' := by
  have H := Lib.hid h
  clear h
  go_enter Tryz.func52, Tryz.ntmps52
  go_wp2_with fail
  refine (isMotion_is H.out _).mono ?_
  rintro e w1 ⟨rfl, hb1⟩
  have R1 : Q4 w1 (w.heap.size + 1) 0 0 0 0 := blk_below (blk_new (by simp)) hb1 (by simp <;> omega)
  have hB1 : Below w.heap.size w w1 := up hb1 (by repeat' (first | (with_reducible exact Below.refl _ _) | (with_reducible assumption) | (with_reducible refine Below.alloc ?_ ?_ _) | (with_reducible refine Below.drew ?_) | (with_reducible refine below_drewN ?_ _) | (with_reducible refine Below.setCell ?_ ?_ _) | go_size))
  have lR := blk_lt R1
  obtain ⟨n0, n1, n2, n3⟩ := Q4.cells R1
  have f0 := blk_free (k := 0) R1; have f1 := blk_free (k := 1) R1; have f2 := blk_free (k := 2) R1; have f3 := blk_free (k := 3) R1
  go_wp2_with fail
  have bE := blk_set (k := 3) (blk_set (k := 2) (blk_set (k := 1) (blk_set (k := 0) R1 (.int .i64 0)) (.int .i64 0)) (.int .i64 0)) (.int .i64 0)
  refine bodyPost_ret (res_4e Tryz.results52 rfl (blk_cell (k := 0) bE) (blk_cell (k := 1) bE) (blk_cell (k := 2) bE) (blk_cell (k := 3) bE)) rfl ⟨rfl, ?_⟩
  repeat' (first | (with_reducible exact Below.refl _ _) | (with_reducible assumption) | (with_reducible refine Below.alloc ?_ ?_ _) | (with_reducible refine Below.drew ?_) | (with_reducible refine below_drewN ?_ _) | (with_reducible refine Below.setCell ?_ ?_ _) | go_size)
end Go.Proofs.YtadkaplafaeebaaGreatDoor
