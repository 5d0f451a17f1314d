/-
  Walks of inverse and of the neighbours of a fraction.
-/
import Derived.Test.YtgonaamjjhhiiaaGreatDoorCmp
set_option linter.unusedVariables false
set_option linter.unusedSimpArgs false
namespace Go.Proofs.YtgonaamjjhhiiaaGreatDoor
open Go Go.RowKit

def InvPost (n m : Int) (w : World) (e : Ending) (w' : World) : Prop := ∃ b, e = .returned (.int .i64 b) ∧ 1 ≤ b ∧ b ≤ m - 1 ∧ m ∣ n * b - 1 ∧ Below w.heap.size w w'

/-- What the loop's rounds reckon stays small. -/
theorem Inv.bds {n m before rest cb c : Int} (h : Inv n m before rest cb c) (hr : rest ≠ 0) :
    0 ≤ before / rest ∧ before / rest ≤ before ∧ 0 ≤ before / rest * rest ∧ before / rest * rest ≤ before ∧ -(2 * m) ≤ before / rest * c ∧ before / rest * c ≤ 2 * m := by
  have h1 := h.bp; have h2 := h.rp
  have hn := h.next hr
  have b1 := h.cb1; have b2 := h.cb2
  have b3 := hn.c_bd
  have e1 := Int.ediv_mul_le before hr
  have e2 : 0 ≤ before / rest := Int.ediv_nonneg (by omega) h2
  have e3 := Int.ediv_le_self (b := rest) (a := before) (by omega)
  have e4 : 0 ≤ before / rest * rest := Int.mul_nonneg e2 h2
  omega

set_option maxHeartbeats 1000000 in
theorem inverse_any (n m : Int) (w : World) (hm : 2 ≤ m) (hm' : m ≤ 1000000) (hn : -1000000000 ≤ n) (hn' : n ≤ 1000000000) (hg : gc n m = 1) :
    Calls Tryz.prog 64 #[.int .i64 n, .int .i64 m] w (InvPost n m w) := by
  have hst := Inv.start hm hg
  have b1 := tmod_lt n (b := m) (by omega)
  have b2 : -1000000 ≤ n.tmod m := by omega
  have b3 : n.tmod m ≤ 1000000 := by omega
  have b4 : 0 ≤ n.tmod m + m := by omega
  have hne : ¬ m = 0 := by omega
  have g1 : IntKind.i64.wrap (n.tmod m + m) = n.tmod m + m := IntWalk.i64_in _ (by omega)
  have g2 : (n.tmod m + m).tmod m = n % m := by rw [Int.tmod_eq_emod_of_nonneg b4, wrapmod (by omega)]
  have b5 := Int.emod_nonneg n (b := m) (by omega)
  have b6 := Int.emod_lt_of_pos n (b := m) (by omega)
  have HG := Lib.hid hg
  clear hg
  go_enter Tryz.func64, Tryz.ntmps64
  go_wp2
  go_quiet (fail)
  clear g1 g2
  go_wp2
  go_loopw [5, 6, 7, 8] (fun x y u v wr => ∃ before rest cb c : Int, x = .int .i64 before ∧ y = .int .i64 rest ∧ u = .int .i64 cb ∧ v = .int .i64 c ∧ Inv n m before rest cb c ∧ Below w.heap.size w wr) (fun _ y _ _ _ => (intOf y).toNat)
  case atStart => exact ⟨m, n % m, 0, 1, rfl, rfl, rfl, rfl, hst, below_drewN (Below.refl _ _) _⟩
  case round =>
    obtain ⟨before, rest, cb, c, rfl, rfl, rfl, rfl, hI, hB⟩ := hrel
    have i1 := hI.bp
    have i2 := hI.rp
    have i3 := hI.rb
    have i4 := hI.bm
    have i5 := hI.cb1
    have i6 := hI.cb2
    obtain ⟨i7, i8⟩ := hI.c_bd
    by_cases hr : rest = 0
    · subst hr
      obtain ⟨l1, l2, l3⟩ := hI.last hm
      have HL := Lib.hid l3
      clear l3
      have k1 : 0 ≤ cb + m := by omega
      go_wp2
      all_goals
        go_returns
        exact ⟨_, rfl, l1, l2, HL.out, hB⟩
    · have hne2 : (rest != 0) = true := by simpa using hr
      obtain ⟨j1, j2, j3, j4, j5, j6⟩ := hI.bds hr
      have hnx := hI.next hr
      go_wp2
      go_roundw
      case rel => exact ⟨rest, before - before / rest * rest, c, cb - before / rest * c, rfl, rfl, rfl, rfl, hnx, hB⟩
      case measure => have k1 := hnx.rb; have k2 := hnx.rp; simp [intOf]; omega

def NbPost (n d : Int) (w : World) (e : Ending) (w' : World) : Prop := ∃ a b, e = .returned (.tuple #[.agg #[.int .i64 (a), .int .i64 (b)], .agg #[.int .i64 (n - a), .int .i64 (d - b)]]) ∧ 1 ≤ b ∧ b ≤ d - 1 ∧ n * b - a * d = 1 ∧ -1000000000 ≤ a ∧ a ≤ 1000000000 ∧ Below w.heap.size w w'

theorem nb_bd {n d b a : Int} (hd : 2 ≤ d) (hn : -1000000000 ≤ n) (hn' : n ≤ 1000000000) (hb : 1 ≤ b) (hb' : b ≤ d - 1) (h : n * b - 1 = d * a) : -1000000000 ≤ a ∧ a ≤ 1000000000 := by
  have m1 := mul_bd (a := n) (b := b) (A := 1000000000) (B := d - 1) (by omega) (by omega) (by omega) (by omega)
  refine ⟨?_, ?_⟩
  · rcases Int.lt_or_le a (-1000000000) with h1 | h1
    · have : d * a ≤ d * (-1000000001) := Int.mul_le_mul_of_nonneg_left (by omega) (by omega)
      omega
    · exact h1
  · rcases Int.lt_or_le 1000000000 a with h1 | h1
    · have : d * 1000000001 ≤ d * a := Int.mul_le_mul_of_nonneg_left (by omega) (by omega)
      omega
    · exact h1

set_option maxHeartbeats 1000000 in
theorem neighbours_any (n d : Int) (w : World) (hd : 2 ≤ d) (hd' : d ≤ 1000000) (hn : -1000000000 ≤ n) (hn' : n ≤ 1000000000) (hg : gc n d = 1) :
    Calls Tryz.prog 34 #[.agg #[.int .i64 (n), .int .i64 (d)]] w (NbPost n d w) := by
  have HG := Lib.hid hg
  clear hg
  go_enter Tryz.func34, Tryz.ntmps34
  go_wp2_with fail
  refine (inverse_any n d _ hd hd' hn hn' HG.out).mono ?_
  rintro e w1 ⟨b, rfl, l1, l2, l3, hb1⟩
  obtain ⟨a, ha⟩ := l3
  have hab := nb_bd hd hn hn' l1 l2 ha
  obtain ⟨k1, k2⟩ := hab
  have m1 := mul_bd (a := n) (b := b) (A := 1000000000) (B := 1000000) (by omega) (by omega) (by omega) (by omega)
  have hq : (n * b - 1).tdiv d = a := by rw [ha]; exact Int.mul_tdiv_cancel_left _ (by omega)
  have HA := Lib.hid ha
  clear ha
  obtain ⟨hc1, hf1⟩ := bcell hb1
  have hB1 : Below w.heap.size w w1 := up hb1 (by go_grown)
  have hz1 := hb1.size
  simp at hz1
  have z0 : w.heap.size < w1.heap.size := by omega
  have z1 : w.heap.size + 1 < w1.heap.size := by omega
  have z2 : w.heap.size + 1 + 1 < w1.heap.size := by omega
  have r10 : w1.cell? ⟨w.heap.size + 1, 0, none⟩ = some (.int .i64 0) := by go_cell
  have r11 : w1.cell? ⟨w.heap.size + 1, 1, none⟩ = some (.int .i64 0) := by go_cell
  have r20 : w1.cell? ⟨w.heap.size + 1 + 1, 0, none⟩ = some (.int .i64 0) := by go_cell
  have r21 : w1.cell? ⟨w.heap.size + 1 + 1, 1, none⟩ = some (.int .i64 0) := by go_cell
  have hne : ¬ d = 0 := by omega
  have u1 : -4000000000000000000 ≤ n * b := by omega
  have u2 : n * b ≤ 4000000000000000000 := by omega
  have g1 : IntKind.i64.wrap (n - a) = n - a := IntWalk.i64_in _ (by omega)
  have g2 : IntKind.i64.wrap (d - b) = d - b := IntWalk.i64_in _ (by omega)
  go_wp2
  go_region_held3 (fun w' => w'.cell? ⟨w.heap.size, 0, none⟩ = some (.int .i64 n) ∧ w'.cell? ⟨w.heap.size, 1, none⟩ = some (.int .i64 d))
    (first | (go_simp; done) | go_keep) (fail)
  go_wp2
  refine bodyPost_ret (res_rr Tryz.results34 rfl rfl (by go_cell) (by go_cell) (by go_cell) (by go_cell)) rfl ⟨a, b, rfl, l1, l2, ?_, k1, k2, ?_⟩
  · have := HA.out
    rw [Int.mul_comm a d]
    omega
  repeat' (first | (with_reducible exact Below.refl _ _) | (with_reducible assumption) | (with_reducible refine Below.alloc ?_ ?_ _) | (with_reducible refine Below.drew ?_) | (with_reducible refine below_drewN ?_ _) | (with_reducible refine Below.setCell ?_ ?_ _) | go_size)

def Nb3Post (n d : Int) (w : World) (e : Ending) (w' : World) : Prop := ∃ a b, e = .returned (.tuple #[.agg #[.int .i64 (a), .int .i64 (b)], .agg #[.int .i64 (n - a), .int .i64 (d - b)], .int .i64 0]) ∧ 1 ≤ b ∧ b ≤ d - 1 ∧ n * b - a * d = 1 ∧ -1000000000 ≤ a ∧ a ≤ 1000000000 ∧ Below w.heap.size w w'

set_option maxHeartbeats 1000000 in
theorem Neighbours_ok (n d : Int) (w : World) (ha : okQ n d = true) (hd1 : ¬ d = 1) :
    Calls Tryz.prog 12 #[.agg #[.int .i64 (n), .int .i64 (d)]] w (Nb3Post n d w) := by
  obtain ⟨h1, h2, h3, h4, h5⟩ := okQ_iff.1 ha
  have HA := Lib.hid ha
  have HG := Lib.hid h5
  clear ha h5
  have hd2 : (d == 1) = false := by simpa using hd1
  go_enter Tryz.func12, Tryz.ntmps12
  go_wp2_with (go_at_call 21; refine (check1_ok _ _ n d _ (by simp [go_sem]) (by simp [go_sem]) HA.out).mono ?_; rintro e w1 ⟨rfl, hb1⟩; obtain ⟨hc1, hf1⟩ := bcell hb1; have hB1 : Below w.heap.size w w1 := up hb1 (by go_grown); have hz1 := hb1.size; (try simp at hz1); (try have hz1_w_p1 : w.heap.size < w1.heap.size + 1 := (by omega)); (try have hz1_w_p2 : w.heap.size < w1.heap.size + 1 + 1 := (by omega)); (try have hz1_w_p3 : w.heap.size < w1.heap.size + 1 + 1 + 1 := (by omega)); (try have hz1_w_0 : w.heap.size < w1.heap.size := (by omega)); (try have hz1_w_1 : w.heap.size + 1 < w1.heap.size := (by omega)); (try have hz1_w_2 : w.heap.size + 1 + 1 < w1.heap.size := (by omega)); (try have hz1_w_3 : w.heap.size + 1 + 1 + 1 < w1.heap.size := (by omega)); (try have hz1_w_4 : w.heap.size + 1 + 1 + 1 + 1 < w1.heap.size := (by omega)); (try have hz1_w_5 : w.heap.size + 1 + 1 + 1 + 1 + 1 < w1.heap.size := (by omega)); (try have hz1_w_6 : w.heap.size + 1 + 1 + 1 + 1 + 1 + 1 < w1.heap.size := (by omega)); have r1_1_0 : w1.cell? ⟨w.heap.size + 1, 0, none⟩ = some (.int .i64 0) := (by go_cell); have r1_1_1 : w1.cell? ⟨w.heap.size + 1, 1, none⟩ = some (.int .i64 0) := (by go_cell); have r1_2_0 : w1.cell? ⟨w.heap.size + 1 + 1, 0, none⟩ = some (.int .i64 0) := (by go_cell); have r1_2_1 : w1.cell? ⟨w.heap.size + 1 + 1, 1, none⟩ = some (.int .i64 0) := (by go_cell))
  refine (neighbours_any n d _ (by omega) h2 h3 h4 HG.out).mono ?_
  rintro e w2 ⟨a, b, rfl, l1, l2, l3, k1, k2, hb2⟩
  have HL := Lib.hid l3
  clear l3
  obtain ⟨hc2, hf2⟩ := bcell hb2
  have hB2 : Below w.heap.size w w2 := up hb2 (by go_grown)
  have hz2 := hb2.size
  (try simp at hz2)
  have z0 : w.heap.size < w2.heap.size := by omega
  have z1 : w.heap.size + 1 < w2.heap.size := by omega
  have z2 : w.heap.size + 1 + 1 < w2.heap.size := by omega
  have r10 : w2.cell? ⟨w.heap.size + 1, 0, none⟩ = some (.int .i64 0) := by go_cell
  have r11 : w2.cell? ⟨w.heap.size + 1, 1, none⟩ = some (.int .i64 0) := by go_cell
  have r20 : w2.cell? ⟨w.heap.size + 1 + 1, 0, none⟩ = some (.int .i64 0) := by go_cell
  have r21 : w2.cell? ⟨w.heap.size + 1 + 1, 1, none⟩ = some (.int .i64 0) := by go_cell
  go_wp2
  go_region_held3 (fun w' => w'.cell? ⟨w2.heap.size, 0, none⟩ = some (.int .i64 a) ∧ w'.cell? ⟨w2.heap.size, 1, none⟩ = some (.int .i64 b) ∧ w'.cell? ⟨w2.heap.size + 1, 0, none⟩ = some (.int .i64 (n - a)) ∧ w'.cell? ⟨w2.heap.size + 1, 1, none⟩ = some (.int .i64 (d - b)))
    (first | (go_simp; done) | go_keep) (fail)
  go_wp2
  refine bodyPost_ret (res_qqe Tryz.results12 rfl rfl (by go_cell) (by go_cell) (by go_cell) (by go_cell)) rfl ⟨a, b, rfl, l1, l2, HL.out, k1, k2, ?_⟩
  repeat' (first | (with_reducible exact Below.refl _ _) | (with_reducible assumption) | (with_reducible refine Below.alloc ?_ ?_ _) | (with_reducible refine Below.drew ?_) | (with_reducible refine below_drewN ?_ _) | (with_reducible refine Below.setCell ?_ ?_ _) | go_size)
theorem Neighbours_whole (n : Int) (w : World) (ha : okQ n 1 = true) :
    Calls Tryz.prog 12 #[.agg #[.int .i64 (n), .int .i64 (1)]] w fun e w' => e = .returned (.tuple #[.agg #[.int .i64 (0), .int .i64 (0)], .agg #[.int .i64 (0), .int .i64 (0)], .int .i64 13]) ∧ Below w.heap.size w w' := by
  have HA := Lib.hid ha
  clear ha
  go_enter Tryz.func12, Tryz.ntmps12
  go_wp2_with (go_at_call 21; refine (check1_ok _ _ n 1 _ (by simp [go_sem]) (by simp [go_sem]) HA.out).mono ?_; rintro e w1 ⟨rfl, hb1⟩; obtain ⟨hc1, hf1⟩ := bcell hb1; have hB1 : Below w.heap.size w w1 := up hb1 (by go_grown); have hz1 := hb1.size; (try simp at hz1); (try have hz1_w_p1 : w.heap.size < w1.heap.size + 1 := (by omega)); (try have hz1_w_p2 : w.heap.size < w1.heap.size + 1 + 1 := (by omega)); (try have hz1_w_p3 : w.heap.size < w1.heap.size + 1 + 1 + 1 := (by omega)); (try have hz1_w_0 : w.heap.size < w1.heap.size := (by omega)); (try have hz1_w_1 : w.heap.size + 1 < w1.heap.size := (by omega)); (try have hz1_w_2 : w.heap.size + 1 + 1 < w1.heap.size := (by omega)); (try have hz1_w_3 : w.heap.size + 1 + 1 + 1 < w1.heap.size := (by omega)); (try have hz1_w_4 : w.heap.size + 1 + 1 + 1 + 1 < w1.heap.size := (by omega)); (try have hz1_w_5 : w.heap.size + 1 + 1 + 1 + 1 + 1 < w1.heap.size := (by omega)); (try have hz1_w_6 : w.heap.size + 1 + 1 + 1 + 1 + 1 + 1 < w1.heap.size := (by omega)); have r1_1_0 : w1.cell? ⟨w.heap.size + 1, 0, none⟩ = some (.int .i64 0) := (by go_cell); have r1_1_1 : w1.cell? ⟨w.heap.size + 1, 1, none⟩ = some (.int .i64 0) := (by go_cell); have r1_2_0 : w1.cell? ⟨w.heap.size + 1 + 1, 0, none⟩ = some (.int .i64 0) := (by go_cell); have r1_2_1 : w1.cell? ⟨w.heap.size + 1 + 1, 1, none⟩ = some (.int .i64 0) := (by go_cell))
  refine bodyPost_ret (res_qqe Tryz.results12 rfl rfl (by go_cell) (by go_cell) (by go_cell) (by go_cell)) rfl ⟨rfl, by go_grown⟩
theorem Neighbours_arg (n d : Int) (w : World) (hw : W2 n d) (ha : okQ n d = false) :
    Calls Tryz.prog 12 #[.agg #[.int .i64 (n), .int .i64 (d)]] w fun e w' => e = .returned (.tuple #[.agg #[.int .i64 (0), .int .i64 (0)], .agg #[.int .i64 (0), .int .i64 (0)], .int .i64 1]) ∧ Below w.heap.size w w' := by
  have HA := Lib.hid ha
  have HW := Lib.hid hw
  clear ha hw
  go_enter Tryz.func12, Tryz.ntmps12
  go_wp2_with (go_at_call 21; refine (check1_bad1 _ _ n d _ (by simp [go_sem]) (by simp [go_sem]) HA.out HW.out).mono ?_; rintro e w1 ⟨rfl, hb1⟩; obtain ⟨hc1, hf1⟩ := bcell hb1; have hB1 : Below w.heap.size w w1 := up hb1 (by go_grown); have hz1 := hb1.size; (try simp at hz1); (try have hz1_w_p1 : w.heap.size < w1.heap.size + 1 := (by omega)); (try have hz1_w_p2 : w.heap.size < w1.heap.size + 1 + 1 := (by omega)); (try have hz1_w_p3 : w.heap.size < w1.heap.size + 1 + 1 + 1 := (by omega)); (try have hz1_w_0 : w.heap.size < w1.heap.size := (by omega)); (try have hz1_w_1 : w.heap.size + 1 < w1.heap.size := (by omega)); (try have hz1_w_2 : w.heap.size + 1 + 1 < w1.heap.size := (by omega)); (try have hz1_w_3 : w.heap.size + 1 + 1 + 1 < w1.heap.size := (by omega)); (try have hz1_w_4 : w.heap.size + 1 + 1 + 1 + 1 < w1.heap.size := (by omega)); (try have hz1_w_5 : w.heap.size + 1 + 1 + 1 + 1 + 1 < w1.heap.size := (by omega)); (try have hz1_w_6 : w.heap.size + 1 + 1 + 1 + 1 + 1 + 1 < w1.heap.size := (by omega)); have r1_1_0 : w1.cell? ⟨w.heap.size + 1, 0, none⟩ = some (.int .i64 0) := (by go_cell); have r1_1_1 : w1.cell? ⟨w.heap.size + 1, 1, none⟩ = some (.int .i64 0) := (by go_cell); have r1_2_0 : w1.cell? ⟨w.heap.size + 1 + 1, 0, none⟩ = some (.int .i64 0) := (by go_cell); have r1_2_1 : w1.cell? ⟨w.heap.size + 1 + 1, 1, none⟩ = some (.int .i64 0) := (by go_cell))
  refine bodyPost_ret (res_qqe Tryz.results12 rfl rfl (by go_cell) (by go_cell) (by go_cell) (by go_cell)) rfl ⟨rfl, by go_grown⟩
end Go.Proofs.YtgonaamjjhhiiaaGreatDoor
