/-
  The reference's SameSolids, of two lists of the same solids.
-/
import Derived.Test.YtadkaplafaeebaaGreatDoorPkTH
import Derived.Test.YtadkaplafaeebaaGreatDoorPkXB
import Derived.Test.YtadkaplafaeebaaGreatDoorPkR
import Derived.Test.YtadkaplafaeebaaGreatDoorPkTJ
import Derived.Test.YtadkaplafaeebaaGreatDoorPkTC
import Derived.Test.YtadkaplafaeebaaGreatDoorPkM
import Derived.Test.YtadkaplafaeebaaGreatDoorPkTA
set_option linter.unusedVariables false
set_option linter.unusedSimpArgs false
namespace Go.Proofs.YtadkaplafaeebaaGreatDoor
open Go Go.RowKit

/-- A row of solids that a slice points to: what its block holds. -/
theorem rowS_pos {W : World} {b : Nat} {p : Option Addr} {cap n : Nat} {l : List Sol} (h : W.ownsRow b 24 8 (.slice p n cap) n (flatS l)) (hl : 0 < n) :
    ∃ g, p = some ⟨g, 0, none⟩ ∧ g < W.heap.size ∧ ∀ k f, l[k]? = some f → ∀ j, j < 8 → W.cell? ⟨g, k * 8 + j, none⟩ = some (.int .u64 (f j : Nat)) := by
  rcases h.2 with ⟨e1, e2⟩ | ⟨g, cap', cur, e1, _, e3, _⟩
  · omega
  · injection e1 with e4
    refine ⟨g, e4, (Array.getElem?_eq_some_iff.1 e3).1, fun k f hk j hj => ?_⟩
    have h1 := h.cells (g := g) (by rw [e4]; rfl) (8 * k + j) _ (flatS_get l k j f hk hj)
    rw [addr_add, Nat.mul_comm 8 k] at h1
    exact h1
set_option maxRecDepth 100000 in
set_option maxHeartbeats 4000000 in
theorem sameSolids_ok (l m : List Sol) (va vb : Value) (b1 b2 : Nat) (w : World) (h1 : w.ownsRow b1 24 8 va l.length (flatS l)) (h2 : w.ownsRow b2 24 8 vb m.length (flatS m)) (hlm : l.length = m.length)
    (he : ∀ (i : Nat) (f g : Sol), l[i]? = some f → m[i]? = some g → eqS f g = true) (hl : l.length ≤ 20000) :
    Calls Tryz.prog 61 #[va, vb] w fun e w' => e = .returned (.bool true) ∧ Below w.heap.size w w' := by
  rw [← hlm] at h2
  have HLM := Lib.hid hlm
  clear hlm
  obtain ⟨p1, c1, rfl⟩ := own_len h1
  obtain ⟨p2, c2, rfl⟩ := own_len h2
  have hn : ((l.length : Int) != (l.length : Int)) = false := by simp
  go_enter Tryz.func61, Tryz.ntmps61
  go_wp2
  go_loopw [5] (fun c wr => ∃ i : Nat, i ≤ l.length ∧ c = .int .i64 i ∧ Below w.heap.size w wr) (fun c _ => l.length - (intOf c).toNat)
  case atStart => exact ⟨0, by omega, rfl, Below.refl _ _⟩
  case round =>
    obtain ⟨i, hi, rfl, hB⟩ := hrel
    by_cases hlt : i < l.length
    · have hd : decide ((i : Int) < (l.length : Int)) = true := decide_eq_true (by omega)
      have hlb : (i : Int) < (l.length : Int) := by omega
      have hci : l[i]? = some l[i] := List.getElem?_eq_getElem hlt
      have hdi : m[i]? = some (m[i]'(by have := HLM.out; omega)) := List.getElem?_eq_getElem (by have := HLM.out; omega)
      obtain ⟨f, hf⟩ : ∃ f, f = l[i] := ⟨_, rfl⟩
      obtain ⟨g, hg⟩ : ∃ g, g = m[i]'(by have := HLM.out; omega) := ⟨_, rfl⟩
      rw [← hf] at hci
      rw [← hg] at hdi
      have hfg := he i f g hci hdi
      obtain ⟨g1, rfl, hg1, k1⟩ := rowS_pos h1 (by omega)
      obtain ⟨g2, rfl, hg2, k2⟩ := rowS_pos h2 (by omega)
      have x := fun j hj => (hB.cell (p := ⟨g1, i * 8 + j, none⟩) hg1).trans (k1 i f hci j hj)
      have y := fun j hj => (hB.cell (p := ⟨g2, i * 8 + j, none⟩) hg2).trans (k2 i g hdi j hj)
      have x0 := x 0 (by omega); have x1 := x 1 (by omega); have x2 := x 2 (by omega); have x3 := x 3 (by omega); have x4 := x 4 (by omega); have x5 := x 5 (by omega); have x6 := x 6 (by omega); have x7 := x 7 (by omega)
      have y0 := y 0 (by omega); have y1 := y 1 (by omega); have y2 := y 2 (by omega); have y3 := y 3 (by omega); have y4 := y 4 (by omega); have y5 := y 5 (by omega); have y6 := y 6 (by omega); have y7 := y 7 (by omega)
      rw [Nat.add_zero] at x0 y0
      have s0 := hB.size
      clear hf hg hci hdi k1 k2 x y
      go_wp2_with fail
      obtain ⟨W, hW⟩ : ∃ W, W = wr := ⟨_, rfl⟩
      subst hW
      have lg1 : g1 < W.heap.size := by omega
      have lg2 : g2 < W.heap.size := by omega
      (refine wp_region_quiet (C := fun w' => Below W.heap.size W w') (by kernel_rfl) (by kernel_rfl) (Below.drew (Below.refl _ _)) ?_; (iterate 9 (refine wpQuiet_step (fun K hK => ?_); go_simp; first | (refine hK _ ?_; clear hK K) | (apply Exists.intro; refine ⟨fun W' hW' => ?_, hK _ ?_⟩; (focus (first | (with_reducible exact rfl) | (with_reducible exact ⟨rfl, rfl⟩) | (obtain ⟨hcq, hfq⟩ := bcell hW'; have hzq := hW'.size; (try go_simp); first | (with_reducible exact rfl) | (with_reducible exact ⟨rfl, rfl⟩) | (fail)))); clear hK K))); refine wpQuiet_nil ?_; intro w1q hb1q)
      have hB1 : Below w.heap.size w w1q := up hb1q hB
      go_wp2_with fail
      case roundEnd => exact ⟨⟨i + 1, by omega, by simp, hB1⟩, by simp [intOf]; omega⟩
    · obtain rfl : i = l.length := by omega
      have hd : decide ((l.length : Int) < (l.length : Int)) = false := decide_eq_false (by omega)
      go_wp2
      go_ret
      exact ⟨rfl, hB⟩
end Go.Proofs.YtadkaplafaeebaaGreatDoor
/-
  The reference's Compare.
-/
set_option linter.unusedVariables false
set_option linter.unusedSimpArgs false
namespace Go.Proofs.YtadkaplafaeebaaGreatDoor
open Go Go.RowKit

theorem cmpFrom_lt {f g : Sol} {n i : Nat} (hn : 0 < n) (h : f i < g i) : cmpFrom f g n i = -1 := by
  obtain ⟨m, rfl⟩ : ∃ m, n = m + 1 := ⟨n - 1, by omega⟩
  have : cmpN (f i) (g i) = -1 := by unfold cmpN; rw [if_pos h]
  unfold cmpFrom
  rw [this]
  rfl
theorem cmpFrom_gt {f g : Sol} {n i : Nat} (hn : 0 < n) (h : g i < f i) : cmpFrom f g n i = 1 := by
  obtain ⟨m, rfl⟩ : ∃ m, n = m + 1 := ⟨n - 1, by omega⟩
  have : cmpN (f i) (g i) = 1 := by unfold cmpN; rw [if_neg (by omega), if_pos h]
  unfold cmpFrom
  rw [this]
  rfl
theorem cmpFrom_at {f g : Sol} {n i : Nat} (h1 : ¬ f i < g i) (h2 : ¬ g i < f i) : cmpFrom f g (n + 1) i = cmpFrom f g n (i + 1) := by
  have : cmpN (f i) (g i) = 0 := by unfold cmpN; rw [if_neg h1, if_neg h2]
  rw [cmpFrom, this]
  rfl
set_option maxRecDepth 100000 in
set_option maxHeartbeats 4000000 in
theorem rcompare_ok (f g : Sol) (w : World) :
    Calls Tryz.prog 87 #[sol f, sol g] w fun e w' => e = .returned (.int .i64 (cmpS f g)) ∧ Below w.heap.size w w' := by
  have A0 : BoxS ((w.alloc (.cells (solC f) 24)).alloc (.cells (solC g) 24)) w.heap.size f := (BoxS.new _ _).alloc _
  have B0 : BoxS ((w.alloc (.cells (solC f) 24)).alloc (.cells (solC g) 24)) (w.heap.size + 1) g := BoxS.new' (by simp)
  have hB0 : Below w.heap.size w ((w.alloc (.cells (solC f) 24)).alloc (.cells (solC g) 24)) := by repeat' (first | (with_reducible exact Below.refl _ _) | (with_reducible assumption) | (with_reducible refine Below.alloc ?_ ?_ _) | (with_reducible refine Below.drew ?_) | (with_reducible refine below_drewN ?_ _) | (with_reducible refine Below.setCell ?_ ?_ _) | go_size)
  have HS : Hid (cmpS f g = cmpFrom f g (8 - 0) 0) := Lib.hid rfl
  generalize cmpS f g = r at *
  go_enter Tryz.func87, Tryz.ntmps87
  go_wp2_with fail
  go_loopw [5] (fun c wr => ∃ i : Nat, i ≤ 8 ∧ c = .int .i64 i ∧ r = cmpFrom f g (8 - i) i ∧ BoxS wr w.heap.size f ∧ BoxS wr (w.heap.size + 1) g ∧ Below w.heap.size w wr) (fun c _ => 8 - (intOf c).toNat)
  case atStart => exact ⟨0, by omega, rfl, HS.out, A0, B0, hB0⟩
  case round =>
    clear A0 B0 hB0 HS
    obtain ⟨i, hi, rfl, hr, A, B, hB⟩ := hrel
    have HR := Lib.hid hr
    clear hr
    by_cases hlt : i < 8
    · have hd : decide ((i : Int) < 8) = true := decide_eq_true (by omega)
      have hib : (i : Int) < 8 := by omega
      have a1 := A.cell hlt
      have b1 := B.cell hlt
      have lA : w.heap.size < wr.heap.size := A.lt
      have lB : w.heap.size + 1 < wr.heap.size := B.lt
      by_cases h1 : f i < g i
      · have k1 : decide (f i < g i) = true := decide_eq_true h1
        go_wp2_with fail
        (refine wp_region_quiet (C := fun w' => Below wr.heap.size wr w') (by kernel_rfl) (by kernel_rfl) (Below.drew (Below.refl _ _)) ?_; (iterate 7 (refine wpQuiet_step (fun K hK => ?_); go_simp; first | (refine hK _ ?_; clear hK K) | (apply Exists.intro; refine ⟨fun W' hW' => ?_, hK _ ?_⟩; (focus (first | (with_reducible exact rfl) | (with_reducible exact ⟨rfl, rfl⟩) | (obtain ⟨hcq, hfq⟩ := bcell hW'; have hzq := hW'.size; (try go_simp); first | (with_reducible exact rfl) | (with_reducible exact ⟨rfl, rfl⟩) | (fail)))); clear hK K))); refine wpQuiet_nil ?_; intro w1q hb1q)
        go_wp2_with fail
        go_ret
        exact ⟨retI (by rw [HR.out, cmpFrom_lt (by omega) h1]), up hb1q hB⟩
      · have k1 : decide (f i < g i) = false := decide_eq_false h1
        go_wp2_with fail
        (refine wp_region_quiet (C := fun w' => Below wr.heap.size wr w') (by kernel_rfl) (by kernel_rfl) (Below.drew (Below.refl _ _)) ?_; (iterate 7 (refine wpQuiet_step (fun K hK => ?_); go_simp; first | (refine hK _ ?_; clear hK K) | (apply Exists.intro; refine ⟨fun W' hW' => ?_, hK _ ?_⟩; (focus (first | (with_reducible exact rfl) | (with_reducible exact ⟨rfl, rfl⟩) | (obtain ⟨hcq, hfq⟩ := bcell hW'; have hzq := hW'.size; (try go_simp); first | (with_reducible exact rfl) | (with_reducible exact ⟨rfl, rfl⟩) | (fail)))); clear hK K))); refine wpQuiet_nil ?_; intro w1q hb1q)
        obtain ⟨Y, hY⟩ : ∃ Y, Y = w1q := ⟨_, rfl⟩
        subst hY
        have A2 := A.below hb1q lA
        have B2 := B.below hb1q lB
        have hB2 : Below w.heap.size w Y := up hb1q hB
        clear a1 b1 A B hB hb1q lA lB
        have a1 := A2.cell hlt
        have b1 := B2.cell hlt
        have lA : w.heap.size < Y.heap.size := A2.lt
        have lB : w.heap.size + 1 < Y.heap.size := B2.lt
        by_cases h2 : g i < f i
        · have k2 : decide (g i < f i) = true := decide_eq_true h2
          go_wp2_with fail
          (refine wp_region_quiet (C := fun w' => Below Y.heap.size Y w') (by kernel_rfl) (by kernel_rfl) (Below.drew (Below.refl _ _)) ?_; (iterate 7 (refine wpQuiet_step (fun K hK => ?_); go_simp; first | (refine hK _ ?_; clear hK K) | (apply Exists.intro; refine ⟨fun W' hW' => ?_, hK _ ?_⟩; (focus (first | (with_reducible exact rfl) | (with_reducible exact ⟨rfl, rfl⟩) | (obtain ⟨hcq, hfq⟩ := bcell hW'; have hzq := hW'.size; (try go_simp); first | (with_reducible exact rfl) | (with_reducible exact ⟨rfl, rfl⟩) | (fail)))); clear hK K))); refine wpQuiet_nil ?_; intro w1q hb1q)
          go_wp2_with fail
          go_ret
          exact ⟨retI (by rw [HR.out, cmpFrom_gt (by omega) h2]), up hb1q hB2⟩
        · have k2 : decide (g i < f i) = false := decide_eq_false h2
          go_wp2_with fail
          (refine wp_region_quiet (C := fun w' => Below Y.heap.size Y w') (by kernel_rfl) (by kernel_rfl) (Below.drew (Below.refl _ _)) ?_; (iterate 7 (refine wpQuiet_step (fun K hK => ?_); go_simp; first | (refine hK _ ?_; clear hK K) | (apply Exists.intro; refine ⟨fun W' hW' => ?_, hK _ ?_⟩; (focus (first | (with_reducible exact rfl) | (with_reducible exact ⟨rfl, rfl⟩) | (obtain ⟨hcq, hfq⟩ := bcell hW'; have hzq := hW'.size; (try go_simp); first | (with_reducible exact rfl) | (with_reducible exact ⟨rfl, rfl⟩) | (fail)))); clear hK K))); refine wpQuiet_nil ?_; intro w1q hb1q)
          go_wp2_with fail
          go_roundw
          case rel => exact ⟨i + 1, by omega, by go_num, by rw [HR.out, show 8 - i = (8 - (i + 1)) + 1 by omega, cmpFrom_at h1 h2], A2.below hb1q lA, B2.below hb1q lB, up hb1q hB2⟩
          case measure => simp [intOf]; omega
    · obtain rfl : i = 8 := by omega
      have hd : decide (((8 : Nat) : Int) < 8) = false := by decide
      go_wp2_with fail
      go_ret
      exact ⟨retI (by rw [HR.out]; rfl), hB⟩
end Go.Proofs.YtadkaplafaeebaaGreatDoor
/-
  The reference's cornered.
-/
set_option linter.unusedVariables false
set_option linter.unusedSimpArgs false
namespace Go.Proofs.YtadkaplafaeebaaGreatDoor
open Go Go.RowKit

theorem corn_empty {f : Sol} (hf : Fit f) (he : emptyS f = true) : eqS f (cornF f) = true :=
  has_ext hf (cornF_fit hf) fun p => by rw [has_corn hf, (empty_has hf).1 he, (empty_has hf).1 he]
theorem rmoved_corn (f : Sol) (hf : Fit f) (he : emptyS f = false) (W : World) :
    Calls Tryz.prog 45 #[sol f, .int .i64 (-(lowX f : Int)), .int .i64 (-(lowY f : Int)), .int .i64 (-(lowZ f : Int))] W (RetB (.tuple #[sol (cornF f), .int .i64 0]) W) := by
  have hL := len_pos hf he
  have ho := corn_out f hf
  have hall := (all_in hf he (-(lowX f : Int), -(lowY f : Int), -(lowZ f : Int))).1 ho
  obtain ⟨x0, y0, z0⟩ := low_le7 f hf
  refine (rMoved_loop f _ _ _ W hf (decide_eq_true (by omega)) (decide_eq_true (by omega)) (decide_eq_true (by omega)) hL).mono fun e w' ⟨h, hb⟩ => ?_
  rcases h with ⟨h, _⟩ | ⟨_, c, hc, hn⟩
  · refine ⟨?_, hb⟩
    rw [h, sol_congr (eqS_at (eqS_symm (mov_eq hf ho hall)))]
    rfl
  · rw [hall c hc] at hn
    cases hn
set_option maxRecDepth 100000 in
set_option maxHeartbeats 4000000 in
theorem rcorn_yes (f : Sol) (w : World) (hf : Fit f) (he : emptyS f = false) :
    Calls Tryz.prog 121 #[sol f] w fun e w' => e = .returned (sol (cornF f)) ∧ Below w.heap.size w w' := by
  have HB := Lib.hid (fun (W : World) => rbounds_yes f W hf he)
  have HM := Lib.hid (rmoved_corn f hf he)
  obtain ⟨x0, y0, z0⟩ := low_le7 f hf
  have A0 : BoxS ((w.alloc (.cells (solC f) 24)).alloc (.cells (solC fun _ => 0) 24)) w.heap.size f := (BoxS.new _ _).alloc _
  have R0 : BoxS ((w.alloc (.cells (solC f) 24)).alloc (.cells (solC fun _ => 0) 24)) (w.heap.size + 1) (fun _ => 0) := BoxS.zero (by simp)
  have hB0 : Below w.heap.size w ((w.alloc (.cells (solC f) 24)).alloc (.cells (solC fun _ => 0) 24)) := by repeat' (first | (with_reducible exact Below.refl _ _) | (with_reducible assumption) | (with_reducible refine Below.alloc ?_ ?_ _) | (with_reducible refine Below.drew ?_) | (with_reducible refine below_drewN ?_ _) | (with_reducible refine Below.setCell ?_ ?_ _) | go_size)
  clear hf he
  go_enter Tryz.func121, Tryz.ntmps121
  go_wp2_with fail
  refine (HB.out _).mono ?_
  rintro e w1 ⟨rfl, b1⟩
  have A1 := A0.below b1 A0.lt
  have R1 := R0.below b1 R0.lt
  have hB1 : Below w.heap.size w w1 := up b1 hB0
  clear A0 R0 hB0 b1
  have lA : w.heap.size < w1.heap.size := A1.lt
  have lR : w.heap.size + 1 < w1.heap.size := R1.lt
  have a0 := (A1).cell (k := 0) (by omega); have a1 := (A1).cell (k := 1) (by omega); have a2 := (A1).cell (k := 2) (by omega); have a3 := (A1).cell (k := 3) (by omega); have a4 := (A1).cell (k := 4) (by omega); have a5 := (A1).cell (k := 5) (by omega); have a6 := (A1).cell (k := 6) (by omega); have a7 := (A1).cell (k := 7) (by omega)
  go_wp2_with fail
  refine (HM.out _).mono ?_
  rintro e w2 ⟨rfl, b2⟩
  have b2' : Below w1.heap.size w1 w2 := ((Below.refl _ w1).alloc (Nat.le_refl _) _).trans (b2.mono (by simp))
  have R2 := R1.below b2' lR
  have hB2 : Below w.heap.size w w2 := up b2' hB1
  have lR2 : w.heap.size + 1 < w2.heap.size := R2.lt
  clear A1 R1 hB1 b2 a0 a1 a2 a3 a4 a5 a6 a7
  obtain ⟨cf, hcf⟩ : ∃ cf, cf = cornF f := ⟨_, rfl⟩
  have HCF := Lib.hid hcf
  rw [← hcf]
  clear hcf
  have O2 : BoxS (w2.alloc (.cells (solC cf) 24)) w2.heap.size cf := BoxS.new _ _
  clear HM HB
  iterate 22 first | go_values | go_skip | go_guarded | go_step | go_upon | go_back | (simp only [Int.not_lt, Int.not_le] at *; go_simp) | go_simp
  have R3 := R2.alloc (.cells (solC cf) 24)
  have hB3 := hB2.alloc hB2.size (.cells (solC cf) 24)
  obtain ⟨N, hN⟩ : ∃ N, N = w2.heap.size := ⟨_, rfl⟩
  obtain ⟨Y, hY⟩ : ∃ Y, Y = w2.alloc (.cells (solC cf) 24) := ⟨_, rfl⟩
  rw [← hY] at R3 O2 hB3 ⊢
  rw [← hN] at O2 ⊢
  have lNR : w.heap.size + 1 < N := by rw [hN]; exact lR2
  clear hY hN R2 hB2 lR2
  have lR : w.heap.size + 1 < Y.heap.size := R3.lt
  have lO : N < Y.heap.size := O2.lt
  have r0 := (R3).cell (k := 0) (by omega); have r1 := (R3).cell (k := 1) (by omega); have r2 := (R3).cell (k := 2) (by omega); have r3 := (R3).cell (k := 3) (by omega); have r4 := (R3).cell (k := 4) (by omega); have r5 := (R3).cell (k := 5) (by omega); have r6 := (R3).cell (k := 6) (by omega); have r7 := (R3).cell (k := 7) (by omega)
  have q0 := (R3).free 0; have q1 := (R3).free 1; have q2 := (R3).free 2; have q3 := (R3).free 3; have q4 := (R3).free 4; have q5 := (R3).free 5; have q6 := (R3).free 6; have q7 := (R3).free 7
  have o0 := (O2).cell (k := 0) (by omega); have o1 := (O2).cell (k := 1) (by omega); have o2 := (O2).cell (k := 2) (by omega); have o3 := (O2).cell (k := 3) (by omega); have o4 := (O2).cell (k := 4) (by omega); have o5 := (O2).cell (k := 5) (by omega); have o6 := (O2).cell (k := 6) (by omega); have o7 := (O2).cell (k := 7) (by omega)
  go_wp2_with fail
  refine bodyPost_ret (res_s (R3.put cf) Tryz.results121 rfl) rfl ⟨by rw [HCF.out], ?_⟩
  exact below_put8 hB3 (show w.heap.size ≤ w.heap.size + 1 by omega) cf
set_option maxRecDepth 100000 in
set_option maxHeartbeats 4000000 in
theorem rcorn_no (f : Sol) (w : World) (hf : Fit f) (he : emptyS f = true) :
    Calls Tryz.prog 121 #[sol f] w fun e w' => e = .returned (sol (cornF f)) ∧ Below w.heap.size w w' := by
  have HB := Lib.hid (fun (W : World) => rbounds_no f W hf (by rw [cells_of_empty hf he]; rfl))
  have HCF := Lib.hid (sol_congr (eqS_at (corn_empty hf he)))
  have A0 : BoxS ((w.alloc (.cells (solC f) 24)).alloc (.cells (solC fun _ => 0) 24)) w.heap.size f := (BoxS.new _ _).alloc _
  have R0 : BoxS ((w.alloc (.cells (solC f) 24)).alloc (.cells (solC fun _ => 0) 24)) (w.heap.size + 1) (fun _ => 0) := BoxS.zero (by simp)
  have hB0 : Below w.heap.size w ((w.alloc (.cells (solC f) 24)).alloc (.cells (solC fun _ => 0) 24)) := by repeat' (first | (with_reducible exact Below.refl _ _) | (with_reducible assumption) | (with_reducible refine Below.alloc ?_ ?_ _) | (with_reducible refine Below.drew ?_) | (with_reducible refine below_drewN ?_ _) | (with_reducible refine Below.setCell ?_ ?_ _) | go_size)
  clear hf he
  go_enter Tryz.func121, Tryz.ntmps121
  go_wp2_with fail
  refine (HB.out _).mono ?_
  rintro e w1 ⟨rfl, b1⟩
  have A1 := (A0.below b1 A0.lt).alloc (.cells #[.int .i64 (0), .int .i64 (0), .int .i64 (0), .int .i64 (0), .int .i64 (0), .int .i64 (0)] 40)
  have R1 := (R0.below b1 R0.lt).alloc (.cells #[.int .i64 (0), .int .i64 (0), .int .i64 (0), .int .i64 (0), .int .i64 (0), .int .i64 (0)] 40)
  have hB1q : Below w.heap.size w w1 := up b1 hB0
  have hB1 := hB1q.alloc hB1q.size (.cells #[.int .i64 (0), .int .i64 (0), .int .i64 (0), .int .i64 (0), .int .i64 (0), .int .i64 (0)] 40)
  clear A0 R0 hB0 b1 hB1q HB
  go_upto_region 2 with fail
  obtain ⟨Y, hY⟩ : ∃ Y, Y = w1.alloc (.cells #[.int .i64 (0), .int .i64 (0), .int .i64 (0), .int .i64 (0), .int .i64 (0), .int .i64 (0)] 40) := ⟨_, rfl⟩
  rw [← hY] at A1 R1 hB1 ⊢
  clear hY
  have lA : w.heap.size < Y.heap.size := A1.lt
  have lR : w.heap.size + 1 < Y.heap.size := R1.lt
  have r0 := (R1).cell (k := 0) (by omega); have r1 := (R1).cell (k := 1) (by omega); have r2 := (R1).cell (k := 2) (by omega); have r3 := (R1).cell (k := 3) (by omega); have r4 := (R1).cell (k := 4) (by omega); have r5 := (R1).cell (k := 5) (by omega); have r6 := (R1).cell (k := 6) (by omega); have r7 := (R1).cell (k := 7) (by omega)
  have q0 := (R1).free 0; have q1 := (R1).free 1; have q2 := (R1).free 2; have q3 := (R1).free 3; have q4 := (R1).free 4; have q5 := (R1).free 5; have q6 := (R1).free 6; have q7 := (R1).free 7
  have a0 := (A1).cell (k := 0) (by omega); have a1 := (A1).cell (k := 1) (by omega); have a2 := (A1).cell (k := 2) (by omega); have a3 := (A1).cell (k := 3) (by omega); have a4 := (A1).cell (k := 4) (by omega); have a5 := (A1).cell (k := 5) (by omega); have a6 := (A1).cell (k := 6) (by omega); have a7 := (A1).cell (k := 7) (by omega)
  go_wp2_with fail
  refine bodyPost_ret (res_s (R1.put f) Tryz.results121 rfl) rfl ⟨by rw [← HCF.out], ?_⟩
  exact below_put8 hB1 (show w.heap.size ≤ w.heap.size + 1 by omega) f
theorem rcorn_ok (f : Sol) (w : World) (hf : Fit f) :
    Calls Tryz.prog 121 #[sol f] w fun e w' => e = .returned (sol (cornF f)) ∧ Below w.heap.size w w' := by
  cases he : emptyS f with
  | true => exact rcorn_no f w hf he
  | false => exact rcorn_yes f w hf he
end Go.Proofs.YtadkaplafaeebaaGreatDoor
/-
  The reference's Symmetries.
-/
set_option linter.unusedVariables false
set_option linter.unusedSimpArgs false
namespace Go.Proofs.YtadkaplafaeebaaGreatDoor
open Go Go.RowKit Go.Shelf

set_option maxRecDepth 100000 in
set_option maxHeartbeats 4000000 in
theorem rsym_ok (f : Sol) (w : World) (hf : Fit f) :
    Calls Tryz.prog 68 #[sol f] w fun e w' => ∃ v, e = .returned v ∧ OwnInts w w' v (symN f 24) ∧ Below w.heap.size w w' := by
  obtain ⟨i0, hi, hz0, hz1, hz2⟩ := info_parts info_int
  have HF := Lib.hid hf
  have CF := Lib.hid (fun (t : Nat) (ht : t < 24) (W : World) => rTurned_yes f t W HF.out ht)
  have CG := Lib.hid (fun (t : Nat) (W : World) => rcorn_ok (turnedF f t) W (turnedF_fit f t))
  have CH := Lib.hid (fun (W : World) => rcorn_ok f W HF.out)
  have bS0 : BoxS (w.alloc (.cells (solC f) 24)) w.heap.size f := BoxS.new _ _
  have hB0 : Below w.heap.size w (w.alloc (.cells (solC f) 24)) := by repeat' (first | (with_reducible exact Below.refl _ _) | (with_reducible assumption) | (with_reducible refine Below.alloc ?_ ?_ _) | (with_reducible refine Below.drew ?_) | (with_reducible refine below_drewN ?_ _) | (with_reducible refine Below.setCell ?_ ?_ _) | go_size)
  clear hf
  go_enter Tryz.func68, Tryz.ntmps68
  go_wp2_with fail
  go_loopw [3, 4] (fun lv c wr => ∃ t : Nat, t ≤ 24 ∧ c = .int .i64 t ∧ BoxS wr w.heap.size f ∧ wr.ownsRow (w.heap.size + 1) 3 1 lv (symN f t).length (intL (symN f t)) ∧ (lv = .slice none 0 0 ↔ symN f t = []) ∧ Below w.heap.size w wr ∧ w.heap.size + 1 ≤ wr.heap.size) (fun _ c _ => 24 - (intOf c).toNat)
  case atStart => exact ⟨0, by omega, rfl, bS0, World.ownsRow_nil _ _ _ _, by simp [symN], hB0, by simp⟩
  case round =>
    clear bS0 hB0
    obtain ⟨t, ht, rfl, bS, hrow, hnil, hB, hsz⟩ := hrel
    have kS := bS.lt
    have hlen := symN_len f t
    by_cases hlt : t < 24
    · have hd : decide ((t : Int) < 24) = true := decide_eq_true (by omega)
      have c0 := (bS).cell (k := 0) (by omega); have c1 := (bS).cell (k := 1) (by omega); have c2 := (bS).cell (k := 2) (by omega); have c3 := (bS).cell (k := 3) (by omega); have c4 := (bS).cell (k := 4) (by omega); have c5 := (bS).cell (k := 5) (by omega); have c6 := (bS).cell (k := 6) (by omega); have c7 := (bS).cell (k := 7) (by omega)
      have HS := Lib.hid (symN_succ f t)
      go_wp2_with fail
      refine (CF.out t hlt _).mono ?_
      rintro e w2 ⟨rfl, b2⟩
      have bS1 := (bS.below b2 kS).alloc (.cells (solC (turnedF f t)) 24)
      have bP1 : BoxS (w2.alloc (.cells (solC (turnedF f t)) 24)) w2.heap.size (turnedF f t) := BoxS.new _ _
      have hrow1 := (row_below hrow b2).alloc (.cells (solC (turnedF f t)) 24)
      have hB1q : Below w.heap.size w w2 := up b2 hB
      have hB1 := hB1q.alloc hB1q.size (.cells (solC (turnedF f t)) 24)
      clear c0 c1 c2 c3 c4 c5 c6 c7 hB1q
      go_upto_region 6 with fail
      obtain ⟨N, hN⟩ : ∃ N, N = w2.heap.size := ⟨_, rfl⟩
      obtain ⟨W, hW⟩ : ∃ W, W = w2.alloc (.cells (solC (turnedF f t)) 24) := ⟨_, rfl⟩
      rw [← hW] at bS1 bP1 hrow1 hB1 ⊢
      rw [← hN] at bP1 ⊢
      clear hW hN bS hrow hB b2
      have kS : w.heap.size < W.heap.size := bS1.lt
      have kP : N < W.heap.size := bP1.lt
      have c0 := (bS1).cell (k := 0) (by omega); have c1 := (bS1).cell (k := 1) (by omega); have c2 := (bS1).cell (k := 2) (by omega); have c3 := (bS1).cell (k := 3) (by omega); have c4 := (bS1).cell (k := 4) (by omega); have c5 := (bS1).cell (k := 5) (by omega); have c6 := (bS1).cell (k := 6) (by omega); have c7 := (bS1).cell (k := 7) (by omega)
      have p0 := (bP1).cell (k := 0) (by omega); have p1 := (bP1).cell (k := 1) (by omega); have p2 := (bP1).cell (k := 2) (by omega); have p3 := (bP1).cell (k := 3) (by omega); have p4 := (bP1).cell (k := 4) (by omega); have p5 := (bP1).cell (k := 5) (by omega); have p6 := (bP1).cell (k := 6) (by omega); have p7 := (bP1).cell (k := 7) (by omega)
      (refine wp_region_quiet (C := fun w' => Below W.heap.size W w') (by kernel_rfl) (by kernel_rfl) (Below.drew (Below.refl _ _)) ?_; (iterate 5 (refine wpQuiet_step (fun K hK => ?_); go_simp; first | (refine hK _ ?_; clear hK K) | (apply Exists.intro; refine ⟨fun W' hW' => ?_, hK _ ?_⟩; (focus (first | (with_reducible exact rfl) | (with_reducible exact ⟨rfl, rfl⟩) | (obtain ⟨hcq, hfq⟩ := bcell hW'; have hzq := hW'.size; (try go_simp); first | (with_reducible exact rfl) | (with_reducible exact ⟨rfl, rfl⟩) | (first | ((with_reducible refine Calls.mono (CG.out t _) ?_); rintro e w9 ⟨rfl, hb9⟩; exact ⟨rfl, hW'.trans (hb9.mono hW'.size)⟩) | ((with_reducible refine Calls.mono (CH.out _) ?_); rintro e w9 ⟨rfl, hb9⟩; exact ⟨rfl, hW'.trans (hb9.mono hW'.size)⟩))))); clear hK K))); refine wpQuiet_nil ?_; intro w1q hb1q)
      have hs1 := hb1q.size
      have bS2 := bS1.below hb1q kS
      have hrow2 := row_below hrow1 hb1q
      have hB2 : Below w.heap.size w w1q := up hb1q hB1
      clear c0 c1 c2 c3 c4 c5 c6 c7 p0 p1 p2 p3 p4 p5 p6 p7
      have hs0 := hB2.size
      cases hq : eqS (cornF (turnedF f t)) (cornF f)
      · have hP : symP f t = false := hq
        have HSN := Lib.hid (show symN f (t + 1) = symN f t by rw [HS.out, hP]; simp)
        go_wp2_with fail
        go_roundw
        case rel => exact ⟨t + 1, by omega, by go_num, bS2, by rw [HSN.out]; exact hrow2, by rw [HSN.out]; exact hnil, hB2, by omega⟩
        case measure => simp [intOf]; omega
      · have hP : symP f t = true := hq
        have HSN := Lib.hid (show symN f (t + 1) = symN f t ++ [t] by rw [HS.out, hP]; simp)
        go_wp2_with (at_builtin; refine wpList_append_own _ rfl _ _ 64 rfl (w.heap.size + 1) 3 i0 (.int .i64 0) 1 8 under_ints hi hz0 hz1 hz2 rfl (by decide) u3 _ _ rfl (hrow2.alloc _) ⟨w1q.heap.size, 0, none⟩ 1 1 [.int .i64 (t : Int)] rfl rfl (cell_one_new _ _ _) (by simp [Value.oneCell']) (by simp only [maxLen]; omega) (by omega) (by simp; omega) ?_; intro v' w4 hown' hgrow _; obtain ⟨g', cap', rfl⟩ := ownsRow_succ hown')
        have hb5 : Below (w.heap.size + 1) w1q w4 := ((Below.refl (w.heap.size + 1) w1q).alloc (by omega) _).grown hgrow (by simp; omega) fun j ej => (hrow2.lt j ej).1
        have hs5 := hb5.size
        exact ⟨⟨t + 1, by omega, by go_num, bS2.below hb5 (by omega), by rw [HSN.out]; simpa [intL] using hown', by rw [HSN.out]; simp, hB2.trans (hb5.mono (by omega)), by omega⟩, by simp [intOf]; omega⟩
    · obtain rfl : t = 24 := by omega
      have hd : decide ((24 : Int) < 24) = false := by decide
      go_wp2
      go_ret
      exact ⟨u3, rfl, ⟨row_base hrow (by omega), hnil⟩, hB⟩
end Go.Proofs.YtadkaplafaeebaaGreatDoor
/-
  The reference's Put.
-/
set_option linter.unusedVariables false
set_option linter.unusedSimpArgs false
namespace Go.Proofs.YtadkaplafaeebaaGreatDoor
open Go Go.RowKit Go.Shelf

theorem flatS_len (l : List Sol) : (flatS l).length = l.length * 8 := by
  induction l with
  | nil => rfl
  | cons f l ih => rw [show flatS (f :: l) = solL f ++ flatS l by simp [flatS], List.length_append, ih, solL_len, List.length_cons]; omega
theorem flatS_app (l m : List Sol) : flatS (l ++ m) = flatS l ++ flatS m := by simp [flatS]
theorem flatS_take (l : List Sol) (k : Nat) : (flatS l).take (k * 8) = flatS (l.take k) := by
  by_cases h : k ≤ l.length
  · conv => lhs; rw [← List.take_append_drop k l, flatS_app]
    rw [List.take_left' (by rw [flatS_len, List.length_take, Nat.min_eq_left h])]
  · rw [List.take_of_length_le (by rw [flatS_len]; omega), List.take_of_length_le (by omega)]
theorem flatS_drop (l : List Sol) (k : Nat) : (flatS l).drop (k * 8) = flatS (l.drop k) := by
  by_cases h : k ≤ l.length
  · conv => lhs; rw [← List.take_append_drop k l, flatS_app]
    rw [List.drop_left' (by rw [flatS_len, List.length_take, Nat.min_eq_left h])]
  · rw [List.drop_of_length_le (by rw [flatS_len]; omega), List.drop_of_length_le (by omega)]
    rfl
theorem flatS_one (l : List Sol) : ∀ u ∈ flatS l, u.oneCell' = true := fun u hu => by
  obtain ⟨f, _, h⟩ := List.mem_flatMap.1 hu
  exact solL_one f u h
/-- What is appended: nothing, or some elements that lie somewhere. -/
def SrcS (W : World) (size : Nat) (x : Value) (m : Nat) (news : List Value) : Prop :=
  news.length = m * size ∧ (∀ u ∈ news, u.oneCell' = true) ∧ ((x = .slice none 0 0 ∧ m = 0) ∨ ∃ ad c, x = .slice (some ad) m c ∧ ∀ j u, news[j]? = some u → W.cell? (ad.add j) = some u)
section
variable {P : Program} {w : World}
theorem run_append_srcS (base : Nat) (t ty e : TypeId) (i : TypeInfo) (z : Value) (size bytes : Nat) (ht : P.underlying t = some (.slice e)) (hi : P.info? e = some i) (hz : i.zero = some z)
    (hsize : i.size = size) (hby : i.bytes = bytes) (hzs : z.cells.size = size) (hsz : 0 < size)
    (v : Value) (n : Nat) (xs : List Value) (hown : w.ownsRow base e size v n xs) (x : Value) (m : Nat) (news : List Value) (hx : SrcS w size x m news)
    (h63 : n + m ≤ maxLen) (hbytes : (n + m) * bytes ≤ 140737488355328) (hbase : base ≤ w.heap.size) :
    ∃ v' w', (Builtin.append_ #[t, t] ty #[v, x]).run P w = .ok v' w' ∧ w'.ownsRow base e size v' (n + m) (xs ++ news) ∧ w.grownBy w' v.ownBlock ∧
      (v' = .slice none 0 0 ↔ v = .slice none 0 0 ∧ m = 0) ∧ (v'.ownBlock = v.ownBlock ∨ v'.ownBlock = some w.heap.size) := by
  obtain ⟨hl, h1, h⟩ := hx
  rcases h with ⟨rfl, rfl⟩ | ⟨ad, c, rfl, hn⟩
  · have hne : news = [] := List.eq_nil_of_length_eq_zero (by simpa using hl)
    subst hne
    refine ⟨v, w, run_append_owned_none w base t ty e i size ht hi v n xs hown, by simpa using hown, ⟨rfl, rfl, rfl, Nat.le_refl _, fun _ _ _ => rfl⟩, by simp, .inl rfl⟩
  · exact run_append_own_at w base t ty e i z size bytes ht hi hz hsize hby hzs hsz v n xs hown ad m c news hl hn h1 h63 hbytes hbase
theorem wpList_append_srcS {ops : Array Oper} {rest : List Oper} {o : Oper} {a : Act} {Q : Exit → Act → World → Prop} (hgd : o.guard = none) (s x : Operand) (t : TypeId)
    (ho : o.op = .call { callee := .builtin .append, args := #[s, x], argTypes := #[t, t] })
    (base : Nat) (e : TypeId) (i : TypeInfo) (z : Value) (size bytes : Nat) (ht : P.underlying t = some (.slice e)) (hi : P.info? e = some i) (hz : i.zero = some z)
    (hsize : i.size = size) (hby : i.bytes = bytes) (hzs : z.cells.size = size) (hsz : 0 < size)
    (v : Value) (n : Nat) (xs : List Value) (hs : a.eval s = v) (hown : w.ownsRow base e size v n xs)
    (vx : Value) (m : Nat) (news : List Value) (hvx : a.eval x = vx) (hx : SrcS w size vx m news)
    (h63 : n + m ≤ maxLen) (hbytes : (n + m) * bytes ≤ 140737488355328) (hbase : base ≤ w.heap.size)
    (h : ∀ v' w', w'.ownsRow base e size v' (n + m) (xs ++ news) → w.grownBy w' v.ownBlock → (v' = .slice none 0 0 ↔ v = .slice none 0 0 ∧ m = 0) → (v'.ownBlock = v.ownBlock ∨ v'.ownBlock = some w.heap.size) → wpList P ops Q rest (a.put o.dst v') w') :
    wpList P ops Q (o :: rest) a w := by
  refine wpList_plain hgd fun K hK => ?_
  obtain ⟨v', w', hr, h2, h3, h4, h5⟩ := run_append_srcS (P := P) (w := w) base t o.type e i z size bytes ht hi hz hsize hby hzs hsz v n xs hown vx m news hx h63 hbytes hbase
  unfold Oper.wp execOp
  simp only [ho, resolve, invoke, builtin, Sem.run_bind, Sem.run_pure, Result.andThen_ok, List.map_toArray, List.map_cons, List.map_nil, hs, hvx, hr]
  exact hK _ _ (h v' w' h2 h3 h4 h5)
end
theorem wrapN {k : Nat} (h : k ≤ 100000) : IntKind.i64.wrap (k : Int) = (k : Int) := IntWalk.i64_in _ (by omega)
/-- A list of solids that lies from a block on. -/
def OwnS (b : Nat) (W : World) (v : Value) (l : List Sol) : Prop := W.ownsRow b 24 8 v l.length (flatS l) ∧ (v = .slice none 0 0 ↔ l = [])
theorem ownS_app {b : Nat} {W : World} {v : Value} {l : List Sol} (h : W.ownsRow b 24 8 v l.length (flatS l)) (hn : 0 < l.length) : OwnS b W v l := by
  refine ⟨h, fun e => ?_, fun e => ?_⟩
  · rcases h.2 with ⟨_, h2⟩ | ⟨g, cap, cur, h2, _⟩
    · omega
    · rw [e] at h2; cases h2
  · rw [e] at hn; cases hn
theorem src_row {w W : World} {b g cap : Nat} {l : List Sol} (h : w.ownsRow b 24 8 (.slice (some ⟨g, 0, none⟩) l.length cap) l.length (flatS l)) (hb : ∀ j, W.cell? ⟨g, j, none⟩ = w.cell? ⟨g, j, none⟩) (P c : Nat) (hP : P ≤ l.length) :
    SrcS W 8 (.slice (some ⟨g, 0, none⟩) P c) P (flatS (l.take P)) ∧ SrcS W 8 (.slice (some ⟨g, P * 8, none⟩) (l.length - P) c) (l.length - P) (flatS (l.drop P)) := by
  have hc : ∀ j u, (flatS l)[j]? = some u → W.cell? ⟨g, j, none⟩ = some u := fun j u hu => by
    have := h.cells (g := g) rfl j u hu
    rw [addr_add] at this
    rw [hb, this]
  refine ⟨⟨by rw [flatS_len, List.length_take, Nat.min_eq_left hP], flatS_one _, .inr ⟨_, _, rfl, fun j u hu => ?_⟩⟩, ⟨by rw [flatS_len, List.length_drop], flatS_one _, .inr ⟨_, _, rfl, fun j u hu => ?_⟩⟩⟩
  · rw [addr_add]
    refine hc j u ?_
    rw [← flatS_take] at hu
    have hj : j < P * 8 := by
      refine Nat.lt_of_not_le fun hle => ?_
      rw [List.getElem?_take_eq_none hle] at hu
      cases hu
    rwa [List.getElem?_take, if_pos hj] at hu
  · rw [show (⟨g, P * 8, none⟩ : Addr).add j = ⟨g, P * 8 + j, none⟩ by unfold Addr.add; split <;> simp_all]
    refine hc _ u ?_
    rw [← flatS_drop, List.getElem?_drop] at hu
    exact hu
theorem src_one (W : World) (s : Sol) : SrcS (W.alloc (.cells (solC s) 24)) 8 (.slice (some ⟨W.heap.size, 0, none⟩) 1 1) 1 (solL s) := ⟨rfl, solL_one s, .inr ⟨_, _, rfl, solL_cells (BoxS.new' rfl)⟩⟩
set_option maxRecDepth 100000 in
set_option maxHeartbeats 8000000 in
theorem rput_pos (l : List Sol) (s : Sol) (g cap b : Nat) (w : World) (hl : l.length ≤ 20000) (hb : b ≤ w.heap.size) (h0 : 0 < l.length) (hrow : w.ownsRow b 24 8 (.slice (some ⟨g, 0, none⟩) l.length cap) l.length (flatS l)) :
    Calls Tryz.prog 119 #[.slice (some ⟨g, 0, none⟩) l.length cap, sol s] w fun e w' => ∃ v, e = .returned v ∧ OwnS b w' v (putS l s) ∧ Below w.heap.size w w' := by
  obtain ⟨i0, hi, hz0, hz1, hz2⟩ := info_parts info_sol
  have HC := Lib.hid (fun (k : Nat) (W : World) => rcompare_ok s (solAt l k) W)
  have S0 : BoxS (w.alloc (.cells (solC s) 24)) w.heap.size s := BoxS.new _ _
  have hB0 : Below w.heap.size w (w.alloc (.cells (solC s) 24)) := by repeat' (first | (with_reducible exact Below.refl _ _) | (with_reducible assumption) | (with_reducible refine Below.alloc ?_ ?_ _) | (with_reducible refine Below.drew ?_) | (with_reducible refine below_drewN ?_ _) | (with_reducible refine Below.setCell ?_ ?_ _) | go_size)
  obtain ⟨g', e0, hg, hcs⟩ := rowS_pos hrow h0
  obtain rfl : g = g' := by injection e0 with e0; injection e0
  have HCS := Lib.hid hcs
  have HROW := Lib.hid hrow
  have hcap : l.length ≤ cap := by
    rcases hrow.2 with ⟨h1, _⟩ | ⟨g', cap', cur, h1, _, _, h4, _⟩
    · cases h1
    · injection h1 with _ _ e
      omega
  clear hcs hrow e0
  go_enter Tryz.func119, Tryz.ntmps119
  go_wp2_with fail
  go_loopw [5] (fun c wr => ∃ p : Nat, p ≤ l.length ∧ c = .int .i64 p ∧ posF l s p = posF l s l.length ∧ BoxS wr w.heap.size s ∧ Below w.heap.size w wr) (fun c _ => (intOf c).toNat)
  case atStart => exact ⟨l.length, Nat.le_refl _, rfl, rfl, S0, hB0⟩
  case round =>
    clear S0 hB0
    obtain ⟨p, hp, rfl, hpos, S, hB⟩ := hrel
    have HP := Lib.hid hpos
    clear hpos
    have lS := S.lt
    have hs0 := hB.size
    have lg : g < wr.heap.size := by omega
    rcases p with _ | k
    · go_wp2_with fail
      obtain ⟨W, hW⟩ : ∃ W, W = wr := ⟨_, rfl⟩
      subst hW
      refine wp_region_quiet (C := fun w' => Below W.heap.size W w') (by kernel_rfl) (by kernel_rfl) (Below.drew (Below.refl _ _)) ?_
      iterate 2 (refine wpQuiet_step (fun K hK => ?_); go_simp; first | (refine hK _ ?_; clear hK K) | (apply Exists.intro; refine ⟨fun W' hW' => ?_, hK _ ?_⟩; (focus (first | (with_reducible exact rfl) | (with_reducible exact ⟨rfl, rfl⟩) | (obtain ⟨hcq, hfq⟩ := bcell hW'; have hzq := hW'.size; (try go_simp); first | (with_reducible exact rfl) | (with_reducible exact ⟨rfl, rfl⟩) | (fail)))); clear hK K))
      refine wpQuiet_step (fun K hK => ?_)
      go_simp
      first | (generalize hA : (Act.mk _ _ : Act) = A; refine hK A ?_; clear hK K) | (refine ⟨.bool false, fun W' hW' => rfl, ?_⟩; generalize hA : (Act.mk _ _ : Act) = A; refine hK A ?_; clear hK K)
      have hAt : A.tmps[11]? = some (.bool false) := by rw [← hA]; rfl
      refine wpQuiet_off 8 2 true 11 (by kernel_rfl) (by kernel_rfl) hAt ?_
      clear hAt
      subst hA
      simp only [putU, List.take_succ_cons, List.take_zero, List.foldl_cons, List.foldl_nil, Act.put, List.setIfInBounds_toArray, List.set_cons_succ, List.set_cons_zero, List.drop_succ_cons, List.drop_zero]
      iterate 1 (refine wpQuiet_step (fun K hK => ?_); go_simp; first | (refine hK _ ?_; clear hK K) | (apply Exists.intro; refine ⟨fun W' hW' => ?_, hK _ ?_⟩; (focus (first | (with_reducible exact rfl) | (with_reducible exact ⟨rfl, rfl⟩) | (obtain ⟨hcq, hfq⟩ := bcell hW'; have hzq := hW'.size; (try go_simp); first | (with_reducible exact rfl) | (with_reducible exact ⟨rfl, rfl⟩) | (fail)))); clear hK K))
      refine wpQuiet_nil ?_
      intro w1q hb1q
      have S1 := S.below hb1q lS
      have hB1 := up hb1q hB
      have lg1 : g < w1q.heap.size := Nat.lt_of_lt_of_le lg hb1q.size
      have HP0 := HP.out
      clear S hB lS hs0 lg hb1q
      go_wp2_with fail
      obtain ⟨X, hX⟩ : ∃ X, X = w1q := ⟨_, rfl⟩
      subst hX
      refine wp_region_quiet (C := fun w' => Below X.heap.size X w') (by kernel_rfl) (by kernel_rfl) (Below.drew (Below.refl _ _)) ?_
      iterate 2 (refine wpQuiet_step (fun K hK => ?_); go_simp; first | (refine hK _ ?_; clear hK K) | (apply Exists.intro; refine ⟨fun W' hW' => ?_, hK _ ?_⟩; (focus (first | (with_reducible exact rfl) | (with_reducible exact ⟨rfl, rfl⟩) | (obtain ⟨hcq, hfq⟩ := bcell hW'; have hzq := hW'.size; (try go_simp); first | (with_reducible exact rfl) | (with_reducible exact ⟨rfl, rfl⟩) | (fail)))); clear hK K))
      refine wpQuiet_step (fun K hK => ?_)
      go_simp
      first | (generalize hA : (Act.mk _ _ : Act) = A; refine hK A ?_; clear hK K) | (refine ⟨.bool false, fun W' hW' => rfl, ?_⟩; generalize hA : (Act.mk _ _ : Act) = A; refine hK A ?_; clear hK K)
      have hAt : A.tmps[25]? = some (.bool false) := by rw [← hA]; rfl
      refine wpQuiet_off 7 2 true 25 (by kernel_rfl) (by kernel_rfl) hAt ?_
      clear hAt
      subst hA
      simp only [putU, List.take_succ_cons, List.take_zero, List.foldl_cons, List.foldl_nil, Act.put, List.setIfInBounds_toArray, List.set_cons_succ, List.set_cons_zero, List.drop_succ_cons, List.drop_zero]
      iterate 1 (refine wpQuiet_step (fun K hK => ?_); go_simp; first | (refine hK _ ?_; clear hK K) | (apply Exists.intro; refine ⟨fun W' hW' => ?_, hK _ ?_⟩; (focus (first | (with_reducible exact rfl) | (with_reducible exact ⟨rfl, rfl⟩) | (obtain ⟨hcq, hfq⟩ := bcell hW'; have hzq := hW'.size; (try go_simp); first | (with_reducible exact rfl) | (with_reducible exact ⟨rfl, rfl⟩) | (fail)))); clear hK K))
      refine wpQuiet_nil ?_
      intro w1q hb1q
      have S2 := S1.below hb1q S1.lt
      have hB2 := up hb1q hB1
      have lg2 : g < w1q.heap.size := Nat.lt_of_lt_of_le lg1 hb1q.size
      clear S1 hB1 lg1 hb1q
      have HPO := Lib.hid (show posF l s l.length = 0 by rw [← HP0]; rfl)
      have HNB : Hid (¬ isB l s (posF l s l.length) = true) := Lib.hid (by rw [HPO.out]; unfold isB; simp)
      clear HCS HC
      have HPP := Lib.hid (show putS l s = l.take 0 ++ [s] ++ l.drop 0 by unfold putS; rw [if_neg HNB.out, HPO.out])
      have hPl : 0 ≤ l.length := Nat.zero_le _
      have s2 : w.heap.size + 1 ≤ w1q.heap.size := S2.lt
      have R0 := World.ownsRow_lit (base := w.heap.size + 1) (e := 24) (size := 8) w1q #[] 0 s2 (by simp [maxLen]) rfl
      have hCa : Below (w.heap.size + 1) w1q (w1q.alloc (.cells #[] 24)) := (Below.refl _ _).alloc s2 _
      have hBa : Below w.heap.size w (w1q.alloc (.cells #[] 24)) := hB2.trans (hCa.mono (by omega))
      have Q0 := (src_row HROW.out (fun j => hBa.cell (p := ⟨g, j, none⟩) hg) 0 cap hPl).1
      go_upto_region 7 with (at_builtin; refine wpList_append_srcS rfl _ _ 58 rfl (w.heap.size + 1) 24 i0 (sol fun _ => 0) 8 64 under_sols hi hz0 hz1 hz2 rfl (by decide) _ 0 [] rfl R0 _ 0 (flatS (l.take 0)) rfl Q0 (by simp only [maxLen]; omega) (by omega) (by simp; omega) ?_; intro v1 wa1 ho1 hg1 _ _)
      have hCb := hCa.grown hg1 (by simp; omega) fun j ej => (R0.lt j ej).1
      have hBb : Below w.heap.size w wa1 := hB2.trans (hCb.mono (by omega))
      have sb := hCb.size
      have S3 := S2.below hCb (by omega)
      have s0 := (S3).cell (k := 0) (by omega); have s1 := (S3).cell (k := 1) (by omega); have s2 := (S3).cell (k := 2) (by omega); have s3 := (S3).cell (k := 3) (by omega); have s4 := (S3).cell (k := 4) (by omega); have s5 := (S3).cell (k := 5) (by omega); have s6 := (S3).cell (k := 6) (by omega); have s7 := (S3).cell (k := 7) (by omega)
      go_upto_region 8 with (at_builtin; refine wpList_append_srcS rfl _ _ 58 rfl (w.heap.size + 1) 24 i0 (sol fun _ => 0) 8 64 under_sols hi hz0 hz1 hz2 rfl (by decide) v1 (0 + 0) ([] ++ flatS (l.take 0)) rfl (ho1.alloc _) _ 1 (solL s) rfl (src_one wa1 s) (by simp only [maxLen]; omega) (by omega) (by simp; omega) ?_; intro v2 wa2 ho2 hg2 _ _)
      have hCc := (hCb.alloc (by omega) (.cells (solC s) 24)).grown hg2 (by simp; omega) fun j ej => (ho1.lt j ej).1
      have hBc : Below w.heap.size w wa2 := hB2.trans (hCc.mono (by omega))
      have sc := hCc.size
      clear s0 s1 s3 s4 s5 s6 s7 S3 hCb hBb hBa hCa Q0 R0 S2
      have hpc : ¬ cap = 0 := by omega
      have Q1 := fun c => (src_row HROW.out (fun j => hBc.cell (p := ⟨g, j, none⟩) hg) 0 c hPl).2
      go_wp2_with (at_builtin; refine wpList_append_srcS rfl _ _ 58 rfl (w.heap.size + 1) 24 i0 (sol fun _ => 0) 8 64 under_sols hi hz0 hz1 hz2 rfl (by decide) v2 (0 + 0 + 1) ([] ++ flatS (l.take 0) ++ solL s) rfl ho2 _ (l.length - 0) (flatS (l.drop 0)) rfl (Q1 _) (by simp only [maxLen]; omega) (by omega) (by omega) ?_; intro v3 wa3 ho3 hg3 _ _)
      have hCd := hCc.grown hg3 (by omega) fun j ej => (ho2.lt j ej).1
      have hBd : Below w.heap.size w wa3 := hB2.trans (hCd.mono (by omega))
      go_ret
      have e1 : (putS l s).length = 0 + 0 + 1 + (l.length - 0) := by rw [HPP.out]; simp only [List.length_append, List.length_take, List.length_drop, List.length_cons, List.length_nil, Nat.min_eq_left hPl] <;> omega
      have e2 : flatS (putS l s) = [] ++ flatS (l.take 0) ++ solL s ++ flatS (l.drop 0) := by rw [HPP.out, flatS_app, flatS_app]; simp [flatS]
      refine ⟨v3, rfl, ownS_app ?_ (by omega), hBd⟩
      rw [e1, e2]
      exact row_base ho3 (by omega)
    · have hkb : (k : Int) < (l.length : Int) := by omega
      have hw := wrapN (k := k) (by omega)
      have hci : l[k]? = some (solAt l k) := by rw [solAt_get (by omega)]; exact List.getElem?_eq_getElem (by omega)
      have x := fun j hj => (hB.cell (p := ⟨g, k * 8 + j, none⟩) hg).trans (HCS.out k _ hci j hj)
      have x0 := x 0 (by omega); have x1 := x 1 (by omega); have x2 := x 2 (by omega); have x3 := x 3 (by omega); have x4 := x 4 (by omega); have x5 := x 5 (by omega); have x6 := x 6 (by omega); have x7 := x 7 (by omega)
      rw [Nat.add_zero] at x0
      have HCI := Lib.hid hci
      clear x hci
      have s0 := (S).cell (k := 0) (by omega); have s1 := (S).cell (k := 1) (by omega); have s2 := (S).cell (k := 2) (by omega); have s3 := (S).cell (k := 3) (by omega); have s4 := (S).cell (k := 4) (by omega); have s5 := (S).cell (k := 5) (by omega); have s6 := (S).cell (k := 6) (by omega); have s7 := (S).cell (k := 7) (by omega)
      have HK := Lib.hid (fun W => HC.out k W)
      have HPU := Lib.hid (show posF l s (k + 1) = if cmpS s (solAt l k) < 0 then posF l s k else k + 1 from rfl)
      generalize cmpS s (solAt l k) = r at *
      by_cases hr : r < 0
      · have hd : decide (r < 0) = true := decide_eq_true hr
        go_wp2_with fail
        obtain ⟨W, hW⟩ : ∃ W, W = wr := ⟨_, rfl⟩
        subst hW
        (refine wp_region_quiet (C := fun w' => Below W.heap.size W w') (by kernel_rfl) (by kernel_rfl) (Below.drew (Below.refl _ _)) ?_; (iterate 12 (refine wpQuiet_step (fun K hK => ?_); go_simp; first | (refine hK _ ?_; clear hK K) | (apply Exists.intro; refine ⟨fun W' hW' => ?_, hK _ ?_⟩; (focus (first | (with_reducible exact rfl) | (with_reducible exact ⟨rfl, rfl⟩) | (obtain ⟨hcq, hfq⟩ := bcell hW'; have hzq := hW'.size; (try go_simp); first | (with_reducible exact rfl) | (with_reducible exact ⟨rfl, rfl⟩) | (first | ((with_reducible refine Calls.mono (HK.out _) ?_); rintro e w9 ⟨rfl, hb9⟩; exact ⟨rfl, hW'.trans (hb9.mono hW'.size)⟩))))); clear hK K))); refine wpQuiet_nil ?_; intro w1q hb1q)
        go_wp2_with fail
        go_roundw
        case rel => exact ⟨k, by omega, by go_num, by rw [← HP.out, HPU.out, if_pos hr], S.below hb1q lS, up hb1q hB⟩
        case measure => simp [intOf]
      · have hd : decide (r < 0) = false := decide_eq_false hr
        go_wp2_with fail
        obtain ⟨W, hW⟩ : ∃ W, W = wr := ⟨_, rfl⟩
        subst hW
        (refine wp_region_quiet (C := fun w' => Below W.heap.size W w') (by kernel_rfl) (by kernel_rfl) (Below.drew (Below.refl _ _)) ?_; (iterate 12 (refine wpQuiet_step (fun K hK => ?_); go_simp; first | (refine hK _ ?_; clear hK K) | (apply Exists.intro; refine ⟨fun W' hW' => ?_, hK _ ?_⟩; (focus (first | (with_reducible exact rfl) | (with_reducible exact ⟨rfl, rfl⟩) | (obtain ⟨hcq, hfq⟩ := bcell hW'; have hzq := hW'.size; (try go_simp); first | (with_reducible exact rfl) | (with_reducible exact ⟨rfl, rfl⟩) | (first | ((with_reducible refine Calls.mono (HK.out _) ?_); rintro e w9 ⟨rfl, hb9⟩; exact ⟨rfl, hW'.trans (hb9.mono hW'.size)⟩))))); clear hK K))); refine wpQuiet_nil ?_; intro w1q hb1q)
        have S1 := S.below hb1q lS
        have hB1 := up hb1q hB
        have lg1 : g < w1q.heap.size := Nat.lt_of_lt_of_le lg hb1q.size
        have y := fun j hj => (hB1.cell (p := ⟨g, k * 8 + j, none⟩) hg).trans (HCS.out k _ HCI.out j hj)
        have y0 := y 0 (by omega); have y1 := y 1 (by omega); have y2 := y 2 (by omega); have y3 := y 3 (by omega); have y4 := y 4 (by omega); have y5 := y 5 (by omega); have y6 := y 6 (by omega); have y7 := y 7 (by omega)
        rw [Nat.add_zero] at y0
        clear y S hB lS hs0 lg hb1q x0 x1 x2 x3 x4 x5 x6 x7 s0 s1 s2 s3 s4 s5 s6 s7
        have lS := S1.lt
        have s0 := (S1).cell (k := 0) (by omega); have s1 := (S1).cell (k := 1) (by omega); have s2 := (S1).cell (k := 2) (by omega); have s3 := (S1).cell (k := 3) (by omega); have s4 := (S1).cell (k := 4) (by omega); have s5 := (S1).cell (k := 5) (by omega); have s6 := (S1).cell (k := 6) (by omega); have s7 := (S1).cell (k := 7) (by omega)
        cases hq : eqS (solAt l k) s
        · go_wp2_with fail
          obtain ⟨X, hX⟩ : ∃ X, X = w1q := ⟨_, rfl⟩
          subst hX
          (refine wp_region_quiet (C := fun w' => Below X.heap.size X w') (by kernel_rfl) (by kernel_rfl) (Below.drew (Below.refl _ _)) ?_; (iterate 11 (refine wpQuiet_step (fun K hK => ?_); go_simp; first | (refine hK _ ?_; clear hK K) | (apply Exists.intro; refine ⟨fun W' hW' => ?_, hK _ ?_⟩; (focus (first | (with_reducible exact rfl) | (with_reducible exact ⟨rfl, rfl⟩) | (obtain ⟨hcq, hfq⟩ := bcell hW'; have hzq := hW'.size; (try go_simp); first | (with_reducible exact rfl) | (with_reducible exact ⟨rfl, rfl⟩) | (fail)))); clear hK K))); refine wpQuiet_nil ?_; intro w1q hb1q)
          have S2 := S1.below hb1q S1.lt
          have hB2 := up hb1q hB1
          have lg2 : g < w1q.heap.size := Nat.lt_of_lt_of_le lg1 hb1q.size
          clear S1 hB1 lg1 hb1q y0 y1 y2 y3 y4 y5 y6 y7 s0 s1 s2 s3 s4 s5 s6 s7 lS
          have HPO := Lib.hid (show posF l s l.length = k + 1 by rw [← HP.out, HPU.out, if_neg (by omega)])
          have HNB : Hid (¬ isB l s (posF l s l.length) = true) := Lib.hid (by rw [HPO.out]; unfold isB; rw [show k + 1 - 1 = k from rfl, hq]; simp)
          clear HCS HC
          have HPP := Lib.hid (show putS l s = l.take (k + 1) ++ [s] ++ l.drop (k + 1) by unfold putS; rw [if_neg HNB.out, HPO.out])
          have hPl : (k + 1) ≤ l.length := hp
          have hk1 : (k : Int) + 1 ≤ (cap : Int) := by omega
          have hk2 : (k : Int) + 1 ≤ (l.length : Int) := by omega
          have s2 : w.heap.size + 1 ≤ w1q.heap.size := S2.lt
          have R0 := World.ownsRow_lit (base := w.heap.size + 1) (e := 24) (size := 8) w1q #[] 0 s2 (by simp [maxLen]) rfl
          have hCa : Below (w.heap.size + 1) w1q (w1q.alloc (.cells #[] 24)) := (Below.refl _ _).alloc s2 _
          have hBa : Below w.heap.size w (w1q.alloc (.cells #[] 24)) := hB2.trans (hCa.mono (by omega))
          have Q0 := (src_row HROW.out (fun j => hBa.cell (p := ⟨g, j, none⟩) hg) (k + 1) cap hPl).1
          go_upto_region 7 with (at_builtin; refine wpList_append_srcS rfl _ _ 58 rfl (w.heap.size + 1) 24 i0 (sol fun _ => 0) 8 64 under_sols hi hz0 hz1 hz2 rfl (by decide) _ 0 [] rfl R0 _ (k + 1) (flatS (l.take (k + 1))) rfl Q0 (by simp only [maxLen]; omega) (by omega) (by simp; omega) ?_; intro v1 wa1 ho1 hg1 _ _)
          have hCb := hCa.grown hg1 (by simp; omega) fun j ej => (R0.lt j ej).1
          have hBb : Below w.heap.size w wa1 := hB2.trans (hCb.mono (by omega))
          have sb := hCb.size
          have S3 := S2.below hCb (by omega)
          have s0 := (S3).cell (k := 0) (by omega); have s1 := (S3).cell (k := 1) (by omega); have s2 := (S3).cell (k := 2) (by omega); have s3 := (S3).cell (k := 3) (by omega); have s4 := (S3).cell (k := 4) (by omega); have s5 := (S3).cell (k := 5) (by omega); have s6 := (S3).cell (k := 6) (by omega); have s7 := (S3).cell (k := 7) (by omega)
          go_upto_region 8 with (at_builtin; refine wpList_append_srcS rfl _ _ 58 rfl (w.heap.size + 1) 24 i0 (sol fun _ => 0) 8 64 under_sols hi hz0 hz1 hz2 rfl (by decide) v1 (0 + (k + 1)) ([] ++ flatS (l.take (k + 1))) rfl (ho1.alloc _) _ 1 (solL s) rfl (src_one wa1 s) (by simp only [maxLen]; omega) (by omega) (by simp; omega) ?_; intro v2 wa2 ho2 hg2 _ _)
          have hCc := (hCb.alloc (by omega) (.cells (solC s) 24)).grown hg2 (by simp; omega) fun j ej => (ho1.lt j ej).1
          have hBc : Below w.heap.size w wa2 := hB2.trans (hCc.mono (by omega))
          have sc := hCc.size
          clear s0 s1 s3 s4 s5 s6 s7 S3 hCb hBb hBa hCa Q0 R0 S2
          by_cases hpc : cap = (k + 1)
          · have Q1 : ∀ c, SrcS wa2 8 (.slice (some ⟨g, 0, none⟩) (l.length - (k + 1)) c) (l.length - (k + 1)) (flatS (l.drop (k + 1))) := fun c => by
              have e : l.length - (k + 1) = 0 := by omega
              rw [e, List.drop_of_length_le (by omega)]
              exact ⟨rfl, by simp [flatS], .inr ⟨_, _, rfl, by simp [flatS]⟩⟩
            go_wp2_with (at_builtin; refine wpList_append_srcS rfl _ _ 58 rfl (w.heap.size + 1) 24 i0 (sol fun _ => 0) 8 64 under_sols hi hz0 hz1 hz2 rfl (by decide) v2 (0 + (k + 1) + 1) ([] ++ flatS (l.take (k + 1)) ++ solL s) rfl ho2 _ (l.length - (k + 1)) (flatS (l.drop (k + 1))) rfl (Q1 _) (by simp only [maxLen]; omega) (by omega) (by omega) ?_; intro v3 wa3 ho3 hg3 _ _)
            have hCd := hCc.grown hg3 (by omega) fun j ej => (ho2.lt j ej).1
            have hBd : Below w.heap.size w wa3 := hB2.trans (hCd.mono (by omega))
            go_ret
            have e1 : (putS l s).length = 0 + (k + 1) + 1 + (l.length - (k + 1)) := by rw [HPP.out]; simp only [List.length_append, List.length_take, List.length_drop, List.length_cons, List.length_nil, Nat.min_eq_left hPl] <;> omega
            have e2 : flatS (putS l s) = [] ++ flatS (l.take (k + 1)) ++ solL s ++ flatS (l.drop (k + 1)) := by rw [HPP.out, flatS_app, flatS_app]; simp [flatS]
            refine ⟨v3, rfl, ownS_app ?_ (by omega), hBd⟩
            rw [e1, e2]
            exact row_base ho3 (by omega)
          · have Q1 := fun c => (src_row HROW.out (fun j => hBc.cell (p := ⟨g, j, none⟩) hg) (k + 1) c hPl).2
            go_wp2_with (at_builtin; refine wpList_append_srcS rfl _ _ 58 rfl (w.heap.size + 1) 24 i0 (sol fun _ => 0) 8 64 under_sols hi hz0 hz1 hz2 rfl (by decide) v2 (0 + (k + 1) + 1) ([] ++ flatS (l.take (k + 1)) ++ solL s) rfl ho2 _ (l.length - (k + 1)) (flatS (l.drop (k + 1))) rfl (Q1 _) (by simp only [maxLen]; omega) (by omega) (by omega) ?_; intro v3 wa3 ho3 hg3 _ _)
            have hCd := hCc.grown hg3 (by omega) fun j ej => (ho2.lt j ej).1
            have hBd : Below w.heap.size w wa3 := hB2.trans (hCd.mono (by omega))
            go_ret
            have e1 : (putS l s).length = 0 + (k + 1) + 1 + (l.length - (k + 1)) := by rw [HPP.out]; simp only [List.length_append, List.length_take, List.length_drop, List.length_cons, List.length_nil, Nat.min_eq_left hPl] <;> omega
            have e2 : flatS (putS l s) = [] ++ flatS (l.take (k + 1)) ++ solL s ++ flatS (l.drop (k + 1)) := by rw [HPP.out, flatS_app, flatS_app]; simp [flatS]
            refine ⟨v3, rfl, ownS_app ?_ (by omega), hBd⟩
            rw [e1, e2]
            exact row_base ho3 (by omega)
        · go_wp2_with fail
          obtain ⟨X, hX⟩ : ∃ X, X = w1q := ⟨_, rfl⟩
          subst hX
          (refine wp_region_quiet (C := fun w' => Below X.heap.size X w') (by kernel_rfl) (by kernel_rfl) (Below.drew (Below.refl _ _)) ?_; (iterate 11 (refine wpQuiet_step (fun K hK => ?_); go_simp; first | (refine hK _ ?_; clear hK K) | (apply Exists.intro; refine ⟨fun W' hW' => ?_, hK _ ?_⟩; (focus (first | (with_reducible exact rfl) | (with_reducible exact ⟨rfl, rfl⟩) | (obtain ⟨hcq, hfq⟩ := bcell hW'; have hzq := hW'.size; (try go_simp); first | (with_reducible exact rfl) | (with_reducible exact ⟨rfl, rfl⟩) | (fail)))); clear hK K))); refine wpQuiet_nil ?_; intro w1q hb1q)
          have hB2 := up hb1q hB1
          have HPO := Lib.hid (show posF l s l.length = k + 1 by rw [← HP.out, HPU.out, if_neg (by omega)])
          have HPP := Lib.hid (show putS l s = l by unfold putS; rw [if_pos (by rw [HPO.out]; unfold isB; rw [show k + 1 - 1 = k from rfl, hq]; simp)])
          go_wp2_with fail
          go_ret
          refine ⟨_, rfl, ?_, hB2⟩
          rw [HPP.out]
          refine ownS_app ?_ h0
          refine ⟨HROW.out.1, ?_⟩
          rcases HROW.out.2 with h4 | ⟨g', cap', cur, e1, e2, e3, e4⟩
          · exact .inl h4
          · exact .inr ⟨g', cap', cur, e1, e2, (hB2.block _ (by injection e1 with e1; injection e1 with e1; injection e1 with e1; omega)).trans e3, e4⟩
set_option maxRecDepth 100000 in
set_option maxHeartbeats 8000000 in
theorem rput_nil (s : Sol) (b : Nat) (w : World) (hb : b ≤ w.heap.size) :
    Calls Tryz.prog 119 #[.slice none 0 0, sol s] w fun e w' => ∃ v, e = .returned v ∧ OwnS b w' v (putS [] s) ∧ Below w.heap.size w w' := by
  obtain ⟨i0, hi, hz0, hz1, hz2⟩ := info_parts info_sol
  have S0 : BoxS (w.alloc (.cells (solC s) 24)) w.heap.size s := BoxS.new _ _
  have hB0 : Below w.heap.size w (w.alloc (.cells (solC s) 24)) := by repeat' (first | (with_reducible exact Below.refl _ _) | (with_reducible assumption) | (with_reducible refine Below.alloc ?_ ?_ _) | (with_reducible refine Below.drew ?_) | (with_reducible refine below_drewN ?_ _) | (with_reducible refine Below.setCell ?_ ?_ _) | go_size)
  go_enter Tryz.func119, Tryz.ntmps119
  go_wp2_with fail
  go_loopw [5] (fun c wr => c = .int .i64 0 ∧ BoxS wr w.heap.size s ∧ Below w.heap.size w wr) (fun c _ => (intOf c).toNat)
  case atStart => exact ⟨rfl, S0, hB0⟩
  case round =>
    clear S0 hB0
    obtain ⟨rfl, S, hB⟩ := hrel
    go_wp2_with fail
    obtain ⟨W, hW⟩ : ∃ W, W = wr := ⟨_, rfl⟩
    subst hW
    refine wp_region_quiet (C := fun w' => Below W.heap.size W w') (by kernel_rfl) (by kernel_rfl) (Below.drew (Below.refl _ _)) ?_
    iterate 2 (refine wpQuiet_step (fun K hK => ?_); go_simp; first | (refine hK _ ?_; clear hK K) | (apply Exists.intro; refine ⟨fun W' hW' => ?_, hK _ ?_⟩; (focus (first | (with_reducible exact rfl) | (with_reducible exact ⟨rfl, rfl⟩) | (obtain ⟨hcq, hfq⟩ := bcell hW'; have hzq := hW'.size; (try go_simp); first | (with_reducible exact rfl) | (with_reducible exact ⟨rfl, rfl⟩) | (fail)))); clear hK K))
    refine wpQuiet_step (fun K hK => ?_)
    go_simp
    first | (generalize hA : (Act.mk _ _ : Act) = A; refine hK A ?_; clear hK K) | (refine ⟨.bool false, fun W' hW' => rfl, ?_⟩; generalize hA : (Act.mk _ _ : Act) = A; refine hK A ?_; clear hK K)
    have hAt : A.tmps[11]? = some (.bool false) := by rw [← hA]; rfl
    refine wpQuiet_off 8 2 true 11 (by kernel_rfl) (by kernel_rfl) hAt ?_
    clear hAt
    subst hA
    simp only [putU, List.take_succ_cons, List.take_zero, List.foldl_cons, List.foldl_nil, Act.put, List.setIfInBounds_toArray, List.set_cons_succ, List.set_cons_zero, List.drop_succ_cons, List.drop_zero]
    iterate 1 (refine wpQuiet_step (fun K hK => ?_); go_simp; first | (refine hK _ ?_; clear hK K) | (apply Exists.intro; refine ⟨fun W' hW' => ?_, hK _ ?_⟩; (focus (first | (with_reducible exact rfl) | (with_reducible exact ⟨rfl, rfl⟩) | (obtain ⟨hcq, hfq⟩ := bcell hW'; have hzq := hW'.size; (try go_simp); first | (with_reducible exact rfl) | (with_reducible exact ⟨rfl, rfl⟩) | (fail)))); clear hK K))
    refine wpQuiet_nil ?_
    intro w1q hb1q
    have S1 := S.below hb1q S.lt
    have hB1 := up hb1q hB
    clear S hB hb1q
    go_wp2_with fail
    obtain ⟨X, hX⟩ : ∃ X, X = w1q := ⟨_, rfl⟩
    subst hX
    refine wp_region_quiet (C := fun w' => Below X.heap.size X w') (by kernel_rfl) (by kernel_rfl) (Below.drew (Below.refl _ _)) ?_
    iterate 2 (refine wpQuiet_step (fun K hK => ?_); go_simp; first | (refine hK _ ?_; clear hK K) | (apply Exists.intro; refine ⟨fun W' hW' => ?_, hK _ ?_⟩; (focus (first | (with_reducible exact rfl) | (with_reducible exact ⟨rfl, rfl⟩) | (obtain ⟨hcq, hfq⟩ := bcell hW'; have hzq := hW'.size; (try go_simp); first | (with_reducible exact rfl) | (with_reducible exact ⟨rfl, rfl⟩) | (fail)))); clear hK K))
    refine wpQuiet_step (fun K hK => ?_)
    go_simp
    first | (generalize hA : (Act.mk _ _ : Act) = A; refine hK A ?_; clear hK K) | (refine ⟨.bool false, fun W' hW' => rfl, ?_⟩; generalize hA : (Act.mk _ _ : Act) = A; refine hK A ?_; clear hK K)
    have hAt : A.tmps[25]? = some (.bool false) := by rw [← hA]; rfl
    refine wpQuiet_off 7 2 true 25 (by kernel_rfl) (by kernel_rfl) hAt ?_
    clear hAt
    subst hA
    simp only [putU, List.take_succ_cons, List.take_zero, List.foldl_cons, List.foldl_nil, Act.put, List.setIfInBounds_toArray, List.set_cons_succ, List.set_cons_zero, List.drop_succ_cons, List.drop_zero]
    iterate 1 (refine wpQuiet_step (fun K hK => ?_); go_simp; first | (refine hK _ ?_; clear hK K) | (apply Exists.intro; refine ⟨fun W' hW' => ?_, hK _ ?_⟩; (focus (first | (with_reducible exact rfl) | (with_reducible exact ⟨rfl, rfl⟩) | (obtain ⟨hcq, hfq⟩ := bcell hW'; have hzq := hW'.size; (try go_simp); first | (with_reducible exact rfl) | (with_reducible exact ⟨rfl, rfl⟩) | (fail)))); clear hK K))
    refine wpQuiet_nil ?_
    intro w1q hb1q
    have S2 := S1.below hb1q S1.lt
    have hB2 := up hb1q hB1
    clear S1 hB1 hb1q
    have s2 : w.heap.size + 1 ≤ w1q.heap.size := S2.lt
    have R0 := World.ownsRow_lit (base := w.heap.size + 1) (e := 24) (size := 8) w1q #[] 0 s2 (by simp [maxLen]) rfl
    have hCa : Below (w.heap.size + 1) w1q (w1q.alloc (.cells #[] 24)) := (Below.refl _ _).alloc s2 _
    have Q0 : ∀ W : World, SrcS W 8 (.slice none 0 0) 0 [] := fun W => ⟨rfl, by simp, .inl ⟨rfl, rfl⟩⟩
    go_upto_region 7 with (at_builtin; refine wpList_append_srcS rfl _ _ 58 rfl (w.heap.size + 1) 24 i0 (sol fun _ => 0) 8 64 under_sols hi hz0 hz1 hz2 rfl (by decide) _ 0 [] rfl R0 _ 0 [] rfl (Q0 _) (by simp only [maxLen]; omega) (by omega) (by simp; omega) ?_; intro v1 wa1 ho1 hg1 _ _)
    have hCb := hCa.grown hg1 (by simp; omega) fun j ej => (R0.lt j ej).1
    have sb := hCb.size
    have S3 := S2.below hCb (by omega)
    have s0 := (S3).cell (k := 0) (by omega); have s1 := (S3).cell (k := 1) (by omega); have s2 := (S3).cell (k := 2) (by omega); have s3 := (S3).cell (k := 3) (by omega); have s4 := (S3).cell (k := 4) (by omega); have s5 := (S3).cell (k := 5) (by omega); have s6 := (S3).cell (k := 6) (by omega); have s7 := (S3).cell (k := 7) (by omega)
    go_upto_region 8 with (at_builtin; refine wpList_append_srcS rfl _ _ 58 rfl (w.heap.size + 1) 24 i0 (sol fun _ => 0) 8 64 under_sols hi hz0 hz1 hz2 rfl (by decide) v1 0 [] rfl (ho1.alloc _) _ 1 (solL s) rfl (src_one wa1 s) (by simp only [maxLen]; omega) (by omega) (by simp; omega) ?_; intro v2 wa2 ho2 hg2 _ _)
    have hCc := (hCb.alloc (by omega) (.cells (solC s) 24)).grown hg2 (by simp; omega) fun j ej => (ho1.lt j ej).1
    have sc := hCc.size
    clear s0 s1 s3 s4 s5 s6 s7 S3 hCb hCa R0 S2
    go_wp2_with (at_builtin; refine wpList_append_srcS rfl _ _ 58 rfl (w.heap.size + 1) 24 i0 (sol fun _ => 0) 8 64 under_sols hi hz0 hz1 hz2 rfl (by decide) v2 (0 + 1) ([] ++ solL s) rfl ho2 _ 0 [] rfl (Q0 _) (by simp only [maxLen]; omega) (by omega) (by omega) ?_; intro v3 wa3 ho3 hg3 _ _)
    have hCd := hCc.grown hg3 (by omega) fun j ej => (ho2.lt j ej).1
    have hBd : Below w.heap.size w wa3 := hB2.trans (hCd.mono (by omega))
    go_ret
    have e1 : putS [] s = [s] := rfl
    refine ⟨v3, rfl, ownS_app ?_ (by rw [e1]; exact Nat.one_pos), hBd⟩
    rw [e1]
    exact row_base (by simpa [flatS] using ho3) (by omega)
theorem rput_ok (l : List Sol) (s : Sol) (v : Value) (b : Nat) (w : World) (hl : l.length ≤ 20000) (hb : b ≤ w.heap.size) (h : OwnS b w v l) :
    Calls Tryz.prog 119 #[v, sol s] w fun e w' => ∃ v, e = .returned v ∧ OwnS b w' v (putS l s) ∧ Below w.heap.size w w' := by
  by_cases h0 : l = []
  · subst h0
    obtain rfl := h.2.2 rfl
    exact rput_nil s b w hb
  · have hp : 0 < l.length := List.length_pos_iff.2 h0
    obtain ⟨p, cap, rfl⟩ := own_len h.1
    obtain ⟨g, rfl, _⟩ := rowS_pos h.1 hp
    exact rput_pos l s g cap b w hl hb hp h.1
end Go.Proofs.YtadkaplafaeebaaGreatDoor
/-
  The reference's Images, Canon and Same.
-/
set_option linter.unusedVariables false
set_option linter.unusedSimpArgs false
namespace Go.Proofs.YtadkaplafaeebaaGreatDoor
open Go Go.RowKit Go.Shelf

theorem ownS_below {b : Nat} {W W' : World} {v : Value} {l : List Sol} (h : OwnS b W v l) (k : Below W.heap.size W W') : OwnS b W' v l := ⟨row_below h.1 k, h.2⟩
theorem ownS_base {b b' : Nat} {W : World} {v : Value} {l : List Sol} (h : OwnS b W v l) (k : b' ≤ b) : OwnS b' W v l := ⟨row_base h.1 k, h.2⟩
theorem ownS_nil (b : Nat) (W : World) : OwnS b W (.slice none 0 0) [] := ⟨World.ownsRow_nil _ _ _ _, by simp⟩
set_option maxRecDepth 100000 in
set_option maxHeartbeats 4000000 in
theorem rimages_ok (f : Sol) (w : World) (hf : Fit f) :
    Calls Tryz.prog 70 #[sol f] w fun e w' => ∃ v, e = .returned v ∧ OwnS (w.heap.size + 1) w' v (putN f 24) ∧ Below w.heap.size w w' := by
  have HF := Lib.hid hf
  have CF := Lib.hid (fun (t : Nat) (ht : t < 24) (W : World) => rTurned_yes f t W HF.out ht)
  have CG := Lib.hid (fun (t : Nat) (W : World) => rcorn_ok (turnedF f t) W (turnedF_fit f t))
  have CP := Lib.hid (fun (t : Nat) (ht : t < 24) (v : Value) (W : World) (hb : w.heap.size + 1 ≤ W.heap.size) (h : OwnS (w.heap.size + 1) W v (putN f t)) => rput_ok (putN f t) (imgF f t) v (w.heap.size + 1) W (by have := putN_len f t; omega) hb h)
  have bS0 : BoxS (w.alloc (.cells (solC f) 24)) w.heap.size f := BoxS.new _ _
  have hB0 : Below w.heap.size w (w.alloc (.cells (solC f) 24)) := by repeat' (first | (with_reducible exact Below.refl _ _) | (with_reducible assumption) | (with_reducible refine Below.alloc ?_ ?_ _) | (with_reducible refine Below.drew ?_) | (with_reducible refine below_drewN ?_ _) | (with_reducible refine Below.setCell ?_ ?_ _) | go_size)
  clear hf
  go_enter Tryz.func70, Tryz.ntmps70
  go_wp2_with fail
  go_loopw [3, 4] (fun lv c wr => ∃ t : Nat, t ≤ 24 ∧ c = .int .i64 t ∧ BoxS wr w.heap.size f ∧ OwnS (w.heap.size + 1) wr lv (putN f t) ∧ Below w.heap.size w wr) (fun _ c _ => 24 - (intOf c).toNat)
  case atStart => exact ⟨0, by omega, rfl, bS0, ownS_nil _ _, hB0⟩
  case round =>
    clear bS0 hB0
    obtain ⟨t, ht, rfl, bS, hrow, hB⟩ := hrel
    have kS := bS.lt
    by_cases hlt : t < 24
    · have hd : decide ((t : Int) < 24) = true := decide_eq_true (by omega)
      have c0 := (bS).cell (k := 0) (by omega); have c1 := (bS).cell (k := 1) (by omega); have c2 := (bS).cell (k := 2) (by omega); have c3 := (bS).cell (k := 3) (by omega); have c4 := (bS).cell (k := 4) (by omega); have c5 := (bS).cell (k := 5) (by omega); have c6 := (bS).cell (k := 6) (by omega); have c7 := (bS).cell (k := 7) (by omega)
      have HS := Lib.hid (show putN f (t + 1) = putS (putN f t) (imgF f t) from rfl)
      go_wp2_with fail
      refine (CF.out t hlt _).mono ?_
      rintro e w2 ⟨rfl, b2⟩
      have bS1 := (bS.below b2 kS).alloc (.cells (solC (turnedF f t)) 24)
      have bP1 : BoxS (w2.alloc (.cells (solC (turnedF f t)) 24)) w2.heap.size (turnedF f t) := BoxS.new _ _
      have hrow1 : OwnS (w.heap.size + 1) (w2.alloc (.cells (solC (turnedF f t)) 24)) u3 (putN f t) := ⟨(row_below hrow.1 b2).alloc _, hrow.2⟩
      have hB1q : Below w.heap.size w w2 := up b2 hB
      have hB1 := hB1q.alloc hB1q.size (.cells (solC (turnedF f t)) 24)
      clear c0 c1 c2 c3 c4 c5 c6 c7 hB1q
      go_upto_region 6 with fail
      obtain ⟨N, hN⟩ : ∃ N, N = w2.heap.size := ⟨_, rfl⟩
      obtain ⟨W, hW⟩ : ∃ W, W = w2.alloc (.cells (solC (turnedF f t)) 24) := ⟨_, rfl⟩
      rw [← hW] at bS1 bP1 hrow1 hB1 ⊢
      rw [← hN] at bP1 ⊢
      clear hW hN bS hrow hB b2
      have kS : w.heap.size < W.heap.size := bS1.lt
      have p0 := (bP1).cell (k := 0) (by omega); have p1 := (bP1).cell (k := 1) (by omega); have p2 := (bP1).cell (k := 2) (by omega); have p3 := (bP1).cell (k := 3) (by omega); have p4 := (bP1).cell (k := 4) (by omega); have p5 := (bP1).cell (k := 5) (by omega); have p6 := (bP1).cell (k := 6) (by omega); have p7 := (bP1).cell (k := 7) (by omega)
      go_wp2_with fail
      refine (CG.out t _).mono ?_
      rintro e w3 ⟨rfl, b3⟩
      have bS2 := bS1.below b3 kS
      have hrow2 := ownS_below hrow1 b3
      have hB2 : Below w.heap.size w w3 := up b3 hB1
      have k3 : w.heap.size + 1 ≤ w3.heap.size := bS2.lt
      clear p0 p1 p2 p3 p4 p5 p6 p7 bS1 hrow1 hB1 b3 bP1 kS
      have CQ := Lib.hid (CP.out t hlt u3 w3 k3 hrow2)
      obtain ⟨m, hm⟩ : ∃ m, m = imgF f t := ⟨_, rfl⟩
      rw [← hm] at CQ HS
      rw [show cornF (turnedF f t) = m from hm.symm]
      clear hm hrow2
      go_wp2_with fail
      refine CQ.out.mono ?_
      rintro e w4 ⟨v4, rfl, ho, b4⟩
      have bS3 := bS2.below b4 bS2.lt
      have hB3 : Below w.heap.size w w4 := up b4 hB2
      clear bS2 hB2 b4 CQ
      go_wp2_with fail
      go_roundw
      case rel => exact ⟨t + 1, by omega, by go_num, bS3, by rw [HS.out]; exact ho, hB3⟩
      case measure => simp [intOf]; omega
    · obtain rfl : t = 24 := by omega
      have hd : decide ((24 : Int) < 24) = false := by decide
      go_wp2_with fail
      go_ret
      exact ⟨u3, rfl, hrow, hB⟩
theorem putN_pos (f : Sol) : 0 < (putN f 24).length := by
  obtain ⟨y, hy, _⟩ := putN_has f (u := 0) 24 (by omega)
  exact List.length_pos_of_mem hy
theorem putN_first {f : Sol} (hf : Fit f) : eqS (solAt (putN f 24) 0) (canonF f) = true := by
  obtain ⟨y, l, hy, hye⟩ := imgs_first hf
  have h := (imgs_put f).2 0
  rw [hy] at h
  exact eqS_trans (eqS_symm h) hye
set_option maxRecDepth 100000 in
set_option maxHeartbeats 4000000 in
theorem rcanon_ok (f : Sol) (w : World) (hf : Fit f) :
    Calls Tryz.prog 63 #[sol f] w fun e w' => e = .returned (sol (canonF f)) ∧ Below w.heap.size w w' := by
  have HI := Lib.hid (fun W => rimages_ok f W hf)
  have HE := Lib.hid (sol_congr (eqS_at (putN_first hf)))
  have hpos := putN_pos f
  have A0 : BoxS ((w.alloc (.cells (solC f) 24)).alloc (.cells (solC fun _ => 0) 24)) w.heap.size f := (BoxS.new _ _).alloc _
  have R0 : BoxS ((w.alloc (.cells (solC f) 24)).alloc (.cells (solC fun _ => 0) 24)) (w.heap.size + 1) (fun _ => 0) := BoxS.zero (by simp)
  have hB0 : Below w.heap.size w ((w.alloc (.cells (solC f) 24)).alloc (.cells (solC fun _ => 0) 24)) := by repeat' (first | (with_reducible exact Below.refl _ _) | (with_reducible assumption) | (with_reducible refine Below.alloc ?_ ?_ _) | (with_reducible refine Below.drew ?_) | (with_reducible refine below_drewN ?_ _) | (with_reducible refine Below.setCell ?_ ?_ _) | go_size)
  clear hf
  have a0 := (A0).cell (k := 0) (by omega); have a1 := (A0).cell (k := 1) (by omega); have a2 := (A0).cell (k := 2) (by omega); have a3 := (A0).cell (k := 3) (by omega); have a4 := (A0).cell (k := 4) (by omega); have a5 := (A0).cell (k := 5) (by omega); have a6 := (A0).cell (k := 6) (by omega); have a7 := (A0).cell (k := 7) (by omega)
  go_enter Tryz.func63, Tryz.ntmps63
  go_wp2_with fail
  refine (HI.out _).mono ?_
  rintro e w1 ⟨v, rfl, ho, b1⟩
  have R1 := R0.below b1 R0.lt
  have hB1 : Below w.heap.size w w1 := up b1 hB0
  obtain ⟨p, cap, rfl⟩ := own_len ho.1
  obtain ⟨g, rfl, hg, hcs⟩ := rowS_pos ho.1 hpos
  obtain ⟨m, hm⟩ : ∃ m, m = solAt (putN f 24) 0 := ⟨_, rfl⟩
  have x := fun j hj => hcs 0 m (by rw [hm, solAt_get hpos]; exact List.getElem?_eq_getElem hpos) j hj
  have x0 := x 0 (by omega); have x1 := x 1 (by omega); have x2 := x 2 (by omega); have x3 := x 3 (by omega); have x4 := x 4 (by omega); have x5 := x 5 (by omega); have x6 := x 6 (by omega); have x7 := x 7 (by omega)
  simp only [Nat.zero_mul, Nat.zero_add] at x0 x1 x2 x3 x4 x5 x6 x7
  rw [← hm] at HE
  have hl0 : (0 : Int) < ((putN f 24).length : Int) := by omega
  clear a0 a1 a2 a3 a4 a5 a6 a7 hcs x hm ho R0 A0 b1 hB0
  have lR := R1.lt
  have r0 := (R1).cell (k := 0) (by omega); have r1 := (R1).cell (k := 1) (by omega); have r2 := (R1).cell (k := 2) (by omega); have r3 := (R1).cell (k := 3) (by omega); have r4 := (R1).cell (k := 4) (by omega); have r5 := (R1).cell (k := 5) (by omega); have r6 := (R1).cell (k := 6) (by omega); have r7 := (R1).cell (k := 7) (by omega)
  have q0 := (R1).free 0; have q1 := (R1).free 1; have q2 := (R1).free 2; have q3 := (R1).free 3; have q4 := (R1).free 4; have q5 := (R1).free 5; have q6 := (R1).free 6; have q7 := (R1).free 7
  go_wp2_with fail
  refine bodyPost_ret (res_s (R1.put m) Tryz.results63 rfl) rfl ⟨by rw [HE.out], ?_⟩
  exact below_put8 hB1 (show w.heap.size ≤ w.heap.size + 1 by omega) m
set_option maxRecDepth 100000 in
set_option maxHeartbeats 4000000 in
theorem rsame_ok (f g : Sol) (w : World) (hf : Fit f) (hg : Fit g) :
    Calls Tryz.prog 65 #[sol f, sol g] w fun e w' => e = .returned (.bool (sameB f g)) ∧ Below w.heap.size w w' := by
  have HF := Lib.hid (fun W => rcanon_ok f W hf)
  have HG := Lib.hid (fun W => rcanon_ok g W hg)
  have A0 : BoxS ((w.alloc (.cells (solC f) 24)).alloc (.cells (solC g) 24)) w.heap.size f := (BoxS.new _ _).alloc _
  have B0 : BoxS ((w.alloc (.cells (solC f) 24)).alloc (.cells (solC g) 24)) (w.heap.size + 1) g := BoxS.new' (by simp)
  have hB0 : Below w.heap.size w ((w.alloc (.cells (solC f) 24)).alloc (.cells (solC g) 24)) := by repeat' (first | (with_reducible exact Below.refl _ _) | (with_reducible assumption) | (with_reducible refine Below.alloc ?_ ?_ _) | (with_reducible refine Below.drew ?_) | (with_reducible refine below_drewN ?_ _) | (with_reducible refine Below.setCell ?_ ?_ _) | go_size)
  have HS := Lib.hid (show sameB f g = eqS (canonF f) (canonF g) from rfl)
  generalize sameB f g = b at *
  clear hf hg
  go_enter Tryz.func65, Tryz.ntmps65
  go_wp2_with fail
  obtain ⟨W, hW⟩ : ∃ W, W = ((w.alloc (.cells (solC f) 24)).alloc (.cells (solC g) 24)) := ⟨_, rfl⟩
  rw [← hW] at A0 B0 hB0 ⊢
  clear hW
  have lA := A0.lt
  have lB := B0.lt
  have a0 := (A0).cell (k := 0) (by omega); have a1 := (A0).cell (k := 1) (by omega); have a2 := (A0).cell (k := 2) (by omega); have a3 := (A0).cell (k := 3) (by omega); have a4 := (A0).cell (k := 4) (by omega); have a5 := (A0).cell (k := 5) (by omega); have a6 := (A0).cell (k := 6) (by omega); have a7 := (A0).cell (k := 7) (by omega)
  have b0 := (B0).cell (k := 0) (by omega); have b1 := (B0).cell (k := 1) (by omega); have b2 := (B0).cell (k := 2) (by omega); have b3 := (B0).cell (k := 3) (by omega); have b4 := (B0).cell (k := 4) (by omega); have b5 := (B0).cell (k := 5) (by omega); have b6 := (B0).cell (k := 6) (by omega); have b7 := (B0).cell (k := 7) (by omega)
  (refine wp_region_quiet (C := fun w' => Below W.heap.size W w') (by kernel_rfl) (by kernel_rfl) (Below.drew (Below.refl _ _)) ?_; (iterate 6 (refine wpQuiet_step (fun K hK => ?_); go_simp; first | (refine hK _ ?_; clear hK K) | (apply Exists.intro; refine ⟨fun W' hW' => ?_, hK _ ?_⟩; (focus (first | (with_reducible exact rfl) | (with_reducible exact ⟨rfl, rfl⟩) | (obtain ⟨hcq, hfq⟩ := bcell hW'; have hzq := hW'.size; (try go_simp); first | (with_reducible exact rfl) | (with_reducible exact ⟨rfl, rfl⟩) | (first | ((with_reducible refine Calls.mono (HF.out _) ?_); rintro e w9 ⟨rfl, hb9⟩; exact ⟨rfl, hW'.trans (hb9.mono hW'.size)⟩) | ((with_reducible refine Calls.mono (HG.out _) ?_); rintro e w9 ⟨rfl, hb9⟩; exact ⟨rfl, hW'.trans (hb9.mono hW'.size)⟩))))); clear hK K))); refine wpQuiet_nil ?_; intro w1q hb1q)
  have hB1 := up hb1q hB0
  go_wp2_with fail
  go_ret
  exact ⟨by rw [HS.out]; rfl, hB1⟩
end Go.Proofs.YtadkaplafaeebaaGreatDoor
