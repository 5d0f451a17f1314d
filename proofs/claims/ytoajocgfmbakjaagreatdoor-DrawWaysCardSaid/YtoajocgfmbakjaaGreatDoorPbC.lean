/-
  A body's step to a side.
-/
import Derived.Test.YtoajocgfmbakjaaGreatDoorPaC
import Derived.Test.YtoajocgfmbakjaaGreatDoorPaE
import Derived.Laws.EntriesVeiled
set_option linter.unusedVariables false
set_option linter.unusedSimpArgs false
namespace Go.Proofs.YtoajocgfmbakjaaGreatDoor
open Go Go.RowKit

/-- A body one cell farther to a side. -/
def stepF (f : Sol) : Nat → Sol
  | 0 => upF f
  | 1 => eastF f
  | 2 => southF f
  | 3 => westF f
  | _ => northF f
theorem stepF_fit {f : Sol} (h : Fit f) : ∀ s, Fit (stepF f s)
  | 0 => upF_fit h
  | 1 => eastF_fit h
  | 2 => southF_fit h
  | 3 => westF_fit h
  | _ + 4 => northF_fit h
theorem new_cell {n : Nat} (W : World) (cs : Array Value) (T : TypeId) (k : Nat) (v : Value) (hn : n = W.heap.size) (h : cs[k]? = some v) : (W.alloc (.cells cs T)).cell? ⟨n, k, none⟩ = some v := by
  subst hn
  have e : (W.alloc (.cells cs T)).heap[W.heap.size]? = some (.cells cs T (0, 0)) := by
    show (W.heap.push _)[W.heap.size]? = _
    rw [Array.getElem?_push, if_pos rfl]
  unfold World.cell?
  rw [e]
  exact h
theorem new_free {n : Nat} (W : World) (cs : Array Value) (T : TypeId) (k : Nat) (hn : n = W.heap.size) : (W.alloc (.cells cs T)).frozen? ⟨n, k, none⟩ = false := by
  subst hn
  have e : (W.alloc (.cells cs T)).heap[W.heap.size]? = some (.cells cs T (0, 0)) := by
    show (W.heap.push _)[W.heap.size]? = _
    rw [Array.getElem?_push, if_pos rfl]
  unfold World.frozen?
  rw [e]
  simp
set_option maxHeartbeats 2000000 in
theorem step_ok (f : Sol) (s : Nat) (hs : s ≤ 4) (w : World) (hf : Fit f) : Calls Tryz.prog 148 #[sol f, .int .i64 s] w (RetB (sol (stepF f s)) w) := by
  have H0 := Lib.hid (fun W : World => up_ok f W hf)
  have H1 := Lib.hid (fun W : World => east_ok f W hf)
  have H2 := Lib.hid (fun W : World => south_ok f W hf)
  have H3 := Lib.hid (fun W : World => west_ok f W hf)
  have H4 := Lib.hid (fun W : World => north_ok f W hf)
  let W3 := ((w.alloc (.cells (solC f) 88)).alloc (.cells (solC fun _ => 0) 88)).alloc (.cells #[.func (.func 149) #[] #[], .func (.func 168) #[] #[], .func (.func 169) #[] #[], .func (.func 170) #[] #[], .func (.func 171) #[] #[]] 189)
  have c0 : W3.cell? ⟨w.heap.size + 1 + 1, 0, none⟩ = some (.func (.func 149) #[] #[]) := new_cell _ _ _ _ _ (by simp) rfl
  have c1 : W3.cell? ⟨w.heap.size + 1 + 1, 1, none⟩ = some (.func (.func 168) #[] #[]) := new_cell _ _ _ _ _ (by simp) rfl
  have c2 : W3.cell? ⟨w.heap.size + 1 + 1, 2, none⟩ = some (.func (.func 169) #[] #[]) := new_cell _ _ _ _ _ (by simp) rfl
  have c3 : W3.cell? ⟨w.heap.size + 1 + 1, 3, none⟩ = some (.func (.func 170) #[] #[]) := new_cell _ _ _ _ _ (by simp) rfl
  have c4 : W3.cell? ⟨w.heap.size + 1 + 1, 4, none⟩ = some (.func (.func 171) #[] #[]) := new_cell _ _ _ _ _ (by simp) rfl
  have hA : BoxD W3 w.heap.size f := ((BoxK.new _ w f).alloc _).alloc _
  have hR : BoxD W3 (w.heap.size + 1) (fun _ => 0) := (BoxK.zero (by simp)).alloc _
  have hB : Below w.heap.size w W3 := by dsimp only [W3]; repeat' (first | (with_reducible exact Below.refl _ _) | (with_reducible assumption) | (with_reducible refine Below.alloc ?_ ?_ _) | (with_reducible refine Below.drew ?_) | (with_reducible refine below_drewN ?_ _) | (with_reducible refine Below.setCell ?_ ?_ _) | go_size)
  have hz : W3.heap.size = w.heap.size + 1 + 1 + 1 := by simp [W3]
  have hz0 : w.heap.size < W3.heap.size := by omega
  have hz1 : w.heap.size + 1 < W3.heap.size := by omega
  have hz2 : w.heap.size + 1 + 1 < W3.heap.size := by omega
  have a0 := (hA).cell (k := 0) (by omega); have a1 := (hA).cell (k := 1) (by omega); have a2 := (hA).cell (k := 2) (by omega); have a3 := (hA).cell (k := 3) (by omega); have a4 := (hA).cell (k := 4) (by omega); have a5 := (hA).cell (k := 5) (by omega); have a6 := (hA).cell (k := 6) (by omega); have a7 := (hA).cell (k := 7) (by omega)
  rcases (show s = 0 ∨ s = 1 ∨ s = 2 ∨ s = 3 ∨ s = 4 by omega) with rfl | rfl | rfl | rfl | rfl
  · go_enter Tryz.func148, Tryz.ntmps148
    go_wp2_with fail
    change Code.wp _ _ _ _ W3
    clear_value W3
    clear hz
    (refine wp_region_quiet_tail 5 (fun w' => Below W3.heap.size W3 w') (by kernel_rfl) (by kernel_rfl) (Below.drew (Below.refl _ _)) ?_; simp only [List.take_succ_cons, List.take_zero, List.drop_succ_cons, List.drop_zero]; (iterate 5 (refine wpQuiet_step (fun K hK => ?_); go_simp; first | (refine hK _ ?_; clear hK K) | (apply Exists.intro; refine ⟨fun W' hW' => ?_, hK _ ?_⟩; (focus (first | (with_reducible exact rfl) | (with_reducible exact ⟨rfl, rfl⟩) | (obtain ⟨hcq, hfq⟩ := bcell hW'; have hzq := hW'.size; (try go_simp); first | (with_reducible exact rfl) | (with_reducible exact ⟨rfl, rfl⟩) | (first | ((with_reducible refine Calls.mono (H0.out _) ?_); rintro e w9 ⟨rfl, hb9⟩; exact ⟨rfl, hW'.trans (hb9.mono hW'.size)⟩))))); clear hK K))); refine wpQuiet_nil ?_; intro w1q hb1q)
    have hR1 := hR.below hb1q (by omega)
    have hB1 : Below w.heap.size w w1q := up hb1q hB
    clear a0 a1 a2 a3 a4 a5 a6 a7 c0 c1 c2 c3 c4 hA hB
    have r0 := (hR1).cell (k := 0) (by omega); have r1 := (hR1).cell (k := 1) (by omega); have r2 := (hR1).cell (k := 2) (by omega); have r3 := (hR1).cell (k := 3) (by omega); have r4 := (hR1).cell (k := 4) (by omega); have r5 := (hR1).cell (k := 5) (by omega); have r6 := (hR1).cell (k := 6) (by omega); have r7 := (hR1).cell (k := 7) (by omega)
    have p0 := (hR1).free 0; have p1 := (hR1).free 1; have p2 := (hR1).free 2; have p3 := (hR1).free 3; have p4 := (hR1).free 4; have p5 := (hR1).free 5; have p6 := (hR1).free 6; have p7 := (hR1).free 7
    go_wp2
    refine bodyPost_ret (res_d (hR1.put (stepF f 0)) Tryz.results148 rfl) rfl ⟨rfl, ?_⟩
    repeat' (first | (with_reducible exact Below.refl _ _) | (with_reducible assumption) | (with_reducible refine Below.alloc ?_ ?_ _) | (with_reducible refine Below.drew ?_) | (with_reducible refine below_drewN ?_ _) | (with_reducible refine Below.setCell ?_ ?_ _) | go_size)
  · go_enter Tryz.func148, Tryz.ntmps148
    go_wp2_with fail
    change Code.wp _ _ _ _ W3
    clear_value W3
    clear hz
    (refine wp_region_quiet_tail 5 (fun w' => Below W3.heap.size W3 w') (by kernel_rfl) (by kernel_rfl) (Below.drew (Below.refl _ _)) ?_; simp only [List.take_succ_cons, List.take_zero, List.drop_succ_cons, List.drop_zero]; (iterate 5 (refine wpQuiet_step (fun K hK => ?_); go_simp; first | (refine hK _ ?_; clear hK K) | (apply Exists.intro; refine ⟨fun W' hW' => ?_, hK _ ?_⟩; (focus (first | (with_reducible exact rfl) | (with_reducible exact ⟨rfl, rfl⟩) | (obtain ⟨hcq, hfq⟩ := bcell hW'; have hzq := hW'.size; (try go_simp); first | (with_reducible exact rfl) | (with_reducible exact ⟨rfl, rfl⟩) | (first | ((with_reducible refine Calls.mono (H1.out _) ?_); rintro e w9 ⟨rfl, hb9⟩; exact ⟨rfl, hW'.trans (hb9.mono hW'.size)⟩))))); clear hK K))); refine wpQuiet_nil ?_; intro w1q hb1q)
    have hR1 := hR.below hb1q (by omega)
    have hB1 : Below w.heap.size w w1q := up hb1q hB
    clear a0 a1 a2 a3 a4 a5 a6 a7 c0 c1 c2 c3 c4 hA hB
    have r0 := (hR1).cell (k := 0) (by omega); have r1 := (hR1).cell (k := 1) (by omega); have r2 := (hR1).cell (k := 2) (by omega); have r3 := (hR1).cell (k := 3) (by omega); have r4 := (hR1).cell (k := 4) (by omega); have r5 := (hR1).cell (k := 5) (by omega); have r6 := (hR1).cell (k := 6) (by omega); have r7 := (hR1).cell (k := 7) (by omega)
    have p0 := (hR1).free 0; have p1 := (hR1).free 1; have p2 := (hR1).free 2; have p3 := (hR1).free 3; have p4 := (hR1).free 4; have p5 := (hR1).free 5; have p6 := (hR1).free 6; have p7 := (hR1).free 7
    go_wp2
    refine bodyPost_ret (res_d (hR1.put (stepF f 1)) Tryz.results148 rfl) rfl ⟨rfl, ?_⟩
    repeat' (first | (with_reducible exact Below.refl _ _) | (with_reducible assumption) | (with_reducible refine Below.alloc ?_ ?_ _) | (with_reducible refine Below.drew ?_) | (with_reducible refine below_drewN ?_ _) | (with_reducible refine Below.setCell ?_ ?_ _) | go_size)
  · go_enter Tryz.func148, Tryz.ntmps148
    go_wp2_with fail
    change Code.wp _ _ _ _ W3
    clear_value W3
    clear hz
    (refine wp_region_quiet_tail 5 (fun w' => Below W3.heap.size W3 w') (by kernel_rfl) (by kernel_rfl) (Below.drew (Below.refl _ _)) ?_; simp only [List.take_succ_cons, List.take_zero, List.drop_succ_cons, List.drop_zero]; (iterate 5 (refine wpQuiet_step (fun K hK => ?_); go_simp; first | (refine hK _ ?_; clear hK K) | (apply Exists.intro; refine ⟨fun W' hW' => ?_, hK _ ?_⟩; (focus (first | (with_reducible exact rfl) | (with_reducible exact ⟨rfl, rfl⟩) | (obtain ⟨hcq, hfq⟩ := bcell hW'; have hzq := hW'.size; (try go_simp); first | (with_reducible exact rfl) | (with_reducible exact ⟨rfl, rfl⟩) | (first | ((with_reducible refine Calls.mono (H2.out _) ?_); rintro e w9 ⟨rfl, hb9⟩; exact ⟨rfl, hW'.trans (hb9.mono hW'.size)⟩))))); clear hK K))); refine wpQuiet_nil ?_; intro w1q hb1q)
    have hR1 := hR.below hb1q (by omega)
    have hB1 : Below w.heap.size w w1q := up hb1q hB
    clear a0 a1 a2 a3 a4 a5 a6 a7 c0 c1 c2 c3 c4 hA hB
    have r0 := (hR1).cell (k := 0) (by omega); have r1 := (hR1).cell (k := 1) (by omega); have r2 := (hR1).cell (k := 2) (by omega); have r3 := (hR1).cell (k := 3) (by omega); have r4 := (hR1).cell (k := 4) (by omega); have r5 := (hR1).cell (k := 5) (by omega); have r6 := (hR1).cell (k := 6) (by omega); have r7 := (hR1).cell (k := 7) (by omega)
    have p0 := (hR1).free 0; have p1 := (hR1).free 1; have p2 := (hR1).free 2; have p3 := (hR1).free 3; have p4 := (hR1).free 4; have p5 := (hR1).free 5; have p6 := (hR1).free 6; have p7 := (hR1).free 7
    go_wp2
    refine bodyPost_ret (res_d (hR1.put (stepF f 2)) Tryz.results148 rfl) rfl ⟨rfl, ?_⟩
    repeat' (first | (with_reducible exact Below.refl _ _) | (with_reducible assumption) | (with_reducible refine Below.alloc ?_ ?_ _) | (with_reducible refine Below.drew ?_) | (with_reducible refine below_drewN ?_ _) | (with_reducible refine Below.setCell ?_ ?_ _) | go_size)
  · go_enter Tryz.func148, Tryz.ntmps148
    go_wp2_with fail
    change Code.wp _ _ _ _ W3
    clear_value W3
    clear hz
    (refine wp_region_quiet_tail 5 (fun w' => Below W3.heap.size W3 w') (by kernel_rfl) (by kernel_rfl) (Below.drew (Below.refl _ _)) ?_; simp only [List.take_succ_cons, List.take_zero, List.drop_succ_cons, List.drop_zero]; (iterate 5 (refine wpQuiet_step (fun K hK => ?_); go_simp; first | (refine hK _ ?_; clear hK K) | (apply Exists.intro; refine ⟨fun W' hW' => ?_, hK _ ?_⟩; (focus (first | (with_reducible exact rfl) | (with_reducible exact ⟨rfl, rfl⟩) | (obtain ⟨hcq, hfq⟩ := bcell hW'; have hzq := hW'.size; (try go_simp); first | (with_reducible exact rfl) | (with_reducible exact ⟨rfl, rfl⟩) | (first | ((with_reducible refine Calls.mono (H3.out _) ?_); rintro e w9 ⟨rfl, hb9⟩; exact ⟨rfl, hW'.trans (hb9.mono hW'.size)⟩))))); clear hK K))); refine wpQuiet_nil ?_; intro w1q hb1q)
    have hR1 := hR.below hb1q (by omega)
    have hB1 : Below w.heap.size w w1q := up hb1q hB
    clear a0 a1 a2 a3 a4 a5 a6 a7 c0 c1 c2 c3 c4 hA hB
    have r0 := (hR1).cell (k := 0) (by omega); have r1 := (hR1).cell (k := 1) (by omega); have r2 := (hR1).cell (k := 2) (by omega); have r3 := (hR1).cell (k := 3) (by omega); have r4 := (hR1).cell (k := 4) (by omega); have r5 := (hR1).cell (k := 5) (by omega); have r6 := (hR1).cell (k := 6) (by omega); have r7 := (hR1).cell (k := 7) (by omega)
    have p0 := (hR1).free 0; have p1 := (hR1).free 1; have p2 := (hR1).free 2; have p3 := (hR1).free 3; have p4 := (hR1).free 4; have p5 := (hR1).free 5; have p6 := (hR1).free 6; have p7 := (hR1).free 7
    go_wp2
    refine bodyPost_ret (res_d (hR1.put (stepF f 3)) Tryz.results148 rfl) rfl ⟨rfl, ?_⟩
    repeat' (first | (with_reducible exact Below.refl _ _) | (with_reducible assumption) | (with_reducible refine Below.alloc ?_ ?_ _) | (with_reducible refine Below.drew ?_) | (with_reducible refine below_drewN ?_ _) | (with_reducible refine Below.setCell ?_ ?_ _) | go_size)
  · go_enter Tryz.func148, Tryz.ntmps148
    go_wp2_with fail
    change Code.wp _ _ _ _ W3
    clear_value W3
    clear hz
    (refine wp_region_quiet_tail 5 (fun w' => Below W3.heap.size W3 w') (by kernel_rfl) (by kernel_rfl) (Below.drew (Below.refl _ _)) ?_; simp only [List.take_succ_cons, List.take_zero, List.drop_succ_cons, List.drop_zero]; (iterate 5 (refine wpQuiet_step (fun K hK => ?_); go_simp; first | (refine hK _ ?_; clear hK K) | (apply Exists.intro; refine ⟨fun W' hW' => ?_, hK _ ?_⟩; (focus (first | (with_reducible exact rfl) | (with_reducible exact ⟨rfl, rfl⟩) | (obtain ⟨hcq, hfq⟩ := bcell hW'; have hzq := hW'.size; (try go_simp); first | (with_reducible exact rfl) | (with_reducible exact ⟨rfl, rfl⟩) | (first | ((with_reducible refine Calls.mono (H4.out _) ?_); rintro e w9 ⟨rfl, hb9⟩; exact ⟨rfl, hW'.trans (hb9.mono hW'.size)⟩))))); clear hK K))); refine wpQuiet_nil ?_; intro w1q hb1q)
    have hR1 := hR.below hb1q (by omega)
    have hB1 : Below w.heap.size w w1q := up hb1q hB
    clear a0 a1 a2 a3 a4 a5 a6 a7 c0 c1 c2 c3 c4 hA hB
    have r0 := (hR1).cell (k := 0) (by omega); have r1 := (hR1).cell (k := 1) (by omega); have r2 := (hR1).cell (k := 2) (by omega); have r3 := (hR1).cell (k := 3) (by omega); have r4 := (hR1).cell (k := 4) (by omega); have r5 := (hR1).cell (k := 5) (by omega); have r6 := (hR1).cell (k := 6) (by omega); have r7 := (hR1).cell (k := 7) (by omega)
    have p0 := (hR1).free 0; have p1 := (hR1).free 1; have p2 := (hR1).free 2; have p3 := (hR1).free 3; have p4 := (hR1).free 4; have p5 := (hR1).free 5; have p6 := (hR1).free 6; have p7 := (hR1).free 7
    go_wp2
    refine bodyPost_ret (res_d (hR1.put (stepF f 4)) Tryz.results148 rfl) rfl ⟨rfl, ?_⟩
    repeat' (first | (with_reducible exact Below.refl _ _) | (with_reducible assumption) | (with_reducible refine Below.alloc ?_ ?_ _) | (with_reducible refine Below.drew ?_) | (with_reducible refine below_drewN ?_ _) | (with_reducible refine Below.setCell ?_ ?_ _) | go_size)
end Go.Proofs.YtoajocgfmbakjaaGreatDoor
