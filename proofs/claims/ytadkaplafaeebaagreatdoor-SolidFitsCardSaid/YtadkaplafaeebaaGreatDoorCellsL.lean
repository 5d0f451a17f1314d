/-
  Cells: the list of the cells.
-/
import Derived.Test.YtadkaplafaeebaaGreatDoorPkK
set_option linter.unusedVariables false
set_option linter.unusedSimpArgs false
namespace Go.Proofs.YtadkaplafaeebaaGreatDoor
open Go Go.RowKit Go.Shelf

attribute [local go_sem] Oper.semAt_some

theorem info_cell : (Tryz.prog.info? 26).map (fun i => (i.zero, i.size, i.bytes)) = some (some (Value.agg #[.int .i64 (0), .int .i64 (0), .int .i64 (0)]), 3, 24) := by kernel_rfl
theorem under_cells : Tryz.prog.underlying 27 = some (.slice 26) := by kernel_rfl
/-- The cells of a list of cells. -/
def celL (c : Cl) : List Value := [.int .i64 (cX c : Nat), .int .i64 (cY c : Nat), .int .i64 (cZ c : Nat)]
def flatC (l : List Cl) : List Value := l.flatMap celL
theorem flatC_snoc (l : List Cl) (c : Cl) : flatC (l ++ [c]) = flatC l ++ celL c := by simp [flatC]
theorem celL_one (c : Cl) : ∀ u ∈ celL c, u.oneCell' = true := by
  intro u hu
  simp only [celL, List.mem_cons, List.not_mem_nil, or_false] at hu
  rcases hu with rfl | rfl | rfl <;> rfl
theorem celL_cells {W : World} {b : Nat} {c : Cl} (h : BoxC W b (cX c : Nat) (cY c : Nat) (cZ c : Nat)) : ∀ j u, (celL c)[j]? = some u → W.cell? ((⟨b, 0, none⟩ : Addr).add j) = some u := by
  intro j u hu
  have e : (⟨b, 0, none⟩ : Addr).add j = ⟨b, j, none⟩ := by simp [Addr.add]; try omega
  rw [e]
  rcases j with _ | _ | _ | j
  · rw [h.c0]; exact hu
  · rw [h.c1]; exact hu
  · rw [h.c2]; exact hu
  · simp [celL] at hu
/-- A slice that holds these cells. -/
def OwnCells (w W : World) (v : Value) (l : List Cl) : Prop := W.ownsRow w.heap.size 26 3 v l.length (flatC l) ∧ (v = .slice none 0 0 ↔ l = [])

set_option maxRecDepth 100000 in
set_option maxHeartbeats 4000000 in
theorem cellsl_ok (f : Sol) (w : World) (hf : Fit f) (hT : Tab64 w) :
    Calls Tryz.prog 26 #[sol f] w fun e w' => ∃ v, e = .returned v ∧ w'.ownsRow (w.heap.size + 1) 26 3 v (cellsL f).length (flatC (cellsL f)) ∧ (v = .slice none 0 0 ↔ cellsL f = []) ∧ Below w.heap.size w w' := by
  have HF := Lib.hid hf
  have HTT := Lib.hid hT
  clear hf hT
  obtain ⟨i0, hi, hz0, hz1, hz2⟩ := info_parts info_cell
  refine (callsIn_wide (n := 5)).1 ?_
  refine callsIn_of_wp_marks Tryz.func26 rfl trivial ?_ rfl
  simp only [Tryz.ntmps26, List.size_toArray, List.length_cons, List.length_nil, Nat.reduceAdd, Nat.reduceSub, Array.replicate_succ, Array.replicate_zero, List.push_toArray, List.append_toArray, List.nil_append, List.cons_append]
  gi_wp2_with (refine ⟨trivial, ?_⟩; gi_at_call 94; refine (cells_in _ f _).mono ?_; rintro e w1 ⟨rfl, rfl⟩)
  have b0 : Boxed (((w.alloc (.cells (solC f) 24)).alloc (.cells #[.slice none 0 0] 27)).alloc (.cells (solC f) 24)) (w.heap.size + 1) 27 (.slice none 0 0) := (boxed_at (by simp)).alloc _
  have bR : BoxS (((w.alloc (.cells (solC f) 24)).alloc (.cells #[.slice none 0 0] 27)).alloc (.cells (solC f) 24)) (w.heap.size + 1 + 1) f := BoxS.new' (by simp)
  have hB0 : Below w.heap.size w (((w.alloc (.cells (solC f) 24)).alloc (.cells #[.slice none 0 0] 27)).alloc (.cells (solC f) 24)) := by repeat' (first | (with_reducible exact Below.refl _ _) | (with_reducible assumption) | (with_reducible refine Below.alloc ?_ ?_ _) | (with_reducible refine Below.drew ?_) | (with_reducible refine below_drewN ?_ _) | (with_reducible refine Below.setCell ?_ ?_ _) | go_size)
  have hsz : (((w.alloc (.cells (solC f) 24)).alloc (.cells #[.slice none 0 0] 27)).alloc (.cells (solC f) 24)).heap.size = w.heap.size + 3 := by simp
  obtain ⟨W0, hW0⟩ : ∃ W0, W0 = (((w.alloc (.cells (solC f) 24)).alloc (.cells #[.slice none 0 0] 27)).alloc (.cells (solC f) 24)) := ⟨_, rfl⟩
  rw [← hW0] at b0 bR hB0 hsz ⊢
  clear hW0
  refine wpIn_rangeFunc_ownH rfl (by omega) (gf := 137) (lb := #[.pointer (some ⟨w.heap.size + 1 + 1, 0, none⟩)]) rfl trivial (enters_of Tryz.func137 (by kernel_rfl) rfl)
    (cells_stops _ (by omega) (w.heap.size + 1 + 1) w.heap.size f HF.out W0 (HTT.out.below hB0 (Nat.le_refl _)) bR HTT.out.pos) belowK_t (belowK_b (by omega)) (Below.refl _ _) (fun _ => rfl)
    (fun (pre : List Cl) W => (∃ v, Boxed W (w.heap.size + 1) 27 v ∧ W.ownsRow (w.heap.size + 1) 26 3 v pre.length (flatC pre) ∧ (v = .slice none 0 0 ↔ pre = [])) ∧ Below w.heap.size w W)
    (fun _ _ _ => False)
    (OwnFrom.and (Own.from (holdsRow_own (w.heap.size + 1) (w.heap.size + 1) 27 26 3 (fun pre : List Cl => pre.length) flatC (fun pre v => v = .slice none 0 0 ↔ pre = [])) _) (ownFrom_below (Nat.le_refl _) (by omega)))
    (fun _ _ _ _ _ hs _ _ => hs)
    ⟨⟨_, b0, World.ownsRow_nil _ _ _ _, by simp⟩, hB0⟩
    (fun (x : Cl) a' W => ∃ Bx, w.heap.size + 1 < Bx ∧ BoxC W Bx (cX x : Nat) (cY x : Nat) (cZ x : Nat) ∧ a' = { tmps := #[sol f, .pointer (some ⟨w.heap.size, 0, none⟩), .slice none 0 0, .pointer (some ⟨w.heap.size + 1, 0, none⟩), .pointer (some ⟨Bx, 0, none⟩), sol f, .func (.func 137) #[] #[.pointer (some ⟨w.heap.size + 1 + 1, 0, none⟩)], cell x, undef, undef, undef, undef, undef], defers := [] })
    (fun x a' s X Y row ⟨Bx, h1, h2, h3⟩ hg hr => ⟨Bx, h1, own_block (β := Unit) _ _ _ rfl () X Y row h2 hg hr, h3⟩) ?assign ?body ?done ?stop
  case assign =>
    rintro l pre x W K ⟨⟨v, hv, hrow, hnil⟩, i3⟩ hK
    gi_wp2
    have hsW := i3.size
    have lx : w.heap.size + 1 < W.heap.size := (Array.getElem?_eq_some_iff.1 hv).1
    exact hK _ _ ((KeepsOthers.alloc _ _).from _) ((Below.refl _ W).alloc hsW _) ⟨⟨v, hv.alloc _, hrow.alloc _, hnil⟩, i3.alloc hsW _⟩ ⟨W.heap.size, lx, BoxC.new rfl, rfl⟩
  case body =>
    rintro l pre x a' W hl ⟨rc, hrc⟩ ⟨⟨v, hv, hrow, hnil⟩, i3⟩ ⟨Bx, hBx, bX, rfl⟩ hlt
    have c0 := bX.c0
    have c1 := bX.c1
    have c2 := bX.c2
    have cv := hv.cell
    have hcl := cellsL_len f
    have lx : w.heap.size + 1 < W.heap.size := (Array.getElem?_eq_some_iff.1 hv).1
    gi_wp2_with (gi_at_builtin; refine wpListIn_append_own _ rfl _ _ 27 rfl (w.heap.size + 1) 26 i0 (.agg #[.int .i64 (0), .int .i64 (0), .int .i64 (0)]) 3 24 under_cells hi hz0 hz1 hz2 rfl (by decide) v _ _ rfl (hrow.alloc _) ⟨W.heap.size, 0, none⟩ 1 1 (celL x) rfl rfl (celL_cells (BoxC.new rfl)) (celL_one x) (by simp only [maxLen]; omega) (by omega) (by simp; omega) ?_; intro v' w4 hown' hgrow _; obtain ⟨g', cap', rfl⟩ := ownsRow_succ hown'; obtain ⟨hv1, hv2, hr2, hk2, hb2⟩ := hv.appended (by decide) hrow (by omega) (Nat.le_refl _) hown' hgrow; have hc1 := hv1.cell; have hf1 := hv1.frozen)
    have kb := hb2.mono (show w.heap.size ≤ w.heap.size + 1 by omega)
    exact ⟨hk2.from _, kb, ⟨_, hv2, by simp only [List.length_append, List.length_cons, List.length_nil, flatC_snoc]; exact hr2, by simp⟩, i3.trans kb⟩
  case done =>
    rintro D ys W hD rfl ⟨⟨v, hv, hrow, hnil⟩, i3⟩ hK
    have hc := hv.cell
    gi_wp2
    refine ⟨by simp, .inl ⟨_, _, rfl, run_takeDeferred hK, ?_⟩⟩
    exact ⟨_, results_tmp rfl _ _ _, v, rfl, ownsRow_putObj hrow _ hK rfl, hnil, i3.trans (belowK_b (w := w) (Nat.le_refl _) W D _ _ (by omega) hK rfl rfl)⟩
  case stop =>
    rintro D c pre W _ _ h _
    exact h.elim
end Go.Proofs.YtadkaplafaeebaaGreatDoor
