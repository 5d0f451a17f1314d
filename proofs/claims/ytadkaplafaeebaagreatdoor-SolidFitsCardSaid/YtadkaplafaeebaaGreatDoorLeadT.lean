/-
  classes' closure, which calls itself, over the cells that touch a cell.
-/
import Derived.Test.YtadkaplafaeebaaGreatDoorPkJ
import Derived.Test.YtadkaplafaeebaaGreatDoorPkF
set_option linter.unusedVariables false
set_option linter.unusedSimpArgs false
namespace Go.Proofs.YtadkaplafaeebaaGreatDoor
open Go Go.RowKit Go.Shelf

attribute [local go_sem] Oper.semAt_some

set_option maxRecDepth 100000 in
set_option maxHeartbeats 4000000 in
theorem leadT_no (r k : Sol) (c : I3) (B : Nat) (W : World) (hr : Fit r) (hL : LeadW 123 B W (r, k)) (hh : hasI r c = false) :
    Calls Tryz.prog 151 #[encI c, .pointer (some ⟨B + 1 + 1, 0, none⟩), .pointer (some ⟨B + 1 + 1 + 1, 0, none⟩), .pointer (some ⟨B + 1, 0, none⟩), .pointer (some ⟨B + 1 + 1 + 1 + 1, 0, none⟩)] W fun e w' =>
      (∃ v, e = .returned v) ∧ Keep2 B W w' ∧ LeadW 123 B w' (r, k) := by
  have HR := Lib.hid hr
  have lt := hL.lt
  have hLR := hL.1
  simp only at hLR
  have hLA := hLR.alloc (.cells #[.int .i64 c.1, .int .i64 c.2.1, .int .i64 c.2.2] 26)
  have v0 := (hLA).cell (k := 0) (by omega); have v1 := (hLA).cell (k := 1) (by omega); have v2 := (hLA).cell (k := 2) (by omega); have v3 := (hLA).cell (k := 3) (by omega); have v4 := (hLA).cell (k := 4) (by omega); have v5 := (hLA).cell (k := 5) (by omega); have v6 := (hLA).cell (k := 6) (by omega); have v7 := (hLA).cell (k := 7) (by omega)
  refine (callsIn_wide (n := 7)).1 ?_
  refine callsIn_of_wp_marks Tryz.func151 rfl trivial ?_ rfl
  simp only [Tryz.ntmps151, List.size_toArray, List.length_cons, List.length_nil, Nat.reduceAdd, Nat.reduceSub, Array.replicate_succ, Array.replicate_zero, List.push_toArray, List.append_toArray, List.nil_append, List.cons_append]
  refine wpIn_wide.2 ?_
  have d0 := (BoxC.new (W := W) (x := c.1) (y := c.2.1) (z := c.2.2) rfl).c0
  have d1 := (BoxC.new (W := W) (x := c.1) (y := c.2.1) (z := c.2.2) rfl).c1
  have d2 := (BoxC.new (W := W) (x := c.1) (y := c.2.1) (z := c.2.2) rfl).c2
  go_wp2_with (go_at_call 23; refine (has_ok r c _ HR.out).mono ?_; rintro e w3 ⟨rfl, hb3⟩; obtain ⟨hc3, hf3⟩ := bcell hb3; rw [hh])
  have hA : Below W.heap.size W (W.alloc (.cells #[.int .i64 c.1, .int .i64 c.2.1, .int .i64 c.2.2] 26)) := by repeat' (first | (with_reducible exact Below.refl _ _) | (with_reducible assumption) | (with_reducible refine Below.alloc ?_ ?_ _) | (with_reducible refine Below.drew ?_) | (with_reducible refine below_drewN ?_ _) | (with_reducible refine Below.setCell ?_ ?_ _) | go_size)
  exact ⟨_, results_none rfl _ _ _, ⟨_, rfl⟩, (Keep2.below hA (by omega)).trans (Keep2.below hb3 (by simp <;> omega)), (hL.below hA).below hb3⟩
set_option maxRecDepth 100000 in
set_option maxHeartbeats 4000000 in
theorem leadT_yes (m : Nat) (r k : Sol) (d : Cl) (B : Nat) (W : World) (hr : Fit r) (hk : Fit k) (hL : LeadW 123 B W (r, k)) (hh : hasC r d = true)
    (IH : ∀ (c : I3) (s : Sol × Sol) (W : World), cnt s.1 < m → Fit s.1 → Fit s.2 → LeadW 123 B W s →
      Calls Tryz.prog 151 #[encI c, .pointer (some ⟨B + 1 + 1, 0, none⟩), .pointer (some ⟨B + 1 + 1 + 1, 0, none⟩), .pointer (some ⟨B + 1, 0, none⟩), .pointer (some ⟨B + 1 + 1 + 1 + 1, 0, none⟩)] W fun e w' =>
        (∃ v, e = .returned v) ∧ Keep2 B W w' ∧ LeadW 123 B w' (dfs touchL m c s))
    (hm : cnt (delS r d) < m) :
    Calls Tryz.prog 151 #[cell d, .pointer (some ⟨B + 1 + 1, 0, none⟩), .pointer (some ⟨B + 1 + 1 + 1, 0, none⟩), .pointer (some ⟨B + 1, 0, none⟩), .pointer (some ⟨B + 1 + 1 + 1 + 1, 0, none⟩)] W fun e w' =>
      (∃ v, e = .returned v) ∧ Keep2 B W w' ∧ LeadW 123 B w' (dfsL touchL m (touchL (toI d)) (delS r d, setC k d)) := by
  have HR := Lib.hid hr
  have HK := Lib.hid hk
  have HI := Lib.hid IH
  have HM := Lib.hid hm
  clear hr hk IH hm
  have hx := X_le d
  have hy := Y_le d
  have hz := Z_le d
  have hzi : ((cZ d : Nat) : Int) < 8 := by omega
  have lt := hL.lt
  have b1 := HR.out (cZ d)
  have hand := bits_andNot b1 (bit_lt hx hy)
  have hor := bits_or (HK.out (cZ d)) (bit_lt hx hy)
  have hhI : hasI r (toI d) = true := by
    unfold hasI
    rw [inG_cell d]
    have : ofI (toI d) = d := by
      apply Fin.ext
      rw [ofI_val (toI_in7 d)]
      unfold toI cX cY cZ
      simp only
      omega
    rw [this, hh]
    rfl
  refine (callsIn_wide (n := 7)).1 ?_
  refine callsIn_of_wp_marks Tryz.func151 rfl trivial ?_ rfl
  simp only [Tryz.ntmps151, List.size_toArray, List.length_cons, List.length_nil, Nat.reduceAdd, Nat.reduceSub, Array.replicate_succ, Array.replicate_zero, List.push_toArray, List.append_toArray, List.nil_append, List.cons_append]
  refine wpIn_wide.2 ?_
  have hA : Below W.heap.size W (W.alloc (.cells #[.int .i64 ((cX d : Nat) : Int), .int .i64 ((cY d : Nat) : Int), .int .i64 ((cZ d : Nat) : Int)] 26)) := by repeat' (first | (with_reducible exact Below.refl _ _) | (with_reducible assumption) | (with_reducible refine Below.alloc ?_ ?_ _) | (with_reducible refine Below.drew ?_) | (with_reducible refine below_drewN ?_ _) | (with_reducible refine Below.setCell ?_ ?_ _) | go_size)
  have bC : BoxC (W.alloc (.cells #[.int .i64 ((cX d : Nat) : Int), .int .i64 ((cY d : Nat) : Int), .int .i64 ((cZ d : Nat) : Int)] 26)) W.heap.size (cX d : Nat) (cY d : Nat) (cZ d : Nat) := BoxC.new rfl
  have lA := hL.below hA
  have kA := Keep2.below hA (show B ≤ W.heap.size by omega)
  have lA0 := lA.1
  simp only at lA0
  have v0 := (lA0).cell (k := 0) (by omega); have v1 := (lA0).cell (k := 1) (by omega); have v2 := (lA0).cell (k := 2) (by omega); have v3 := (lA0).cell (k := 3) (by omega); have v4 := (lA0).cell (k := 4) (by omega); have v5 := (lA0).cell (k := 5) (by omega); have v6 := (lA0).cell (k := 6) (by omega); have v7 := (lA0).cell (k := 7) (by omega)
  have d0 := bC.c0
  have d1 := bC.c1
  have d2 := bC.c2
  go_wp2_with (go_at_call 23; refine (has_ok r (toI d) _ HR.out).mono ?_; rintro e w3 ⟨rfl, hb3⟩; obtain ⟨hc3, hf3⟩ := bcell hb3; rw [hhI])
  have l3 := lA.below hb3
  have k3 := kA.trans (Keep2.below hb3 (show B ≤ (W.alloc (.cells #[.int .i64 ((cX d : Nat) : Int), .int .i64 ((cY d : Nat) : Int), .int .i64 ((cZ d : Nat) : Int)] 26)).heap.size by simp <;> omega))
  have bC3 := bC.below hb3 bC.lt
  have lW : W.heap.size < w3.heap.size := bC3.lt
  have lt3 : B + 1 + 1 + 1 + 1 < w3.heap.size := by omega
  have ltR : B + 1 + 1 < w3.heap.size := by omega
  clear hc3 hf3 hb3 lA kA bC lA0 v0 v1 v2 v3 v4 v5 v6 v7 d0 d1 d2
  have d0 := bC3.c0
  have d1 := bC3.c1
  have d2 := bC3.c2
  have v0 := l3.1.cell (k := cZ d) (by omega)
  simp only at v0
  (refine wp_region_quiet_tail 8 (fun w' => Below w3.heap.size w3 w') (by kernel_rfl) (by kernel_rfl) (Below.drew (Below.refl _ _)) ?_; simp only [List.take_succ_cons, List.take_zero, List.drop_succ_cons, List.drop_zero]; (iterate 8 (refine wpQuiet_step (fun K hK => ?_); go_simp; first | (refine hK _ ?_; clear hK K) | (apply Exists.intro; refine ⟨fun W' hW' => ?_, hK _ ?_⟩; (focus (first | (with_reducible exact rfl) | (with_reducible exact ⟨rfl, rfl⟩) | (obtain ⟨hcq, hfq⟩ := bcell hW'; have hzq := hW'.size; (try go_simp); first | (with_reducible exact rfl) | (with_reducible exact ⟨rfl, rfl⟩) | (refine (bit_ok (cX d) (cY d) _ _ hx hy).mono ?_; rintro e w2 ⟨rfl, hb2⟩; exact ⟨rfl, hW'.trans (hb2.mono hW'.size)⟩)))); clear hK K))); refine wpQuiet_nil ?_; intro w1q hb1q)
  have l4 := l3.below hb1q
  have k4 := k3.trans (Keep2.below hb1q (show B ≤ w3.heap.size by omega))
  have bC4 := bC3.below hb1q bC3.lt
  have lW4 : W.heap.size < w1q.heap.size := bC4.lt
  have f4 := l4.1.free (cZ d)
  have c4 := l4.1.cell (k := cZ d) (by omega)
  simp only at c4
  clear d0 d1 d2 v0 l3 k3 bC3 lt3 ltR
  go_wp2
  have l5 := l4.setR (k := cZ d) (by omega) (andN (r (cZ d)) (bitN (cX d) (cY d)))
  have k5 := k4.setR (cZ d) (.int .u64 ((andN (r (cZ d)) (bitN (cX d) (cY d)) : Nat) : Int))
  have bC5 := bC4.other (b := B + 1 + 1) (o := cZ d) (by omega) (.int .u64 ((andN (r (cZ d)) (bitN (cX d) (cY d)) : Nat) : Int))
  obtain ⟨w5, hw5⟩ : ∃ w5, w5 = w1q.setCell ⟨B + 1 + 1, cZ d, none⟩ (.int .u64 ((andN (r (cZ d)) (bitN (cX d) (cY d)) : Nat) : Int)) := ⟨_, rfl⟩
  rw [← hw5] at l5 k5 bC5 ⊢
  clear hw5 l4 k4 bC4 lW4 f4 c4
  have lW : W.heap.size < w5.heap.size := bC5.lt
  have lt5 : B + 1 + 1 + 1 + 1 < w5.heap.size := by omega
  have ltK : B + 1 + 1 + 1 < w5.heap.size := by omega
  have d0 := bC5.c0
  have d1 := bC5.c1
  have d2 := bC5.c2
  have v0 := l5.2.1.cell (k := cZ d) (by omega)
  simp only at v0
  (refine wp_region_quiet_tail 8 (fun w' => Below w5.heap.size w5 w') (by kernel_rfl) (by kernel_rfl) (Below.drew (Below.refl _ _)) ?_; simp only [List.take_succ_cons, List.take_zero, List.drop_succ_cons, List.drop_zero]; (iterate 8 (refine wpQuiet_step (fun K hK => ?_); go_simp; first | (refine hK _ ?_; clear hK K) | (apply Exists.intro; refine ⟨fun W' hW' => ?_, hK _ ?_⟩; (focus (first | (with_reducible exact rfl) | (with_reducible exact ⟨rfl, rfl⟩) | (obtain ⟨hcq, hfq⟩ := bcell hW'; have hzq := hW'.size; (try go_simp); first | (with_reducible exact rfl) | (with_reducible exact ⟨rfl, rfl⟩) | (refine (bit_ok (cX d) (cY d) _ _ hx hy).mono ?_; rintro e w2 ⟨rfl, hb2⟩; exact ⟨rfl, hW'.trans (hb2.mono hW'.size)⟩)))); clear hK K))); refine wpQuiet_nil ?_; intro w1q hb1q)
  have l6 := l5.below hb1q
  have k6 := k5.trans (Keep2.below hb1q (show B ≤ w5.heap.size by omega))
  have bC6 := bC5.below hb1q bC5.lt
  have f6 := l6.2.1.free (cZ d)
  have c6 := l6.2.1.cell (k := cZ d) (by omega)
  simp only at c6
  clear d0 d1 d2 v0 l5 k5 bC5 lt5 ltK
  have l7 := l6.setK (k := cZ d) (by omega) (k (cZ d) ||| bitN (cX d) (cY d))
  have k7 := k6.setK (cZ d) (.int .u64 ((k (cZ d) ||| bitN (cX d) (cY d) : Nat) : Int))
  have bC7 := bC6.other (b := B + 1 + 1 + 1) (o := cZ d) (by omega) (.int .u64 ((k (cZ d) ||| bitN (cX d) (cY d) : Nat) : Int))
  have d0 := bC7.c0
  have d1 := bC7.c1
  have d2 := bC7.c2
  have cf := l7.2.2.1.cell
  have cl := l7.2.2.2.cell
  go_wp2_with (refine ⟨fun _ h => (by cases h), ?_⟩; go_wp2)
  obtain ⟨w7, hw7⟩ : ∃ w7, w7 = w1q.setCell ⟨B + 1 + 1 + 1, cZ d, none⟩ (.int .u64 ((k (cZ d) ||| bitN (cX d) (cY d) : Nat) : Int)) := ⟨_, rfl⟩
  rw [← hw7] at l7 k7 bC7 ⊢
  clear hw7 l6 k6 bC6 f6 c6 d0 d1 d2 cf cl
  refine ((callsIn_wide (n := 3)).1 (touching_in 3 _ _ _ w7)).mono ?_
  rintro e w8 ⟨rfl, rfl⟩
  go_wp2
  have lt7 := l7.lt
  have lW7 := bC7.lt
  have hA8 : Below w7.heap.size w7 (w7.alloc (.cells #[.int .i64 ((cX d : Nat) : Int), .int .i64 ((cY d : Nat) : Int), .int .i64 ((cZ d : Nat) : Int)] 26)) := (Below.refl _ w7).alloc (Nat.le_refl _) _
  have l8 := l7.below hA8
  have k8 := k7.trans (Keep2.below hA8 (show B ≤ w7.heap.size by omega))
  have bY : BoxC (w7.alloc (.cells #[.int .i64 ((cX d : Nat) : Int), .int .i64 ((cY d : Nat) : Int), .int .i64 ((cZ d : Nat) : Int)] 26)) w7.heap.size (cX d : Nat) (cY d : Nat) (cZ d : Nat) := BoxC.new rfl
  have hs8 : (w7.alloc (.cells #[.int .i64 ((cX d : Nat) : Int), .int .i64 ((cY d : Nat) : Int), .int .i64 ((cZ d : Nat) : Int)] 26)).heap.size = w7.heap.size + 1 := by simp
  obtain ⟨W0, hW0⟩ : ∃ W0, W0 = w7.alloc (.cells #[.int .i64 ((cX d : Nat) : Int), .int .i64 ((cY d : Nat) : Int), .int .i64 ((cZ d : Nat) : Int)] 26) := ⟨_, rfl⟩
  rw [← hW0] at l8 k8 bY hs8 ⊢
  clear hW0 hA8 l7 k7
  refine (wpIn_wide (n := 7)).1 ?_
  refine wpIn_rangeFunc_ownH rfl (by omega) (gf := 152) (lb := #[.pointer (some ⟨w7.heap.size, 0, none⟩)]) rfl trivial (enters_of Tryz.func152 (by kernel_rfl) rfl)
    (touch_stops _ (by omega) w7.heap.size B (cX d : Nat) (cY d : Nat) (cZ d : Nat) (toI_sm d) W0 bY) keepB_t (keepB_b (by omega) (by omega)) (Below.refl _ _) (fun _ => rfl)
    (fun (pre : List I3) W' => LeadW 123 B W' (dfsL touchL m pre (delS r d, setC k d)) ∧ Keep2 B W W')
    (fun _ _ _ => False)
    (OwnFrom.and (own_leadW 123 B _ (fun pre : List I3 => dfsL touchL m pre (delS r d, setC k d))) (own_keep2 (by omega) (by omega)))
    (fun _ _ _ _ _ hs _ _ => hs)
    ⟨l8, k8⟩
    (fun (y : I3) a' W' => ∃ By, B + 1 + 1 + 1 + 1 < By ∧ BoxC W' By y.1 y.2.1 y.2.2 ∧ a' = { tmps := #[cell d, .pointer (some ⟨B + 1 + 1, 0, none⟩), .pointer (some ⟨B + 1 + 1 + 1, 0, none⟩), .pointer (some ⟨B + 1, 0, none⟩), .pointer (some ⟨B + 1 + 1 + 1 + 1, 0, none⟩), .pointer (some ⟨W.heap.size, 0, none⟩), .pointer (some ⟨By, 0, none⟩),
      sol r, cell d, .bool true, .bool false, .pointer (some ⟨W.heap.size, 2, none⟩), .int .i64 (cZ d : Nat), .pointer (some ⟨B + 1 + 1, cZ d, none⟩), .int .u64 (r (cZ d) : Nat), cell d, .int .u64 (bitN (cX d) (cY d) : Nat), .int .u64 (andN (r (cZ d)) (bitN (cX d) (cY d)) : Nat), .pointer (some ⟨B + 1 + 1, cZ d, none⟩),
      .pointer (some ⟨W.heap.size, 2, none⟩), .int .i64 (cZ d : Nat), .pointer (some ⟨B + 1 + 1 + 1, cZ d, none⟩), .int .u64 (k (cZ d) : Nat), cell d, .int .u64 (bitN (cX d) (cY d) : Nat), .int .u64 (k (cZ d) ||| bitN (cX d) (cY d) : Nat), .pointer (some ⟨B + 1 + 1 + 1, cZ d, none⟩),
      .func (.func 123) #[] #[], cell d, .func (.func 152) #[] #[.pointer (some ⟨w7.heap.size, 0, none⟩)], encI y, undef, undef, undef], defers := [] })
    (fun x a' s X Y row ⟨Bx, h1, h2, h3⟩ hg hr => ⟨Bx, h1, own_block (β := Unit) _ _ _ rfl () X Y row h2 hg hr, h3⟩) ?assign ?body ?done ?stop
  case assign =>
    rintro l pre y W' K ⟨i1, i2⟩ hK
    gi_wp2
    have lt' := i1.lt
    exact hK _ _ ((KeepsOthers.alloc _ _).from _) ⟨(Below.refl _ W').alloc (by omega) _, fun o ho => (Below.heap_alloc W' _ _ (Array.getElem?_eq_some_iff.1 ho).1).trans ho⟩ ⟨i1.below ((Below.refl _ W').alloc (Nat.le_refl _) _), i2.alloc (by omega) _⟩ ⟨W'.heap.size, lt', BoxC.new rfl, rfl⟩
  case body =>
    rintro l pre y a' W' hl ⟨rc, hrc⟩ ⟨i1, i2⟩ ⟨By, hBy, bY', rfl⟩ hlt
    have e0 := bY'.c0
    have e1 := bY'.c1
    have e2 := bY'.c2
    have cl := i1.2.2.2.cell
    have HS := Lib.hid (dfsL_snoc touchL m pre y (delS r d, setC k d))
    have hc2 := dfsL_cnt touchL m pre (delS r d, setC k d)
    have hf2 := dfsL_fit touchL m pre (delS r d, setC k d) (delS_fit HR.out d) (setC_fit HK.out d)
    have HC := HI.out y (dfsL touchL m pre (delS r d, setC k d)) W' (Nat.lt_of_le_of_lt hc2 HM.out) hf2.1 hf2.2 i1
    gi_wp2_with (refine ⟨fun _ h => (by cases h), ?_⟩; gi_wp2)
    refine ⟨trivial, (CallsIn.inRound l (callsIn_wide.2 HC)).mono ?_⟩
    rintro e w9 ⟨⟨v, rfl⟩, kk, ll⟩
    gi_wp2
    exact ⟨kk.keeps i1, ⟨kk.1, fun o ho => (kk.2 _ (Array.getElem?_eq_some_iff.1 ho).1 (by omega) (by omega)).trans ho⟩, by rw [HS.out]; exact ll, i2.trans kk⟩
  case done =>
    rintro D ys W' hD rfl ⟨i1, i2⟩ hK
    gi_wp2
    refine ⟨by simp, .inl ⟨_, _, rfl, run_takeDeferred hK, ?_⟩⟩
    exact ⟨_, results_none rfl _ _ _, ⟨_, rfl⟩,
      own_keep2 (β := Unit) (B := B) (D := W0.heap.size) (w₀ := W) (by omega) (by omega) () _ _ _ i2 (grownBy_putObj' _ D _) (fun r e => by cases e; exact ⟨hD, _, hK, rfl⟩),
      own_leadW (β := Unit) 123 B W0.heap.size (fun _ => dfsL touchL m (touchL (toI d)) (delS r d, setC k d)) () _ _ _ i1 (grownBy_putObj' _ D _) (fun r e => by cases e; exact ⟨hD, _, hK, rfl⟩)⟩
  case stop =>
    rintro D c pre W _ _ h _
    exact h.elim
theorem leadT_ok (B : Nat) : ∀ (m : Nat) (c : I3) (s : Sol × Sol) (W : World), cnt s.1 < m → Fit s.1 → Fit s.2 → LeadW 123 B W s →
    Calls Tryz.prog 151 #[encI c, .pointer (some ⟨B + 1 + 1, 0, none⟩), .pointer (some ⟨B + 1 + 1 + 1, 0, none⟩), .pointer (some ⟨B + 1, 0, none⟩), .pointer (some ⟨B + 1 + 1 + 1 + 1, 0, none⟩)] W fun e w' =>
      (∃ v, e = .returned v) ∧ Keep2 B W w' ∧ LeadW 123 B w' (dfs touchL m c s) := by
  intro m
  induction m with
  | zero => intro c s W h; omega
  | succ m ih =>
    intro c s W h h1 h2 hL
    obtain ⟨r, k⟩ := s
    simp only at h h1 h2
    rw [dfs]
    by_cases hh : hasI r c = true
    · rw [if_pos hh]
      have hh2 := hh
      unfold hasI at hh2
      rw [Bool.and_eq_true] at hh2
      have h7 : In7 c := by unfold In7; exact of_decide_eq_true hh2.1
      obtain ⟨d, hd⟩ : ∃ d, d = ofI c := ⟨_, rfl⟩
      have hc : c = toI d := by
        rw [hd]
        unfold toI
        rw [ofI_x h7, ofI_y h7, ofI_z h7]
      have hdd : hasC r d = true := by rw [hd]; exact hh2.2
      have hlt := cnt_del hdd
      have := leadT_yes m r k d B W h1 h2 hL hdd ih (by omega)
      simp only
      rw [← hd]
      subst hc
      exact this
    · rw [if_neg hh]
      exact leadT_no r k c B W h1 hL (by simpa using hh)
end Go.Proofs.YtadkaplafaeebaaGreatDoor
