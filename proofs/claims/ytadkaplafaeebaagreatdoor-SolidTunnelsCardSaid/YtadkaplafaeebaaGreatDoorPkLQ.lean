/-
  classes' closure, which calls itself, over the cells that touch a cell.
-/
import Derived.Test.YtadkaplafaeebaaGreatDoorPkIQ
import Derived.Test.YtadkaplafaeebaaGreatDoorPkFQ
import Derived.Test.YtadkaplafaeebaaGreatDoorPkKQ
import Derived.Test.YtadkaplafaeebaaGreatDoorPkEQ
set_option linter.unusedVariables false
set_option linter.unusedSimpArgs false
namespace Go.Proofs.YtadkaplafaeebaaGreatDoor
open Go Go.RowKit Go.Shelf

attribute [local go_sem] Oper.semAt_some

set_option maxRecDepth 100000 in
set_option maxHeartbeats 4000000 in
theorem leadT_no (r k : Sol) (c : I3) (B : Nat) (W : World) (hr : Fit r) (hL : LeadW 123 B W (r, k)) (hh : hasI r c = false) :
    Calls Tryz.prog 151 #[encI c, .pointer (some ⟨B + 1 + 1, 0, none⟩), .pointer (some ⟨B + 1 + 1 + 1, 0, none⟩), .pointer (some ⟨B + 1, 0, none⟩), .pointer (some ⟨B + 1 + 1 + 1 + 1, 0, none⟩)] W fun e w' =>
      (∃ v, e = .returned v) ∧ Keep2 B W w' ∧ LeadW 123 B w' (r, k) := by
  have HR := Lib.hid hr
  have lt := hL.lt
  have hLR := hL.1
  simp only at hLR
  have hLA := hLR.alloc (.cells #[.int .i64 c.1, .int .i64 c.2.1, .int .i64 c.2.2] 26)
  have v0 := (hLA).cell (k := 0) (by omega); have v1 := (hLA).cell (k := 1) (by omega); have v2 := (hLA).cell (k := 2) (by omega); have v3 := (hLA).cell (k := 3) (by omega); have v4 := (hLA).cell (k := 4) (by omega); have v5 := (hLA).cell (k := 5) (by omega); have v6 := (hLA).cell (k := 6) (by omega); have v7 := (hLA).cell (k := 7) (by omega)
  refine (callsIn_wide (n := 7)).1 ?_
  refine callsIn_of_wp_marks Tryz.func151 rfl trivial ?_ rfl
  simp only [Tryz.ntmps151, List.size_toArray, List.length_cons, List.length_nil, Nat.reduceAdd, Nat.reduceSub, Array.replicate_succ, Array.replicate_zero, List.push_toArray, List.append_toArray, List.nil_append, List.cons_append]
  refine wpIn_wide.2 ?_
  have d0 := (BoxC.new (W := W) (x := c.1) (y := c.2.1) (z := c.2.2) rfl).c0
  have d1 := (BoxC.new (W := W) (x := c.1) (y := c.2.1) (z := c.2.2) rfl).c1
  have d2 := (BoxC.new (W := W) (x := c.1) (y := c.2.1) (z := c.2.2) rfl).c2
  go_wp2_with (go_at_call 23; refine (has_ok r c _ HR.out).mono ?_; rintro e w3 ⟨rfl, hb3⟩; obtain ⟨hc3, hf3⟩ := bcell hb3; rw [hh])
  have hA : Below W.heap.size W (W.alloc (.cells #[.int .i64 c.1, .int .i64 c.2.1, .int .i64 c.2.2] 26)) := by repeat' (first | (with_reducible exact Below.refl _ _) | (with_reducible assumption) | (with_reducible refine Below.alloc ?_ ?_ _) | (with_reducible refine Below.drew ?_) | (with_reducible refine below_drewN ?_ _) | (with_reducible refine Below.setCell ?_ ?_ _) | go_size)
  exact ⟨_, results_none rfl _ _ _, ⟨_, rfl⟩, (Keep2.below hA (by omega)).trans (Keep2.below hb3 (by simp <;> omega)), (hL.below hA).below hb3⟩
set_option maxRecDepth 100000 in
set_option maxHeartbeats 4000000 in
theorem leadT_yes (m : Nat) (r k : Sol) (d : Cl) (B : Nat) (W : World) (hr : Fit r) (hk : Fit k) (hL : LeadW 123 B W (r, k)) (hh : hasC r d = true)
    (IH : ∀ (c : I3) (s : Sol × Sol) (W : World), cnt s.1 < m → Fit s.1 → Fit s.2 → LeadW 123 B W s →
      Calls Tryz.prog 151 #[encI c, .pointer (some ⟨B + 1 + 1, 0, none⟩), .pointer (some ⟨B + 1 + 1 + 1, 0, none⟩), .pointer (some ⟨B + 1, 0, none⟩), .pointer (some ⟨B + 1 + 1 + 1 + 1, 0, none⟩)] W fun e w' =>
        (∃ v, e = .returned v) ∧ Keep2 B W w' ∧ LeadW 123 B w' (dfs touchL m c s))
    (hm : cnt (delS r d) < m) :
    Calls Tryz.prog 151 #[cell d, .pointer (some ⟨B + 1 + 1, 0, none⟩), .pointer (some ⟨B + 1 + 1 + 1, 0, none⟩), .pointer (some ⟨B + 1, 0, none⟩), .pointer (some ⟨B + 1 + 1 + 1 + 1, 0, none⟩)] W fun e w' =>
      (∃ v, e = .returned v) ∧ Keep2 B W w' ∧ LeadW 123 B w' (dfsL touchL m (touchL (toI d)) (delS r d, setC k d)) := by
  have HR := Lib.hid hr
  have HK := Lib.hid hk
  have HI := Lib.hid IH
  have HM := Lib.hid hm
  clear hr hk IH hm
  have hx := X_le d
  have hy := Y_le d
  have hz := Z_le d
  have hzi : ((cZ d : Nat) : Int) < 8 := by omega
  have lt := hL.lt
  have b1 := HR.out (cZ d)
  have hand := bits_andNot b1 (bit_lt hx hy)
  have hor := bits_or (HK.out (cZ d)) (bit_lt hx hy)
  have hhI : hasI r (toI d) = true := by
    unfold hasI
    rw [inG_cell d]
    have : ofI (toI d) = d := by
      apply Fin.ext
      rw [ofI_val (toI_in7 d)]
      unfold toI cX cY cZ
      simp only
      omega
    rw [this, hh]
    rfl
  refine (callsIn_wide (n := 7)).1 ?_
  refine callsIn_of_wp_marks Tryz.func151 rfl trivial ?_ rfl
  simp only [Tryz.ntmps151, List.size_toArray, List.length_cons, List.length_nil, Nat.reduceAdd, Nat.reduceSub, Array.replicate_succ, Array.replicate_zero, List.push_toArray, List.append_toArray, List.nil_append, List.cons_append]
  refine wpIn_wide.2 ?_
  have hA : Below W.heap.size W (W.alloc (.cells #[.int .i64 ((cX d : Nat) : Int), .int .i64 ((cY d : Nat) : Int), .int .i64 ((cZ d : Nat) : Int)] 26)) := by repeat' (first | (with_reducible exact Below.refl _ _) | (with_reducible assumption) | (with_reducible refine Below.alloc ?_ ?_ _) | (with_reducible refine Below.drew ?_) | (with_reducible refine below_drewN ?_ _) | (with_reducible refine Below.setCell ?_ ?_ _) | go_size)
  have bC : BoxC (W.alloc (.cells #[.int .i64 ((cX d : Nat) : Int), .int .i64 ((cY d : Nat) : Int), .int .i64 ((cZ d : Nat) : Int)] 26)) W.heap.size (cX d : Nat) (cY d : Nat) (cZ d : Nat) := BoxC.new rfl
  have lA := hL.below hA
  have kA := Keep2.below hA (show B ≤ W.heap.size by omega)
  have lA0 := lA.1
  simp only at lA0
  have v0 := (lA0).cell (k := 0) (by omega); have v1 := (lA0).cell (k := 1) (by omega); have v2 := (lA0).cell (k := 2) (by omega); have v3 := (lA0).cell (k := 3) (by omega); have v4 := (lA0).cell (k := 4) (by omega); have v5 := (lA0).cell (k := 5) (by omega); have v6 := (lA0).cell (k := 6) (by omega); have v7 := (lA0).cell (k := 7) (by omega)
  have d0 := bC.c0
  have d1 := bC.c1
  have d2 := bC.c2
  go_wp2_with (go_at_call 23; refine (has_ok r (toI d) _ HR.out).mono ?_; rintro e w3 ⟨rfl, hb3⟩; obtain ⟨hc3, hf3⟩ := bcell hb3; rw [hhI])
  have l3 := lA.below hb3
  have k3 := kA.trans (Keep2.below hb3 (show B ≤ (W.alloc (.cells #[.int .i64 ((cX d : Nat) : Int), .int .i64 ((cY d : Nat) : Int), .int .i64 ((cZ d : Nat) : Int)] 26)).heap.size by simp <;> omega))
  have bC3 := bC.below hb3 bC.lt
  have lW : W.heap.size < w3.heap.size := bC3.lt
  have lt3 : B + 1 + 1 + 1 + 1 < w3.heap.size := by omega
  have ltR : B + 1 + 1 < w3.heap.size := by omega
  clear hc3 hf3 hb3 lA kA bC lA0 v0 v1 v2 v3 v4 v5 v6 v7 d0 d1 d2
  have d0 := bC3.c0
  have d1 := bC3.c1
  have d2 := bC3.c2
  have v0 := l3.1.cell (k := cZ d) (by omega)
  simp only at v0
  (refine wp_region_quiet_tail 8 (fun w' => Below w3.heap.size w3 w') (by kernel_rfl) (by kernel_rfl) (Below.drew (Below.refl _ _)) ?_; simp only [List.take_succ_cons, List.take_zero, List.drop_succ_cons, List.drop_zero]; (iterate 8 (refine wpQuiet_step (fun K hK => ?_); go_simp; first | (refine hK _ ?_; clear hK K) | (apply Exists.intro; refine ⟨fun W' hW' => ?_, hK _ ?_⟩; (focus (first | (with_reducible exact rfl) | (with_reducible exact ⟨rfl, rfl⟩) | (obtain ⟨hcq, hfq⟩ := bcell hW'; have hzq := hW'.size; (try go_simp); first | (with_reducible exact rfl) | (with_reducible exact ⟨rfl, rfl⟩) | (refine (bit_ok (cX d) (cY d) _ _ hx hy).mono ?_; rintro e w2 ⟨rfl, hb2⟩; exact ⟨rfl, hW'.trans (hb2.mono hW'.size)⟩)))); clear hK K))); refine wpQuiet_nil ?_; intro w1q hb1q)
  have l4 := l3.below hb1q
  have k4 := k3.trans (Keep2.below hb1q (show B ≤ w3.heap.size by omega))
  have bC4 := bC3.below hb1q bC3.lt
  have lW4 : W.heap.size < w1q.heap.size := bC4.lt
  have f4 := l4.1.free (cZ d)
  have c4 := l4.1.cell (k := cZ d) (by omega)
  simp only at c4
  clear d0 d1 d2 v0 l3 k3 bC3 lt3 ltR
  go_wp2
  have l5 := l4.setR (k := cZ d) (by omega) (andN (r (cZ d)) (bitN (cX d) (cY d)))
  have k5 := k4.setR (cZ d) (.int .u64 ((andN (r (cZ d)) (bitN (cX d) (cY d)) : Nat) : Int))
  have bC5 := bC4.other (b := B + 1 + 1) (o := cZ d) (by omega) (.int .u64 ((andN (r (cZ d)) (bitN (cX d) (cY d)) : Nat) : Int))
  obtain ⟨w5, hw5⟩ : ∃ w5, w5 = w1q.setCell ⟨B + 1 + 1, cZ d, none⟩ (.int .u64 ((andN (r (cZ d)) (bitN (cX d) (cY d)) : Nat) : Int)) := ⟨_, rfl⟩
  rw [← hw5] at l5 k5 bC5 ⊢
  clear hw5 l4 k4 bC4 lW4 f4 c4
  have lW : W.heap.size < w5.heap.size := bC5.lt
  have lt5 : B + 1 + 1 + 1 + 1 < w5.heap.size := by omega
  have ltK : B + 1 + 1 + 1 < w5.heap.size := by omega
  have d0 := bC5.c0
  have d1 := bC5.c1
  have d2 := bC5.c2
  have v0 := l5.2.1.cell (k := cZ d) (by omega)
  simp only at v0
  (refine wp_region_quiet_tail 8 (fun w' => Below w5.heap.size w5 w') (by kernel_rfl) (by kernel_rfl) (Below.drew (Below.refl _ _)) ?_; simp only [List.take_succ_cons, List.take_zero, List.drop_succ_cons, List.drop_zero]; (iterate 8 (refine wpQuiet_step (fun K hK => ?_); go_simp; first | (refine hK _ ?_; clear hK K) | (apply Exists.intro; refine ⟨fun W' hW' => ?_, hK _ ?_⟩; (focus (first | (with_reducible exact rfl) | (with_reducible exact ⟨rfl, rfl⟩) | (obtain ⟨hcq, hfq⟩ := bcell hW'; have hzq := hW'.size; (try go_simp); first | (with_reducible exact rfl) | (with_reducible exact ⟨rfl, rfl⟩) | (refine (bit_ok (cX d) (cY d) _ _ hx hy).mono ?_; rintro e w2 ⟨rfl, hb2⟩; exact ⟨rfl, hW'.trans (hb2.mono hW'.size)⟩)))); clear hK K))); refine wpQuiet_nil ?_; intro w1q hb1q)
  have l6 := l5.below hb1q
  have k6 := k5.trans (Keep2.below hb1q (show B ≤ w5.heap.size by omega))
  have bC6 := bC5.below hb1q bC5.lt
  have f6 := l6.2.1.free (cZ d)
  have c6 := l6.2.1.cell (k := cZ d) (by omega)
  simp only at c6
  clear d0 d1 d2 v0 l5 k5 bC5 lt5 ltK
  have l7 := l6.setK (k := cZ d) (by omega) (k (cZ d) ||| bitN (cX d) (cY d))
  have k7 := k6.setK (cZ d) (.int .u64 ((k (cZ d) ||| bitN (cX d) (cY d) : Nat) : Int))
  have bC7 := bC6.other (b := B + 1 + 1 + 1) (o := cZ d) (by omega) (.int .u64 ((k (cZ d) ||| bitN (cX d) (cY d) : Nat) : Int))
  have d0 := bC7.c0
  have d1 := bC7.c1
  have d2 := bC7.c2
  have cf := l7.2.2.1.cell
  have cl := l7.2.2.2.cell
  go_wp2_with (refine ⟨fun _ h => (by cases h), ?_⟩; go_wp2)
  obtain ⟨w7, hw7⟩ : ∃ w7, w7 = w1q.setCell ⟨B + 1 + 1 + 1, cZ d, none⟩ (.int .u64 ((k (cZ d) ||| bitN (cX d) (cY d) : Nat) : Int)) := ⟨_, rfl⟩
  rw [← hw7] at l7 k7 bC7 ⊢
  clear hw7 l6 k6 bC6 f6 c6 d0 d1 d2 cf cl
  refine ((callsIn_wide (n := 3)).1 (touching_in 3 _ _ _ w7)).mono ?_
  rintro e w8 ⟨rfl, rfl⟩
  go_wp2
  have lt7 := l7.lt
  have lW7 := bC7.lt
  have hA8 : Below w7.heap.size w7 (w7.alloc (.cells #[.int .i64 ((cX d : Nat) : Int), .int .i64 ((cY d : Nat) : Int), .int .i64 ((cZ d : Nat) : Int)] 26)) := (Below.refl _ w7).alloc (Nat.le_refl _) _
  have l8 := l7.below hA8
  have k8 := k7.trans (Keep2.below hA8 (show B ≤ w7.heap.size by omega))
  have bY : BoxC (w7.alloc (.cells #[.int .i64 ((cX d : Nat) : Int), .int .i64 ((cY d : Nat) : Int), .int .i64 ((cZ d : Nat) : Int)] 26)) w7.heap.size (cX d : Nat) (cY d : Nat) (cZ d : Nat) := BoxC.new rfl
  have hs8 : (w7.alloc (.cells #[.int .i64 ((cX d : Nat) : Int), .int .i64 ((cY d : Nat) : Int), .int .i64 ((cZ d : Nat) : Int)] 26)).heap.size = w7.heap.size + 1 := by simp
  obtain ⟨W0, hW0⟩ : ∃ W0, W0 = w7.alloc (.cells #[.int .i64 ((cX d : Nat) : Int), .int .i64 ((cY d : Nat) : Int), .int .i64 ((cZ d : Nat) : Int)] 26) := ⟨_, rfl⟩
  rw [← hW0] at l8 k8 bY hs8 ⊢
  clear hW0 hA8 l7 k7
  refine (wpIn_wide (n := 7)).1 ?_
  refine wpIn_rangeFunc_ownH rfl (by omega) (gf := 152) (lb := #[.pointer (some ⟨w7.heap.size, 0, none⟩)]) rfl trivial (enters_of Tryz.func152 (by kernel_rfl) rfl)
    (touch_stops _ (by omega) w7.heap.size B (cX d : Nat) (cY d : Nat) (cZ d : Nat) (toI_sm d) W0 bY) keepB_t (keepB_b (by omega) (by omega)) (Below.refl _ _) (fun _ => rfl)
    (fun (pre : List I3) W' => LeadW 123 B W' (dfsL touchL m pre (delS r d, setC k d)) ∧ Keep2 B W W')
    (fun _ _ _ => False)
    (OwnFrom.and (own_leadW 123 B _ (fun pre : List I3 => dfsL touchL m pre (delS r d, setC k d))) (own_keep2 (by omega) (by omega)))
    (fun _ _ _ _ _ hs _ _ => hs)
    ⟨l8, k8⟩
    (fun (y : I3) a' W' => ∃ By, B + 1 + 1 + 1 + 1 < By ∧ BoxC W' By y.1 y.2.1 y.2.2 ∧ a' = { tmps := #[cell d, .pointer (some ⟨B + 1 + 1, 0, none⟩), .pointer (some ⟨B + 1 + 1 + 1, 0, none⟩), .pointer (some ⟨B + 1, 0, none⟩), .pointer (some ⟨B + 1 + 1 + 1 + 1, 0, none⟩), .pointer (some ⟨W.heap.size, 0, none⟩), .pointer (some ⟨By, 0, none⟩),
      sol r, cell d, .bool true, .bool false, .pointer (some ⟨W.heap.size, 2, none⟩), .int .i64 (cZ d : Nat), .pointer (some ⟨B + 1 + 1, cZ d, none⟩), .int .u64 (r (cZ d) : Nat), cell d, .int .u64 (bitN (cX d) (cY d) : Nat), .int .u64 (andN (r (cZ d)) (bitN (cX d) (cY d)) : Nat), .pointer (some ⟨B + 1 + 1, cZ d, none⟩),
      .pointer (some ⟨W.heap.size, 2, none⟩), .int .i64 (cZ d : Nat), .pointer (some ⟨B + 1 + 1 + 1, cZ d, none⟩), .int .u64 (k (cZ d) : Nat), cell d, .int .u64 (bitN (cX d) (cY d) : Nat), .int .u64 (k (cZ d) ||| bitN (cX d) (cY d) : Nat), .pointer (some ⟨B + 1 + 1 + 1, cZ d, none⟩),
      .func (.func 123) #[] #[], cell d, .func (.func 152) #[] #[.pointer (some ⟨w7.heap.size, 0, none⟩)], encI y, undef, undef, undef], defers := [] })
    (fun x a' s X Y row ⟨Bx, h1, h2, h3⟩ hg hr => ⟨Bx, h1, own_block (β := Unit) _ _ _ rfl () X Y row h2 hg hr, h3⟩) ?assign ?body ?done ?stop
  case assign =>
    rintro l pre y W' K ⟨i1, i2⟩ hK
    gi_wp2
    have lt' := i1.lt
    exact hK _ _ ((KeepsOthers.alloc _ _).from _) ⟨(Below.refl _ W').alloc (by omega) _, fun o ho => (Below.heap_alloc W' _ _ (Array.getElem?_eq_some_iff.1 ho).1).trans ho⟩ ⟨i1.below ((Below.refl _ W').alloc (Nat.le_refl _) _), i2.alloc (by omega) _⟩ ⟨W'.heap.size, lt', BoxC.new rfl, rfl⟩
  case body =>
    rintro l pre y a' W' hl ⟨rc, hrc⟩ ⟨i1, i2⟩ ⟨By, hBy, bY', rfl⟩ hlt
    have e0 := bY'.c0
    have e1 := bY'.c1
    have e2 := bY'.c2
    have cl := i1.2.2.2.cell
    have HS := Lib.hid (dfsL_snoc touchL m pre y (delS r d, setC k d))
    have hc2 := dfsL_cnt touchL m pre (delS r d, setC k d)
    have hf2 := dfsL_fit touchL m pre (delS r d, setC k d) (delS_fit HR.out d) (setC_fit HK.out d)
    have HC := HI.out y (dfsL touchL m pre (delS r d, setC k d)) W' (Nat.lt_of_le_of_lt hc2 HM.out) hf2.1 hf2.2 i1
    gi_wp2_with (refine ⟨fun _ h => (by cases h), ?_⟩; gi_wp2)
    refine ⟨trivial, (CallsIn.inRound l (callsIn_wide.2 HC)).mono ?_⟩
    rintro e w9 ⟨⟨v, rfl⟩, kk, ll⟩
    gi_wp2
    exact ⟨kk.keeps i1, ⟨kk.1, fun o ho => (kk.2 _ (Array.getElem?_eq_some_iff.1 ho).1 (by omega) (by omega)).trans ho⟩, by rw [HS.out]; exact ll, i2.trans kk⟩
  case done =>
    rintro D ys W' hD rfl ⟨i1, i2⟩ hK
    gi_wp2
    refine ⟨by simp, .inl ⟨_, _, rfl, run_takeDeferred hK, ?_⟩⟩
    exact ⟨_, results_none rfl _ _ _, ⟨_, rfl⟩,
      own_keep2 (β := Unit) (B := B) (D := W0.heap.size) (w₀ := W) (by omega) (by omega) () _ _ _ i2 (grownBy_putObj' _ D _) (fun r e => by cases e; exact ⟨hD, _, hK, rfl⟩),
      own_leadW (β := Unit) 123 B W0.heap.size (fun _ => dfsL touchL m (touchL (toI d)) (delS r d, setC k d)) () _ _ _ i1 (grownBy_putObj' _ D _) (fun r e => by cases e; exact ⟨hD, _, hK, rfl⟩)⟩
  case stop =>
    rintro D c pre W _ _ h _
    exact h.elim
theorem leadT_ok (B : Nat) : ∀ (m : Nat) (c : I3) (s : Sol × Sol) (W : World), cnt s.1 < m → Fit s.1 → Fit s.2 → LeadW 123 B W s →
    Calls Tryz.prog 151 #[encI c, .pointer (some ⟨B + 1 + 1, 0, none⟩), .pointer (some ⟨B + 1 + 1 + 1, 0, none⟩), .pointer (some ⟨B + 1, 0, none⟩), .pointer (some ⟨B + 1 + 1 + 1 + 1, 0, none⟩)] W fun e w' =>
      (∃ v, e = .returned v) ∧ Keep2 B W w' ∧ LeadW 123 B w' (dfs touchL m c s) := by
  intro m
  induction m with
  | zero => intro c s W h; omega
  | succ m ih =>
    intro c s W h h1 h2 hL
    obtain ⟨r, k⟩ := s
    simp only at h h1 h2
    rw [dfs]
    by_cases hh : hasI r c = true
    · rw [if_pos hh]
      have hh2 := hh
      unfold hasI at hh2
      rw [Bool.and_eq_true] at hh2
      have h7 : In7 c := by unfold In7; exact of_decide_eq_true hh2.1
      obtain ⟨d, hd⟩ : ∃ d, d = ofI c := ⟨_, rfl⟩
      have hc : c = toI d := by
        rw [hd]
        unfold toI
        rw [ofI_x h7, ofI_y h7, ofI_z h7]
      have hdd : hasC r d = true := by rw [hd]; exact hh2.2
      have hlt := cnt_del hdd
      have := leadT_yes m r k d B W h1 h2 hL hdd ih (by omega)
      simp only
      rw [← hd]
      subst hc
      exact this
    · rw [if_neg hh]
      exact leadT_no r k c B W h1 hL (by simpa using hh)
end Go.Proofs.YtadkaplafaeebaaGreatDoor
/-
  classes, over the cells that touch a cell.
-/
set_option linter.unusedVariables false
set_option linter.unusedSimpArgs false
namespace Go.Proofs.YtadkaplafaeebaaGreatDoor
open Go Go.RowKit Go.Shelf

attribute [local go_sem] Oper.semAt_some

set_option maxRecDepth 100000 in
set_option maxHeartbeats 4000000 in
theorem classesT_ok (f : Sol) (w : World) (hf : Fit f) (hT : Tab64 w) :
    Calls Tryz.prog 122 #[sol f, .func (.func 123) #[] #[]] w fun e w' => ∃ v, e = .returned v ∧ w'.ownsRow (w.heap.size + 1 + 1 + 1 + 1 + 1) 24 8 v (clsF touchL f).length (flatS (clsF touchL f)) ∧ (v = .slice none 0 0 ↔ clsF touchL f = []) ∧ Below w.heap.size w w' := by
  have HF := Lib.hid hf
  have HTT := Lib.hid hT
  clear hf hT
  obtain ⟨i0, hi, hz0, hz1, hz2⟩ := info_parts info_sol
  have hmf : ∀ (fn : Fn) (first cap : Array Value) (w : World), (Instr.makeFunc fn first cap).run Tryz.prog w = .ok (.func fn first cap) w := fun _ _ _ _ => rfl
  refine (callsIn_wide (n := 7)).1 ?_
  refine callsIn_of_wp_marks Tryz.func122 rfl trivial ?_ rfl
  simp only [Tryz.ntmps122, List.size_toArray, List.length_cons, List.length_nil, Nat.reduceAdd, Nat.reduceSub, Array.replicate_succ, Array.replicate_zero, List.push_toArray, List.append_toArray, List.nil_append, List.cons_append]
  gi_wp2_with (refine ⟨trivial, ?_⟩; gi_at_call 94; refine (cells_in _ f _).mono ?_; rintro e w1 ⟨rfl, rfl⟩)
  have l0 : LeadW 123 w.heap.size (((((((w.alloc (.cells (solC f) 24)).alloc (.cells #[.func (.func 123) #[] #[]] 106)).alloc (.cells (solC f) 24)).alloc (.cells #[.int .u64 0, .int .u64 0, .int .u64 0, .int .u64 0, .int .u64 0, .int .u64 0, .int .u64 0, .int .u64 0] 24)).alloc (.cells #[.func (.func 151) #[] #[.pointer (some ⟨w.heap.size + 1 + 1, 0, none⟩), .pointer (some ⟨w.heap.size + 1 + 1 + 1, 0, none⟩), .pointer (some ⟨w.heap.size + 1, 0, none⟩), .pointer (some ⟨w.heap.size + 1 + 1 + 1 + 1, 0, none⟩)]] 127)).alloc (.cells #[.slice none 0 0] 58)).alloc (.cells (solC f) 24)) (f, fun _ => 0) :=
    ⟨((((BoxS.new' (by simp)).alloc _).alloc _).alloc _).alloc _, (((BoxS.zero (by simp)).alloc _).alloc _).alloc _, (((((boxed_at (by simp)).alloc _).alloc _).alloc _).alloc _).alloc _, ((boxed_at (by simp)).alloc _).alloc _⟩
  have b0 : Boxed (((((((w.alloc (.cells (solC f) 24)).alloc (.cells #[.func (.func 123) #[] #[]] 106)).alloc (.cells (solC f) 24)).alloc (.cells #[.int .u64 0, .int .u64 0, .int .u64 0, .int .u64 0, .int .u64 0, .int .u64 0, .int .u64 0, .int .u64 0] 24)).alloc (.cells #[.func (.func 151) #[] #[.pointer (some ⟨w.heap.size + 1 + 1, 0, none⟩), .pointer (some ⟨w.heap.size + 1 + 1 + 1, 0, none⟩), .pointer (some ⟨w.heap.size + 1, 0, none⟩), .pointer (some ⟨w.heap.size + 1 + 1 + 1 + 1, 0, none⟩)]] 127)).alloc (.cells #[.slice none 0 0] 58)).alloc (.cells (solC f) 24)) (w.heap.size + 1 + 1 + 1 + 1 + 1) 58 (.slice none 0 0) := (boxed_at (by simp)).alloc _
  have bR : BoxS (((((((w.alloc (.cells (solC f) 24)).alloc (.cells #[.func (.func 123) #[] #[]] 106)).alloc (.cells (solC f) 24)).alloc (.cells #[.int .u64 0, .int .u64 0, .int .u64 0, .int .u64 0, .int .u64 0, .int .u64 0, .int .u64 0, .int .u64 0] 24)).alloc (.cells #[.func (.func 151) #[] #[.pointer (some ⟨w.heap.size + 1 + 1, 0, none⟩), .pointer (some ⟨w.heap.size + 1 + 1 + 1, 0, none⟩), .pointer (some ⟨w.heap.size + 1, 0, none⟩), .pointer (some ⟨w.heap.size + 1 + 1 + 1 + 1, 0, none⟩)]] 127)).alloc (.cells #[.slice none 0 0] 58)).alloc (.cells (solC f) 24)) (w.heap.size + 1 + 1 + 1 + 1 + 1 + 1) f := BoxS.new' (by simp)
  have hB0 : Below w.heap.size w (((((((w.alloc (.cells (solC f) 24)).alloc (.cells #[.func (.func 123) #[] #[]] 106)).alloc (.cells (solC f) 24)).alloc (.cells #[.int .u64 0, .int .u64 0, .int .u64 0, .int .u64 0, .int .u64 0, .int .u64 0, .int .u64 0, .int .u64 0] 24)).alloc (.cells #[.func (.func 151) #[] #[.pointer (some ⟨w.heap.size + 1 + 1, 0, none⟩), .pointer (some ⟨w.heap.size + 1 + 1 + 1, 0, none⟩), .pointer (some ⟨w.heap.size + 1, 0, none⟩), .pointer (some ⟨w.heap.size + 1 + 1 + 1 + 1, 0, none⟩)]] 127)).alloc (.cells #[.slice none 0 0] 58)).alloc (.cells (solC f) 24)) := by repeat' (first | (with_reducible exact Below.refl _ _) | (with_reducible assumption) | (with_reducible refine Below.alloc ?_ ?_ _) | (with_reducible refine Below.drew ?_) | (with_reducible refine below_drewN ?_ _) | (with_reducible refine Below.setCell ?_ ?_ _) | go_size)
  have hsz : (((((((w.alloc (.cells (solC f) 24)).alloc (.cells #[.func (.func 123) #[] #[]] 106)).alloc (.cells (solC f) 24)).alloc (.cells #[.int .u64 0, .int .u64 0, .int .u64 0, .int .u64 0, .int .u64 0, .int .u64 0, .int .u64 0, .int .u64 0] 24)).alloc (.cells #[.func (.func 151) #[] #[.pointer (some ⟨w.heap.size + 1 + 1, 0, none⟩), .pointer (some ⟨w.heap.size + 1 + 1 + 1, 0, none⟩), .pointer (some ⟨w.heap.size + 1, 0, none⟩), .pointer (some ⟨w.heap.size + 1 + 1 + 1 + 1, 0, none⟩)]] 127)).alloc (.cells #[.slice none 0 0] 58)).alloc (.cells (solC f) 24)).heap.size = w.heap.size + 7 := by simp
  obtain ⟨W0, hW0⟩ : ∃ W0, W0 = (((((((w.alloc (.cells (solC f) 24)).alloc (.cells #[.func (.func 123) #[] #[]] 106)).alloc (.cells (solC f) 24)).alloc (.cells #[.int .u64 0, .int .u64 0, .int .u64 0, .int .u64 0, .int .u64 0, .int .u64 0, .int .u64 0, .int .u64 0] 24)).alloc (.cells #[.func (.func 151) #[] #[.pointer (some ⟨w.heap.size + 1 + 1, 0, none⟩), .pointer (some ⟨w.heap.size + 1 + 1 + 1, 0, none⟩), .pointer (some ⟨w.heap.size + 1, 0, none⟩), .pointer (some ⟨w.heap.size + 1 + 1 + 1 + 1, 0, none⟩)]] 127)).alloc (.cells #[.slice none 0 0] 58)).alloc (.cells (solC f) 24)) := ⟨_, rfl⟩
  rw [← hW0] at l0 b0 bR hB0 hsz ⊢
  clear hW0
  refine wpIn_rangeFunc_ownH rfl (by omega) (gf := 137) (lb := #[.pointer (some ⟨w.heap.size + 1 + 1 + 1 + 1 + 1 + 1, 0, none⟩)]) rfl trivial (enters_of Tryz.func137 (by kernel_rfl) rfl)
    (cells_stops _ (by omega) (w.heap.size + 1 + 1 + 1 + 1 + 1 + 1) w.heap.size f HF.out W0 (HTT.out.below hB0 (Nat.le_refl _)) bR HTT.out.pos) belowK_t (belowK_b (by omega)) (Below.refl _ _) (fun _ => rfl)
    (fun (pre : List Cl) W => (∃ k, LeadW 123 w.heap.size W ((clsAt touchL f pre).1, k)) ∧ HoldL W (w.heap.size + 1 + 1 + 1 + 1 + 1) (clsAt touchL f pre).2 ∧ Below w.heap.size w W)
    (fun _ _ _ => False)
    (OwnFrom.and (fun s X Y row ⟨k, h⟩ hg hr => ⟨k, own_leadW 123 w.heap.size _ (fun _ : Unit => ((clsAt touchL f s).1, k)) () X Y row h hg hr⟩) (OwnFrom.and (own_holdL _ _ fun pre => (clsAt touchL f pre).2) (ownFrom_below (Nat.le_refl _) (by omega))))
    (fun _ _ _ _ _ hs _ _ => hs)
    ⟨⟨_, l0⟩, ⟨_, b0, World.ownsRow_nil _ _ _ _, by simp [clsAt]⟩, hB0⟩
    (fun (x : Cl) a' W => ∃ Bx, w.heap.size + 1 + 1 + 1 + 1 + 1 < Bx ∧ BoxC W Bx (cX x : Nat) (cY x : Nat) (cZ x : Nat) ∧ a' = { tmps := #[sol f, .func (.func 123) #[] #[], .pointer (some ⟨w.heap.size, 0, none⟩), .pointer (some ⟨w.heap.size + 1, 0, none⟩), .slice none 0 0, .pointer (some ⟨w.heap.size + 1 + 1, 0, none⟩), .pointer (some ⟨w.heap.size + 1 + 1 + 1, 0, none⟩), .pointer (some ⟨w.heap.size + 1 + 1 + 1 + 1, 0, none⟩), .pointer (some ⟨w.heap.size + 1 + 1 + 1 + 1 + 1, 0, none⟩), .pointer (some ⟨Bx, 0, none⟩),
      sol f, .func (.func 151) #[] #[.pointer (some ⟨w.heap.size + 1 + 1, 0, none⟩), .pointer (some ⟨w.heap.size + 1 + 1 + 1, 0, none⟩), .pointer (some ⟨w.heap.size + 1, 0, none⟩), .pointer (some ⟨w.heap.size + 1 + 1 + 1 + 1, 0, none⟩)], sol f, .func (.func 137) #[] #[.pointer (some ⟨w.heap.size + 1 + 1 + 1 + 1 + 1 + 1, 0, none⟩)], cell x, undef, undef, undef, undef, undef, undef, undef, undef, undef, undef, undef, undef], defers := [] })
    (fun x a' s X Y row ⟨Bx, h1, h2, h3⟩ hg hr => ⟨Bx, h1, own_block (β := Unit) _ _ _ rfl () X Y row h2 hg hr, h3⟩) ?assign ?body ?done ?stop
  case assign =>
    rintro l pre x W K ⟨⟨k, i1⟩, i2, i3⟩ hK
    gi_wp2
    have lt := i1.lt
    have lt5 : w.heap.size + 1 + 1 + 1 + 1 + 1 < W.heap.size := by
      obtain ⟨v, hv, _⟩ := i2
      exact (Array.getElem?_eq_some_iff.1 hv).1
    have hA := (Below.refl W.heap.size W).alloc (Nat.le_refl _) (.cells #[.int .i64 ((cX x : Nat) : Int), .int .i64 ((cY x : Nat) : Int), .int .i64 ((cZ x : Nat) : Int)] 26)
    exact hK _ _ ((KeepsOthers.alloc _ _).from _) (hA.mono (by omega)) ⟨⟨k, i1.below hA⟩, i2.keep (Keep2.below hA (by omega)), i3.trans (hA.mono (by omega))⟩ ⟨W.heap.size, lt5, BoxC.new rfl, rfl⟩
  case body =>
    rintro l pre x a' W hl ⟨rc, hrc⟩ ⟨⟨k, i1⟩, i2, i3⟩ ⟨Bx, hBx, bX, rfl⟩ hlt
    have hlen := clsAt_len touchL f pre
    have hcl := cellsL_len f
    have HFit := Lib.hid (clsAt_fit touchL f HF.out pre)
    have HS := Lib.hid (clsAt_snoc touchL f pre x)
    obtain ⟨t0, ht0⟩ : ∃ t0, t0 = clsAt touchL f pre := ⟨_, rfl⟩
    rw [← ht0] at i1 i2 hlen HFit HS
    clear ht0
    obtain ⟨r0, L⟩ := t0
    simp only at i1 i2 hlen HFit
    have e0 := bX.c0
    have e1 := bX.c1
    have e2 := bX.c2
    have cl := i1.2.2.2.cell
    have z1 := i1.put0
    have zk := keep2_put0 w.heap.size W
    have lt := i1.lt
    have lX := bX.lt
    have iC := i1.2.1
    simp only at iC
    have c0 := (iC).cell (k := 0) (by omega); have c1 := (iC).cell (k := 1) (by omega); have c2 := (iC).cell (k := 2) (by omega); have c3 := (iC).cell (k := 3) (by omega); have c4 := (iC).cell (k := 4) (by omega); have c5 := (iC).cell (k := 5) (by omega); have c6 := (iC).cell (k := 6) (by omega); have c7 := (iC).cell (k := 7) (by omega)
    have q0 := (iC).free 0; have q1 := (iC).free 1; have q2 := (iC).free 2; have q3 := (iC).free 3; have q4 := (iC).free 4; have q5 := (iC).free 5; have q6 := (iC).free 6; have q7 := (iC).free 7
    gi_wp2_with (refine ⟨fun _ h => (by cases h), ?_⟩; gi_wp2)
    obtain ⟨W1, hW1⟩ : ∃ W1, W1 = ((((((((W.setCell ⟨w.heap.size + 1 + 1 + 1, 0, none⟩ (.int .u64 0)).setCell ⟨w.heap.size + 1 + 1 + 1, 1, none⟩ (.int .u64 0)).setCell ⟨w.heap.size + 1 + 1 + 1, 2, none⟩ (.int .u64 0)).setCell ⟨w.heap.size + 1 + 1 + 1, 3, none⟩ (.int .u64 0)).setCell ⟨w.heap.size + 1 + 1 + 1, 4, none⟩ (.int .u64 0)).setCell ⟨w.heap.size + 1 + 1 + 1, 5, none⟩ (.int .u64 0)).setCell ⟨w.heap.size + 1 + 1 + 1, 6, none⟩ (.int .u64 0)).setCell ⟨w.heap.size + 1 + 1 + 1, 7, none⟩ (.int .u64 0)) := ⟨_, rfl⟩
    rw [← hW1] at z1 zk ⊢
    clear hW1
    have bX1 : BoxC W1 Bx (cX x : Nat) (cY x : Nat) (cZ x : Nat) := (zk.2 _ lX (by omega) (by omega)).trans bX
    have i21 := i2.keep zk
    have kf1 := zk.keeps (D := W0.heap.size) i1
    have be1 := i3.trans zk.1
    have bb1 := zk.1
    clear i1 i2 iC c0 c1 c2 c3 c4 c5 c6 c7 q0 q1 q2 q3 q4 q5 q6 q7 e0 e1 e2 cl bX
    refine ⟨trivial, (CallsIn.inRound l (callsIn_wide.2 (leadT_ok w.heap.size 513 (toI x) (r0, fun _ => 0) W1 (Nat.lt_succ_of_le (cnt_le _)) HFit.out fit0 z1))).mono ?_⟩
    rintro e w2 ⟨⟨vv, rfl⟩, kk, ll⟩
    unfold clsStep at HS
    simp only at HS
    obtain ⟨t, ht⟩ : ∃ t, t = dfs touchL 513 (toI x) (r0, fun _ => 0) := ⟨_, rfl⟩
    rw [← ht] at ll HS
    clear ht
    obtain ⟨r', k'⟩ := t
    simp only at HS
    have bX2 : BoxC w2 Bx (cX x : Nat) (cY x : Nat) (cZ x : Nat) := (kk.2 _ bX1.lt (by omega) (by omega)).trans bX1
    have i22 := i21.keep kk
    have kf2 := kf1.trans (kk.keeps (D := W0.heap.size) z1)
    have be2 := be1.trans kk.1
    have bb2 := bb1.trans kk.1
    clear z1 zk kk kf1 be1 bb1 bX1 i21
    have lt2 := ll.lt
    have lC := ll.2.1
    simp only at lC
    have c0 := (lC).cell (k := 0) (by omega); have c1 := (lC).cell (k := 1) (by omega); have c2 := (lC).cell (k := 2) (by omega); have c3 := (lC).cell (k := 3) (by omega); have c4 := (lC).cell (k := 4) (by omega); have c5 := (lC).cell (k := 5) (by omega); have c6 := (lC).cell (k := 6) (by omega); have c7 := (lC).cell (k := 7) (by omega)
    obtain ⟨v, hv, hrow, hnil⟩ := i22
    have cv := hv.cell
    have lt5 : w.heap.size + 1 + 1 + 1 + 1 + 1 < w2.heap.size := (Array.getElem?_eq_some_iff.1 hv).1
    have ltC : w.heap.size + 1 + 1 + 1 < w2.heap.size := lC.lt
    have hsz2 := be2.size
    cases hh : emptyS k'
    all_goals
      gi_wp2_with first | (refine ⟨trivial, ?_⟩; gi_at_call 96; refine (CallsIn.inRound l (callsIn_wide.2 (isEmpty_ok k' _))).mono ?_; rintro e w3 ⟨rfl, hb3⟩; obtain ⟨hc3, hf3⟩ := bcell hb3; rw [hh]) | (gi_at_builtin; have hv3 := (show Boxed w3 (w.heap.size + 1 + 1 + 1 + 1 + 1) 58 v from (hb3.block _ lt5).trans hv); have hrow3 := row_below hrow hb3; have hsz3 := hb3.size; refine wpListIn_append_own _ rfl _ _ 58 rfl (w.heap.size + 1 + 1 + 1 + 1 + 1) 24 i0 (sol fun _ => 0) 8 64 under_sols hi hz0 hz1 hz2 rfl (by decide) v _ _ rfl (hrow3.alloc _) ⟨w3.heap.size, 0, none⟩ 1 1 (solL k') rfl rfl (solL_cells (BoxS.new' rfl)) (solL_one k') (by simp only [maxLen]; omega) (by omega) (by simp; omega) ?_; intro v' w4 hown' hgrow _; obtain ⟨g', cap', rfl⟩ := ownsRow_succ hown'; obtain ⟨hv1, hv2, hr2, hk2, hb2⟩ := hv3.appended (by decide) hrow3 (by omega) (Nat.le_refl _) hown' hgrow; have hc1 := hv1.cell; have hf1 := hv1.frozen)
    · have e : (clsAt touchL f (pre ++ [x])) = (r', L ++ [k']) := by rw [HS.out, hh]; rfl
      have kb := hb2.mono (show w.heap.size ≤ w.heap.size + 1 + 1 + 1 + 1 + 1 by omega)
      refine ⟨(kf2.trans (keeps_below hb3)).trans (hk2.from _), (bb2.trans (hb3.mono (by omega))).trans kb, ⟨k', ?_⟩, ⟨_, hv2, ?_, ?_⟩, (be2.trans (hb3.mono (by omega))).trans kb⟩
      · rw [e]; exact (ll.below hb3).belowB hb2
      · rw [e]; simp only [List.length_append, List.length_cons, List.length_nil, flatS_snoc]; exact hr2
      · rw [e]; simp
    · have e : (clsAt touchL f (pre ++ [x])) = (r', L) := by rw [HS.out, hh]; rfl
      refine ⟨kf2.trans (keeps_below hb3), bb2.trans (hb3.mono (by omega)), ⟨k', ?_⟩, ?_, be2.trans (hb3.mono (by omega))⟩
      · rw [e]; exact ll.below hb3
      · rw [e]; exact ⟨v, (hb3.block _ lt5).trans hv, row_below hrow hb3, hnil⟩
  case done =>
    rintro D ys W hD rfl ⟨⟨k, i1⟩, ⟨v, hv, hrow, hnil⟩, i3⟩ hK
    have hc := hv.cell
    gi_wp2
    refine ⟨by simp, .inl ⟨_, _, rfl, run_takeDeferred hK, ?_⟩⟩
    exact ⟨_, results_tmp rfl _ _ _, v, rfl, ownsRow_putObj hrow _ hK rfl, hnil, i3.trans (belowK_b (w := w) (Nat.le_refl _) W D _ _ (by omega) hK rfl rfl)⟩
  case stop =>
    rintro D c pre W _ _ h _
    exact h.elim
end Go.Proofs.YtadkaplafaeebaaGreatDoor
/-
  Parts; isWithin.
-/
set_option linter.unusedVariables false
set_option linter.unusedSimpArgs false
namespace Go.Proofs.YtadkaplafaeebaaGreatDoor
open Go Go.RowKit Go.Shelf

theorem row_base {W : World} {b b' size n : Nat} {e : TypeId} {v : Value} {xs : List Value} (h : W.ownsRow b e size v n xs) (hb : b' ≤ b) : W.ownsRow b' e size v n xs := by
  refine ⟨h.1, ?_⟩
  rcases h.2 with h4 | ⟨g, cap, cur, e1, e2, e3⟩
  · exact .inl h4
  · exact .inr ⟨g, cap, cur, e1, Nat.le_trans hb e2, e3⟩
/-- A slice that holds these solids, in blocks of the call's own. -/
def OwnSols (w W : World) (v : Value) (l : List Sol) : Prop := W.ownsRow w.heap.size 24 8 v l.length (flatS l) ∧ (v = .slice none 0 0 ↔ l = [])
def partsF (f : Sol) : List Sol := clsF touchL f
set_option maxRecDepth 100000 in
set_option maxHeartbeats 4000000 in
theorem parts_ok (f : Sol) (w : World) (hf : Fit f) (hT : Tab64 w) :
    Calls Tryz.prog 72 #[sol f] w fun e w' => ∃ v, e = .returned v ∧ OwnSols w w' v (partsF f) ∧ Below w.heap.size w w' := by
  have HF := Lib.hid hf
  have HT := Lib.hid hT
  clear hf hT
  have hA : Below w.heap.size w (w.alloc (.cells (solC f) 24)) := by repeat' (first | (with_reducible exact Below.refl _ _) | (with_reducible assumption) | (with_reducible refine Below.alloc ?_ ?_ _) | (with_reducible refine Below.drew ?_) | (with_reducible refine below_drewN ?_ _) | (with_reducible refine Below.setCell ?_ ?_ _) | go_size)
  go_enter Tryz.func72, Tryz.ntmps72
  go_wp2_with fail
  refine (classesT_ok f _ HF.out (HT.out.below hA (Nat.le_refl _))).mono ?_
  rintro e w1 ⟨v, rfl, h1, h2, h3⟩
  go_wp2_with fail
  go_ret
  refine ⟨v, rfl, ⟨row_base h1 (by simp <;> omega), h2⟩, hA.trans (h3.mono (by simp))⟩
/-- No cell at the border: of a solid that has cells. -/
def withinF (f : Sol) : Bool := decide (0 < lowX f ∧ 0 < lowY f ∧ 0 < lowZ f ∧ highX f < 8 ∧ highY f < 8 ∧ highZ f < 8)
set_option maxRecDepth 100000 in
set_option maxHeartbeats 4000000 in
theorem isWithin_is (f : Sol) (b : Bool) (w : World) (hf : Fit f) (he : emptyS f = false) (hb : withinF f = b) :
    Calls Tryz.prog 126 #[sol f] w fun e w' => e = .returned (.bool b) ∧ Below w.heap.size w w' := by
  have HB := fun W => bounds_yes f W hf he
  clear hf he
  unfold withinF at hb
  obtain ⟨lx, hlx⟩ : ∃ x, x = lowX f := ⟨_, rfl⟩
  obtain ⟨ly, hly⟩ : ∃ x, x = lowY f := ⟨_, rfl⟩
  obtain ⟨lz, hlz⟩ : ∃ x, x = lowZ f := ⟨_, rfl⟩
  obtain ⟨hx, hhx⟩ : ∃ x, x = highX f := ⟨_, rfl⟩
  obtain ⟨hy, hhy⟩ : ∃ x, x = highY f := ⟨_, rfl⟩
  obtain ⟨hz, hhz⟩ : ∃ x, x = highZ f := ⟨_, rfl⟩
  rw [← hlx, ← hly, ← hlz, ← hhx, ← hhy, ← hhz] at hb HB
  clear hlx hly hlz hhx hhy hhz
  have HBB := Lib.hid HB
  have H := Lib.hid hb
  clear HB hb
  have hA : Below w.heap.size w (w.alloc (.cells (solC f) 24)) := by repeat' (first | (with_reducible exact Below.refl _ _) | (with_reducible assumption) | (with_reducible refine Below.alloc ?_ ?_ _) | (with_reducible refine Below.drew ?_) | (with_reducible refine below_drewN ?_ _) | (with_reducible refine Below.setCell ?_ ?_ _) | go_size)
  go_enter Tryz.func126, Tryz.ntmps126
  go_wp2_with fail
  refine (HBB.out _).mono ?_
  rintro e w1 ⟨rfl, hb1⟩
  have hB1 := hA.trans (hb1.mono (by simp))
  clear hA hb1
  go_wp2
  all_goals
    go_ret
    refine ⟨retB ?_, hB1.alloc hB1.size _⟩
    have H2 := H.out
    rw [← H2]
    first | exact decide_eq_decide.2 (by omega) | exact (decide_eq_true (by omega)).symm | exact (decide_eq_false (by omega)).symm
end Go.Proofs.YtadkaplafaeebaaGreatDoor
/-
  Cavities.
-/
set_option linter.unusedVariables false
set_option linter.unusedSimpArgs false
namespace Go.Proofs.YtadkaplafaeebaaGreatDoor
open Go Go.RowKit Go.Shelf

/-- The cells that are not in a solid. -/
def voidF (f : Sol) : Sol := fun i => 18446744073709551615 - f i
def voidK (f : Sol) (k : Nat) : Sol := fun i => if i < k then voidF f i else 0
theorem void_fit (f : Sol) : Fit (voidF f) := fun i => by unfold voidF; omega
theorem voidK_succ (f : Sol) (k : Nat) : up8 (voidK f k) k (voidF f k) = voidK f (k + 1) := by
  funext i
  unfold up8 voidK
  by_cases h : i = k
  · subst h; rw [if_pos rfl, if_pos (by omega)]
  · rw [if_neg h]
    by_cases h2 : i < k
    · rw [if_pos h2, if_pos (by omega)]
    · rw [if_neg h2, if_neg (by omega)]
theorem flatS_get : ∀ (l : List Sol) (i j : Nat) (f : Sol), l[i]? = some f → j < 8 → (flatS l)[8 * i + j]? = some (.int .u64 (f j : Nat))
  | [], i, j, f, h, _ => by simp at h
  | g :: l, 0, j, f, h, hj => by
    simp only [List.getElem?_cons_zero, Option.some.injEq] at h
    subst h
    have : flatS (g :: l) = solL g ++ flatS l := by simp [flatS]
    rw [this, List.getElem?_append_left (by rw [solL_len]; omega)]
    simp only [Nat.mul_zero, Nat.zero_add]
    rcases lt8 hj with rfl | rfl | rfl | rfl | rfl | rfl | rfl | rfl <;> rfl
  | g :: l, i + 1, j, f, h, hj => by
    have e : flatS (g :: l) = solL g ++ flatS l := by simp [flatS]
    rw [e, List.getElem?_append_right (by rw [solL_len]; omega), solL_len]
    have := flatS_get l i j f (by simpa using h) hj
    rw [show 8 * (i + 1) + j - 8 = 8 * i + j by omega]
    exact this
theorem cls_each (nb : I3 → List I3) (f : Sol) (hf : Fit f) : ∀ c ∈ clsF nb f, emptyS c = false ∧ Fit c := by
  have : ∀ (l : List Cl) (t : Sol × List Sol), Fit t.1 → (∀ c ∈ t.2, emptyS c = false ∧ Fit c) → ∀ c ∈ (l.foldl (clsStep nb) t).2, emptyS c = false ∧ Fit c := by
    intro l
    induction l with
    | nil => intro t _ h; exact h
    | cons x l ih =>
      intro t ht h
      refine ih _ (clsStep_fit ht x) ?_
      intro c hc
      unfold clsStep at hc
      simp only at hc
      by_cases he : emptyS (dfs nb 513 (toI x) (t.1, fun _ => 0)).2 = true
      · rw [if_pos he] at hc; exact h c hc
      · rw [if_neg he, List.mem_append] at hc
        rcases hc with hc | hc
        · exact h c hc
        · rw [List.mem_singleton] at hc
          subst hc
          exact ⟨by simpa using he, (dfs_fit nb 513 (toI x) (t.1, fun _ => 0) ht fit0).2⟩
  exact this (cellsL f) (f, []) hf (by simp)
theorem addr_add (g k : Nat) : (⟨g, 0, none⟩ : Addr).add k = ⟨g, k, none⟩ := by simp [Addr.add]; try omega
def cavF (f : Sol) : List Sol := (clsF facingL (voidF f)).filter withinF

theorem bits_not {x : Nat} (hx : x < 18446744073709551616) : bits .xor .u64 (if IntKind.u64.signed = true then -1 else IntKind.u64.max) (x : Int) = ((18446744073709551615 - x : Nat) : Int) := by
  have e : (if IntKind.u64.signed = true then (-1 : Int) else IntKind.u64.max) = ((18446744073709551615 : Nat) : Int) := by decide
  rw [e, bits_xor_u64_nat _ _ (by omega) hx]
  congr 1
  apply Nat.eq_of_testBit_eq
  intro i
  have h1 := Nat.testBit_two_pow_sub_succ (x := x) (n := 64) hx i
  have h2 := Nat.testBit_two_pow_sub_one 64 i
  rw [show (18446744073709551615 - x) = 2 ^ 64 - (x + 1) by omega, h1, Nat.testBit_xor, show (18446744073709551615 : Nat) = 2 ^ 64 - 1 by decide, h2]
  by_cases hi : i < 64
  · rw [decide_eq_true hi]; simp
  · rw [decide_eq_false hi, Nat.testBit_lt_two_pow (Nat.lt_of_lt_of_le hx (by rw [show (18446744073709551616 : Nat) = 2 ^ 64 by decide]; exact Nat.pow_le_pow_right (by omega) (by omega)))]; rfl
set_option maxRecDepth 100000 in
set_option maxHeartbeats 4000000 in
theorem cav_ok (f : Sol) (w : World) (hf : Fit f) (hT : Tab64 w) :
    Calls Tryz.prog 74 #[sol f] w fun e w' => ∃ v, e = .returned v ∧ OwnSols w w' v (cavF f) ∧ Below w.heap.size w w' := by
  have HF := Lib.hid hf
  have HT := Lib.hid hT
  clear hf hT
  obtain ⟨i0, hi, hz0, hz1, hz2⟩ := info_parts info_sol
  go_enter Tryz.func74, Tryz.ntmps74
  go_wp2
  go_loopw [10] (fun c wr => ∃ k : Nat, k ≤ 8 ∧ c = .int .i64 k ∧ BoxS wr (w.heap.size + 1) (voidK f k) ∧ Below w.heap.size w wr) (fun c _ => 8 - (intOf c).toNat)
  case atStart => exact ⟨0, by omega, rfl, BoxS.zero (by simp), by repeat' (first | (with_reducible exact Below.refl _ _) | (with_reducible assumption) | (with_reducible refine Below.alloc ?_ ?_ _) | (with_reducible refine Below.drew ?_) | (with_reducible refine below_drewN ?_ _) | (with_reducible refine Below.setCell ?_ ?_ _) | go_size)⟩
  case round =>
    obtain ⟨k, hk, rfl, hA, hw⟩ := hrel
    by_cases hlt : k < 8
    · have hd : decide ((k : Int) < 8) = true := decide_eq_true (by omega)
      have hix := run_index_sol f k hlt
      have hb := HF.out k
      have cA := hA.cell hlt
      have fA := hA.free k
      go_wp2
      rw [bits_not hb]
      have hA2 := hA.set hlt (voidF f k)
      rw [voidK_succ] at hA2
      have hw2 := hw.setCell (p := ⟨w.heap.size + 1, k, none⟩) (by simp) (.int .u64 ((voidF f k : Nat) : Int))
      exact ⟨⟨k + 1, by omega, by go_num, hA2, hw2⟩, by simp [intOf]; omega⟩
    · obtain rfl : k = 8 := by omega
      have hV : BoxS wr (w.heap.size + 1) (voidF f) := hA.congr fun k hk => by unfold voidK; rw [if_pos hk]
      clear hA
      have c0 := (hV).cell (k := 0) (by omega); have c1 := (hV).cell (k := 1) (by omega); have c2 := (hV).cell (k := 2) (by omega); have c3 := (hV).cell (k := 3) (by omega); have c4 := (hV).cell (k := 4) (by omega); have c5 := (hV).cell (k := 5) (by omega); have c6 := (hV).cell (k := 6) (by omega); have c7 := (hV).cell (k := 7) (by omega)
      go_wp2_with fail
      obtain ⟨cs, hcs⟩ : ∃ cs, cs = clsF facingL (voidF f) := ⟨_, rfl⟩
      have HE := Lib.hid (cls_each facingL (voidF f) (void_fit f))
      have hcf : cavF f = cs.filter withinF := by unfold cavF; rw [hcs]
      have hlen : cs.length ≤ 512 := by rw [hcs]; exact Nat.le_trans (clsAt_len facingL (voidF f) _) (cellsL_len _)
      refine (classesF_ok (voidF f) _ (void_fit f) (HT.out.below hw (Nat.le_refl _))).mono ?_
      rintro e w2 ⟨v2, rfl, r1, r2, r3⟩
      rw [← hcs] at r1 r2 HE
      have HCF := Lib.hid hcf
      clear hcs hcf hV c0 c1 c2 c3 c4 c5 c6 c7
      have hw3 := hw.trans (r3.mono hw.size)
      have hs2 := r3.size
      have hs1 := hw.size
      have hp2 : ∃ p cap, v2 = .slice p cs.length cap := by
        rcases r1.2 with ⟨h1, h2⟩ | ⟨g, cap, cur, h1, _⟩
        · exact ⟨none, 0, by rw [h1, h2]⟩
        · exact ⟨_, _, h1⟩
      obtain ⟨p2, cap2, hv2⟩ := hp2
      subst hv2
      clear r3
      go_wp2_with fail
      go_loopw [6, 22] (fun lv c wr => ∃ (i : Nat) (L : List Sol), i ≤ cs.length ∧ c = .int .i64 i ∧ Hid (L = (cs.take i).filter withinF) ∧ wr.ownsRow w2.heap.size 24 8 lv L.length (flatS L) ∧ (lv = .slice none 0 0 ↔ L = []) ∧ Below w2.heap.size w2 wr) (fun _ c _ => cs.length - (intOf c).toNat)
      case atStart => exact ⟨0, [], by omega, rfl, Lib.hid (by simp), World.ownsRow_nil _ _ _ _, by simp, Below.refl _ _⟩
      case round =>
        obtain ⟨i, L, hi2, rfl, HL, hrow, hnil, hW⟩ := hrel
        by_cases hlt2 : i < cs.length
        · have hd : decide ((i : Int) < (cs.length : Int)) = true := decide_eq_true (by omega)
          have hci : cs[i]? = some cs[i] := List.getElem?_eq_getElem hlt2
          obtain ⟨c, hc⟩ : ∃ c, c = cs[i] := ⟨_, rfl⟩
          rw [← hc] at hci
          clear hc
          have hTk : cs.take (i + 1) = cs.take i ++ [c] := by rw [List.take_add_one, hci]; rfl
          have HTk := Lib.hid hTk
          clear hTk
          obtain ⟨he, hfc⟩ := HE.out c (List.mem_of_getElem? hci)
          obtain ⟨g, rfl, hg⟩ : ∃ g, p2 = some ⟨g, 0, none⟩ ∧ g < w2.heap.size := by
            rcases r1.2 with ⟨h1, h2⟩ | ⟨g, cap, cur, h1, _, h3, _⟩
            · omega
            · injection h1 with h4; exact ⟨g, h4, (Array.getElem?_eq_some_iff.1 h3).1⟩
          have hcell : ∀ j, j < 8 → wr.cell? ⟨g, i * 8 + j, none⟩ = some (.int .u64 (c j : Nat)) := fun j hj => by
            have h1 := r1.cells (g := g) rfl (8 * i + j) _ (flatS_get cs i j c hci hj)
            rw [addr_add, Nat.mul_comm 8 i] at h1
            exact (hW.cell (p := ⟨g, i * 8 + j, none⟩) hg).trans h1
          have k0 := hcell 0 (by omega)
          rw [Nat.add_zero] at k0
          have k1 := hcell 1 (by omega); have k2 := hcell 2 (by omega); have k3 := hcell 3 (by omega); have k4 := hcell 4 (by omega); have k5 := hcell 5 (by omega); have k6 := hcell 6 (by omega); have k7 := hcell 7 (by omega)
          clear hcell
          have hLl : L.length ≤ cs.length := by rw [HL.out]; exact Nat.le_trans (List.length_filter_le _ _) (by simp; omega)
          have bC : BoxS (wr.alloc (.cells (solC c) 24)) wr.heap.size c := BoxS.new wr c
          have hA2 : Below wr.heap.size wr (wr.alloc (.cells (solC c) 24)) := (Below.refl _ wr).alloc (Nat.le_refl _) _
          have hsW := hW.size
          go_wp2_with fail
          cases hwi : withinF c
          · refine (isWithin_is c false _ hfc he hwi).mono ?_
            rintro e w3 ⟨rfl, hb3⟩
            have hb4 := hA2.trans (hb3.mono (by simp))
            go_wp2_with fail
            have hrow3 := row_below hrow hb4
            go_roundw
            case rel => exact ⟨i + 1, L, by omega, by go_num, Lib.hid (by rw [HTk.out, List.filter_append, ← HL.out]; simp [hwi]), hrow3, hnil, hW.trans (hb4.mono hsW)⟩
            case measure => simp [intOf]; omega
          · refine (isWithin_is c true _ hfc he hwi).mono ?_
            rintro e w3 ⟨rfl, hb3⟩
            have hb4 := hA2.trans (hb3.mono (by simp))
            have bC3 := bC.below hb3 (by simp)
            have hrow3 := row_below hrow hb4
            have hs3 := hb4.size
            have c0 := (bC3).cell (k := 0) (by omega); have c1 := (bC3).cell (k := 1) (by omega); have c2 := (bC3).cell (k := 2) (by omega); have c3 := (bC3).cell (k := 3) (by omega); have c4 := (bC3).cell (k := 4) (by omega); have c5 := (bC3).cell (k := 5) (by omega); have c6 := (bC3).cell (k := 6) (by omega); have c7 := (bC3).cell (k := 7) (by omega)
            go_wp2_with (at_builtin; refine wpList_append_own _ rfl _ _ 58 rfl w2.heap.size 24 i0 (sol fun _ => 0) 8 64 under_sols hi hz0 hz1 hz2 rfl (by decide) u6 _ _ rfl (hrow3.alloc _) ⟨w3.heap.size, 0, none⟩ 1 1 (solL c) rfl rfl (solL_cells (BoxS.new' rfl)) (solL_one c) (by simp only [maxLen]; omega) (by omega) (by simp; omega) ?_; intro v' w4 hown' hgrow _; obtain ⟨g', cap', rfl⟩ := ownsRow_succ hown')
            have hb5 : Below w2.heap.size w3 w4 := ((Below.refl w2.heap.size w3).alloc (by omega) _).grown hgrow (by simp; omega) fun j ej => (hrow3.lt j ej).1
            exact ⟨⟨i + 1, L ++ [c], by omega, by go_num, Lib.hid (by rw [HTk.out, List.filter_append, ← HL.out]; simp [hwi]), by simp only [List.length_append, List.length_cons, List.length_nil, flatS_snoc]; exact hown', by simp, (hW.trans (hb4.mono hsW)).trans hb5⟩, by simp [intOf]; omega⟩
        · obtain rfl : i = cs.length := by omega
          have hd : decide ((cs.length : Int) < (cs.length : Int)) = false := decide_eq_false (by omega)
          have HL2 := Lib.hid (show L = cavF f by rw [HL.out, HCF.out, List.take_length])
          have hsW := hW.size
          go_wp2
          go_ret
          rw [← HL2.out]
          exact ⟨u6, rfl, ⟨row_base hrow (by omega), hnil⟩, hw3.trans (hW.mono (by omega))⟩
end Go.Proofs.YtadkaplafaeebaaGreatDoor
