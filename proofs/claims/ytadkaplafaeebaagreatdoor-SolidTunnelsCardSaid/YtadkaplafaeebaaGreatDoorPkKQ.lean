/-
  classes' closure, which calls itself, over the neighbours by a face.
-/
import Derived.Test.YtadkaplafaeebaaGreatDoorPkIQ
import Derived.Test.YtadkaplafaeebaaGreatDoorPkFQ
import Derived.RangeFuncBox
set_option linter.unusedVariables false
set_option linter.unusedSimpArgs false
namespace Go.Proofs.YtadkaplafaeebaaGreatDoor
open Go Go.RowKit Go.Shelf

attribute [local go_sem] Oper.semAt_some

set_option maxRecDepth 100000 in
set_option maxHeartbeats 4000000 in
theorem leadF_no (r k : Sol) (c : I3) (B : Nat) (W : World) (hr : Fit r) (hL : LeadW 125 B W (r, k)) (hh : hasI r c = false) :
    Calls Tryz.prog 151 #[encI c, .pointer (some ⟨B + 1 + 1, 0, none⟩), .pointer (some ⟨B + 1 + 1 + 1, 0, none⟩), .pointer (some ⟨B + 1, 0, none⟩), .pointer (some ⟨B + 1 + 1 + 1 + 1, 0, none⟩)] W fun e w' =>
      (∃ v, e = .returned v) ∧ Keep2 B W w' ∧ LeadW 125 B w' (r, k) := by
  have HR := Lib.hid hr
  have lt := hL.lt
  have hLR := hL.1
  simp only at hLR
  have hLA := hLR.alloc (.cells #[.int .i64 c.1, .int .i64 c.2.1, .int .i64 c.2.2] 26)
  have v0 := (hLA).cell (k := 0) (by omega); have v1 := (hLA).cell (k := 1) (by omega); have v2 := (hLA).cell (k := 2) (by omega); have v3 := (hLA).cell (k := 3) (by omega); have v4 := (hLA).cell (k := 4) (by omega); have v5 := (hLA).cell (k := 5) (by omega); have v6 := (hLA).cell (k := 6) (by omega); have v7 := (hLA).cell (k := 7) (by omega)
  refine (callsIn_wide (n := 7)).1 ?_
  refine callsIn_of_wp_marks Tryz.func151 rfl trivial ?_ rfl
  simp only [Tryz.ntmps151, List.size_toArray, List.length_cons, List.length_nil, Nat.reduceAdd, Nat.reduceSub, Array.replicate_succ, Array.replicate_zero, List.push_toArray, List.append_toArray, List.nil_append, List.cons_append]
  refine wpIn_wide.2 ?_
  have d0 := (BoxC.new (W := W) (x := c.1) (y := c.2.1) (z := c.2.2) rfl).c0
  have d1 := (BoxC.new (W := W) (x := c.1) (y := c.2.1) (z := c.2.2) rfl).c1
  have d2 := (BoxC.new (W := W) (x := c.1) (y := c.2.1) (z := c.2.2) rfl).c2
  go_wp2_with (go_at_call 23; refine (has_ok r c _ HR.out).mono ?_; rintro e w3 ⟨rfl, hb3⟩; obtain ⟨hc3, hf3⟩ := bcell hb3; rw [hh])
  have hA : Below W.heap.size W (W.alloc (.cells #[.int .i64 c.1, .int .i64 c.2.1, .int .i64 c.2.2] 26)) := by repeat' (first | (with_reducible exact Below.refl _ _) | (with_reducible assumption) | (with_reducible refine Below.alloc ?_ ?_ _) | (with_reducible refine Below.drew ?_) | (with_reducible refine below_drewN ?_ _) | (with_reducible refine Below.setCell ?_ ?_ _) | go_size)
  exact ⟨_, results_none rfl _ _ _, ⟨_, rfl⟩, (Keep2.below hA (by omega)).trans (Keep2.below hb3 (by simp <;> omega)), (hL.below hA).below hb3⟩
set_option maxRecDepth 100000 in
set_option maxHeartbeats 4000000 in
theorem leadF_yes (m : Nat) (r k : Sol) (d : Cl) (B : Nat) (W : World) (hr : Fit r) (hk : Fit k) (hL : LeadW 125 B W (r, k)) (hh : hasC r d = true)
    (IH : ∀ (c : I3) (s : Sol × Sol) (W : World), cnt s.1 < m → Fit s.1 → Fit s.2 → LeadW 125 B W s →
      Calls Tryz.prog 151 #[encI c, .pointer (some ⟨B + 1 + 1, 0, none⟩), .pointer (some ⟨B + 1 + 1 + 1, 0, none⟩), .pointer (some ⟨B + 1, 0, none⟩), .pointer (some ⟨B + 1 + 1 + 1 + 1, 0, none⟩)] W fun e w' =>
        (∃ v, e = .returned v) ∧ Keep2 B W w' ∧ LeadW 125 B w' (dfs facingL m c s))
    (hm : cnt (delS r d) < m) :
    Calls Tryz.prog 151 #[cell d, .pointer (some ⟨B + 1 + 1, 0, none⟩), .pointer (some ⟨B + 1 + 1 + 1, 0, none⟩), .pointer (some ⟨B + 1, 0, none⟩), .pointer (some ⟨B + 1 + 1 + 1 + 1, 0, none⟩)] W fun e w' =>
      (∃ v, e = .returned v) ∧ Keep2 B W w' ∧ LeadW 125 B w' (dfsL facingL m (facingL (toI d)) (delS r d, setC k d)) := by
  have HR := Lib.hid hr
  have HK := Lib.hid hk
  have HI := Lib.hid IH
  have HM := Lib.hid hm
  clear hr hk IH hm
  have hx := X_le d
  have hy := Y_le d
  have hz := Z_le d
  have hzi : ((cZ d : Nat) : Int) < 8 := by omega
  have lt := hL.lt
  have b1 := HR.out (cZ d)
  have hand := bits_andNot b1 (bit_lt hx hy)
  have hor := bits_or (HK.out (cZ d)) (bit_lt hx hy)
  have hhI : hasI r (toI d) = true := by
    unfold hasI
    rw [inG_cell d]
    have : ofI (toI d) = d := by
      apply Fin.ext
      rw [ofI_val (toI_in7 d)]
      unfold toI cX cY cZ
      simp only
      omega
    rw [this, hh]
    rfl
  refine (callsIn_wide (n := 7)).1 ?_
  refine callsIn_of_wp_marks Tryz.func151 rfl trivial ?_ rfl
  simp only [Tryz.ntmps151, List.size_toArray, List.length_cons, List.length_nil, Nat.reduceAdd, Nat.reduceSub, Array.replicate_succ, Array.replicate_zero, List.push_toArray, List.append_toArray, List.nil_append, List.cons_append]
  refine wpIn_wide.2 ?_
  have hA : Below W.heap.size W (W.alloc (.cells #[.int .i64 ((cX d : Nat) : Int), .int .i64 ((cY d : Nat) : Int), .int .i64 ((cZ d : Nat) : Int)] 26)) := by repeat' (first | (with_reducible exact Below.refl _ _) | (with_reducible assumption) | (with_reducible refine Below.alloc ?_ ?_ _) | (with_reducible refine Below.drew ?_) | (with_reducible refine below_drewN ?_ _) | (with_reducible refine Below.setCell ?_ ?_ _) | go_size)
  have bC : BoxC (W.alloc (.cells #[.int .i64 ((cX d : Nat) : Int), .int .i64 ((cY d : Nat) : Int), .int .i64 ((cZ d : Nat) : Int)] 26)) W.heap.size (cX d : Nat) (cY d : Nat) (cZ d : Nat) := BoxC.new rfl
  have lA := hL.below hA
  have kA := Keep2.below hA (show B ≤ W.heap.size by omega)
  have lA0 := lA.1
  simp only at lA0
  have v0 := (lA0).cell (k := 0) (by omega); have v1 := (lA0).cell (k := 1) (by omega); have v2 := (lA0).cell (k := 2) (by omega); have v3 := (lA0).cell (k := 3) (by omega); have v4 := (lA0).cell (k := 4) (by omega); have v5 := (lA0).cell (k := 5) (by omega); have v6 := (lA0).cell (k := 6) (by omega); have v7 := (lA0).cell (k := 7) (by omega)
  have d0 := bC.c0
  have d1 := bC.c1
  have d2 := bC.c2
  go_wp2_with (go_at_call 23; refine (has_ok r (toI d) _ HR.out).mono ?_; rintro e w3 ⟨rfl, hb3⟩; obtain ⟨hc3, hf3⟩ := bcell hb3; rw [hhI])
  have l3 := lA.below hb3
  have k3 := kA.trans (Keep2.below hb3 (show B ≤ (W.alloc (.cells #[.int .i64 ((cX d : Nat) : Int), .int .i64 ((cY d : Nat) : Int), .int .i64 ((cZ d : Nat) : Int)] 26)).heap.size by simp <;> omega))
  have bC3 := bC.below hb3 bC.lt
  have lW : W.heap.size < w3.heap.size := bC3.lt
  have lt3 : B + 1 + 1 + 1 + 1 < w3.heap.size := by omega
  have ltR : B + 1 + 1 < w3.heap.size := by omega
  clear hc3 hf3 hb3 lA kA bC lA0 v0 v1 v2 v3 v4 v5 v6 v7 d0 d1 d2
  have d0 := bC3.c0
  have d1 := bC3.c1
  have d2 := bC3.c2
  have v0 := l3.1.cell (k := cZ d) (by omega)
  simp only at v0
  (refine wp_region_quiet_tail 8 (fun w' => Below w3.heap.size w3 w') (by kernel_rfl) (by kernel_rfl) (Below.drew (Below.refl _ _)) ?_; simp only [List.take_succ_cons, List.take_zero, List.drop_succ_cons, List.drop_zero]; (iterate 8 (refine wpQuiet_step (fun K hK => ?_); go_simp; first | (refine hK _ ?_; clear hK K) | (apply Exists.intro; refine ⟨fun W' hW' => ?_, hK _ ?_⟩; (focus (first | (with_reducible exact rfl) | (with_reducible exact ⟨rfl, rfl⟩) | (obtain ⟨hcq, hfq⟩ := bcell hW'; have hzq := hW'.size; (try go_simp); first | (with_reducible exact rfl) | (with_reducible exact ⟨rfl, rfl⟩) | (refine (bit_ok (cX d) (cY d) _ _ hx hy).mono ?_; rintro e w2 ⟨rfl, hb2⟩; exact ⟨rfl, hW'.trans (hb2.mono hW'.size)⟩)))); clear hK K))); refine wpQuiet_nil ?_; intro w1q hb1q)
  have l4 := l3.below hb1q
  have k4 := k3.trans (Keep2.below hb1q (show B ≤ w3.heap.size by omega))
  have bC4 := bC3.below hb1q bC3.lt
  have lW4 : W.heap.size < w1q.heap.size := bC4.lt
  have f4 := l4.1.free (cZ d)
  have c4 := l4.1.cell (k := cZ d) (by omega)
  simp only at c4
  clear d0 d1 d2 v0 l3 k3 bC3 lt3 ltR
  go_wp2
  have l5 := l4.setR (k := cZ d) (by omega) (andN (r (cZ d)) (bitN (cX d) (cY d)))
  have k5 := k4.setR (cZ d) (.int .u64 ((andN (r (cZ d)) (bitN (cX d) (cY d)) : Nat) : Int))
  have bC5 := bC4.other (b := B + 1 + 1) (o := cZ d) (by omega) (.int .u64 ((andN (r (cZ d)) (bitN (cX d) (cY d)) : Nat) : Int))
  obtain ⟨w5, hw5⟩ : ∃ w5, w5 = w1q.setCell ⟨B + 1 + 1, cZ d, none⟩ (.int .u64 ((andN (r (cZ d)) (bitN (cX d) (cY d)) : Nat) : Int)) := ⟨_, rfl⟩
  rw [← hw5] at l5 k5 bC5 ⊢
  clear hw5 l4 k4 bC4 lW4 f4 c4
  have lW : W.heap.size < w5.heap.size := bC5.lt
  have lt5 : B + 1 + 1 + 1 + 1 < w5.heap.size := by omega
  have ltK : B + 1 + 1 + 1 < w5.heap.size := by omega
  have d0 := bC5.c0
  have d1 := bC5.c1
  have d2 := bC5.c2
  have v0 := l5.2.1.cell (k := cZ d) (by omega)
  simp only at v0
  (refine wp_region_quiet_tail 8 (fun w' => Below w5.heap.size w5 w') (by kernel_rfl) (by kernel_rfl) (Below.drew (Below.refl _ _)) ?_; simp only [List.take_succ_cons, List.take_zero, List.drop_succ_cons, List.drop_zero]; (iterate 8 (refine wpQuiet_step (fun K hK => ?_); go_simp; first | (refine hK _ ?_; clear hK K) | (apply Exists.intro; refine ⟨fun W' hW' => ?_, hK _ ?_⟩; (focus (first | (with_reducible exact rfl) | (with_reducible exact ⟨rfl, rfl⟩) | (obtain ⟨hcq, hfq⟩ := bcell hW'; have hzq := hW'.size; (try go_simp); first | (with_reducible exact rfl) | (with_reducible exact ⟨rfl, rfl⟩) | (refine (bit_ok (cX d) (cY d) _ _ hx hy).mono ?_; rintro e w2 ⟨rfl, hb2⟩; exact ⟨rfl, hW'.trans (hb2.mono hW'.size)⟩)))); clear hK K))); refine wpQuiet_nil ?_; intro w1q hb1q)
  have l6 := l5.below hb1q
  have k6 := k5.trans (Keep2.below hb1q (show B ≤ w5.heap.size by omega))
  have bC6 := bC5.below hb1q bC5.lt
  have f6 := l6.2.1.free (cZ d)
  have c6 := l6.2.1.cell (k := cZ d) (by omega)
  simp only at c6
  clear d0 d1 d2 v0 l5 k5 bC5 lt5 ltK
  have l7 := l6.setK (k := cZ d) (by omega) (k (cZ d) ||| bitN (cX d) (cY d))
  have k7 := k6.setK (cZ d) (.int .u64 ((k (cZ d) ||| bitN (cX d) (cY d) : Nat) : Int))
  have bC7 := bC6.other (b := B + 1 + 1 + 1) (o := cZ d) (by omega) (.int .u64 ((k (cZ d) ||| bitN (cX d) (cY d) : Nat) : Int))
  have d0 := bC7.c0
  have d1 := bC7.c1
  have d2 := bC7.c2
  have cf := l7.2.2.1.cell
  have cl := l7.2.2.2.cell
  go_wp2_with (refine ⟨fun _ h => (by cases h), ?_⟩; go_wp2)
  obtain ⟨w7, hw7⟩ : ∃ w7, w7 = w1q.setCell ⟨B + 1 + 1 + 1, cZ d, none⟩ (.int .u64 ((k (cZ d) ||| bitN (cX d) (cY d) : Nat) : Int)) := ⟨_, rfl⟩
  rw [← hw7] at l7 k7 bC7 ⊢
  clear hw7 l6 k6 bC6 f6 c6 d0 d1 d2 cf cl
  refine ((callsIn_wide (n := 3)).1 (facing_in 3 _ _ _ w7)).mono ?_
  rintro e w8 ⟨rfl, rfl⟩
  go_wp2
  have lt7 := l7.lt
  have lW7 := bC7.lt
  have hA8 : Below w7.heap.size w7 (w7.alloc (.cells #[.int .i64 ((cX d : Nat) : Int), .int .i64 ((cY d : Nat) : Int), .int .i64 ((cZ d : Nat) : Int)] 26)) := (Below.refl _ w7).alloc (Nat.le_refl _) _
  have l8 := l7.below hA8
  have k8 := k7.trans (Keep2.below hA8 (show B ≤ w7.heap.size by omega))
  have bY : BoxC (w7.alloc (.cells #[.int .i64 ((cX d : Nat) : Int), .int .i64 ((cY d : Nat) : Int), .int .i64 ((cZ d : Nat) : Int)] 26)) w7.heap.size (cX d : Nat) (cY d : Nat) (cZ d : Nat) := BoxC.new rfl
  have hs8 : (w7.alloc (.cells #[.int .i64 ((cX d : Nat) : Int), .int .i64 ((cY d : Nat) : Int), .int .i64 ((cZ d : Nat) : Int)] 26)).heap.size = w7.heap.size + 1 := by simp
  obtain ⟨W0, hW0⟩ : ∃ W0, W0 = w7.alloc (.cells #[.int .i64 ((cX d : Nat) : Int), .int .i64 ((cY d : Nat) : Int), .int .i64 ((cZ d : Nat) : Int)] 26) := ⟨_, rfl⟩
  rw [← hW0] at l8 k8 bY hs8 ⊢
  clear hW0 hA8 l7 k7
  refine (wpIn_wide (n := 7)).1 ?_
  refine wpIn_rangeFunc_ownH rfl (by omega) (gf := 154) (lb := #[.pointer (some ⟨w7.heap.size, 0, none⟩)]) rfl trivial (enters_of Tryz.func154 (by kernel_rfl) rfl)
    (facing_stops _ (by omega) w7.heap.size B (toI d) (toI_sm d) W0 bY) keepB_t (keepB_b (by omega) (by omega)) (Below.refl _ _) (fun _ => rfl)
    (fun (pre : List I3) W' => LeadW 125 B W' (dfsL facingL m pre (delS r d, setC k d)) ∧ Keep2 B W W')
    (fun _ _ _ => False)
    (OwnFrom.and (own_leadW 125 B _ (fun pre : List I3 => dfsL facingL m pre (delS r d, setC k d))) (own_keep2 (by omega) (by omega)))
    (fun _ _ _ _ _ hs _ _ => hs)
    ⟨l8, k8⟩
    (fun (y : I3) a' W' => ∃ By, B + 1 + 1 + 1 + 1 < By ∧ BoxC W' By y.1 y.2.1 y.2.2 ∧ a' = { tmps := #[cell d, .pointer (some ⟨B + 1 + 1, 0, none⟩), .pointer (some ⟨B + 1 + 1 + 1, 0, none⟩), .pointer (some ⟨B + 1, 0, none⟩), .pointer (some ⟨B + 1 + 1 + 1 + 1, 0, none⟩), .pointer (some ⟨W.heap.size, 0, none⟩), .pointer (some ⟨By, 0, none⟩),
      sol r, cell d, .bool true, .bool false, .pointer (some ⟨W.heap.size, 2, none⟩), .int .i64 (cZ d : Nat), .pointer (some ⟨B + 1 + 1, cZ d, none⟩), .int .u64 (r (cZ d) : Nat), cell d, .int .u64 (bitN (cX d) (cY d) : Nat), .int .u64 (andN (r (cZ d)) (bitN (cX d) (cY d)) : Nat), .pointer (some ⟨B + 1 + 1, cZ d, none⟩),
      .pointer (some ⟨W.heap.size, 2, none⟩), .int .i64 (cZ d : Nat), .pointer (some ⟨B + 1 + 1 + 1, cZ d, none⟩), .int .u64 (k (cZ d) : Nat), cell d, .int .u64 (bitN (cX d) (cY d) : Nat), .int .u64 (k (cZ d) ||| bitN (cX d) (cY d) : Nat), .pointer (some ⟨B + 1 + 1 + 1, cZ d, none⟩),
      .func (.func 125) #[] #[], cell d, .func (.func 154) #[] #[.pointer (some ⟨w7.heap.size, 0, none⟩)], encI y, undef, undef, undef], defers := [] })
    (fun x a' s X Y row ⟨Bx, h1, h2, h3⟩ hg hr => ⟨Bx, h1, own_block (β := Unit) _ _ _ rfl () X Y row h2 hg hr, h3⟩) ?assign ?body ?done ?stop
  case assign =>
    rintro l pre y W' K ⟨i1, i2⟩ hK
    gi_wp2
    have lt' := i1.lt
    exact hK _ _ ((KeepsOthers.alloc _ _).from _) ⟨(Below.refl _ W').alloc (by omega) _, fun o ho => (Below.heap_alloc W' _ _ (Array.getElem?_eq_some_iff.1 ho).1).trans ho⟩ ⟨i1.below ((Below.refl _ W').alloc (Nat.le_refl _) _), i2.alloc (by omega) _⟩ ⟨W'.heap.size, lt', BoxC.new rfl, rfl⟩
  case body =>
    rintro l pre y a' W' hl ⟨rc, hrc⟩ ⟨i1, i2⟩ ⟨By, hBy, bY', rfl⟩ hlt
    have e0 := bY'.c0
    have e1 := bY'.c1
    have e2 := bY'.c2
    have cl := i1.2.2.2.cell
    have HS := Lib.hid (dfsL_snoc facingL m pre y (delS r d, setC k d))
    have hc2 := dfsL_cnt facingL m pre (delS r d, setC k d)
    have hf2 := dfsL_fit facingL m pre (delS r d, setC k d) (delS_fit HR.out d) (setC_fit HK.out d)
    have HC := HI.out y (dfsL facingL m pre (delS r d, setC k d)) W' (Nat.lt_of_le_of_lt hc2 HM.out) hf2.1 hf2.2 i1
    gi_wp2_with (refine ⟨fun _ h => (by cases h), ?_⟩; gi_wp2)
    refine ⟨trivial, (CallsIn.inRound l (callsIn_wide.2 HC)).mono ?_⟩
    rintro e w9 ⟨⟨v, rfl⟩, kk, ll⟩
    gi_wp2
    exact ⟨kk.keeps i1, ⟨kk.1, fun o ho => (kk.2 _ (Array.getElem?_eq_some_iff.1 ho).1 (by omega) (by omega)).trans ho⟩, by rw [HS.out]; exact ll, i2.trans kk⟩
  case done =>
    rintro D ys W' hD rfl ⟨i1, i2⟩ hK
    gi_wp2
    refine ⟨by simp, .inl ⟨_, _, rfl, run_takeDeferred hK, ?_⟩⟩
    exact ⟨_, results_none rfl _ _ _, ⟨_, rfl⟩,
      own_keep2 (β := Unit) (B := B) (D := W0.heap.size) (w₀ := W) (by omega) (by omega) () _ _ _ i2 (grownBy_putObj' _ D _) (fun r e => by cases e; exact ⟨hD, _, hK, rfl⟩),
      own_leadW (β := Unit) 125 B W0.heap.size (fun _ => dfsL facingL m (facingL (toI d)) (delS r d, setC k d)) () _ _ _ i1 (grownBy_putObj' _ D _) (fun r e => by cases e; exact ⟨hD, _, hK, rfl⟩)⟩
  case stop =>
    rintro D c pre W _ _ h _
    exact h.elim
theorem leadF_ok (B : Nat) : ∀ (m : Nat) (c : I3) (s : Sol × Sol) (W : World), cnt s.1 < m → Fit s.1 → Fit s.2 → LeadW 125 B W s →
    Calls Tryz.prog 151 #[encI c, .pointer (some ⟨B + 1 + 1, 0, none⟩), .pointer (some ⟨B + 1 + 1 + 1, 0, none⟩), .pointer (some ⟨B + 1, 0, none⟩), .pointer (some ⟨B + 1 + 1 + 1 + 1, 0, none⟩)] W fun e w' =>
      (∃ v, e = .returned v) ∧ Keep2 B W w' ∧ LeadW 125 B w' (dfs facingL m c s) := by
  intro m
  induction m with
  | zero => intro c s W h; omega
  | succ m ih =>
    intro c s W h h1 h2 hL
    obtain ⟨r, k⟩ := s
    simp only at h h1 h2
    rw [dfs]
    by_cases hh : hasI r c = true
    · rw [if_pos hh]
      have hh2 := hh
      unfold hasI at hh2
      rw [Bool.and_eq_true] at hh2
      have h7 : In7 c := by unfold In7; exact of_decide_eq_true hh2.1
      obtain ⟨d, hd⟩ : ∃ d, d = ofI c := ⟨_, rfl⟩
      have hc : c = toI d := by
        rw [hd]
        unfold toI
        rw [ofI_x h7, ofI_y h7, ofI_z h7]
      have hdd : hasC r d = true := by rw [hd]; exact hh2.2
      have hlt := cnt_del hdd
      have := leadF_yes m r k d B W h1 h2 hL hdd ih (by omega)
      simp only
      rw [← hd]
      subst hc
      exact this
    · rw [if_neg hh]
      exact leadF_no r k c B W h1 hL (by simpa using hh)
end Go.Proofs.YtadkaplafaeebaaGreatDoor
/-
  classes: what a round keeps of its list; the classes' list as a fold.
-/
set_option linter.unusedVariables false
set_option linter.unusedSimpArgs false
namespace Go.Proofs.YtadkaplafaeebaaGreatDoor
open Go Go.RowKit Go.Shelf

/-- The cells of a list of solids. -/
def solL (f : Sol) : List Value := (solC f).toList
def flatS (l : List Sol) : List Value := l.flatMap solL
theorem solL_len (f : Sol) : (solL f).length = 8 := rfl
theorem flatS_snoc (l : List Sol) (f : Sol) : flatS (l ++ [f]) = flatS l ++ solL f := by simp [flatS]
theorem solL_one (f : Sol) : ∀ u ∈ solL f, u.oneCell' = true := by
  intro u hu
  simp only [solL, solC, List.mem_cons, List.not_mem_nil, or_false] at hu
  rcases hu with rfl | rfl | rfl | rfl | rfl | rfl | rfl | rfl <;> rfl
theorem solL_cells {W : World} {b : Nat} {f : Sol} (h : BoxS W b f) : ∀ j u, (solL f)[j]? = some u → W.cell? ((⟨b, 0, none⟩ : Addr).add j) = some u := by
  intro j u hu
  have hj : j < 8 := by
    rcases Nat.lt_or_ge j 8 with h1 | h1
    · exact h1
    · rw [List.getElem?_eq_none (by rw [solL_len]; exact h1)] at hu; cases hu
  have hc := h.cell hj
  have : (⟨b, 0, none⟩ : Addr).add j = ⟨b, j, none⟩ := by simp [Addr.add]; try omega
  rw [this, hc]
  rcases lt8 hj with rfl | rfl | rfl | rfl | rfl | rfl | rfl | rfl <;> exact hu
/-- A list of solids that a box holds. -/
def HoldL (W : World) (Bl : Nat) (l : List Sol) : Prop := ∃ v, Boxed W Bl 58 v ∧ W.ownsRow Bl 24 8 v l.length (flatS l) ∧ (v = .slice none 0 0 ↔ l = [])
theorem HoldL.keep {W W' : World} {B : Nat} {l : List Sol} (h : HoldL W (B + 1 + 1 + 1 + 1 + 1) l) (k : Keep2 B W W') : HoldL W' (B + 1 + 1 + 1 + 1 + 1) l := by
  obtain ⟨v, h1, h2, h3⟩ := h
  refine ⟨v, (k.2 _ (Array.getElem?_eq_some_iff.1 h1).1 (by omega) (by omega)).trans h1, ⟨h2.1, ?_⟩, h3⟩
  rcases h2.2 with h4 | ⟨g, cap, cur, e1, e2, e3, e4⟩
  · exact .inl h4
  · exact .inr ⟨g, cap, cur, e1, e2, (k.2 _ (Array.getElem?_eq_some_iff.1 e3).1 (by omega) (by omega)).trans e3, e4⟩
theorem own_holdL {β : Type} (Bl D : Nat) (l : β → List Sol) : OwnFrom D (fun (b : β) W => HoldL W Bl (l b)) :=
  Own.from (holdsRow_own Bl Bl 58 24 8 (fun b : β => (l b).length) (fun b => flatS (l b)) (fun b v => v = .slice none 0 0 ↔ l b = [])) _
theorem heap_zero8 (W : World) (b k : Nat) (h : k ≠ b) : ((((((((W.setCell ⟨b, 0, none⟩ (.int .u64 0)).setCell ⟨b, 1, none⟩ (.int .u64 0)).setCell ⟨b, 2, none⟩ (.int .u64 0)).setCell ⟨b, 3, none⟩ (.int .u64 0)).setCell ⟨b, 4, none⟩ (.int .u64 0)).setCell ⟨b, 5, none⟩ (.int .u64 0)).setCell ⟨b, 6, none⟩ (.int .u64 0)).setCell ⟨b, 7, none⟩ (.int .u64 0)).heap[k]? = W.heap[k]? :=
  (Below.heap_setCell _ ⟨b, 7, none⟩ _ k h).trans <| (Below.heap_setCell _ ⟨b, 6, none⟩ _ k h).trans <| (Below.heap_setCell _ ⟨b, 5, none⟩ _ k h).trans <| (Below.heap_setCell _ ⟨b, 4, none⟩ _ k h).trans <| (Below.heap_setCell _ ⟨b, 3, none⟩ _ k h).trans <| (Below.heap_setCell _ ⟨b, 2, none⟩ _ k h).trans <| (Below.heap_setCell _ ⟨b, 1, none⟩ _ k h).trans <| Below.heap_setCell _ ⟨b, 0, none⟩ _ k h
theorem LeadW.put0 {g B : Nat} {W : World} {s : Sol × Sol} (h : LeadW g B W s) : LeadW g B ((((((((W.setCell ⟨B + 1 + 1 + 1, 0, none⟩ (.int .u64 0)).setCell ⟨B + 1 + 1 + 1, 1, none⟩ (.int .u64 0)).setCell ⟨B + 1 + 1 + 1, 2, none⟩ (.int .u64 0)).setCell ⟨B + 1 + 1 + 1, 3, none⟩ (.int .u64 0)).setCell ⟨B + 1 + 1 + 1, 4, none⟩ (.int .u64 0)).setCell ⟨B + 1 + 1 + 1, 5, none⟩ (.int .u64 0)).setCell ⟨B + 1 + 1 + 1, 6, none⟩ (.int .u64 0)).setCell ⟨B + 1 + 1 + 1, 7, none⟩ (.int .u64 0)) (s.1, fun _ => 0) :=
  ⟨(heap_zero8 _ _ _ (by omega)).trans h.1, h.2.1.put0, (heap_zero8 _ _ _ (by omega)).trans h.2.2.1, (heap_zero8 _ _ _ (by omega)).trans h.2.2.2⟩
theorem keep2_put0 (B : Nat) (W : World) : Keep2 B W ((((((((W.setCell ⟨B + 1 + 1 + 1, 0, none⟩ (.int .u64 0)).setCell ⟨B + 1 + 1 + 1, 1, none⟩ (.int .u64 0)).setCell ⟨B + 1 + 1 + 1, 2, none⟩ (.int .u64 0)).setCell ⟨B + 1 + 1 + 1, 3, none⟩ (.int .u64 0)).setCell ⟨B + 1 + 1 + 1, 4, none⟩ (.int .u64 0)).setCell ⟨B + 1 + 1 + 1, 5, none⟩ (.int .u64 0)).setCell ⟨B + 1 + 1 + 1, 6, none⟩ (.int .u64 0)).setCell ⟨B + 1 + 1 + 1, 7, none⟩ (.int .u64 0)) :=
  ⟨below_put0 (Below.refl _ _) (by omega), fun i _ _ h3 => heap_zero8 _ _ _ h3⟩
/-- A round: what is left, the class, the list. -/
def clsStep (nb : I3 → List I3) (t : Sol × List Sol) (c : Cl) : Sol × List Sol :=
  let d := dfs nb 513 (toI c) (t.1, fun _ => 0)
  (d.1, if emptyS d.2 then t.2 else t.2 ++ [d.2])
def clsAt (nb : I3 → List I3) (f : Sol) (l : List Cl) : Sol × List Sol := l.foldl (clsStep nb) (f, [])
def clsF (nb : I3 → List I3) (f : Sol) : List Sol := (clsAt nb f (cellsL f)).2
theorem clsAt_snoc (nb : I3 → List I3) (f : Sol) (l : List Cl) (c : Cl) : clsAt nb f (l ++ [c]) = clsStep nb (clsAt nb f l) c := by simp [clsAt]
theorem clsStep_fit {nb : I3 → List I3} {t : Sol × List Sol} (h : Fit t.1) (c : Cl) : Fit (clsStep nb t c).1 := (dfs_fit nb 513 (toI c) (t.1, fun _ => 0) h fit0).1
theorem clsAt_fit (nb : I3 → List I3) (f : Sol) (h : Fit f) (l : List Cl) : Fit (clsAt nb f l).1 := by
  unfold clsAt
  have : ∀ (l : List Cl) (t : Sol × List Sol), Fit t.1 → Fit (l.foldl (clsStep nb) t).1 := by
    intro l
    induction l with
    | nil => intro t h; exact h
    | cons c l ih => intro t h; exact ih _ (clsStep_fit h c)
  exact this l _ h
theorem clsAt_len (nb : I3 → List I3) (f : Sol) (l : List Cl) : (clsAt nb f l).2.length ≤ l.length := by
  have : ∀ (l : List Cl) (t : Sol × List Sol), (l.foldl (clsStep nb) t).2.length ≤ t.2.length + l.length := by
    intro l
    induction l with
    | nil => intro t; exact Nat.le_refl _
    | cons c l ih =>
      intro t
      refine Nat.le_trans (ih _) ?_
      have : (clsStep nb t c).2.length ≤ t.2.length + 1 := by
        unfold clsStep
        simp only
        split
        · omega
        · rw [List.length_append]; simp
      rw [List.length_cons]
      omega
  have := this l (f, [])
  simpa [clsAt] using this
end Go.Proofs.YtadkaplafaeebaaGreatDoor
/-
  classes, over the neighbours by a face.
-/
set_option linter.unusedVariables false
set_option linter.unusedSimpArgs false
namespace Go.Proofs.YtadkaplafaeebaaGreatDoor
open Go Go.RowKit Go.Shelf

attribute [local go_sem] Oper.semAt_some

theorem info_sol : (Tryz.prog.info? 24).map (fun i => (i.zero, i.size, i.bytes)) = some (some (sol fun _ => 0), 8, 64) := by kernel_rfl
theorem under_sols : Tryz.prog.underlying 58 = some (.slice 24) := by kernel_rfl
theorem LeadW.belowB {g B : Nat} {W W' : World} {s : Sol × Sol} (h : LeadW g B W s) (hb : Below (B + 1 + 1 + 1 + 1 + 1) W W') : LeadW g B W' s :=
  ⟨h.1.below hb (by omega), h.2.1.below hb (by omega), (hb.block _ (by omega)).trans h.2.2.1, (hb.block _ (by omega)).trans h.2.2.2⟩
theorem row_below {W W' : World} {base size n : Nat} {e : TypeId} {v : Value} {xs : List Value} (h : W.ownsRow base e size v n xs) (hb : Below W.heap.size W W') : W'.ownsRow base e size v n xs := by
  refine ⟨h.1, ?_⟩
  rcases h.2 with h4 | ⟨g, cap, cur, e1, e2, e3, e4⟩
  · exact .inl h4
  · exact .inr ⟨g, cap, cur, e1, e2, (hb.block _ (Array.getElem?_eq_some_iff.1 e3).1).trans e3, e4⟩

set_option maxRecDepth 100000 in
set_option maxHeartbeats 4000000 in
theorem classesF_ok (f : Sol) (w : World) (hf : Fit f) (hT : Tab64 w) :
    Calls Tryz.prog 122 #[sol f, .func (.func 125) #[] #[]] w fun e w' => ∃ v, e = .returned v ∧ w'.ownsRow (w.heap.size + 1 + 1 + 1 + 1 + 1) 24 8 v (clsF facingL f).length (flatS (clsF facingL f)) ∧ (v = .slice none 0 0 ↔ clsF facingL f = []) ∧ Below w.heap.size w w' := by
  have HF := Lib.hid hf
  have HTT := Lib.hid hT
  clear hf hT
  obtain ⟨i0, hi, hz0, hz1, hz2⟩ := info_parts info_sol
  have hmf : ∀ (fn : Fn) (first cap : Array Value) (w : World), (Instr.makeFunc fn first cap).run Tryz.prog w = .ok (.func fn first cap) w := fun _ _ _ _ => rfl
  refine (callsIn_wide (n := 7)).1 ?_
  refine callsIn_of_wp_marks Tryz.func122 rfl trivial ?_ rfl
  simp only [Tryz.ntmps122, List.size_toArray, List.length_cons, List.length_nil, Nat.reduceAdd, Nat.reduceSub, Array.replicate_succ, Array.replicate_zero, List.push_toArray, List.append_toArray, List.nil_append, List.cons_append]
  gi_wp2_with (refine ⟨trivial, ?_⟩; gi_at_call 94; refine (cells_in _ f _).mono ?_; rintro e w1 ⟨rfl, rfl⟩)
  have l0 : LeadW 125 w.heap.size (((((((w.alloc (.cells (solC f) 24)).alloc (.cells #[.func (.func 125) #[] #[]] 106)).alloc (.cells (solC f) 24)).alloc (.cells #[.int .u64 0, .int .u64 0, .int .u64 0, .int .u64 0, .int .u64 0, .int .u64 0, .int .u64 0, .int .u64 0] 24)).alloc (.cells #[.func (.func 151) #[] #[.pointer (some ⟨w.heap.size + 1 + 1, 0, none⟩), .pointer (some ⟨w.heap.size + 1 + 1 + 1, 0, none⟩), .pointer (some ⟨w.heap.size + 1, 0, none⟩), .pointer (some ⟨w.heap.size + 1 + 1 + 1 + 1, 0, none⟩)]] 127)).alloc (.cells #[.slice none 0 0] 58)).alloc (.cells (solC f) 24)) (f, fun _ => 0) :=
    ⟨((((BoxS.new' (by simp)).alloc _).alloc _).alloc _).alloc _, (((BoxS.zero (by simp)).alloc _).alloc _).alloc _, (((((boxed_at (by simp)).alloc _).alloc _).alloc _).alloc _).alloc _, ((boxed_at (by simp)).alloc _).alloc _⟩
  have b0 : Boxed (((((((w.alloc (.cells (solC f) 24)).alloc (.cells #[.func (.func 125) #[] #[]] 106)).alloc (.cells (solC f) 24)).alloc (.cells #[.int .u64 0, .int .u64 0, .int .u64 0, .int .u64 0, .int .u64 0, .int .u64 0, .int .u64 0, .int .u64 0] 24)).alloc (.cells #[.func (.func 151) #[] #[.pointer (some ⟨w.heap.size + 1 + 1, 0, none⟩), .pointer (some ⟨w.heap.size + 1 + 1 + 1, 0, none⟩), .pointer (some ⟨w.heap.size + 1, 0, none⟩), .pointer (some ⟨w.heap.size + 1 + 1 + 1 + 1, 0, none⟩)]] 127)).alloc (.cells #[.slice none 0 0] 58)).alloc (.cells (solC f) 24)) (w.heap.size + 1 + 1 + 1 + 1 + 1) 58 (.slice none 0 0) := (boxed_at (by simp)).alloc _
  have bR : BoxS (((((((w.alloc (.cells (solC f) 24)).alloc (.cells #[.func (.func 125) #[] #[]] 106)).alloc (.cells (solC f) 24)).alloc (.cells #[.int .u64 0, .int .u64 0, .int .u64 0, .int .u64 0, .int .u64 0, .int .u64 0, .int .u64 0, .int .u64 0] 24)).alloc (.cells #[.func (.func 151) #[] #[.pointer (some ⟨w.heap.size + 1 + 1, 0, none⟩), .pointer (some ⟨w.heap.size + 1 + 1 + 1, 0, none⟩), .pointer (some ⟨w.heap.size + 1, 0, none⟩), .pointer (some ⟨w.heap.size + 1 + 1 + 1 + 1, 0, none⟩)]] 127)).alloc (.cells #[.slice none 0 0] 58)).alloc (.cells (solC f) 24)) (w.heap.size + 1 + 1 + 1 + 1 + 1 + 1) f := BoxS.new' (by simp)
  have hB0 : Below w.heap.size w (((((((w.alloc (.cells (solC f) 24)).alloc (.cells #[.func (.func 125) #[] #[]] 106)).alloc (.cells (solC f) 24)).alloc (.cells #[.int .u64 0, .int .u64 0, .int .u64 0, .int .u64 0, .int .u64 0, .int .u64 0, .int .u64 0, .int .u64 0] 24)).alloc (.cells #[.func (.func 151) #[] #[.pointer (some ⟨w.heap.size + 1 + 1, 0, none⟩), .pointer (some ⟨w.heap.size + 1 + 1 + 1, 0, none⟩), .pointer (some ⟨w.heap.size + 1, 0, none⟩), .pointer (some ⟨w.heap.size + 1 + 1 + 1 + 1, 0, none⟩)]] 127)).alloc (.cells #[.slice none 0 0] 58)).alloc (.cells (solC f) 24)) := by repeat' (first | (with_reducible exact Below.refl _ _) | (with_reducible assumption) | (with_reducible refine Below.alloc ?_ ?_ _) | (with_reducible refine Below.drew ?_) | (with_reducible refine below_drewN ?_ _) | (with_reducible refine Below.setCell ?_ ?_ _) | go_size)
  have hsz : (((((((w.alloc (.cells (solC f) 24)).alloc (.cells #[.func (.func 125) #[] #[]] 106)).alloc (.cells (solC f) 24)).alloc (.cells #[.int .u64 0, .int .u64 0, .int .u64 0, .int .u64 0, .int .u64 0, .int .u64 0, .int .u64 0, .int .u64 0] 24)).alloc (.cells #[.func (.func 151) #[] #[.pointer (some ⟨w.heap.size + 1 + 1, 0, none⟩), .pointer (some ⟨w.heap.size + 1 + 1 + 1, 0, none⟩), .pointer (some ⟨w.heap.size + 1, 0, none⟩), .pointer (some ⟨w.heap.size + 1 + 1 + 1 + 1, 0, none⟩)]] 127)).alloc (.cells #[.slice none 0 0] 58)).alloc (.cells (solC f) 24)).heap.size = w.heap.size + 7 := by simp
  obtain ⟨W0, hW0⟩ : ∃ W0, W0 = (((((((w.alloc (.cells (solC f) 24)).alloc (.cells #[.func (.func 125) #[] #[]] 106)).alloc (.cells (solC f) 24)).alloc (.cells #[.int .u64 0, .int .u64 0, .int .u64 0, .int .u64 0, .int .u64 0, .int .u64 0, .int .u64 0, .int .u64 0] 24)).alloc (.cells #[.func (.func 151) #[] #[.pointer (some ⟨w.heap.size + 1 + 1, 0, none⟩), .pointer (some ⟨w.heap.size + 1 + 1 + 1, 0, none⟩), .pointer (some ⟨w.heap.size + 1, 0, none⟩), .pointer (some ⟨w.heap.size + 1 + 1 + 1 + 1, 0, none⟩)]] 127)).alloc (.cells #[.slice none 0 0] 58)).alloc (.cells (solC f) 24)) := ⟨_, rfl⟩
  rw [← hW0] at l0 b0 bR hB0 hsz ⊢
  clear hW0
  refine wpIn_rangeFunc_ownH rfl (by omega) (gf := 137) (lb := #[.pointer (some ⟨w.heap.size + 1 + 1 + 1 + 1 + 1 + 1, 0, none⟩)]) rfl trivial (enters_of Tryz.func137 (by kernel_rfl) rfl)
    (cells_stops _ (by omega) (w.heap.size + 1 + 1 + 1 + 1 + 1 + 1) w.heap.size f HF.out W0 (HTT.out.below hB0 (Nat.le_refl _)) bR HTT.out.pos) belowK_t (belowK_b (by omega)) (Below.refl _ _) (fun _ => rfl)
    (fun (pre : List Cl) W => (∃ k, LeadW 125 w.heap.size W ((clsAt facingL f pre).1, k)) ∧ HoldL W (w.heap.size + 1 + 1 + 1 + 1 + 1) (clsAt facingL f pre).2 ∧ Below w.heap.size w W)
    (fun _ _ _ => False)
    (OwnFrom.and (fun s X Y row ⟨k, h⟩ hg hr => ⟨k, own_leadW 125 w.heap.size _ (fun _ : Unit => ((clsAt facingL f s).1, k)) () X Y row h hg hr⟩) (OwnFrom.and (own_holdL _ _ fun pre => (clsAt facingL f pre).2) (ownFrom_below (Nat.le_refl _) (by omega))))
    (fun _ _ _ _ _ hs _ _ => hs)
    ⟨⟨_, l0⟩, ⟨_, b0, World.ownsRow_nil _ _ _ _, by simp [clsAt]⟩, hB0⟩
    (fun (x : Cl) a' W => ∃ Bx, w.heap.size + 1 + 1 + 1 + 1 + 1 < Bx ∧ BoxC W Bx (cX x : Nat) (cY x : Nat) (cZ x : Nat) ∧ a' = { tmps := #[sol f, .func (.func 125) #[] #[], .pointer (some ⟨w.heap.size, 0, none⟩), .pointer (some ⟨w.heap.size + 1, 0, none⟩), .slice none 0 0, .pointer (some ⟨w.heap.size + 1 + 1, 0, none⟩), .pointer (some ⟨w.heap.size + 1 + 1 + 1, 0, none⟩), .pointer (some ⟨w.heap.size + 1 + 1 + 1 + 1, 0, none⟩), .pointer (some ⟨w.heap.size + 1 + 1 + 1 + 1 + 1, 0, none⟩), .pointer (some ⟨Bx, 0, none⟩),
      sol f, .func (.func 151) #[] #[.pointer (some ⟨w.heap.size + 1 + 1, 0, none⟩), .pointer (some ⟨w.heap.size + 1 + 1 + 1, 0, none⟩), .pointer (some ⟨w.heap.size + 1, 0, none⟩), .pointer (some ⟨w.heap.size + 1 + 1 + 1 + 1, 0, none⟩)], sol f, .func (.func 137) #[] #[.pointer (some ⟨w.heap.size + 1 + 1 + 1 + 1 + 1 + 1, 0, none⟩)], cell x, undef, undef, undef, undef, undef, undef, undef, undef, undef, undef, undef, undef], defers := [] })
    (fun x a' s X Y row ⟨Bx, h1, h2, h3⟩ hg hr => ⟨Bx, h1, own_block (β := Unit) _ _ _ rfl () X Y row h2 hg hr, h3⟩) ?assign ?body ?done ?stop
  case assign =>
    rintro l pre x W K ⟨⟨k, i1⟩, i2, i3⟩ hK
    gi_wp2
    have lt := i1.lt
    have lt5 : w.heap.size + 1 + 1 + 1 + 1 + 1 < W.heap.size := by
      obtain ⟨v, hv, _⟩ := i2
      exact (Array.getElem?_eq_some_iff.1 hv).1
    have hA := (Below.refl W.heap.size W).alloc (Nat.le_refl _) (.cells #[.int .i64 ((cX x : Nat) : Int), .int .i64 ((cY x : Nat) : Int), .int .i64 ((cZ x : Nat) : Int)] 26)
    exact hK _ _ ((KeepsOthers.alloc _ _).from _) (hA.mono (by omega)) ⟨⟨k, i1.below hA⟩, i2.keep (Keep2.below hA (by omega)), i3.trans (hA.mono (by omega))⟩ ⟨W.heap.size, lt5, BoxC.new rfl, rfl⟩
  case body =>
    rintro l pre x a' W hl ⟨rc, hrc⟩ ⟨⟨k, i1⟩, i2, i3⟩ ⟨Bx, hBx, bX, rfl⟩ hlt
    have hlen := clsAt_len facingL f pre
    have hcl := cellsL_len f
    have HFit := Lib.hid (clsAt_fit facingL f HF.out pre)
    have HS := Lib.hid (clsAt_snoc facingL f pre x)
    obtain ⟨t0, ht0⟩ : ∃ t0, t0 = clsAt facingL f pre := ⟨_, rfl⟩
    rw [← ht0] at i1 i2 hlen HFit HS
    clear ht0
    obtain ⟨r0, L⟩ := t0
    simp only at i1 i2 hlen HFit
    have e0 := bX.c0
    have e1 := bX.c1
    have e2 := bX.c2
    have cl := i1.2.2.2.cell
    have z1 := i1.put0
    have zk := keep2_put0 w.heap.size W
    have lt := i1.lt
    have lX := bX.lt
    have iC := i1.2.1
    simp only at iC
    have c0 := (iC).cell (k := 0) (by omega); have c1 := (iC).cell (k := 1) (by omega); have c2 := (iC).cell (k := 2) (by omega); have c3 := (iC).cell (k := 3) (by omega); have c4 := (iC).cell (k := 4) (by omega); have c5 := (iC).cell (k := 5) (by omega); have c6 := (iC).cell (k := 6) (by omega); have c7 := (iC).cell (k := 7) (by omega)
    have q0 := (iC).free 0; have q1 := (iC).free 1; have q2 := (iC).free 2; have q3 := (iC).free 3; have q4 := (iC).free 4; have q5 := (iC).free 5; have q6 := (iC).free 6; have q7 := (iC).free 7
    gi_wp2_with (refine ⟨fun _ h => (by cases h), ?_⟩; gi_wp2)
    obtain ⟨W1, hW1⟩ : ∃ W1, W1 = ((((((((W.setCell ⟨w.heap.size + 1 + 1 + 1, 0, none⟩ (.int .u64 0)).setCell ⟨w.heap.size + 1 + 1 + 1, 1, none⟩ (.int .u64 0)).setCell ⟨w.heap.size + 1 + 1 + 1, 2, none⟩ (.int .u64 0)).setCell ⟨w.heap.size + 1 + 1 + 1, 3, none⟩ (.int .u64 0)).setCell ⟨w.heap.size + 1 + 1 + 1, 4, none⟩ (.int .u64 0)).setCell ⟨w.heap.size + 1 + 1 + 1, 5, none⟩ (.int .u64 0)).setCell ⟨w.heap.size + 1 + 1 + 1, 6, none⟩ (.int .u64 0)).setCell ⟨w.heap.size + 1 + 1 + 1, 7, none⟩ (.int .u64 0)) := ⟨_, rfl⟩
    rw [← hW1] at z1 zk ⊢
    clear hW1
    have bX1 : BoxC W1 Bx (cX x : Nat) (cY x : Nat) (cZ x : Nat) := (zk.2 _ lX (by omega) (by omega)).trans bX
    have i21 := i2.keep zk
    have kf1 := zk.keeps (D := W0.heap.size) i1
    have be1 := i3.trans zk.1
    have bb1 := zk.1
    clear i1 i2 iC c0 c1 c2 c3 c4 c5 c6 c7 q0 q1 q2 q3 q4 q5 q6 q7 e0 e1 e2 cl bX
    refine ⟨trivial, (CallsIn.inRound l (callsIn_wide.2 (leadF_ok w.heap.size 513 (toI x) (r0, fun _ => 0) W1 (Nat.lt_succ_of_le (cnt_le _)) HFit.out fit0 z1))).mono ?_⟩
    rintro e w2 ⟨⟨vv, rfl⟩, kk, ll⟩
    unfold clsStep at HS
    simp only at HS
    obtain ⟨t, ht⟩ : ∃ t, t = dfs facingL 513 (toI x) (r0, fun _ => 0) := ⟨_, rfl⟩
    rw [← ht] at ll HS
    clear ht
    obtain ⟨r', k'⟩ := t
    simp only at HS
    have bX2 : BoxC w2 Bx (cX x : Nat) (cY x : Nat) (cZ x : Nat) := (kk.2 _ bX1.lt (by omega) (by omega)).trans bX1
    have i22 := i21.keep kk
    have kf2 := kf1.trans (kk.keeps (D := W0.heap.size) z1)
    have be2 := be1.trans kk.1
    have bb2 := bb1.trans kk.1
    clear z1 zk kk kf1 be1 bb1 bX1 i21
    have lt2 := ll.lt
    have lC := ll.2.1
    simp only at lC
    have c0 := (lC).cell (k := 0) (by omega); have c1 := (lC).cell (k := 1) (by omega); have c2 := (lC).cell (k := 2) (by omega); have c3 := (lC).cell (k := 3) (by omega); have c4 := (lC).cell (k := 4) (by omega); have c5 := (lC).cell (k := 5) (by omega); have c6 := (lC).cell (k := 6) (by omega); have c7 := (lC).cell (k := 7) (by omega)
    obtain ⟨v, hv, hrow, hnil⟩ := i22
    have cv := hv.cell
    have lt5 : w.heap.size + 1 + 1 + 1 + 1 + 1 < w2.heap.size := (Array.getElem?_eq_some_iff.1 hv).1
    have ltC : w.heap.size + 1 + 1 + 1 < w2.heap.size := lC.lt
    have hsz2 := be2.size
    cases hh : emptyS k'
    all_goals
      gi_wp2_with first | (refine ⟨trivial, ?_⟩; gi_at_call 96; refine (CallsIn.inRound l (callsIn_wide.2 (isEmpty_ok k' _))).mono ?_; rintro e w3 ⟨rfl, hb3⟩; obtain ⟨hc3, hf3⟩ := bcell hb3; rw [hh]) | (gi_at_builtin; have hv3 := (show Boxed w3 (w.heap.size + 1 + 1 + 1 + 1 + 1) 58 v from (hb3.block _ lt5).trans hv); have hrow3 := row_below hrow hb3; have hsz3 := hb3.size; refine wpListIn_append_own _ rfl _ _ 58 rfl (w.heap.size + 1 + 1 + 1 + 1 + 1) 24 i0 (sol fun _ => 0) 8 64 under_sols hi hz0 hz1 hz2 rfl (by decide) v _ _ rfl (hrow3.alloc _) ⟨w3.heap.size, 0, none⟩ 1 1 (solL k') rfl rfl (solL_cells (BoxS.new' rfl)) (solL_one k') (by simp only [maxLen]; omega) (by omega) (by simp; omega) ?_; intro v' w4 hown' hgrow _; obtain ⟨g', cap', rfl⟩ := ownsRow_succ hown'; obtain ⟨hv1, hv2, hr2, hk2, hb2⟩ := hv3.appended (by decide) hrow3 (by omega) (Nat.le_refl _) hown' hgrow; have hc1 := hv1.cell; have hf1 := hv1.frozen)
    · have e : (clsAt facingL f (pre ++ [x])) = (r', L ++ [k']) := by rw [HS.out, hh]; rfl
      have kb := hb2.mono (show w.heap.size ≤ w.heap.size + 1 + 1 + 1 + 1 + 1 by omega)
      refine ⟨(kf2.trans (keeps_below hb3)).trans (hk2.from _), (bb2.trans (hb3.mono (by omega))).trans kb, ⟨k', ?_⟩, ⟨_, hv2, ?_, ?_⟩, (be2.trans (hb3.mono (by omega))).trans kb⟩
      · rw [e]; exact (ll.below hb3).belowB hb2
      · rw [e]; simp only [List.length_append, List.length_cons, List.length_nil, flatS_snoc]; exact hr2
      · rw [e]; simp
    · have e : (clsAt facingL f (pre ++ [x])) = (r', L) := by rw [HS.out, hh]; rfl
      refine ⟨kf2.trans (keeps_below hb3), bb2.trans (hb3.mono (by omega)), ⟨k', ?_⟩, ?_, be2.trans (hb3.mono (by omega))⟩
      · rw [e]; exact ll.below hb3
      · rw [e]; exact ⟨v, (hb3.block _ lt5).trans hv, row_below hrow hb3, hnil⟩
  case done =>
    rintro D ys W hD rfl ⟨⟨k, i1⟩, ⟨v, hv, hrow, hnil⟩, i3⟩ hK
    have hc := hv.cell
    gi_wp2
    refine ⟨by simp, .inl ⟨_, _, rfl, run_takeDeferred hK, ?_⟩⟩
    exact ⟨_, results_tmp rfl _ _ _, v, rfl, ownsRow_putObj hrow _ hK rfl, hnil, i3.trans (belowK_b (w := w) (Nat.le_refl _) W D _ _ (by omega) hK rfl rfl)⟩
  case stop =>
    rintro D c pre W _ _ h _
    exact h.elim
end Go.Proofs.YtadkaplafaeebaaGreatDoor
/-
  Cells: the list of the cells.
-/
set_option linter.unusedVariables false
set_option linter.unusedSimpArgs false
namespace Go.Proofs.YtadkaplafaeebaaGreatDoor
open Go Go.RowKit Go.Shelf

attribute [local go_sem] Oper.semAt_some

theorem info_cell : (Tryz.prog.info? 26).map (fun i => (i.zero, i.size, i.bytes)) = some (some (Value.agg #[.int .i64 (0), .int .i64 (0), .int .i64 (0)]), 3, 24) := by kernel_rfl
theorem under_cells : Tryz.prog.underlying 27 = some (.slice 26) := by kernel_rfl
/-- The cells of a list of cells. -/
def celL (c : Cl) : List Value := [.int .i64 (cX c : Nat), .int .i64 (cY c : Nat), .int .i64 (cZ c : Nat)]
def flatC (l : List Cl) : List Value := l.flatMap celL
theorem flatC_snoc (l : List Cl) (c : Cl) : flatC (l ++ [c]) = flatC l ++ celL c := by simp [flatC]
theorem celL_one (c : Cl) : ∀ u ∈ celL c, u.oneCell' = true := by
  intro u hu
  simp only [celL, List.mem_cons, List.not_mem_nil, or_false] at hu
  rcases hu with rfl | rfl | rfl <;> rfl
end Go.Proofs.YtadkaplafaeebaaGreatDoor
