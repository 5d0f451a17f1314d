/-
  The law of canonical forms: its walk, the contracts of its callees given; the law for every two solids.
-/
import Derived.Test.YtadkaplafaeebaaGreatDoorPkW
import Derived.Test.YtadkaplafaeebaaGreatDoorPkTH
import Derived.Test.YtadkaplafaeebaaGreatDoorPkUC
set_option linter.unusedVariables false
set_option linter.unusedSimpArgs false
namespace Go.Proofs.YtadkaplafaeebaaGreatDoor
open Go Go.RowKit

theorem get_solAt {l : List Sol} {i : Nat} {f : Sol} (h : l[i]? = some f) : f = solAt l i := by
  obtain ⟨h1, h2⟩ := List.getElem?_eq_some_iff.1 h
  rw [solAt_get h1]
  exact h2.symm
theorem same_imgs (f : Sol) (i : Nat) (x y : Sol) (hx : (imgsF f)[i]? = some x) (hy : (putN f 24)[i]? = some y) : eqS x y = true := by
  rw [get_solAt hx, get_solAt hy]
  exact (imgs_put f).2 i
set_option maxRecDepth 100000 in
set_option maxHeartbeats 4000000 in
theorem canonl_core (f g cf : Sol) (b : Bool) (w : World) (hT : Tab64 w) (hf : Fit f) (hg : Fit g) (hcf : canonF f = cf) (hb : sameB f g = b)
    (HC : Hid (∀ W, Tab64 W → Calls Tryz.prog 20 #[] W (RetB (.bool true) W))) :
    Calls Tryz.prog 9 #[sol f, sol g] w (RetB (.bool true) w) := by
  have HT := Lib.hid hT
  have HF := Lib.hid hf
  have C1 := Lib.hid (fun (X : World) (h : Tab64 X) => canon_any f X hf h)
  have C2 := Lib.hid (fun (X : World) => rcanon_ok f X hf)
  have C3 := Lib.hid (fun (X : World) (h : Tab64 X) => same_any f g X hf hg h)
  have C4 := Lib.hid (fun (X : World) => rsame_ok f g X hf hg)
  rw [hcf] at C1 C2
  rw [hb] at C3 C4
  have kc : eqS cf cf = true := decide_eq_true ⟨rfl, rfl, rfl, rfl, rfl, rfl, rfl, rfl⟩
  have kb : (b == b) = true := by simp
  clear hT hf hg hcf hb
  have A_0 : BoxS ((w.alloc (.cells (solC f) 24)).alloc (.cells (solC g) 24)) w.heap.size f := ((BoxS.new _ _).alloc _)
  have B_0 : BoxS ((w.alloc (.cells (solC f) 24)).alloc (.cells (solC g) 24)) (w.heap.size + 1) g := (BoxS.new' (by simp))
  have hB0 : Below w.heap.size w ((w.alloc (.cells (solC f) 24)).alloc (.cells (solC g) 24)) := by repeat' (first | (with_reducible exact Below.refl _ _) | (with_reducible assumption) | (with_reducible refine Below.alloc ?_ ?_ _) | (with_reducible refine Below.drew ?_) | (with_reducible refine below_drewN ?_ _) | (with_reducible refine Below.setCell ?_ ?_ _) | go_size)
  go_enter Tryz.func9, Tryz.ntmps9
  go_upto_region 1 with fail
  obtain ⟨W, hW⟩ : ∃ W, W = ((w.alloc (.cells (solC f) 24)).alloc (.cells (solC g) 24)) := ⟨_, rfl⟩
  rw [← hW] at A_0 B_0 hB0 ⊢
  clear hW
  have lA : w.heap.size < W.heap.size := A_0.lt
  have lB : w.heap.size + 1 < W.heap.size := B_0.lt
  have HTW := Lib.hid (HT.out.below hB0 (Nat.le_refl _))
  have a0 := (A_0).cell (k := 0) (by omega); have a1 := (A_0).cell (k := 1) (by omega); have a2 := (A_0).cell (k := 2) (by omega); have a3 := (A_0).cell (k := 3) (by omega); have a4 := (A_0).cell (k := 4) (by omega); have a5 := (A_0).cell (k := 5) (by omega); have a6 := (A_0).cell (k := 6) (by omega); have a7 := (A_0).cell (k := 7) (by omega)
  have b0 := (B_0).cell (k := 0) (by omega); have b1 := (B_0).cell (k := 1) (by omega); have b2 := (B_0).cell (k := 2) (by omega); have b3 := (B_0).cell (k := 3) (by omega); have b4 := (B_0).cell (k := 4) (by omega); have b5 := (B_0).cell (k := 5) (by omega); have b6 := (B_0).cell (k := 6) (by omega); have b7 := (B_0).cell (k := 7) (by omega)
  (refine wp_region_quiet (C := fun w' => Below W.heap.size W w') (by kernel_rfl) (by kernel_rfl) (Below.drew (Below.refl _ _)) ?_; (iterate 15 (refine wpQuiet_step (fun K hK => ?_); go_simp; first | (refine hK _ ?_; clear hK K) | (apply Exists.intro; refine ⟨fun W' hW' => ?_, hK _ ?_⟩; (focus (first | (with_reducible exact rfl) | (with_reducible exact ⟨rfl, rfl⟩) | (obtain ⟨hcq, hfq⟩ := bcell hW'; have hzq := hW'.size; (try go_simp); first | (with_reducible exact rfl) | (with_reducible exact ⟨rfl, rfl⟩) | (first | ((with_reducible refine Calls.mono (C1.out _ (HTW.out.below hW' (Nat.le_refl _))) ?_); rintro e w9 ⟨rfl, hb9⟩; exact ⟨rfl, hW'.trans (hb9.mono hW'.size)⟩) | ((with_reducible refine Calls.mono (C2.out _) ?_); rintro e w9 ⟨rfl, hb9⟩; exact ⟨rfl, hW'.trans (hb9.mono hW'.size)⟩) | ((with_reducible refine Calls.mono (C3.out _ (HTW.out.below hW' (Nat.le_refl _))) ?_); rintro e w9 ⟨rfl, hb9⟩; exact ⟨rfl, hW'.trans (hb9.mono hW'.size)⟩) | ((with_reducible refine Calls.mono (C4.out _) ?_); rintro e w9 ⟨rfl, hb9⟩; exact ⟨rfl, hW'.trans (hb9.mono hW'.size)⟩))))); clear hK K))); refine wpQuiet_nil ?_; intro w1q hb1q)
  have A_1 := A_0.below hb1q lA; have B_1 := B_0.below hb1q lB
  have hB1 : Below w.heap.size w w1q := up hb1q hB0
  clear a0 a1 a2 a3 a4 a5 a6 a7 b0 b1 b2 b3 b4 b5 b6 b7 A_0 B_0 hB0 hb1q lA lB HTW C1 C2 C3 C4
  go_upto_region 2 with fail
  obtain ⟨U, hU⟩ : ∃ U, U = w1q := ⟨_, rfl⟩
  subst hU
  have lA : w.heap.size < U.heap.size := A_1.lt
  have HTU := Lib.hid (HT.out.below hB1 (Nat.le_refl _))
  have hCd : Below U.heap.size U U.drew := Below.drew (Below.refl _ _)
  refine wp_region_relW (fun (i : Nat) (v : Value) (W : World) => match i with | 0 => v = sol f | 1 => ∃ b, W.ownsRow b 3 1 v (symN f 24).length (intL (symN f 24)) | 2 => v = sol f | 3 => ∃ b, W.ownsRow b 3 1 v (symN f 24).length (intL (symN f 24)) | 4 => v = .bool true | 5 => v = .bool true | 6 => v = sol f | 7 => ∃ b, W.ownsRow b 24 8 v (imgsF f).length (flatS (imgsF f)) | 8 => v = sol f | 9 => ∃ b, W.ownsRow b 24 8 v (putN f 24).length (flatS (putN f 24)) | 10 => v = .bool true | 11 => v = .bool true | _ => v = .bool true) (fun W => Below U.heap.size U W) (by kernel_rfl) (by kernel_rfl) (by kernel_rfl) hCd (by kernel_rfl) ?hst ?hop ?hend
  case hst =>
    intro j v W W' hb hv
    rcases j with _ | _ | _ | _ | _ | _ | _ | _ | _ | _ | _ | _ | _ | j
    all_goals first | exact hv | (obtain ⟨b, hr⟩ := hv; exact ⟨b, row_below hr hb⟩) | (obtain ⟨b, hr, hn⟩ := hv; exact ⟨b, row_below hr hb, hn⟩)
  case hop =>
    intro i o ho a' W hC hin hfix
    have A3 := A_1.below hC lA
    have a0 := (A3).cell (k := 0) (by omega); have a1 := (A3).cell (k := 1) (by omega); have a2 := (A3).cell (k := 2) (by omega); have a3 := (A3).cell (k := 3) (by omega); have a4 := (A3).cell (k := 4) (by omega); have a5 := (A3).cell (k := 5) (by omega); have a6 := (A3).cell (k := 6) (by omega); have a7 := (A3).cell (k := 7) (by omega)
    have q2 : a'.tmps[2]? = some (.pointer (some ⟨w.heap.size, 0, none⟩)) := hfix 2 (by kernel_rfl)
    have hi : i < 13 := (Array.getElem?_eq_some_iff.1 ho).1
    rcases (show i = 0 ∨ i = 1 ∨ i = 2 ∨ i = 3 ∨ i = 4 ∨ i = 5 ∨ i = 6 ∨ i = 7 ∨ i = 8 ∨ i = 9 ∨ i = 10 ∨ i = 11 ∨ i = 12 by omega) with rfl | rfl | rfl | rfl | rfl | rfl | rfl | rfl | rfl | rfl | rfl | rfl | rfl
    · obtain rfl := Option.some.inj ho
      refine ⟨rfl, fun K hK => ?_⟩
      clear hin hfix ho
      go_simp
      exact hK _ _ rfl hC (Below.refl _ _)
    · obtain ⟨v0, rfl, h0⟩ := hin 0 21 (by kernel_rfl) (by kernel_rfl)
      obtain rfl := Option.some.inj ho
      refine ⟨rfl, fun K hK => ?_⟩
      clear hin hfix ho
      go_simp
      refine (sym_any f _ HF.out (HTU.out.below hC (Nat.le_refl _))).mono ?_
      rintro e W2 ⟨v, rfl, ho, hb⟩
      exact hK _ _ ⟨_, ho.1⟩ (hC.trans (hb.mono hC.size)) hb
    · obtain rfl := Option.some.inj ho
      refine ⟨rfl, fun K hK => ?_⟩
      clear hin hfix ho
      go_simp
      exact hK _ _ rfl hC (Below.refl _ _)
    · obtain ⟨v2, rfl, h2⟩ := hin 2 23 (by kernel_rfl) (by kernel_rfl)
      obtain rfl := Option.some.inj ho
      refine ⟨rfl, fun K hK => ?_⟩
      clear hin hfix ho
      go_simp
      refine (rsym_ok f _ HF.out).mono ?_
      rintro e W2 ⟨v, rfl, ho, hb⟩
      exact hK _ _ ⟨_, ho.1⟩ (hC.trans (hb.mono hC.size)) hb
    · obtain ⟨v1, ⟨b1, hr1⟩, h1⟩ := hin 1 22 (by kernel_rfl) (by kernel_rfl)
      obtain ⟨v3, ⟨b3, hr3⟩, h3⟩ := hin 3 24 (by kernel_rfl) (by kernel_rfl)
      obtain rfl := Option.some.inj ho
      refine ⟨rfl, fun K hK => ?_⟩
      clear hin hfix ho
      go_simp
      refine ((sameInts_ok (symN f 24) (symN f 24) _ _ _ _ _ hr1 hr3 (by have := symN_len f 24; omega) (by have := symN_len f 24; omega)).mono fun e W2 h2 => (show e = .returned (.bool true) ∧ Below W.heap.size W W2 from by rw [← (show decide (symN f 24 = symN f 24) = true from decide_eq_true rfl)]; exact h2)).mono ?_
      rintro e W2 ⟨rfl, hb⟩
      exact hK _ _ rfl (hC.trans (hb.mono hC.size)) hb
    · obtain ⟨v4, rfl, h4⟩ := hin 4 25 (by kernel_rfl) (by kernel_rfl)
      obtain rfl := Option.some.inj ho
      refine ⟨rfl, fun K hK => ?_⟩
      clear hin hfix ho
      go_simp
      exact hK _ _ rfl hC (Below.refl _ _)
    · obtain ⟨v5, rfl, h5⟩ := hin 5 26 (by kernel_rfl) (by kernel_rfl)
      obtain rfl := Option.some.inj ho
      refine ⟨wanted_at (j := 5) (t := 26) rfl (by kernel_rfl) h5, fun K hK => ?_⟩
      clear hin hfix ho
      go_simp
      exact hK _ _ rfl hC (Below.refl _ _)
    · obtain ⟨v6, rfl, h6⟩ := hin 6 27 (by kernel_rfl) (by kernel_rfl)
      obtain ⟨v5, rfl, h5⟩ := hin 5 26 (by kernel_rfl) (by kernel_rfl)
      obtain rfl := Option.some.inj ho
      refine ⟨wanted_at (j := 5) (t := 26) rfl (by kernel_rfl) h5, fun K hK => ?_⟩
      clear hin hfix ho
      go_simp
      refine (images_any f _ HF.out (HTU.out.below hC (Nat.le_refl _))).mono ?_
      rintro e W2 ⟨v, rfl, ho, hb⟩
      exact hK _ _ ⟨_, ho.1⟩ (hC.trans (hb.mono hC.size)) hb
    · obtain ⟨v5, rfl, h5⟩ := hin 5 26 (by kernel_rfl) (by kernel_rfl)
      obtain rfl := Option.some.inj ho
      refine ⟨wanted_at (j := 5) (t := 26) rfl (by kernel_rfl) h5, fun K hK => ?_⟩
      clear hin hfix ho
      go_simp
      exact hK _ _ rfl hC (Below.refl _ _)
    · obtain ⟨v8, rfl, h8⟩ := hin 8 29 (by kernel_rfl) (by kernel_rfl)
      obtain ⟨v5, rfl, h5⟩ := hin 5 26 (by kernel_rfl) (by kernel_rfl)
      obtain rfl := Option.some.inj ho
      refine ⟨wanted_at (j := 5) (t := 26) rfl (by kernel_rfl) h5, fun K hK => ?_⟩
      clear hin hfix ho
      go_simp
      refine (rimages_ok f _ HF.out).mono ?_
      rintro e W2 ⟨v, rfl, ho, hb⟩
      exact hK _ _ ⟨_, ho.1⟩ (hC.trans (hb.mono hC.size)) hb
    · obtain ⟨v7, ⟨b7, hr7⟩, h7⟩ := hin 7 28 (by kernel_rfl) (by kernel_rfl)
      obtain ⟨v9, ⟨b9, hr9⟩, h9⟩ := hin 9 30 (by kernel_rfl) (by kernel_rfl)
      obtain ⟨v5, rfl, h5⟩ := hin 5 26 (by kernel_rfl) (by kernel_rfl)
      obtain rfl := Option.some.inj ho
      refine ⟨wanted_at (j := 5) (t := 26) rfl (by kernel_rfl) h5, fun K hK => ?_⟩
      clear hin hfix ho
      go_simp
      refine (sameSolids_ok (imgsF f) (putN f 24) _ _ _ _ _ hr7 hr9 (imgs_put f).1 (same_imgs f) (by have := (imgs_put f).1; have := putN_len f 24; omega)).mono ?_
      rintro e W2 ⟨rfl, hb⟩
      exact hK _ _ rfl (hC.trans (hb.mono hC.size)) hb
    · obtain ⟨v5, rfl, h5⟩ := hin 5 26 (by kernel_rfl) (by kernel_rfl)
      obtain ⟨v10, rfl, h10⟩ := hin 10 31 (by kernel_rfl) (by kernel_rfl)
      obtain rfl := Option.some.inj ho
      refine ⟨rfl, fun K hK => ?_⟩
      clear hin hfix ho
      go_simp
      exact hK _ _ rfl hC (Below.refl _ _)
    · obtain ⟨v11, rfl, h11⟩ := hin 11 32 (by kernel_rfl) (by kernel_rfl)
      obtain rfl := Option.some.inj ho
      refine ⟨rfl, fun K hK => ?_⟩
      clear hin hfix ho
      go_simp
      exact hK _ _ rfl hC (Below.refl _ _)
  case hend =>
  intro vals W hC hV
  have z0 := hV 0 (by decide)
  have z2 := hV 2 (by decide)
  have z4 := hV 4 (by decide)
  have z5 := hV 5 (by decide)
  have z6 := hV 6 (by decide)
  have z8 := hV 8 (by decide)
  have z10 := hV 10 (by decide)
  have z11 := hV 11 (by decide)
  have z12 := hV 12 (by decide)
  clear hV
  simp only at z0 z2 z4 z5 z6 z8 z10 z11 z12 
  have hr : List.range 13 = [0, 1, 2, 3, 4, 5, 6, 7, 8, 9, 10, 11, 12] := rfl
  simp only [List.size_toArray, List.length_cons, List.length_nil, Nat.reduceAdd, List.drop_succ_cons, List.drop_zero, putA, hr, List.foldl_cons, List.foldl_nil, dstR, List.getElem?_toArray, List.getElem?_cons_succ, List.getElem?_cons_zero, Option.bind_some, Act.put, List.setIfInBounds_toArray, List.set_cons_succ, List.set_cons_zero, z0, z2, z4, z5, z6, z8, z10, z11, z12]
  clear hr z0 z2 z4 z5 z6 z8 z10 z11 z12
  obtain ⟨x1, hx1⟩ : ∃ v, v = vals 1 := ⟨_, rfl⟩
  obtain ⟨x3, hx3⟩ : ∃ v, v = vals 3 := ⟨_, rfl⟩
  obtain ⟨x7, hx7⟩ : ∃ v, v = vals 7 := ⟨_, rfl⟩
  obtain ⟨x9, hx9⟩ : ∃ v, v = vals 9 := ⟨_, rfl⟩
  rw [← hx1, ← hx3, ← hx7, ← hx9]
  clear hx1 hx3 hx7 hx9 vals
  have hB2 : Below w.heap.size w W := up hC hB1
  go_wp2_with fail
  refine (HC.out _ (HT.out.below hB2 (Nat.le_refl _))).mono ?_
  rintro e w3 ⟨rfl, b3⟩
  go_wp2_with fail
  go_ret
  exact ⟨rfl, up b3 hB2⟩
theorem canonl_of (f g : Sol) (hf : Fit f) (hg : Fit g) (w : World) (hT : Tab64 w) :
    Calls Tryz.prog 9 #[sol f, sol g] w (RetB (.bool true) w) :=
  canonl_core f g _ _ w hT hf hg rfl rfl (Lib.hid fun W hW => carved_of ev_cav W hW)
end Go.Proofs.YtadkaplafaeebaaGreatDoor
