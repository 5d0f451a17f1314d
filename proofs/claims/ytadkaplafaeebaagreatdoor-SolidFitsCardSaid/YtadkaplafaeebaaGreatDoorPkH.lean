/-
  The least image of a solid: plain mathematics.
-/
import Derived.Test.YtadkaplafaeebaaGreatDoorPkF
import Derived.Test.YtadkaplafaeebaaGreatDoorPkG
set_option linter.unusedVariables false
set_option linter.unusedSimpArgs false
namespace Go.Proofs.YtadkaplafaeebaaGreatDoor
open Go Go.RowKit

theorem BoxS.putOther {W : World} {B b : Nat} {f : Sol} (h : BoxS W B f) (hne : B ≠ b) (g : Sol) : BoxS (put8 W b g) B f := (((((((h.other hne _).other hne _).other hne _).other hne _).other hne _).other hne _).other hne _).other hne _
theorem shl_lt {b : Int} {p : Nat} (h : p < 18446744073709551616) : shl b p < 18446744073709551616 := by
  unfold shl
  split
  · exact Nat.lt_of_le_of_lt (Nat.div_le_self _ _) h
  · exact Nat.mod_lt _ (by omega)
theorem shiftF_fit {f : Sol} (hf : Fit f) (x y z : Int) : ∀ k, Fit (shiftF f x y z k)
  | 0 => fit0
  | k + 1 => by
    have ih := shiftF_fit hf x y z k
    unfold shiftF
    split
    · exact ih
    · intro i
      unfold up8
      split
      · exact shl_lt (hf k)
      · exact ih i
theorem cornF_fit {f : Sol} (hf : Fit f) : Fit (cornF f) := shiftF_fit hf _ _ _ 8
theorem setC_ne (g : Sol) (c : Cl) : setC g c (cZ c) ≠ 0 := by
  unfold setC up8
  rw [if_pos rfl]
  exact or_ne (.inr (Nat.pos_iff_ne_zero.1 (Nat.two_pow_pos _)))
theorem setC_keep {g : Sol} {k : Nat} (h : g k ≠ 0) (c : Cl) : setC g c k ≠ 0 := by
  unfold setC up8
  split
  · rename_i e; subst e; exact or_ne (.inl h)
  · exact h
theorem foldl_keep (l : List Cl) : ∀ {g : Sol} {k : Nat}, g k ≠ 0 → l.foldl setC g k ≠ 0 := by
  induction l with
  | nil => exact fun h => h
  | cons c l ih => exact fun h => ih (setC_keep h c)
theorem solOf_ne {l : List Cl} (h : l ≠ []) : emptyS (solOf l) = false := by
  cases l with
  | nil => exact absurd rfl h
  | cons c l =>
    have h1 : solOf (c :: l) (cZ c) ≠ 0 := foldl_keep l (setC_ne _ c)
    cases he : emptyS (solOf (c :: l)) with
    | false => rfl
    | true => exact absurd ((empty_iff _).1 he _ (by have := Z_le c; omega)) h1
theorem cellsL_ne {f : Sol} (hf : Fit f) (h : emptyS f = false) : cellsL f ≠ [] := by
  intro h0
  have hz : ∀ k, k < 8 → f k = 0 := by
    intro k hk
    refine Classical.byContradiction fun hne => ?_
    have hm : ci k (low (f k)) ∈ cellsL f := by
      unfold cellsL restL
      refine List.mem_flatMap.2 ⟨k, List.mem_range'_1.2 ⟨by omega, by omega⟩, ?_⟩
      rw [planeL_pos k hne (hf k)]
      exact List.mem_cons_self
    rw [h0] at hm
    cases hm
  rw [(empty_iff f).2 hz] at h
  cases h
theorem turnedF_ne {f : Sol} (hf : Fit f) (h : emptyS f = false) (t : Nat) : emptyS (turnedF f t) = false := solOf_ne fun e => cellsL_ne hf h (List.map_eq_nil_iff.1 e)
/-- An image: a turn, moved to the corner. -/
def imgF (f : Sol) (t : Nat) : Sol := cornF (turnedF f t)
theorem imgF_fit (f : Sol) (t : Nat) : Fit (imgF f t) := cornF_fit (solOf_fit _)
def canonN (f : Sol) : Nat → Sol
  | 0 => cornF f
  | t + 1 => if cmpS (imgF f t) (canonN f t) < 0 then imgF f t else canonN f t
def canonF (f : Sol) : Sol := canonN f 24
theorem canonN_fit {f : Sol} (hf : Fit f) : ∀ t, Fit (canonN f t)
  | 0 => cornF_fit hf
  | t + 1 => by
    unfold canonN
    split
    · exact imgF_fit f t
    · exact canonN_fit hf t
end Go.Proofs.YtadkaplafaeebaaGreatDoor
/-
  Canon and Same.
-/
set_option linter.unusedVariables false
set_option linter.unusedSimpArgs false
namespace Go.Proofs.YtadkaplafaeebaaGreatDoor
open Go Go.RowKit

set_option maxRecDepth 100000 in
set_option maxHeartbeats 4000000 in
theorem canon_any (f : Sol) (w : World) (hf : Fit f) (hT : Tab64 w) :
    Calls Tryz.prog 62 #[sol f] w fun e w' => e = .returned (sol (canonF f)) ∧ Below w.heap.size w w' := by
  have HF := Lib.hid hf
  have HT := Lib.hid hT
  clear hf hT
  go_enter Tryz.func62, Tryz.ntmps62
  go_wp2_with fail
  refine (cornered_any f _ HF.out).mono ?_
  rintro e w1 ⟨rfl, hb1⟩
  have bS : BoxS w1 w.heap.size f := ((BoxS.new w f).alloc _).below hb1 (by simp <;> omega)
  have bR : BoxS w1 (w.heap.size + 1) (fun _ => 0) := (BoxS.zero (by simp)).below hb1 (by simp <;> omega)
  have hB1 : Below w.heap.size w w1 := up hb1 (by repeat' (first | (with_reducible exact Below.refl _ _) | (with_reducible assumption) | (with_reducible refine Below.alloc ?_ ?_ _) | (with_reducible refine Below.drew ?_) | (with_reducible refine below_drewN ?_ _) | (with_reducible refine Below.setCell ?_ ?_ _) | go_size))
  have lS := bS.lt
  have lR := bR.lt
  go_wp2_with fail
  go_loopw [8] (fun c wr => ∃ t : Nat, t ≤ 24 ∧ c = .int .i64 t ∧ BoxS wr w.heap.size f ∧ BoxS wr (w.heap.size + 1) (fun _ => 0) ∧ BoxS wr w1.heap.size (canonN f t) ∧ Below w.heap.size w wr) (fun c _ => 24 - (intOf c).toNat)
  case atStart => exact ⟨0, by omega, rfl, bS.alloc _, bR.alloc _, BoxS.new' rfl, hB1.alloc (by omega) _⟩
  case round =>
    clear bS bR hB1 hb1
    obtain ⟨t, ht, rfl, bS, bR, bL, hB⟩ := hrel
    have kS := bS.lt
    have kR := bR.lt
    have kL := bL.lt
    have c0 := (bS).cell (k := 0) (by omega); have c1 := (bS).cell (k := 1) (by omega); have c2 := (bS).cell (k := 2) (by omega); have c3 := (bS).cell (k := 3) (by omega); have c4 := (bS).cell (k := 4) (by omega); have c5 := (bS).cell (k := 5) (by omega); have c6 := (bS).cell (k := 6) (by omega); have c7 := (bS).cell (k := 7) (by omega)
    by_cases hlt : t < 24
    · have hd : decide ((t : Int) < 24) = true := decide_eq_true (by omega)
      go_wp2_with fail
      refine (turned_ok f t _ HF.out hlt (HT.out.below hB (Nat.le_refl _))).mono ?_
      rintro e w2 ⟨rfl, hb2⟩
      have bS2 := bS.below hb2 kS
      have bR2 := bR.below hb2 kR
      have bL2 := bL.below hb2 kL
      have hB2 : Below w.heap.size w w2 := up hb2 hB
      have s2 := hb2.size
      go_wp2_with fail
      refine (cornered_any (turnedF f t) _ (solOf_fit _)).mono ?_
      rintro e w3 ⟨rfl, hb3⟩
      have bS3 := bS2.below hb3 bS2.lt
      have bR3 := bR2.below hb3 bR2.lt
      have bL3 := bL2.below hb3 bL2.lt
      have hB3 : Below w.heap.size w w3 := up hb3 hB2
      have s3 := hb3.size
      clear c0 c1 c2 c3 c4 c5 c6 c7
      have lL3 := bL3.lt
      have c0 := (bL3).cell (k := 0) (by omega); have c1 := (bL3).cell (k := 1) (by omega); have c2 := (bL3).cell (k := 2) (by omega); have c3 := (bL3).cell (k := 3) (by omega); have c4 := (bL3).cell (k := 4) (by omega); have c5 := (bL3).cell (k := 5) (by omega); have c6 := (bL3).cell (k := 6) (by omega); have c7 := (bL3).cell (k := 7) (by omega)
      have q0 := (bL3).free 0; have q1 := (bL3).free 1; have q2 := (bL3).free 2; have q3 := (bL3).free 3; have q4 := (bL3).free 4; have q5 := (bL3).free 5; have q6 := (bL3).free 6; have q7 := (bL3).free 7
      go_wp2_with fail
      have HC := compare_ok (imgF f t) (canonN f t)
      obtain ⟨d, hd2⟩ : ∃ d, d = cmpS (imgF f t) (canonN f t) := ⟨_, rfl⟩
      rw [← hd2] at HC
      have HD := Lib.hid hd2
      clear hd2
      refine (HC _).mono ?_
      rintro e w4 ⟨rfl, hb4⟩
      have bI4 : BoxS w4 w3.heap.size (imgF f t) := (BoxS.new' rfl).below hb4 (by simp)
      have bS4 := (bS3.alloc (.cells (solC (imgF f t)) 24)).below hb4 (by have := bS3.lt; simp; omega)
      have bR4 := (bR3.alloc (.cells (solC (imgF f t)) 24)).below hb4 (by have := bR3.lt; simp; omega)
      have bL4 := (bL3.alloc (.cells (solC (imgF f t)) 24)).below hb4 (by simp; omega)
      have hB4 : Below w.heap.size w w4 := up hb4 (hB3.alloc (by omega) _)
      clear c0 c1 c2 c3 c4 c5 c6 c7 q0 q1 q2 q3 q4 q5 q6 q7 HC
      by_cases hz : d < 0
      · have hz2 : decide (d < 0) = true := decide_eq_true hz
        have lI := bI4.lt
        have lL := bL4.lt
        have c0 := (bI4).cell (k := 0) (by omega); have c1 := (bI4).cell (k := 1) (by omega); have c2 := (bI4).cell (k := 2) (by omega); have c3 := (bI4).cell (k := 3) (by omega); have c4 := (bI4).cell (k := 4) (by omega); have c5 := (bI4).cell (k := 5) (by omega); have c6 := (bI4).cell (k := 6) (by omega); have c7 := (bI4).cell (k := 7) (by omega)
        have p0 := (bL4).cell (k := 0) (by omega); have p1 := (bL4).cell (k := 1) (by omega); have p2 := (bL4).cell (k := 2) (by omega); have p3 := (bL4).cell (k := 3) (by omega); have p4 := (bL4).cell (k := 4) (by omega); have p5 := (bL4).cell (k := 5) (by omega); have p6 := (bL4).cell (k := 6) (by omega); have p7 := (bL4).cell (k := 7) (by omega)
        have q0 := (bL4).free 0; have q1 := (bL4).free 1; have q2 := (bL4).free 2; have q3 := (bL4).free 3; have q4 := (bL4).free 4; have q5 := (bL4).free 5; have q6 := (bL4).free 6; have q7 := (bL4).free 7
        go_wp2_with fail
        have bL5 := bL4.put (imgF f t)
        go_roundw
        case rel => exact ⟨t + 1, by omega, by go_num, bS4.putOther (by omega) _, bR4.putOther (by omega) _, by rw [show canonN f (t + 1) = imgF f t by rw [canonN, if_pos (by rw [← HD.out]; exact hz)]]; exact bL5, below_put8 hB4 (by omega) _⟩
        case measure => simp [intOf]; omega
      · have hz2 : decide (d < 0) = false := decide_eq_false hz
        go_wp2_with fail
        go_roundw
        case rel => exact ⟨t + 1, by omega, by go_num, bS4, bR4, by rw [show canonN f (t + 1) = canonN f t by rw [canonN, if_neg (by rw [← HD.out]; omega)]]; exact bL4, hB4⟩
        case measure => simp [intOf]; omega
    · obtain rfl : t = 24 := by omega
      have hd : decide ((24 : Int) < 24) = false := by decide
      have p0 := (bL).cell (k := 0) (by omega); have p1 := (bL).cell (k := 1) (by omega); have p2 := (bL).cell (k := 2) (by omega); have p3 := (bL).cell (k := 3) (by omega); have p4 := (bL).cell (k := 4) (by omega); have p5 := (bL).cell (k := 5) (by omega); have p6 := (bL).cell (k := 6) (by omega); have p7 := (bL).cell (k := 7) (by omega)
      have r0 := (bR).cell (k := 0) (by omega); have r1 := (bR).cell (k := 1) (by omega); have r2 := (bR).cell (k := 2) (by omega); have r3 := (bR).cell (k := 3) (by omega); have r4 := (bR).cell (k := 4) (by omega); have r5 := (bR).cell (k := 5) (by omega); have r6 := (bR).cell (k := 6) (by omega); have r7 := (bR).cell (k := 7) (by omega)
      have q0 := (bR).free 0; have q1 := (bR).free 1; have q2 := (bR).free 2; have q3 := (bR).free 3; have q4 := (bR).free 4; have q5 := (bR).free 5; have q6 := (bR).free 6; have q7 := (bR).free 7
      go_wp2_with fail
      refine bodyPost_ret (res_s (bR.put (canonN f 24)) Tryz.results62 rfl) rfl ⟨rfl, ?_⟩
      exact below_put8 hB (by omega) _
theorem canon_ok (f : Sol) (w : World) (hf : Fit f) (h : emptyS f = false) (hT : Tab64 w) :
    Calls Tryz.prog 62 #[sol f] w fun e w' => e = .returned (sol (canonF f)) ∧ Below w.heap.size w w' := canon_any f w hf hT
end Go.Proofs.YtadkaplafaeebaaGreatDoor
/-
  Same.
-/
set_option linter.unusedVariables false
set_option linter.unusedSimpArgs false
namespace Go.Proofs.YtadkaplafaeebaaGreatDoor
open Go Go.RowKit

def sameB (f g : Sol) : Bool := eqS (canonF f) (canonF g)
set_option maxRecDepth 100000 in
set_option maxHeartbeats 4000000 in
theorem same_any (f g : Sol) (w : World) (hf : Fit f) (hg : Fit g) (hT : Tab64 w) :
    Calls Tryz.prog 64 #[sol f, sol g] w fun e w' => e = .returned (.bool (sameB f g)) ∧ Below w.heap.size w w' := by
  have b1 := (BoxS.new w f).alloc (.cells (solC g) 24)
  have b2 : BoxS ((w.alloc (.cells (solC f) 24)).alloc (.cells (solC g) 24)) (w.heap.size + 1) g := BoxS.new' (by simp)
  have HF := Lib.hid hf
  have HG := Lib.hid hg
  have HT := Lib.hid hT
  have CF := Lib.hid (fun W (h : Below w.heap.size w W) => canon_any f W HF.out (HT.out.below h (Nat.le_refl _)))
  have CG := Lib.hid (fun W (h : Below w.heap.size w W) => canon_any g W HG.out (HT.out.below h (Nat.le_refl _)))
  clear hf hg hT
  go_enter Tryz.func64, Tryz.ntmps64
  go_wp2_with fail
  obtain ⟨W, hW⟩ : ∃ W, W = ((w.alloc (.cells (solC f) 24)).alloc (.cells (solC g) 24)) := ⟨_, rfl⟩
  have hBW : Below w.heap.size w W := by rw [hW]; repeat' (first | (with_reducible exact Below.refl _ _) | (with_reducible assumption) | (with_reducible refine Below.alloc ?_ ?_ _) | (with_reducible refine Below.drew ?_) | (with_reducible refine below_drewN ?_ _) | (with_reducible refine Below.setCell ?_ ?_ _) | go_size)
  rw [← hW] at b1 b2 ⊢
  have l1 := b1.lt
  have l2 := b2.lt
  clear hW
  have c0 := (b1).cell (k := 0) (by omega); have c1 := (b1).cell (k := 1) (by omega); have c2 := (b1).cell (k := 2) (by omega); have c3 := (b1).cell (k := 3) (by omega); have c4 := (b1).cell (k := 4) (by omega); have c5 := (b1).cell (k := 5) (by omega); have c6 := (b1).cell (k := 6) (by omega); have c7 := (b1).cell (k := 7) (by omega)
  have r0 := (b2).cell (k := 0) (by omega); have r1 := (b2).cell (k := 1) (by omega); have r2 := (b2).cell (k := 2) (by omega); have r3 := (b2).cell (k := 3) (by omega); have r4 := (b2).cell (k := 4) (by omega); have r5 := (b2).cell (k := 5) (by omega); have r6 := (b2).cell (k := 6) (by omega); have r7 := (b2).cell (k := 7) (by omega)
  (refine wp_region_quiet (C := fun w' => Below W.heap.size W w') (by kernel_rfl) (by kernel_rfl) (Below.drew (Below.refl _ _)) ?_; (iterate 6 (refine wpQuiet_step (fun K hK => ?_); go_simp; first | (refine hK _ ?_; clear hK K) | (apply Exists.intro; refine ⟨fun W' hW' => ?_, hK _ ?_⟩; (focus (first | (with_reducible exact rfl) | (with_reducible exact ⟨rfl, rfl⟩) | (obtain ⟨hcq, hfq⟩ := bcell hW'; have hzq := hW'.size; (try go_simp); first | (with_reducible exact rfl) | (with_reducible exact ⟨rfl, rfl⟩) | (first | ((with_reducible refine Calls.mono (CF.out _ (hBW.trans (hW'.mono hBW.size))) ?_); rintro e w9 ⟨rfl, hb9⟩; exact ⟨rfl, hW'.trans (hb9.mono hW'.size)⟩) | ((with_reducible refine Calls.mono (CG.out _ (hBW.trans (hW'.mono hBW.size))) ?_); rintro e w9 ⟨rfl, hb9⟩; exact ⟨rfl, hW'.trans (hb9.mono hW'.size)⟩))))); clear hK K))); refine wpQuiet_nil ?_; intro w1q hb1q)
  go_wp2_with fail
  go_ret
  exact ⟨rfl, hBW.trans (hb1q.mono hBW.size)⟩
theorem same_ok (f g : Sol) (w : World) (hf : Fit f) (hg : Fit g) (h : emptyS f = false) (h' : emptyS g = false) (hT : Tab64 w) :
    Calls Tryz.prog 64 #[sol f, sol g] w fun e w' => e = .returned (.bool (sameB f g)) ∧ Below w.heap.size w w' := same_any f g w hf hg hT
end Go.Proofs.YtadkaplafaeebaaGreatDoor
