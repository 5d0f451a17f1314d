/-
  The reference's Tunnels; the law of shapes.
-/
import Derived.Test.YtadkaplafaeebaaGreatDoorPkUEQ
import Derived.Test.YtadkaplafaeebaaGreatDoorPkUDQ
import Derived.Test.YtadkaplafaeebaaGreatDoorPkPQ
import Derived.Test.YtadkaplafaeebaaGreatDoorPkWQ
import Derived.Test.YtadkaplafaeebaaGreatDoorCanonLQ
set_option linter.unusedVariables false
set_option linter.unusedSimpArgs false
namespace Go.Proofs.YtadkaplafaeebaaGreatDoor
open Go Go.RowKit Go.Shelf

set_option maxRecDepth 100000 in
set_option maxHeartbeats 4000000 in
theorem rtunnels_ok (f : Sol) (a b : Nat) (c : Int) (w : World) (hf : Fit f) (hT : Tab64 w) (ha : (partsF f).length = a) (hb : (cavF f).length = b) (hc : eulF f = c) (ba : a ≤ 100000) (bb : b ≤ 100000) (bc : -100000 ≤ c ∧ c ≤ 100000) :
    Calls Tryz.prog 79 #[sol f] w fun e w' => e = .returned (.int .i64 ((a : Int) + (b : Int) - c)) ∧ Below w.heap.size w w' := by
  have HP : ∀ W, Tab64 W → Calls Tryz.prog 73 #[sol f] W fun e w' => (∃ p cap, e = .returned (.slice p a cap)) ∧ Below W.heap.size W w' := fun W hT => (rparts_ok f W hf).mono fun e w' ⟨v, he, ho, hb⟩ => by
    obtain ⟨p, cap, rfl⟩ := own_len ho.1
    rw [ha] at he
    exact ⟨⟨p, cap, he⟩, hb⟩
  have HC : ∀ W, Tab64 W → Calls Tryz.prog 75 #[sol f] W fun e w' => (∃ p cap, e = .returned (.slice p b cap)) ∧ Below W.heap.size W w' := fun W hT => (rcav_ok f W hf).mono fun e w' ⟨v, he, ho, hbb⟩ => by
    obtain ⟨p, cap, rfl⟩ := own_len ho.1
    rw [hb] at he
    exact ⟨⟨p, cap, he⟩, hbb⟩
  have HE0 : ∀ W, Tab64 W → Calls Tryz.prog 77 #[sol f] W fun e w' => e = .returned (.int .i64 c) ∧ Below W.heap.size W w' := fun W hT => by
    have := reul_ok f W hf
    rwa [hc] at this
  have HPP := Lib.hid HP
  have HCC := Lib.hid HC
  have HE := Lib.hid HE0
  have HT := Lib.hid hT
  clear HP HC HE0 hf hT ha hb hc
  obtain ⟨bc1, bc2⟩ := bc
  have b1 : BoxS (w.alloc (.cells (solC f) 24)) w.heap.size f := BoxS.new w f
  have hA : Below w.heap.size w (w.alloc (.cells (solC f) 24)) := by repeat' (first | (with_reducible exact Below.refl _ _) | (with_reducible assumption) | (with_reducible refine Below.alloc ?_ ?_ _) | (with_reducible refine Below.drew ?_) | (with_reducible refine below_drewN ?_ _) | (with_reducible refine Below.setCell ?_ ?_ _) | go_size)
  have hT0 := Lib.hid (HT.out.below hA (Nat.le_refl _))
  go_enter Tryz.func79, Tryz.ntmps79
  go_wp2
  obtain ⟨W0, hW0⟩ : ∃ W0, W0 = w.alloc (.cells (solC f) 24) := ⟨_, rfl⟩
  rw [← hW0] at b1 hA hT0 ⊢
  have hA0 : Below w.heap.size w W0.drew := hA.drew
  have hs := hA.size
  have l0 := b1.lt
  clear hW0
  have hCd : Below W0.heap.size W0 W0.drew := Below.drew (Below.refl _ _)
  refine wp_region_rel (fun i v => match i with
    | 0 => v = sol f | 1 => ∃ p cap, v = .slice p a cap | 2 => v = .int .i64 a | 3 => v = sol f | 4 => ∃ p cap, v = .slice p b cap | 5 => v = .int .i64 b
    | 6 => v = .int .i64 ((a : Int) + b) | 7 => v = sol f | 8 => v = .int .i64 c | _ => v = .int .i64 ((a : Int) + b - c)) (fun W => Below W0.heap.size W0 W) (by kernel_rfl) (by kernel_rfl) (by kernel_rfl) hCd (by kernel_rfl) (by kernel_rfl) ?hop ?hend
  case hop =>
    intro i o ho a' W hC hin hfix K hK
    have bS := b1.below hC l0
    have hT1 := Lib.hid (hT0.out.below hC (Nat.le_refl _))
    have hi : i < 11 := (Array.getElem?_eq_some_iff.1 ho).1
    have q1 : a'.tmps[1]? = some (.pointer (some ⟨w.heap.size, 0, none⟩)) := hfix 1 (by kernel_rfl)
    have wk1 : IntKind.i64.wrap ((a : Int) + b) = (a : Int) + b := IntWalk.i64_in _ (by omega)
    have wk2 : IntKind.i64.wrap ((a : Int) + b - c) = (a : Int) + b - c := IntWalk.i64_in _ (by omega)
    have d0 := (bS).cell (k := 0) (by omega); have d1 := (bS).cell (k := 1) (by omega); have d2 := (bS).cell (k := 2) (by omega); have d3 := (bS).cell (k := 3) (by omega); have d4 := (bS).cell (k := 4) (by omega); have d5 := (bS).cell (k := 5) (by omega); have d6 := (bS).cell (k := 6) (by omega); have d7 := (bS).cell (k := 7) (by omega)
    rcases (show i = 0 ∨ i = 1 ∨ i = 2 ∨ i = 3 ∨ i = 4 ∨ i = 5 ∨ i = 6 ∨ i = 7 ∨ i = 8 ∨ i = 9 ∨ i = 10 by omega) with rfl | rfl | rfl | rfl | rfl | rfl | rfl | rfl | rfl | rfl | rfl
    · obtain rfl := Option.some.inj ho
      clear hin hfix ho
      go_simp
      exact hK _ _ rfl hC
    · obtain ⟨v0, rfl, h0⟩ := hin 0 3 (by kernel_rfl) (by kernel_rfl)
      obtain rfl := Option.some.inj ho
      clear hin hfix ho
      go_simp
      refine (HPP.out W hT1.out).mono ?_
      rintro e W2 ⟨he, hb⟩
      obtain ⟨p, cap, rfl⟩ := he
      exact hK _ _ ⟨p, cap, rfl⟩ (hC.trans (hb.mono hC.size))
    · obtain ⟨v1, ⟨p1, cap1, rfl⟩, h1⟩ := hin 1 4 (by kernel_rfl) (by kernel_rfl)
      obtain rfl := Option.some.inj ho
      clear hin hfix ho
      go_simp
      exact hK _ _ rfl hC
    · obtain rfl := Option.some.inj ho
      clear hin hfix ho
      go_simp
      exact hK _ _ rfl hC
    · obtain ⟨v3, rfl, h3⟩ := hin 3 6 (by kernel_rfl) (by kernel_rfl)
      obtain rfl := Option.some.inj ho
      clear hin hfix ho
      go_simp
      refine (HCC.out W hT1.out).mono ?_
      rintro e W2 ⟨he, hb⟩
      obtain ⟨p, cap, rfl⟩ := he
      exact hK _ _ ⟨p, cap, rfl⟩ (hC.trans (hb.mono hC.size))
    · obtain ⟨v4, ⟨p4, cap4, rfl⟩, h4⟩ := hin 4 7 (by kernel_rfl) (by kernel_rfl)
      obtain rfl := Option.some.inj ho
      clear hin hfix ho
      go_simp
      exact hK _ _ rfl hC
    · obtain ⟨v2, rfl, h2⟩ := hin 2 5 (by kernel_rfl) (by kernel_rfl)
      obtain ⟨v5, rfl, h5⟩ := hin 5 8 (by kernel_rfl) (by kernel_rfl)
      obtain rfl := Option.some.inj ho
      clear hin hfix ho
      go_simp
      exact hK _ _ rfl hC
    · obtain rfl := Option.some.inj ho
      clear hin hfix ho
      go_simp
      exact hK _ _ rfl hC
    · obtain ⟨v7, rfl, h7⟩ := hin 7 10 (by kernel_rfl) (by kernel_rfl)
      obtain rfl := Option.some.inj ho
      clear hin hfix ho
      go_simp
      refine (HE.out W hT1.out).mono ?_
      rintro e W2 ⟨he, hb⟩
      subst he
      exact hK _ _ rfl (hC.trans (hb.mono hC.size))
    · obtain ⟨v6, rfl, h6⟩ := hin 6 9 (by kernel_rfl) (by kernel_rfl)
      obtain ⟨v8, rfl, h8⟩ := hin 8 11 (by kernel_rfl) (by kernel_rfl)
      obtain rfl := Option.some.inj ho
      clear hin hfix ho
      go_simp
      exact hK _ _ rfl hC
    · obtain ⟨v9, rfl, h9⟩ := hin 9 12 (by kernel_rfl) (by kernel_rfl)
      obtain rfl := Option.some.inj ho
      clear hin hfix ho
      go_simp
      exact hK _ _ rfl hC
  case hend =>
    intro vals W hC hV
    have r0 := hV 0 (by decide)
    obtain ⟨p1, cap1, r1⟩ := hV 1 (by decide)
    have r2 := hV 2 (by decide)
    have r3 := hV 3 (by decide)
    obtain ⟨p4, cap4, r4⟩ := hV 4 (by decide)
    have r5 := hV 5 (by decide)
    have r6 := hV 6 (by decide)
    have r7 := hV 7 (by decide)
    have r8 := hV 8 (by decide)
    have r9 := hV 9 (by decide)
    have r10 := hV 10 (by decide)
    generalize hA2 : putA _ vals _ _ = A
    have eA : A = { tmps := #[sol f, .pointer (some ⟨w.heap.size, 0, none⟩), vals 10, vals 0, vals 1, vals 2, vals 3, vals 4, vals 5, vals 6, vals 7, vals 8, vals 9], defers := [] } := hA2.symm.trans (by kernel_rfl)
    rw [eA]
    clear hA2 eA
    simp only at r0 r2 r3 r5 r6 r7 r8 r9 r10
    rw [r0, r1, r2, r3, r4, r5, r6, r7, r8, r9, r10]
    clear A hV r0 r1 r2 r3 r4 r5 r6 r7 r8 r9 r10
    go_wp2
    go_ret
    exact ⟨rfl, hA.trans (hC.mono hA.size)⟩
end Go.Proofs.YtadkaplafaeebaaGreatDoor
/-
  The law of shapes: its walk, the contracts of its callees given; the law for every solid.
-/
set_option linter.unusedVariables false
set_option linter.unusedSimpArgs false
namespace Go.Proofs.YtadkaplafaeebaaGreatDoor
open Go Go.RowKit

set_option maxRecDepth 100000 in
set_option maxHeartbeats 2000000 in
theorem small_ok (f : Sol) (b : Bool) (w : World) (hf : Fit f) (hb : decide ((numF f : Int) ≤ 80) = b) :
    Calls Tryz.prog 71 #[sol f] w (RetB (.bool b) w) := by
  have HC := Lib.hid (fun X => rcount_ok f X hf)
  have S0 : BoxS (w.alloc (.cells (solC f) 24)) w.heap.size f := BoxS.new _ _
  have hB0 : Below w.heap.size w (w.alloc (.cells (solC f) 24)) := by repeat' (first | (with_reducible exact Below.refl _ _) | (with_reducible assumption) | (with_reducible refine Below.alloc ?_ ?_ _) | (with_reducible refine Below.drew ?_) | (with_reducible refine below_drewN ?_ _) | (with_reducible refine Below.setCell ?_ ?_ _) | go_size)
  generalize numF f = n at *
  have s0 := (S0).cell (k := 0) (by omega); have s1 := (S0).cell (k := 1) (by omega); have s2 := (S0).cell (k := 2) (by omega); have s3 := (S0).cell (k := 3) (by omega); have s4 := (S0).cell (k := 4) (by omega); have s5 := (S0).cell (k := 5) (by omega); have s6 := (S0).cell (k := 6) (by omega); have s7 := (S0).cell (k := 7) (by omega)
  go_enter Tryz.func71, Tryz.ntmps71
  go_wp2_with fail
  refine (HC.out _).mono ?_
  rintro e w1 ⟨rfl, b1⟩
  go_wp2_with fail
  go_ret
  exact ⟨rfl, up b1 hB0⟩
theorem same_self (l : List Sol) (i : Nat) (x y : Sol) (hx : l[i]? = some x) (hy : l[i]? = some y) : eqS x y = true := by
  rw [hx] at hy
  injection hy with e
  rw [e]
  exact decide_eq_true ⟨rfl, rfl, rfl, rfl, rfl, rfl, rfl, rfl⟩
theorem eul_bd (f : Sol) : -6000 ≤ eulF f ∧ eulF f ≤ 6000 := by
  have := eulZ_le f 9
  rw [eul_ref] at this
  omega
theorem cav_len (f : Sol) : (cavF f).length ≤ 512 := Nat.le_trans (List.length_filter_le _ _) (clsF_len _ _)
set_option maxRecDepth 100000 in
set_option maxHeartbeats 4000000 in
theorem shape_core (f : Sol) (n a b : Nat) (c : Int) (w : World) (hT : Tab64 w) (hf : Fit f) (hsk : skinF f = n) (ha : (partsF f).length = a) (hb : (cavF f).length = b) (hc : eulF f = c)
    (HC : Hid (∀ W, Tab64 W → Calls Tryz.prog 20 #[] W (RetB (.bool true) W))) :
    Calls Tryz.prog 10 #[sol f] w (RetB (.bool true) w) := by
  have HT := Lib.hid hT
  have HF := Lib.hid hf
  have hbd := eul_bd f
  have hpl := clsF_len touchL f
  have hcl := cav_len f
  have ba : a ≤ 100000 := by rw [← ha]; exact Nat.le_trans hpl (by omega)
  have bb : b ≤ 100000 := by omega
  have bc : -100000 ≤ c ∧ c ≤ 100000 := by omega
  have C1 := Lib.hid (fun (X : World) (h : Tab64 X) => euler_ok f X hf h)
  have C2 := Lib.hid (fun (X : World) => reul_ok f X hf)
  have C3 := Lib.hid (fun (X : World) (h : Tab64 X) => tunnels_ok f a b c X hf h ha hb hc ba bb bc)
  have C4 := Lib.hid (fun (X : World) (h : Tab64 X) => rtunnels_ok f a b c X hf h ha hb hc ba bb bc)
  have C5 := Lib.hid (fun (X : World) (h : Tab64 X) => skin_ok f X hf h)
  have C6 := Lib.hid (fun (X : World) => rskin_ok f X hf)
  rw [hc] at C1 C2
  rw [hsk] at C5 C6
  have k1 : (c == c) = true := by simp
  have k2 : (((a : Int) + (b : Int) - c) == ((a : Int) + (b : Int) - c)) = true := by simp
  have k3 : (((n : Nat) : Int) == ((n : Nat) : Int)) = true := by simp
  have HPL := Lib.hid hpl
  have HKL := Lib.hid hcl
  clear hT hsk ha hb hc hbd hpl hcl ba bb bc
  have A_0 : BoxS (w.alloc (.cells (solC f) 24)) w.heap.size f := (BoxS.new _ _)
  have hB0 : Below w.heap.size w (w.alloc (.cells (solC f) 24)) := by repeat' (first | (with_reducible exact Below.refl _ _) | (with_reducible assumption) | (with_reducible refine Below.alloc ?_ ?_ _) | (with_reducible refine Below.drew ?_) | (with_reducible refine below_drewN ?_ _) | (with_reducible refine Below.setCell ?_ ?_ _) | go_size)
  go_enter Tryz.func10, Tryz.ntmps10
  have c0 := (A_0).cell (k := 0) (by omega); have c1 := (A_0).cell (k := 1) (by omega); have c2 := (A_0).cell (k := 2) (by omega); have c3 := (A_0).cell (k := 3) (by omega); have c4 := (A_0).cell (k := 4) (by omega); have c5 := (A_0).cell (k := 5) (by omega); have c6 := (A_0).cell (k := 6) (by omega); have c7 := (A_0).cell (k := 7) (by omega)
  obtain ⟨sm, hsm⟩ : ∃ sm, decide ((numF f : Int) ≤ 80) = sm := ⟨_, rfl⟩
  have HSM := Lib.hid (fun (X : World) => small_ok f sm X hf hsm)
  clear hsm hf
  go_wp2_with fail
  refine (HSM.out _).mono ?_
  rintro e w1 ⟨rfl, b1⟩
  have A_1 := A_0.below b1 A_0.lt
  have hB1 : Below w.heap.size w w1 := up b1 hB0
  clear A_0 hB0 b1 c0 c1 c2 c3 c4 c5 c6 c7
  cases sm with
  | false =>
    go_wp2_with fail
    refine (HC.out _ (HT.out.below hB1 (Nat.le_refl _))).mono ?_
    rintro e w2 ⟨rfl, b2⟩
    go_wp2_with fail
    go_ret
    exact ⟨rfl, up b2 hB1⟩
  | true =>
    go_upto_region 3 with fail
    obtain ⟨U, hU⟩ : ∃ U, U = w1 := ⟨_, rfl⟩
    subst hU
    have lA : w.heap.size < U.heap.size := A_1.lt
    have HTU := Lib.hid (HT.out.below hB1 (Nat.le_refl _))
    have hCd : Below U.heap.size U U.drew := Below.drew (Below.refl _ _)
    refine wp_region_relW (fun (i : Nat) (v : Value) (W : World) => match i with | 0 => v = sol f | 1 => ∃ b, W.ownsRow b 24 8 v (partsF f).length (flatS (partsF f)) | 2 => v = sol f | 3 => ∃ b, W.ownsRow b 24 8 v (partsF f).length (flatS (partsF f)) | 4 => v = .bool true | 5 => v = .bool true | 6 => v = sol f | 7 => ∃ b, W.ownsRow b 24 8 v (cavF f).length (flatS (cavF f)) | 8 => v = sol f | 9 => ∃ b, W.ownsRow b 24 8 v (cavF f).length (flatS (cavF f)) | 10 => v = .bool true | 11 => v = .bool true | _ => v = .bool true) (fun W => Below U.heap.size U W) (by kernel_rfl) (by kernel_rfl) (by kernel_rfl) hCd (by kernel_rfl) ?hst ?hop ?hend
    case hst =>
      intro j v W W' hb hv
      rcases j with _ | _ | _ | _ | _ | _ | _ | _ | _ | _ | _ | _ | _ | j
      all_goals first | exact hv | (obtain ⟨b, hr⟩ := hv; exact ⟨b, row_below hr hb⟩) | (obtain ⟨b, hr, hn⟩ := hv; exact ⟨b, row_below hr hb, hn⟩)
    case hop =>
      intro i o ho a' W hC hin hfix
      have A3 := A_1.below hC lA
      have a0 := (A3).cell (k := 0) (by omega); have a1 := (A3).cell (k := 1) (by omega); have a2 := (A3).cell (k := 2) (by omega); have a3 := (A3).cell (k := 3) (by omega); have a4 := (A3).cell (k := 4) (by omega); have a5 := (A3).cell (k := 5) (by omega); have a6 := (A3).cell (k := 6) (by omega); have a7 := (A3).cell (k := 7) (by omega)
      have q1 : a'.tmps[1]? = some (.pointer (some ⟨w.heap.size, 0, none⟩)) := hfix 1 (by kernel_rfl)
      have hi : i < 13 := (Array.getElem?_eq_some_iff.1 ho).1
      rcases (show i = 0 ∨ i = 1 ∨ i = 2 ∨ i = 3 ∨ i = 4 ∨ i = 5 ∨ i = 6 ∨ i = 7 ∨ i = 8 ∨ i = 9 ∨ i = 10 ∨ i = 11 ∨ i = 12 by omega) with rfl | rfl | rfl | rfl | rfl | rfl | rfl | rfl | rfl | rfl | rfl | rfl | rfl
      · obtain rfl := Option.some.inj ho
        refine ⟨rfl, fun K hK => ?_⟩
        clear hin hfix ho
        go_simp
        exact hK _ _ rfl hC (Below.refl _ _)
      · obtain ⟨v0, rfl, h0⟩ := hin 0 8 (by kernel_rfl) (by kernel_rfl)
        obtain rfl := Option.some.inj ho
        refine ⟨rfl, fun K hK => ?_⟩
        clear hin hfix ho
        go_simp
        refine (parts_ok f _ HF.out (HTU.out.below hC (Nat.le_refl _))).mono ?_
        rintro e W2 ⟨v, rfl, ho, hb⟩
        exact hK _ _ ⟨_, ho.1⟩ (hC.trans (hb.mono hC.size)) hb
      · obtain rfl := Option.some.inj ho
        refine ⟨rfl, fun K hK => ?_⟩
        clear hin hfix ho
        go_simp
        exact hK _ _ rfl hC (Below.refl _ _)
      · obtain ⟨v2, rfl, h2⟩ := hin 2 10 (by kernel_rfl) (by kernel_rfl)
        obtain rfl := Option.some.inj ho
        refine ⟨rfl, fun K hK => ?_⟩
        clear hin hfix ho
        go_simp
        refine (rparts_ok f _ HF.out).mono ?_
        rintro e W2 ⟨v, rfl, ho, hb⟩
        exact hK _ _ ⟨_, ho.1⟩ (hC.trans (hb.mono hC.size)) hb
      · obtain ⟨v1, ⟨b1, hr1⟩, h1⟩ := hin 1 9 (by kernel_rfl) (by kernel_rfl)
        obtain ⟨v3, ⟨b3, hr3⟩, h3⟩ := hin 3 11 (by kernel_rfl) (by kernel_rfl)
        obtain rfl := Option.some.inj ho
        refine ⟨rfl, fun K hK => ?_⟩
        clear hin hfix ho
        go_simp
        refine (sameSolids_ok (partsF f) (partsF f) _ _ _ _ _ hr1 hr3 rfl (same_self _) (Nat.le_trans HPL.out (by omega))).mono ?_
        rintro e W2 ⟨rfl, hb⟩
        exact hK _ _ rfl (hC.trans (hb.mono hC.size)) hb
      · obtain ⟨v4, rfl, h4⟩ := hin 4 12 (by kernel_rfl) (by kernel_rfl)
        obtain rfl := Option.some.inj ho
        refine ⟨rfl, fun K hK => ?_⟩
        clear hin hfix ho
        go_simp
        exact hK _ _ rfl hC (Below.refl _ _)
      · obtain ⟨v5, rfl, h5⟩ := hin 5 13 (by kernel_rfl) (by kernel_rfl)
        obtain rfl := Option.some.inj ho
        refine ⟨wanted_at (j := 5) (t := 13) rfl (by kernel_rfl) h5, fun K hK => ?_⟩
        clear hin hfix ho
        go_simp
        exact hK _ _ rfl hC (Below.refl _ _)
      · obtain ⟨v6, rfl, h6⟩ := hin 6 14 (by kernel_rfl) (by kernel_rfl)
        obtain ⟨v5, rfl, h5⟩ := hin 5 13 (by kernel_rfl) (by kernel_rfl)
        obtain rfl := Option.some.inj ho
        refine ⟨wanted_at (j := 5) (t := 13) rfl (by kernel_rfl) h5, fun K hK => ?_⟩
        clear hin hfix ho
        go_simp
        refine (cav_ok f _ HF.out (HTU.out.below hC (Nat.le_refl _))).mono ?_
        rintro e W2 ⟨v, rfl, ho, hb⟩
        exact hK _ _ ⟨_, ho.1⟩ (hC.trans (hb.mono hC.size)) hb
      · obtain ⟨v5, rfl, h5⟩ := hin 5 13 (by kernel_rfl) (by kernel_rfl)
        obtain rfl := Option.some.inj ho
        refine ⟨wanted_at (j := 5) (t := 13) rfl (by kernel_rfl) h5, fun K hK => ?_⟩
        clear hin hfix ho
        go_simp
        exact hK _ _ rfl hC (Below.refl _ _)
      · obtain ⟨v8, rfl, h8⟩ := hin 8 16 (by kernel_rfl) (by kernel_rfl)
        obtain ⟨v5, rfl, h5⟩ := hin 5 13 (by kernel_rfl) (by kernel_rfl)
        obtain rfl := Option.some.inj ho
        refine ⟨wanted_at (j := 5) (t := 13) rfl (by kernel_rfl) h5, fun K hK => ?_⟩
        clear hin hfix ho
        go_simp
        refine (rcav_ok f _ HF.out).mono ?_
        rintro e W2 ⟨v, rfl, ho, hb⟩
        exact hK _ _ ⟨_, ho.1⟩ (hC.trans (hb.mono hC.size)) hb
      · obtain ⟨v7, ⟨b7, hr7⟩, h7⟩ := hin 7 15 (by kernel_rfl) (by kernel_rfl)
        obtain ⟨v9, ⟨b9, hr9⟩, h9⟩ := hin 9 17 (by kernel_rfl) (by kernel_rfl)
        obtain ⟨v5, rfl, h5⟩ := hin 5 13 (by kernel_rfl) (by kernel_rfl)
        obtain rfl := Option.some.inj ho
        refine ⟨wanted_at (j := 5) (t := 13) rfl (by kernel_rfl) h5, fun K hK => ?_⟩
        clear hin hfix ho
        go_simp
        refine (sameSolids_ok (cavF f) (cavF f) _ _ _ _ _ hr7 hr9 rfl (same_self _) (by have := HKL.out; omega)).mono ?_
        rintro e W2 ⟨rfl, hb⟩
        exact hK _ _ rfl (hC.trans (hb.mono hC.size)) hb
      · obtain ⟨v5, rfl, h5⟩ := hin 5 13 (by kernel_rfl) (by kernel_rfl)
        obtain ⟨v10, rfl, h10⟩ := hin 10 18 (by kernel_rfl) (by kernel_rfl)
        obtain rfl := Option.some.inj ho
        refine ⟨rfl, fun K hK => ?_⟩
        clear hin hfix ho
        go_simp
        exact hK _ _ rfl hC (Below.refl _ _)
      · obtain ⟨v11, rfl, h11⟩ := hin 11 19 (by kernel_rfl) (by kernel_rfl)
        obtain rfl := Option.some.inj ho
        refine ⟨rfl, fun K hK => ?_⟩
        clear hin hfix ho
        go_simp
        exact hK _ _ rfl hC (Below.refl _ _)
    case hend =>
    intro vals W hC hV
    have z0 := hV 0 (by decide)
    have z2 := hV 2 (by decide)
    have z4 := hV 4 (by decide)
    have z5 := hV 5 (by decide)
    have z6 := hV 6 (by decide)
    have z8 := hV 8 (by decide)
    have z10 := hV 10 (by decide)
    have z11 := hV 11 (by decide)
    have z12 := hV 12 (by decide)
    clear hV
    simp only at z0 z2 z4 z5 z6 z8 z10 z11 z12 
    have hr : List.range 13 = [0, 1, 2, 3, 4, 5, 6, 7, 8, 9, 10, 11, 12] := rfl
    simp only [List.size_toArray, List.length_cons, List.length_nil, Nat.reduceAdd, List.drop_succ_cons, List.drop_zero, putA, hr, List.foldl_cons, List.foldl_nil, dstR, List.getElem?_toArray, List.getElem?_cons_succ, List.getElem?_cons_zero, Option.bind_some, Act.put, List.setIfInBounds_toArray, List.set_cons_succ, List.set_cons_zero, z0, z2, z4, z5, z6, z8, z10, z11, z12]
    clear hr z0 z2 z4 z5 z6 z8 z10 z11 z12
    obtain ⟨x1, hx1⟩ : ∃ v, v = vals 1 := ⟨_, rfl⟩
    obtain ⟨x3, hx3⟩ : ∃ v, v = vals 3 := ⟨_, rfl⟩
    obtain ⟨x7, hx7⟩ : ∃ v, v = vals 7 := ⟨_, rfl⟩
    obtain ⟨x9, hx9⟩ : ∃ v, v = vals 9 := ⟨_, rfl⟩
    rw [← hx1, ← hx3, ← hx7, ← hx9]
    clear hx1 hx3 hx7 hx9 vals
    have hB2 : Below w.heap.size w W := up hC hB1
    have A_2 := A_1.below hC lA
    go_upto_region 4 with fail
    obtain ⟨V, hV⟩ : ∃ V, V = W := ⟨_, rfl⟩
    subst hV
    have lV : w.heap.size < V.heap.size := A_2.lt
    have HTV := Lib.hid (HT.out.below hB2 (Nat.le_refl _))
    have a0 := (A_2).cell (k := 0) (by omega); have a1 := (A_2).cell (k := 1) (by omega); have a2 := (A_2).cell (k := 2) (by omega); have a3 := (A_2).cell (k := 3) (by omega); have a4 := (A_2).cell (k := 4) (by omega); have a5 := (A_2).cell (k := 5) (by omega); have a6 := (A_2).cell (k := 6) (by omega); have a7 := (A_2).cell (k := 7) (by omega)
    (refine wp_region_quiet (C := fun w' => Below V.heap.size V w') (by kernel_rfl) (by kernel_rfl) (Below.drew (Below.refl _ _)) ?_; (iterate 26 (refine wpQuiet_step (fun K hK => ?_); go_simp; first | (refine hK _ ?_; clear hK K) | (apply Exists.intro; refine ⟨fun W' hW' => ?_, hK _ ?_⟩; (focus (first | (with_reducible exact rfl) | (with_reducible exact ⟨rfl, rfl⟩) | (obtain ⟨hcq, hfq⟩ := bcell hW'; have hzq := hW'.size; (try go_simp); first | (with_reducible exact rfl) | (with_reducible exact ⟨rfl, rfl⟩) | (first | ((with_reducible refine Calls.mono (HC.out _ (HTV.out.below hW' (Nat.le_refl _))) ?_); rintro e w9 ⟨rfl, hb9⟩; exact ⟨rfl, hW'.trans (hb9.mono hW'.size)⟩) | ((with_reducible refine Calls.mono (C1.out _ (HTV.out.below hW' (Nat.le_refl _))) ?_); rintro e w9 ⟨rfl, hb9⟩; exact ⟨rfl, hW'.trans (hb9.mono hW'.size)⟩) | ((with_reducible refine Calls.mono (C2.out _) ?_); rintro e w9 ⟨rfl, hb9⟩; exact ⟨rfl, hW'.trans (hb9.mono hW'.size)⟩) | ((with_reducible refine Calls.mono (C3.out _ (HTV.out.below hW' (Nat.le_refl _))) ?_); rintro e w9 ⟨rfl, hb9⟩; exact ⟨rfl, hW'.trans (hb9.mono hW'.size)⟩) | ((with_reducible refine Calls.mono (C4.out _ (HTV.out.below hW' (Nat.le_refl _))) ?_); rintro e w9 ⟨rfl, hb9⟩; exact ⟨rfl, hW'.trans (hb9.mono hW'.size)⟩) | ((with_reducible refine Calls.mono (C5.out _ (HTV.out.below hW' (Nat.le_refl _))) ?_); rintro e w9 ⟨rfl, hb9⟩; exact ⟨rfl, hW'.trans (hb9.mono hW'.size)⟩) | ((with_reducible refine Calls.mono (C6.out _) ?_); rintro e w9 ⟨rfl, hb9⟩; exact ⟨rfl, hW'.trans (hb9.mono hW'.size)⟩))))); clear hK K))); refine wpQuiet_nil ?_; intro w1q hb1q)
    have hB3 : Below w.heap.size w w1q := up hb1q hB2
    go_wp2_with fail
    go_ret
    exact ⟨rfl, hB3⟩
theorem shapel_of (f : Sol) (hf : Fit f) (w : World) (hT : Tab64 w) :
    Calls Tryz.prog 10 #[sol f] w (RetB (.bool true) w) :=
  shape_core f _ _ _ _ w hT hf rfl rfl rfl rfl (Lib.hid fun W hW => carved_of ev_cav W hW)
end Go.Proofs.YtadkaplafaeebaaGreatDoor
