/-
  The law of filled solids: its walk, the contracts of its callees given; the law for every solid.
-/
import Derived.Test.YtadkaplafaeebaaGreatDoorPkUGQ
set_option linter.unusedVariables false
set_option linter.unusedSimpArgs false
namespace Go.Proofs.YtadkaplafaeebaaGreatDoor
open Go Go.RowKit Go.Shelf

theorem cav_meet {f : Sol} (hf : Fit f) {i : Nat} {m : Sol} (hm : (cavF f)[i]? = some m) : emptyS (meetF (joinL f ((cavF f).take i)) m) = true := by
  obtain ⟨h1, h2⟩ := cav_apart hf
  have hmem := List.mem_of_getElem? hm
  have hj : Fit (joinL f ((cavF f).take i)) := joinL_fit _ hf fun g hg => (h1 g (List.mem_of_mem_take hg)).2.1
  refine (empty_has (meet_fit hj)).2 fun p => ?_
  cases hp : hasI (meetF (joinL f ((cavF f).take i)) m) p with
  | false => rfl
  | true =>
    rw [has_meet, Bool.and_eq_true, has_joinL] at hp
    obtain ⟨h3 | ⟨g, hg, h3⟩, h4⟩ := hp
    · have := (h1 m hmem).2.2 p h4
      rw [h3] at this
      cases this
    · obtain ⟨j, hj, e⟩ := List.mem_take_iff_getElem.1 hg
      obtain ⟨hi, em⟩ := List.getElem?_eq_some_iff.1 hm
      have := List.pairwise_iff_getElem.1 h2 j i (by omega) hi (by omega)
      rw [e, em] at this
      rw [this p h3] at h4
      cases h4
set_option maxRecDepth 100000 in
set_option maxHeartbeats 8000000 in
theorem filledl_core (f : Sol) (w : World) (hT : Tab64 w) (hf : Fit f)
    (HC : Hid (∀ W, Tab64 W → Calls Tryz.prog 20 #[] W (RetB (.bool true) W))) :
    Calls Tryz.prog 19 #[sol f] w (RetB (.bool true) w) := by
  have HT := Lib.hid hT
  have HF := Lib.hid hf
  have HEA := Lib.hid (cav_apart hf).1
  have HMT := Lib.hid (fun (i : Nat) (m : Sol) (h : (cavF f)[i]? = some m) => cav_meet hf h)
  have HLN := Lib.hid (cav_len f)
  have HCF := Lib.hid (fun (X : World) (h : Tab64 X) => cav_ok f X hf h)
  obtain ⟨a, ha⟩ : ∃ a, a = joinL f (cavF f) := ⟨_, rfl⟩
  have haf : Fit a := by rw [ha]; exact joinL_fit _ hf fun g hg => (HEA.out g hg).2.1
  have HAF := Lib.hid haf
  have HC0 := Lib.hid (show cavF a = [] by rw [ha]; exact cav_filled hf)
  have HCA := Lib.hid (fun (X : World) (h : Tab64 X) => cav_ok a X haf h)
  have HPF := Lib.hid (fun (X : World) (h : Tab64 X) => parts_ok f X hf h)
  have HPA := Lib.hid (fun (X : World) (h : Tab64 X) => parts_ok a X haf h)
  have HIN := Lib.hid (fun (g : Sol) (hg : g ∈ partsF f) => part_in hf haf (fun p hp => by rw [ha, has_joinL]; exact .inl hp) hg)
  have HPE := Lib.hid (cls_each touchL f hf)
  have HPG := Lib.hid (cls_each touchL a haf)
  have HPL : Hid ((partsF f).length ≤ 512) := Lib.hid (clsF_len touchL f)
  have HQL : Hid ((partsF a).length ≤ 512) := Lib.hid (clsF_len touchL a)
  have HAA := Lib.hid ha
  change Hid (∀ c ∈ partsF f, emptyS c = false ∧ Fit c) at HPE
  change Hid (∀ c ∈ partsF a, emptyS c = false ∧ Fit c) at HPG
  generalize cavF f = L at *
  generalize partsF f = A at *
  generalize partsF a = B at *
  clear hT hf ha haf
  have A_0 : BoxS (w.alloc (.cells (solC f) 24)) w.heap.size f := BoxS.new _ _
  have hB0 : Below w.heap.size w (w.alloc (.cells (solC f) 24)) := by repeat' (first | (with_reducible exact Below.refl _ _) | (with_reducible assumption) | (with_reducible refine Below.alloc ?_ ?_ _) | (with_reducible refine Below.drew ?_) | (with_reducible refine below_drewN ?_ _) | (with_reducible refine Below.setCell ?_ ?_ _) | go_size)
  have c0 := (A_0).cell (k := 0) (by omega); have c1 := (A_0).cell (k := 1) (by omega); have c2 := (A_0).cell (k := 2) (by omega); have c3 := (A_0).cell (k := 3) (by omega); have c4 := (A_0).cell (k := 4) (by omega); have c5 := (A_0).cell (k := 5) (by omega); have c6 := (A_0).cell (k := 6) (by omega); have c7 := (A_0).cell (k := 7) (by omega)
  go_enter Tryz.func19, Tryz.ntmps19
  go_wp2_with fail
  refine (HCF.out _ (HT.out.below hB0 (Nat.le_refl _))).mono ?_
  rintro e w1 ⟨v, rfl, ho, b1⟩
  have A_1 := A_0.below b1 A_0.lt
  have hB1 : Below w.heap.size w w1 := up b1 hB0
  have hr1 := ho.1
  obtain ⟨p, cap, rfl⟩ := own_len hr1
  have lA1 := A_1.lt
  have Z1 : BoxS (w1.alloc (.cells (solC f) 24)) w1.heap.size f := BoxS.new _ _
  have hY : Below w1.heap.size w1 (w1.alloc (.cells (solC f) 24)) := (Below.refl _ _).alloc (Nat.le_refl _) _
  clear A_0 hB0 b1 c0 c1 c2 c3 c4 c5 c6 c7 ho HCF
  have hLn := HLN.out
  have c0 := (A_1).cell (k := 0) (by omega); have c1 := (A_1).cell (k := 1) (by omega); have c2 := (A_1).cell (k := 2) (by omega); have c3 := (A_1).cell (k := 3) (by omega); have c4 := (A_1).cell (k := 4) (by omega); have c5 := (A_1).cell (k := 5) (by omega); have c6 := (A_1).cell (k := 6) (by omega); have c7 := (A_1).cell (k := 7) (by omega)
  go_upto_region 3 with fail
  clear c0 c1 c2 c3 c4 c5 c6 c7
  obtain ⟨Y, hYY⟩ : ∃ Y, Y = w1.alloc (.cells (solC f) 24) := ⟨_, rfl⟩
  rw [← hYY] at Z1 hY ⊢
  clear hYY
  go_wp2_with fail
  go_loopw [5] (fun c wr => ∃ (i : Nat) (D : Sol), i ≤ L.length ∧ c = .int .i64 i ∧ D = joinL f (L.take i) ∧ BoxS wr w1.heap.size D ∧ Below w1.heap.size w1 wr) (fun c _ => L.length - (intOf c).toNat)
  case atStart => exact ⟨0, f, by omega, rfl, rfl, Z1, hY⟩
  case round =>
    clear Z1 hY
    obtain ⟨i, D, hi, rfl, hD, Z, hB⟩ := hrel
    have HD := Lib.hid hD
    clear hD
    have lZ := Z.lt
    by_cases hlt : i < L.length
    · have hd : decide ((i : Int) < (L.length : Int)) = true := decide_eq_true (by omega)
      have hib : (i : Int) < (L.length : Int) := by omega
      obtain ⟨g, rfl, hg, hcs⟩ := rowS_pos hr1 (by omega)
      have hci : L[i]? = some L[i] := List.getElem?_eq_getElem hlt
      obtain ⟨m, hm⟩ : ∃ m, m = L[i] := ⟨_, rfl⟩
      rw [← hm] at hci
      clear hm
      obtain ⟨hme0, hmf, _⟩ := HEA.out m (List.mem_of_getElem? hci)
      have HM0 := Lib.hid (show emptyS (meetF D m) = true by rw [HD.out]; exact HMT.out i m hci)
      have HDF := Lib.hid (show Fit D by rw [HD.out]; exact joinL_fit _ HF.out fun g hg => (HEA.out g (List.mem_of_mem_take hg)).2.1)
      have HMM := Lib.hid (fun (X : World) => meet_ok D m X HDF.out hmf)
      have HJN := Lib.hid (fun (X : World) => join_ok D m X HDF.out hmf)
      have HJT := Lib.hid (show joinL f (L.take (i + 1)) = joinF D m by rw [join_take hci, HD.out])
      have HCS := Lib.hid (hcs i m hci)
      obtain ⟨mm, hmm⟩ : ∃ mm, mm = meetF D m := ⟨_, rfl⟩
      rw [← hmm] at HM0 HMM
      generalize joinF D m = jm at *
      have hmt0 := HM0.out
      clear hmm hmf hci hcs
      have lg : g < wr.heap.size := Nat.lt_of_lt_of_le hg hB.size
      have x := fun j hj => (hB.cell (p := ⟨g, i * 8 + j, none⟩) hg).trans (HCS.out j hj)
      have x0 := x 0 (by omega); have x1 := x 1 (by omega); have x2 := x 2 (by omega); have x3 := x 3 (by omega); have x4 := x 4 (by omega); have x5 := x 5 (by omega); have x6 := x 6 (by omega); have x7 := x 7 (by omega)
      rw [Nat.add_zero] at x0
      clear x
      have z0 := (Z).cell (k := 0) (by omega); have z1 := (Z).cell (k := 1) (by omega); have z2 := (Z).cell (k := 2) (by omega); have z3 := (Z).cell (k := 3) (by omega); have z4 := (Z).cell (k := 4) (by omega); have z5 := (Z).cell (k := 5) (by omega); have z6 := (Z).cell (k := 6) (by omega); have z7 := (Z).cell (k := 7) (by omega)
      go_wp2_with fail
      obtain ⟨U, hU⟩ : ∃ U, U = wr := ⟨_, rfl⟩
      subst hU
      (refine wp_region_quiet (C := fun w' => Below U.heap.size U w') (by kernel_rfl) (by kernel_rfl) (Below.drew (Below.refl _ _)) ?_; (iterate 16 (refine wpQuiet_step (fun K hK => ?_); go_simp; first | (refine hK _ ?_; clear hK K) | (apply Exists.intro; refine ⟨fun W' hW' => ?_, hK _ ?_⟩; (focus (first | (with_reducible exact rfl) | (with_reducible exact ⟨rfl, rfl⟩) | (obtain ⟨hcq, hfq⟩ := bcell hW'; have hzq := hW'.size; (try go_simp); first | (with_reducible exact rfl) | (with_reducible exact ⟨rfl, rfl⟩) | (first | ((with_reducible refine Calls.mono (HMM.out _) ?_); rintro e w9 ⟨rfl, hb9⟩; exact ⟨rfl, hW'.trans (hb9.mono hW'.size)⟩))))); clear hK K))); refine wpQuiet_nil ?_; intro w1q hb1q)
      obtain ⟨V, hV⟩ : ∃ V, V = w1q := ⟨_, rfl⟩
      subst hV
      have Z2 := Z.below hb1q lZ
      have hB2 : Below w1.heap.size w1 V := up hb1q hB
      have lZ2 := Z2.lt
      have lg2 : g < V.heap.size := Nat.lt_of_lt_of_le lg hb1q.size
      clear x0 x1 x2 x3 x4 x5 x6 x7 z0 z1 z2 z3 z4 z5 z6 z7 Z hB lZ lg hb1q
      have x := fun j hj => (hB2.cell (p := ⟨g, i * 8 + j, none⟩) hg).trans (HCS.out j hj)
      have x0 := x 0 (by omega); have x1 := x 1 (by omega); have x2 := x 2 (by omega); have x3 := x 3 (by omega); have x4 := x 4 (by omega); have x5 := x 5 (by omega); have x6 := x 6 (by omega); have x7 := x 7 (by omega)
      rw [Nat.add_zero] at x0
      clear x
      have z0 := (Z2).cell (k := 0) (by omega); have z1 := (Z2).cell (k := 1) (by omega); have z2 := (Z2).cell (k := 2) (by omega); have z3 := (Z2).cell (k := 3) (by omega); have z4 := (Z2).cell (k := 4) (by omega); have z5 := (Z2).cell (k := 5) (by omega); have z6 := (Z2).cell (k := 6) (by omega); have z7 := (Z2).cell (k := 7) (by omega)
      go_wp2_with fail
      (refine wp_region_quiet_tail 6 (fun w' => Below V.heap.size V w') (by kernel_rfl) (by kernel_rfl) (Below.drew (Below.refl _ _)) ?_; simp only [List.take_succ_cons, List.take_zero, List.drop_succ_cons, List.drop_zero]; (iterate 6 (refine wpQuiet_step (fun K hK => ?_); go_simp; first | (refine hK _ ?_; clear hK K) | (apply Exists.intro; refine ⟨fun W' hW' => ?_, hK _ ?_⟩; (focus (first | (with_reducible exact rfl) | (with_reducible exact ⟨rfl, rfl⟩) | (obtain ⟨hcq, hfq⟩ := bcell hW'; have hzq := hW'.size; (try go_simp); first | (with_reducible exact rfl) | (with_reducible exact ⟨rfl, rfl⟩) | (first | ((with_reducible refine Calls.mono (HJN.out _) ?_); rintro e w9 ⟨rfl, hb9⟩; exact ⟨rfl, hW'.trans (hb9.mono hW'.size)⟩))))); clear hK K))); refine wpQuiet_nil ?_; intro w1q hb1q)
      have Z3 := Z2.below hb1q lZ2
      have hB3 : Below w1.heap.size w1 w1q := up hb1q hB2
      have lZ3 := Z3.lt
      clear x0 x1 x2 x3 x4 x5 x6 x7 z0 z1 z2 z3 z4 z5 z6 z7 Z2 hB2 lZ2 lg2 hb1q
      have z0 := (Z3).cell (k := 0) (by omega); have z1 := (Z3).cell (k := 1) (by omega); have z2 := (Z3).cell (k := 2) (by omega); have z3 := (Z3).cell (k := 3) (by omega); have z4 := (Z3).cell (k := 4) (by omega); have z5 := (Z3).cell (k := 5) (by omega); have z6 := (Z3).cell (k := 6) (by omega); have z7 := (Z3).cell (k := 7) (by omega)
      have q0 := (Z3).free 0; have q1 := (Z3).free 1; have q2 := (Z3).free 2; have q3 := (Z3).free 3; have q4 := (Z3).free 4; have q5 := (Z3).free 5; have q6 := (Z3).free 6; have q7 := (Z3).free 7
      go_wp2_with fail
      exact ⟨⟨i + 1, jm, by omega, by go_num, HJT.out.symm, Z3.put jm, below_put8 hB3 (Nat.le_refl _) jm⟩, by simp [intOf]; omega⟩
    · obtain rfl : i = L.length := by omega
      have hd : decide ((L.length : Int) < (L.length : Int)) = false := decide_eq_false (by omega)
      obtain rfl : D = a := by rw [HD.out, List.take_length, HAA.out]
      have S := A_1.below hB A_1.lt
      have hBw : Below w.heap.size w wr := up hB hB1
      have z0 := (Z).cell (k := 0) (by omega); have z1 := (Z).cell (k := 1) (by omega); have z2 := (Z).cell (k := 2) (by omega); have z3 := (Z).cell (k := 3) (by omega); have z4 := (Z).cell (k := 4) (by omega); have z5 := (Z).cell (k := 5) (by omega); have z6 := (Z).cell (k := 6) (by omega); have z7 := (Z).cell (k := 7) (by omega)
      go_wp2_with fail
      refine (HCA.out _ (HT.out.below hBw (Nat.le_refl _))).mono ?_
      rintro e w2 ⟨v2, rfl, ho2, b2⟩
      rw [HC0.out] at ho2
      obtain rfl := ho2.2.2 rfl
      have S2 := S.below b2 S.lt; have Z2 := Z.below b2 lZ; have hB2 := up b2 hBw
      clear z0 z1 z2 z3 z4 z5 z6 z7 S Z hBw b2 hB lZ ho2 hd
      have s0 := (S2).cell (k := 0) (by omega); have s1 := (S2).cell (k := 1) (by omega); have s2 := (S2).cell (k := 2) (by omega); have s3 := (S2).cell (k := 3) (by omega); have s4 := (S2).cell (k := 4) (by omega); have s5 := (S2).cell (k := 5) (by omega); have s6 := (S2).cell (k := 6) (by omega); have s7 := (S2).cell (k := 7) (by omega)
      go_wp2_with fail
      refine (HPF.out _ (HT.out.below hB2 (Nat.le_refl _))).mono ?_
      rintro e w3 ⟨v3, rfl, ho3, b3⟩
      have hr3 := ho3.1
      have Z3 := Z2.below b3 Z2.lt; have hB3 := up b3 hB2
      clear s0 s1 s2 s3 s4 s5 s6 s7 S2 Z2 hB2 b3 ho3
      have z0 := (Z3).cell (k := 0) (by omega); have z1 := (Z3).cell (k := 1) (by omega); have z2 := (Z3).cell (k := 2) (by omega); have z3 := (Z3).cell (k := 3) (by omega); have z4 := (Z3).cell (k := 4) (by omega); have z5 := (Z3).cell (k := 5) (by omega); have z6 := (Z3).cell (k := 6) (by omega); have z7 := (Z3).cell (k := 7) (by omega)
      go_wp2_with fail
      refine (HPA.out _ (HT.out.below hB3 (Nat.le_refl _))).mono ?_
      rintro e w4 ⟨v4, rfl, ho4, b4⟩
      have hr4 := ho4.1; have hr34 := row_below hr3 b4
      have hB4 := up b4 hB3
      clear z0 z1 z2 z3 z4 z5 z6 z7 Z3 hB3 b4 ho4 hr3
      obtain ⟨p3, cap3, rfl⟩ := own_len hr34
      obtain ⟨p4, cap4, rfl⟩ := own_len hr4
      have hAl := HPL.out; have hBl := HQL.out
      go_wp2_with fail
      go_loopw [8] (fun c wr => ∃ i : Nat, i ≤ A.length ∧ c = .int .i64 i ∧ Below w4.heap.size w4 wr) (fun c _ => A.length - (intOf c).toNat)
      case atStart => exact ⟨0, by omega, rfl, Below.refl _ _⟩
      case round =>
        obtain ⟨i, hi, rfl, hB⟩ := hrel
        by_cases hlt : i < A.length
        · have hd : decide ((i : Int) < (A.length : Int)) = true := decide_eq_true (by omega)
          have hib : (i : Int) < (A.length : Int) := by omega
          obtain ⟨g, rfl, hg, hcs⟩ := rowS_pos hr34 (by omega)
          have hci : A[i]? = some A[i] := List.getElem?_eq_getElem hlt
          obtain ⟨m, hm⟩ : ∃ m, m = A[i] := ⟨_, rfl⟩
          rw [← hm] at hci
          clear hm
          have hmem := List.mem_of_getElem? hci
          have hmf := (HPE.out m hmem).2
          have HM1 := Lib.hid (HIN.out m hmem)
          have HCS := Lib.hid (hcs i m hci)
          clear hci hcs hmem
          go_wp2_with fail
          go_loopw [9, 10] (fun n c wr => ∃ k : Nat, k ≤ B.length ∧ c = .int .i64 k ∧ n = .int .i64 (((B.take k).countP (fun x => inB m x) : Nat) : Int) ∧ Below w4.heap.size w4 wr) (fun _ c _ => B.length - (intOf c).toNat)
          case atStart => exact ⟨0, by omega, rfl, rfl, hB⟩
          case round =>
            clear hB
            obtain ⟨k, hk, rfl, rfl, hB⟩ := hrel
            by_cases hlk : k < B.length
            · have hdk : decide ((k : Int) < (B.length : Int)) = true := decide_eq_true (by omega)
              have hkb : (k : Int) < (B.length : Int) := by omega
              obtain ⟨g4, rfl, hg4, hcs4⟩ := rowS_pos hr4 (by omega)
              have hck : B[k]? = some B[k] := List.getElem?_eq_getElem hlk
              obtain ⟨u, hu⟩ : ∃ u, u = B[k] := ⟨_, rfl⟩
              rw [← hu] at hck
              clear hu
              have huf := (HPG.out u (List.mem_of_getElem? hck)).2
              have HCT := Lib.hid (show (B.take (k + 1)).countP (fun x => inB m x) = (B.take k).countP (fun x => inB m x) + if inB m u = true then 1 else 0 by rw [List.take_add_one, hck, List.countP_append]; simp [List.countP_cons])
              have hcb : (B.take k).countP (fun x => inB m x) ≤ 512 := Nat.le_trans List.countP_le_length (by rw [List.length_take]; omega)
              have HII := Lib.hid (fun (X : World) => in_ok m u X hmf huf)
              generalize List.countP (fun x => inB m x) (B.take k) = n at *
              generalize inB m u = ib at *
              have x := fun j hj => (hB.cell (p := ⟨g, i * 8 + j, none⟩) hg).trans (HCS.out j hj)
              have x0 := x 0 (by omega); have x1 := x 1 (by omega); have x2 := x 2 (by omega); have x3 := x 3 (by omega); have x4 := x 4 (by omega); have x5 := x 5 (by omega); have x6 := x 6 (by omega); have x7 := x 7 (by omega)
              rw [Nat.add_zero] at x0
              have y := fun j hj => (hB.cell (p := ⟨g4, k * 8 + j, none⟩) hg4).trans (hcs4 k u hck j hj)
              have y0 := y 0 (by omega); have y1 := y 1 (by omega); have y2 := y 2 (by omega); have y3 := y 3 (by omega); have y4 := y 4 (by omega); have y5 := y 5 (by omega); have y6 := y 6 (by omega); have y7 := y 7 (by omega)
              rw [Nat.add_zero] at y0
              have lg : g < wr.heap.size := Nat.lt_of_lt_of_le hg hB.size
              have lg4 : g4 < wr.heap.size := Nat.lt_of_lt_of_le hg4 hB.size
              clear x y hck hcs4 huf
              go_wp2_with fail
              obtain ⟨U, hU⟩ : ∃ U, U = wr := ⟨_, rfl⟩
              subst hU
              (refine wp_region_quiet (C := fun w' => Below U.heap.size U w') (by kernel_rfl) (by kernel_rfl) (Below.drew (Below.refl _ _)) ?_; (iterate 9 (refine wpQuiet_step (fun K hK => ?_); go_simp; first | (refine hK _ ?_; clear hK K) | (apply Exists.intro; refine ⟨fun W' hW' => ?_, hK _ ?_⟩; (focus (first | (with_reducible exact rfl) | (with_reducible exact ⟨rfl, rfl⟩) | (obtain ⟨hcq, hfq⟩ := bcell hW'; have hzq := hW'.size; (try go_simp); first | (with_reducible exact rfl) | (with_reducible exact ⟨rfl, rfl⟩) | (first | ((with_reducible refine Calls.mono (HII.out _) ?_); rintro e w9 ⟨rfl, hb9⟩; exact ⟨rfl, hW'.trans (hb9.mono hW'.size)⟩))))); clear hK K))); refine wpQuiet_nil ?_; intro w1q hb1q)
              have hB5 : Below w4.heap.size w4 w1q := up hb1q hB
              clear x0 x1 x2 x3 x4 x5 x6 x7 y0 y1 y2 y3 y4 y5 y6 y7 hb1q hB lg lg4
              cases ib with
              | false =>
                go_wp2_with fail
                go_roundw
                case rel => exact ⟨k + 1, by omega, by go_num, by rw [HCT.out]; first | rfl | simp, hB5⟩
                case measure => simp [intOf]; omega
              | true =>
                go_wp2_with fail
                go_roundw
                case rel => exact ⟨k + 1, by omega, by go_num, by rw [HCT.out]; first | rfl | simp, hB5⟩
                case measure => simp [intOf]; omega
            · obtain rfl : k = B.length := by omega
              have hdk : decide ((B.length : Int) < (B.length : Int)) = false := decide_eq_false (by omega)
              have hm1 := HM1.out
              rw [List.take_length, hm1]
              go_wp2_with fail
              go_roundw
              case rel => exact ⟨i + 1, by omega, by go_num, hB⟩
              case measure => simp [intOf]; omega
        · obtain rfl : i = A.length := by omega
          have hd : decide ((A.length : Int) < (A.length : Int)) = false := decide_eq_false (by omega)
          have hB5 := up hB hB4
          go_wp2_with fail
          refine (HC.out _ (HT.out.below hB5 (Nat.le_refl _))).mono ?_
          rintro e w6 ⟨rfl, b6⟩
          go_wp2_with fail
          go_ret
          exact ⟨rfl, up b6 hB5⟩
theorem filledl_of (f : Sol) (hf : Fit f) (w : World) (hT : Tab64 w) :
    Calls Tryz.prog 19 #[sol f] w (RetB (.bool true) w) :=
  filledl_core f w hT hf (Lib.hid fun W hW => carved_of ev_cav W hW)
end Go.Proofs.YtadkaplafaeebaaGreatDoor
