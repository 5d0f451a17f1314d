/-
  The law's grown.
-/
import Derived.Test.YtadkaplafaeebaaGreatDoorPkUAQ
import Derived.Test.YtadkaplafaeebaaGreatDoorPkUEQ
import Derived.Test.YtadkaplafaeebaaGreatDoorPkTGQ
import Derived.Test.YtadkaplafaeebaaGreatDoorPkUFQ
set_option linter.unusedVariables false
set_option linter.unusedSimpArgs false
namespace Go.Proofs.YtadkaplafaeebaaGreatDoor
open Go Go.RowKit Go.Shelf

theorem rof_one (x y z : Int) (b : Nat) (w : World) (h : BoxC w b x y z) :
    Calls Tryz.prog 22 #[.slice (some ⟨b, 0, none⟩) 1 1] w fun e w' => ((e = .returned (.tuple #[sol (setC (fun _ => 0) (ofI (x, y, z))), .int .i64 0]) ∧ In7 (x, y, z)) ∨ (e = .returned (.tuple #[sol (fun _ => 0), .int .i64 1]) ∧ ¬ In7 (x, y, z))) ∧ Below w.heap.size w w' := by
  have hc : CellsAt w (some ⟨b, 0, none⟩) 1 (fun _ => (x, y, z)) := ⟨by simp [maxLen], .inr ⟨b, 0, rfl, h.lt, fun j hj => by
    obtain rfl : j = 0 := by omega
    exact ⟨h.c0, h.c1, h.c2⟩⟩⟩
  refine (rof_walk (some ⟨b, 0, none⟩) 1 1 (fun _ => (x, y, z)) w (by omega) hc).mono fun e w' ⟨h1, h2⟩ => ⟨?_, h2⟩
  rcases h1 with ⟨h1, h3⟩ | ⟨h1, j, _, h3⟩
  · exact .inl ⟨h1, h3 0 (by omega)⟩
  · exact .inr ⟨h1, h3⟩
theorem rjoin_at (g : Sol) (c : Cl) (w : World) (hg : Fit g) :
    Calls Tryz.prog 31 #[sol g, sol (setC (fun _ => 0) c)] w fun e w' => e = .returned (sol (joinF g (setC (fun _ => 0) c))) ∧ Below w.heap.size w w' := rjoin_ok g _ w hg (setC_fit fit0 c)
set_option maxRecDepth 100000 in
set_option maxHeartbeats 8000000 in
theorem grown_ok (f : Sol) (w : World) (hf : Fit f) :
    Calls Tryz.prog 86 #[sol f] w fun e w' => e = .returned (sol (growF f)) ∧ Below w.heap.size w w' := by
  have HF := Lib.hid hf
  have S0 : BoxS ((w.alloc (.cells (solC f) 24)).alloc (.cells (solC fun _ => 0) 24)) w.heap.size f := (BoxS.new _ _).alloc _
  have R0 : BoxS ((w.alloc (.cells (solC f) 24)).alloc (.cells (solC fun _ => 0) 24)) (w.heap.size + 1) (fun _ => 0) := BoxS.zero (by simp)
  have hB0 : Below w.heap.size w ((w.alloc (.cells (solC f) 24)).alloc (.cells (solC fun _ => 0) 24)) := by repeat' (first | (with_reducible exact Below.refl _ _) | (with_reducible assumption) | (with_reducible refine Below.alloc ?_ ?_ _) | (with_reducible refine Below.drew ?_) | (with_reducible refine below_drewN ?_ _) | (with_reducible refine Below.setCell ?_ ?_ _) | go_size)
  have s0 := (S0).cell (k := 0) (by omega); have s1 := (S0).cell (k := 1) (by omega); have s2 := (S0).cell (k := 2) (by omega); have s3 := (S0).cell (k := 3) (by omega); have s4 := (S0).cell (k := 4) (by omega); have s5 := (S0).cell (k := 5) (by omega); have s6 := (S0).cell (k := 6) (by omega); have s7 := (S0).cell (k := 7) (by omega)
  go_enter Tryz.func86, Tryz.ntmps86
  go_wp2_with fail
  clear s0 s1 s2 s3 s4 s5 s6 s7
  refine (rcells_ok f _ HF.out).mono ?_
  rintro e w1 ⟨v, rfl, hrow, _, hb1⟩
  have S1 := S0.below hb1 S0.lt
  have R1 := R0.below hb1 R0.lt
  have hB1 : Below w.heap.size w w1 := up hb1 hB0
  obtain ⟨p, cap, g, rfl, hp, hg, hgd, hcs⟩ := rowC_at (d := w.heap.size) hrow S1.lt (by simp; omega)
  have hlen := cellsL_len f
  have HCS := Lib.hid hcs
  have lS1 := S1.lt
  have lR1 := R1.lt
  have O1 : BoxS (w1.alloc (.cells (solC f) 24)) w1.heap.size f := BoxS.new _ _
  have hY : Below w1.heap.size w1 (w1.alloc (.cells (solC f) 24)) := (Below.refl _ _).alloc (Nat.le_refl _) _
  clear S0 R0 hB0 hb1 hrow hgd hcs hf
  have s0 := (S1).cell (k := 0) (by omega); have s1 := (S1).cell (k := 1) (by omega); have s2 := (S1).cell (k := 2) (by omega); have s3 := (S1).cell (k := 3) (by omega); have s4 := (S1).cell (k := 4) (by omega); have s5 := (S1).cell (k := 5) (by omega); have s6 := (S1).cell (k := 6) (by omega); have s7 := (S1).cell (k := 7) (by omega)
  go_upto_region 3 with fail
  clear s0 s1 s2 s3 s4 s5 s6 s7
  obtain ⟨Y, hYY⟩ : ∃ Y, Y = w1.alloc (.cells (solC f) 24) := ⟨_, rfl⟩
  rw [← hYY] at O1 hY ⊢
  clear hYY
  go_wp2_with fail
  go_loopw [5] (fun c wr => ∃ (i : Nat) (h : Sol), i ≤ (cellsL f).length ∧ c = .int .i64 i ∧ GrowI f ((cellsL f).take i) (fun _ => False) h ∧ BoxS wr w1.heap.size h ∧ Below w1.heap.size w1 wr) (fun c _ => (cellsL f).length - (intOf c).toNat)
  case atStart => exact ⟨0, f, by omega, rfl, grow_start HF.out, O1, hY⟩
  case round =>
    clear O1 hY
    obtain ⟨i, h, hi, rfl, hgi, O, hB⟩ := hrel
    have HG := Lib.hid hgi
    clear hgi
    by_cases hlt : i < (cellsL f).length
    · have hd : decide ((i : Int) < ((cellsL f).length : Int)) = true := decide_eq_true (by omega)
      have hib : (i : Int) < ((cellsL f).length : Int) := by omega
      have hci : (cellsL f)[i]? = some (cellsL f)[i] := List.getElem?_eq_getElem hlt
      obtain ⟨c, hc⟩ : ∃ c, c = (cellsL f)[i] := ⟨_, rfl⟩
      rw [← hc] at hci
      clear hc
      have HTK := Lib.hid (show (cellsL f).take (i + 1) = (cellsL f).take i ++ [c] by rw [List.take_add_one, hci]; rfl)
      have hpp := hp (by omega)
      subst hpp
      obtain ⟨q0, q1, q2⟩ := HCS.out i c hci
      have hx := X_le c
      have hy := Y_le c
      have hz := Z_le c
      go_wp2_with fail
      go_loopw [6] (fun k wr => ∃ (j : Nat) (h : Sol), j ≤ 27 ∧ k = .int .i64 j ∧ GrowI f ((cellsL f).take i) (fun x => ∃ t, t < j ∧ x = pkI (toI c) t) h ∧ BoxS wr w1.heap.size h ∧ Below w1.heap.size w1 wr) (fun k _ => 27 - (intOf k).toNat)
      case atStart => exact ⟨0, h, by omega, rfl, grow_congr HG.out (fun x => by simp), O, hB⟩
      case round =>
        clear O hB HG hd
        obtain ⟨j, h, hj, rfl, hgi, O, hB⟩ := hrel
        have HG := Lib.hid hgi
        clear hgi
        by_cases hlj : j < 27
        · have hdj : decide ((j : Int) < 27) = true := decide_eq_true (by omega)
          have t1 : Int.tmod (j : Int) 3 = ((j % 3 : Nat) : Int) := by rw [Int.tmod_eq_emod_of_nonneg (by omega)]; omega
          have t2 : Int.tdiv (j : Int) 3 = ((j / 3 : Nat) : Int) := by rw [Int.tdiv_eq_ediv_of_nonneg (by omega)]; omega
          have t3 : Int.tmod ((j / 3 : Nat) : Int) 3 = ((j / 3 % 3 : Nat) : Int) := by rw [Int.tmod_eq_emod_of_nonneg (by omega)]; omega
          have t4 : Int.tdiv (j : Int) 9 = ((j / 9 : Nat) : Int) := by rw [Int.tdiv_eq_ediv_of_nonneg (by omega)]; omega
          have HPK := Lib.hid (show pkI (toI c) j = (((cX c : Nat) : Int) + ((j % 3 : Nat) : Int) - 1, ((cY c : Nat) : Int) + ((j / 3 % 3 : Nat) : Int) - 1, ((cZ c : Nat) : Int) + ((j / 9 : Nat) : Int) - 1) from rfl)
          have m1 : j % 3 < 3 := by omega
          have m2 : j / 3 % 3 < 3 := by omega
          have m3 : j / 9 < 3 := by omega
          have m4 : j / 3 < 9 := by omega
          generalize j % 3 = a1 at *
          generalize j / 3 % 3 = a2 at *
          generalize j / 9 = a3 at *
          generalize j / 3 = a4 at *
          have k0 := (hB.cell (p := ⟨g, i * 3, none⟩) hg).trans q0
          have k1 := (hB.cell (p := ⟨g, i * 3 + 1, none⟩) hg).trans q1
          have k2 := (hB.cell (p := ⟨g, i * 3 + 2, none⟩) hg).trans q2
          have lO := O.lt
          have lg : g < wr.heap.size := Nat.lt_of_lt_of_le hg hB.size
          go_wp2_with fail
          obtain ⟨W, hW⟩ : ∃ W, W = wr := ⟨_, rfl⟩
          subst hW
          --REGION
          obtain ⟨U, hU⟩ : ∃ U, U = W := ⟨_, rfl⟩
          subst hU
          have w1' : IntKind.i64.wrap (((cX c : Nat) : Int) + ((a1 : Nat) : Int)) = ((cX c : Nat) : Int) + ((a1 : Nat) : Int) := wrap_sm (by omega)
          have w2' : IntKind.i64.wrap (((cX c : Nat) : Int) + ((a1 : Nat) : Int) - 1) = ((cX c : Nat) : Int) + ((a1 : Nat) : Int) - 1 := wrap_sm (by omega)
          have w3' : IntKind.i64.wrap (((cY c : Nat) : Int) + ((a2 : Nat) : Int)) = ((cY c : Nat) : Int) + ((a2 : Nat) : Int) := wrap_sm (by omega)
          have w4' : IntKind.i64.wrap (((cY c : Nat) : Int) + ((a2 : Nat) : Int) - 1) = ((cY c : Nat) : Int) + ((a2 : Nat) : Int) - 1 := wrap_sm (by omega)
          have w5' : IntKind.i64.wrap (((cZ c : Nat) : Int) + ((a3 : Nat) : Int)) = ((cZ c : Nat) : Int) + ((a3 : Nat) : Int) := wrap_sm (by omega)
          have w6' : IntKind.i64.wrap (((cZ c : Nat) : Int) + ((a3 : Nat) : Int) - 1) = ((cZ c : Nat) : Int) + ((a3 : Nat) : Int) - 1 := wrap_sm (by omega)
          have w7' : IntKind.i64.wrap ((a4 : Nat) : Int) = ((a4 : Nat) : Int) := wrap_sm (by omega)
          have w8' : IntKind.i64.wrap ((a3 : Nat) : Int) = ((a3 : Nat) : Int) := wrap_sm (by omega)
          have hCd : Below U.heap.size U U.drew := Below.drew (Below.refl _ _)
          refine wp_region_relT 30 (fun (iR : Nat) (v : Value) (W : World) => match iR with | 0 => v = .slice (some ⟨g, 0, none⟩) (cellsL f).length cap | 1 => v = .int .i64 (i : Int) | 2 => v = .pointer (some ⟨g, i * 3, none⟩) | 3 => v = .pointer (some ⟨g, i * 3, none⟩) | 4 => v = .int .i64 (((cX c : Nat) : Int)) | 5 => v = .int .i64 (j : Int) | 6 => v = .int .i64 (((a1 : Nat) : Int)) | 7 => v = .int .i64 (((cX c : Nat) : Int) + ((a1 : Nat) : Int)) | 8 => v = .int .i64 (((cX c : Nat) : Int) + ((a1 : Nat) : Int) - 1) | 9 => v = .slice (some ⟨g, 0, none⟩) (cellsL f).length cap | 10 => v = .int .i64 (i : Int) | 11 => v = .pointer (some ⟨g, i * 3, none⟩) | 12 => v = .pointer (some ⟨g, i * 3 + 1, none⟩) | 13 => v = .int .i64 (((cY c : Nat) : Int)) | 14 => v = .int .i64 (j : Int) | 15 => v = .int .i64 (((a4 : Nat) : Int)) | 16 => v = .int .i64 (((a2 : Nat) : Int)) | 17 => v = .int .i64 (((cY c : Nat) : Int) + ((a2 : Nat) : Int)) | 18 => v = .int .i64 (((cY c : Nat) : Int) + ((a2 : Nat) : Int) - 1) | 19 => v = .slice (some ⟨g, 0, none⟩) (cellsL f).length cap | 20 => v = .int .i64 (i : Int) | 21 => v = .pointer (some ⟨g, i * 3, none⟩) | 22 => v = .pointer (some ⟨g, i * 3 + 2, none⟩) | 23 => v = .int .i64 (((cZ c : Nat) : Int)) | 24 => v = .int .i64 (j : Int) | 25 => v = .int .i64 (((a3 : Nat) : Int)) | 26 => v = .int .i64 (((cZ c : Nat) : Int) + ((a3 : Nat) : Int)) | 27 => v = .int .i64 (((cZ c : Nat) : Int) + ((a3 : Nat) : Int) - 1) | 28 => v = .agg #[.int .i64 (((cX c : Nat) : Int) + ((a1 : Nat) : Int) - 1), .int .i64 (((cY c : Nat) : Int) + ((a2 : Nat) : Int) - 1), .int .i64 (((cZ c : Nat) : Int) + ((a3 : Nat) : Int) - 1)] | 29 => ∃ b, v = .pointer (some ⟨b, 0, none⟩) ∧ U.heap.size ≤ b ∧ BoxC W b 0 0 0 | _ => True) (fun W => Below U.heap.size U W) (by kernel_rfl) (by kernel_rfl) (by kernel_rfl) (by kernel_rfl) (by kernel_rfl) (by kernel_rfl) (by kernel_rfl) (by kernel_rfl) hCd ?hst ?hop ?hend
          case hst =>
            intro jR v W W' hb hv
            rcases jR with _ | _ | _ | _ | _ | _ | _ | _ | _ | _ | _ | _ | _ | _ | _ | _ | _ | _ | _ | _ | _ | _ | _ | _ | _ | _ | _ | _ | _ | _ | jR
            all_goals first | exact hv | (obtain ⟨b, hr⟩ := hv; exact ⟨b, row_below hr hb⟩) | (obtain ⟨b, e, h1, h2⟩ := hv; exact ⟨b, e, h1, blk_below h2 hb (blk_lt h2)⟩)
          case hop =>
            intro iR o hi ho a' W hC hin hfix K hK
            have k0 := (hC.cell (p := ⟨g, i * 3, none⟩) lg).trans k0
            have k1 := (hC.cell (p := ⟨g, i * 3 + 1, none⟩) lg).trans k1
            have k2 := (hC.cell (p := ⟨g, i * 3 + 2, none⟩) lg).trans k2
            have q3 : a'.tmps[3]? = some (.slice (some ⟨g, 0, none⟩) (cellsL f).length cap) := hfix 3 (by kernel_rfl)
            have q5 : a'.tmps[5]? = some (.int .i64 (i : Int)) := hfix 5 (by kernel_rfl)
            have q6 : a'.tmps[6]? = some (.int .i64 (j : Int)) := hfix 6 (by kernel_rfl)
            rcases (show iR = 0 ∨ iR = 1 ∨ iR = 2 ∨ iR = 3 ∨ iR = 4 ∨ iR = 5 ∨ iR = 6 ∨ iR = 7 ∨ iR = 8 ∨ iR = 9 ∨ iR = 10 ∨ iR = 11 ∨ iR = 12 ∨ iR = 13 ∨ iR = 14 ∨ iR = 15 ∨ iR = 16 ∨ iR = 17 ∨ iR = 18 ∨ iR = 19 ∨ iR = 20 ∨ iR = 21 ∨ iR = 22 ∨ iR = 23 ∨ iR = 24 ∨ iR = 25 ∨ iR = 26 ∨ iR = 27 ∨ iR = 28 ∨ iR = 29 by omega) with rfl | rfl | rfl | rfl | rfl | rfl | rfl | rfl | rfl | rfl | rfl | rfl | rfl | rfl | rfl | rfl | rfl | rfl | rfl | rfl | rfl | rfl | rfl | rfl | rfl | rfl | rfl | rfl | rfl | rfl
            · obtain rfl := Option.some.inj ho
              clear hin hfix ho
              go_simp
              exact hK _ _ rfl hC (Below.refl _ _)
            · obtain rfl := Option.some.inj ho
              clear hin hfix ho
              go_simp
              exact hK _ _ rfl hC (Below.refl _ _)
            · obtain ⟨v0, rfl, h0⟩ := hin 0 23 (by kernel_rfl) (by kernel_rfl)
              obtain ⟨v1, rfl, h1⟩ := hin 1 24 (by kernel_rfl) (by kernel_rfl)
              obtain rfl := Option.some.inj ho
              clear hin hfix ho
              go_simp
              exact hK _ _ rfl hC (Below.refl _ _)
            · obtain ⟨v2, rfl, h2⟩ := hin 2 25 (by kernel_rfl) (by kernel_rfl)
              obtain rfl := Option.some.inj ho
              clear hin hfix ho
              go_simp
              exact hK _ _ rfl hC (Below.refl _ _)
            · obtain ⟨v3, rfl, h3⟩ := hin 3 26 (by kernel_rfl) (by kernel_rfl)
              obtain rfl := Option.some.inj ho
              clear hin hfix ho
              go_simp
              exact hK _ _ rfl hC (Below.refl _ _)
            · obtain rfl := Option.some.inj ho
              clear hin hfix ho
              go_simp
              exact hK _ _ rfl hC (Below.refl _ _)
            · obtain ⟨v5, rfl, h5⟩ := hin 5 28 (by kernel_rfl) (by kernel_rfl)
              obtain rfl := Option.some.inj ho
              clear hin hfix ho
              go_simp
              exact hK _ _ rfl hC (Below.refl _ _)
            · obtain ⟨v4, rfl, h4⟩ := hin 4 27 (by kernel_rfl) (by kernel_rfl)
              obtain ⟨v6, rfl, h6⟩ := hin 6 29 (by kernel_rfl) (by kernel_rfl)
              obtain rfl := Option.some.inj ho
              clear hin hfix ho
              go_simp
              exact hK _ _ rfl hC (Below.refl _ _)
            · obtain ⟨v7, rfl, h7⟩ := hin 7 30 (by kernel_rfl) (by kernel_rfl)
              obtain rfl := Option.some.inj ho
              clear hin hfix ho
              go_simp
              exact hK _ _ rfl hC (Below.refl _ _)
            · obtain rfl := Option.some.inj ho
              clear hin hfix ho
              go_simp
              exact hK _ _ rfl hC (Below.refl _ _)
            · obtain rfl := Option.some.inj ho
              clear hin hfix ho
              go_simp
              exact hK _ _ rfl hC (Below.refl _ _)
            · obtain ⟨v9, rfl, h9⟩ := hin 9 32 (by kernel_rfl) (by kernel_rfl)
              obtain ⟨v10, rfl, h10⟩ := hin 10 33 (by kernel_rfl) (by kernel_rfl)
              obtain rfl := Option.some.inj ho
              clear hin hfix ho
              go_simp
              exact hK _ _ rfl hC (Below.refl _ _)
            · obtain ⟨v11, rfl, h11⟩ := hin 11 34 (by kernel_rfl) (by kernel_rfl)
              obtain rfl := Option.some.inj ho
              clear hin hfix ho
              go_simp
              exact hK _ _ rfl hC (Below.refl _ _)
            · obtain ⟨v12, rfl, h12⟩ := hin 12 35 (by kernel_rfl) (by kernel_rfl)
              obtain rfl := Option.some.inj ho
              clear hin hfix ho
              go_simp
              exact hK _ _ rfl hC (Below.refl _ _)
            · obtain rfl := Option.some.inj ho
              clear hin hfix ho
              go_simp
              exact hK _ _ rfl hC (Below.refl _ _)
            · obtain ⟨v14, rfl, h14⟩ := hin 14 37 (by kernel_rfl) (by kernel_rfl)
              obtain rfl := Option.some.inj ho
              clear hin hfix ho
              go_simp
              exact hK _ _ rfl hC (Below.refl _ _)
            · obtain ⟨v15, rfl, h15⟩ := hin 15 38 (by kernel_rfl) (by kernel_rfl)
              obtain rfl := Option.some.inj ho
              clear hin hfix ho
              go_simp
              exact hK _ _ rfl hC (Below.refl _ _)
            · obtain ⟨v13, rfl, h13⟩ := hin 13 36 (by kernel_rfl) (by kernel_rfl)
              obtain ⟨v16, rfl, h16⟩ := hin 16 39 (by kernel_rfl) (by kernel_rfl)
              obtain rfl := Option.some.inj ho
              clear hin hfix ho
              go_simp
              exact hK _ _ rfl hC (Below.refl _ _)
            · obtain ⟨v17, rfl, h17⟩ := hin 17 40 (by kernel_rfl) (by kernel_rfl)
              obtain rfl := Option.some.inj ho
              clear hin hfix ho
              go_simp
              exact hK _ _ rfl hC (Below.refl _ _)
            · obtain rfl := Option.some.inj ho
              clear hin hfix ho
              go_simp
              exact hK _ _ rfl hC (Below.refl _ _)
            · obtain rfl := Option.some.inj ho
              clear hin hfix ho
              go_simp
              exact hK _ _ rfl hC (Below.refl _ _)
            · obtain ⟨v19, rfl, h19⟩ := hin 19 42 (by kernel_rfl) (by kernel_rfl)
              obtain ⟨v20, rfl, h20⟩ := hin 20 43 (by kernel_rfl) (by kernel_rfl)
              obtain rfl := Option.some.inj ho
              clear hin hfix ho
              go_simp
              exact hK _ _ rfl hC (Below.refl _ _)
            · obtain ⟨v21, rfl, h21⟩ := hin 21 44 (by kernel_rfl) (by kernel_rfl)
              obtain rfl := Option.some.inj ho
              clear hin hfix ho
              go_simp
              exact hK _ _ rfl hC (Below.refl _ _)
            · obtain ⟨v22, rfl, h22⟩ := hin 22 45 (by kernel_rfl) (by kernel_rfl)
              obtain rfl := Option.some.inj ho
              clear hin hfix ho
              go_simp
              exact hK _ _ rfl hC (Below.refl _ _)
            · obtain rfl := Option.some.inj ho
              clear hin hfix ho
              go_simp
              exact hK _ _ rfl hC (Below.refl _ _)
            · obtain ⟨v24, rfl, h24⟩ := hin 24 47 (by kernel_rfl) (by kernel_rfl)
              obtain rfl := Option.some.inj ho
              clear hin hfix ho
              go_simp
              exact hK _ _ rfl hC (Below.refl _ _)
            · obtain ⟨v23, rfl, h23⟩ := hin 23 46 (by kernel_rfl) (by kernel_rfl)
              obtain ⟨v25, rfl, h25⟩ := hin 25 48 (by kernel_rfl) (by kernel_rfl)
              obtain rfl := Option.some.inj ho
              clear hin hfix ho
              go_simp
              exact hK _ _ rfl hC (Below.refl _ _)
            · obtain ⟨v26, rfl, h26⟩ := hin 26 49 (by kernel_rfl) (by kernel_rfl)
              obtain rfl := Option.some.inj ho
              clear hin hfix ho
              go_simp
              exact hK _ _ rfl hC (Below.refl _ _)
            · obtain ⟨v8, rfl, h8⟩ := hin 8 31 (by kernel_rfl) (by kernel_rfl)
              obtain ⟨v18, rfl, h18⟩ := hin 18 41 (by kernel_rfl) (by kernel_rfl)
              obtain ⟨v27, rfl, h27⟩ := hin 27 50 (by kernel_rfl) (by kernel_rfl)
              obtain rfl := Option.some.inj ho
              clear hin hfix ho
              go_simp
              exact hK _ _ rfl hC (Below.refl _ _)
            · obtain rfl := Option.some.inj ho
              clear hin hfix ho
              go_simp
              exact hK _ _ ⟨W.heap.size, rfl, hC.size, BoxC.new rfl⟩ (hC.alloc hC.size _) ((Below.refl _ W).alloc (Nat.le_refl _) _)
          case hend =>
          intro vals W hC hV
          have z0 := hV 0 (by decide)
          have z1 := hV 1 (by decide)
          have z2 := hV 2 (by decide)
          have z3 := hV 3 (by decide)
          have z4 := hV 4 (by decide)
          have z5 := hV 5 (by decide)
          have z6 := hV 6 (by decide)
          have z7 := hV 7 (by decide)
          have z8 := hV 8 (by decide)
          have z9 := hV 9 (by decide)
          have z10 := hV 10 (by decide)
          have z11 := hV 11 (by decide)
          have z12 := hV 12 (by decide)
          have z13 := hV 13 (by decide)
          have z14 := hV 14 (by decide)
          have z15 := hV 15 (by decide)
          have z16 := hV 16 (by decide)
          have z17 := hV 17 (by decide)
          have z18 := hV 18 (by decide)
          have z19 := hV 19 (by decide)
          have z20 := hV 20 (by decide)
          have z21 := hV 21 (by decide)
          have z22 := hV 22 (by decide)
          have z23 := hV 23 (by decide)
          have z24 := hV 24 (by decide)
          have z25 := hV 25 (by decide)
          have z26 := hV 26 (by decide)
          have z27 := hV 27 (by decide)
          have z28 := hV 28 (by decide)
          have y29 := hV 29 (by decide)
          clear hV
          simp only at z0 z1 z2 z3 z4 z5 z6 z7 z8 z9 z10 z11 z12 z13 z14 z15 z16 z17 z18 z19 z20 z21 z22 z23 z24 z25 z26 z27 z28 y29
          obtain ⟨N29, z29, y29⟩ := y29
          have hr : List.range 30 = [0, 1, 2, 3, 4, 5, 6, 7, 8, 9, 10, 11, 12, 13, 14, 15, 16, 17, 18, 19, 20, 21, 22, 23, 24, 25, 26, 27, 28, 29] := rfl
          simp only [List.size_toArray, List.length_cons, List.length_nil, Nat.reduceAdd, List.drop_succ_cons, List.drop_zero, putA, hr, List.foldl_cons, List.foldl_nil, dstR, List.getElem?_toArray, List.getElem?_cons_succ, List.getElem?_cons_zero, Option.bind_some, Act.put, List.setIfInBounds_toArray, List.set_cons_succ, List.set_cons_zero, z0, z1, z2, z3, z4, z5, z6, z7, z8, z9, z10, z11, z12, z13, z14, z15, z16, z17, z18, z19, z20, z21, z22, z23, z24, z25, z26, z27, z28, z29]
          clear hr z0 z1 z2 z3 z4 z5 z6 z7 z8 z9 z10 z11 z12 z13 z14 z15 z16 z17 z18 z19 z20 z21 z22 z23 z24 z25 z26 z27 z28 z29 vals
          obtain ⟨hN29, bN⟩ := y29
          have hNO : N29 ≠ w1.heap.size := by omega
          have lN := bN.lt
          have O2 := O.below hC lO
          have hB2 : Below w1.heap.size w1 W := up hC hB
          have hs2 := hB2.size
          obtain ⟨P, hP⟩ : ∃ P : I3, P = (((cX c : Nat) : Int) + ((a1 : Nat) : Int) - 1, ((cY c : Nat) : Int) + ((a2 : Nat) : Int) - 1, ((cZ c : Nat) : Int) + ((a3 : Nat) : Int) - 1) := ⟨_, rfl⟩
          have HPP := Lib.hid (show pkI (toI c) j = P by rw [HPK.out, hP])
          rw [show ((cX c : Nat) : Int) + ((a1 : Nat) : Int) - 1 = P.1 by rw [hP], show ((cY c : Nat) : Int) + ((a2 : Nat) : Int) - 1 = P.2.1 by rw [hP], show ((cZ c : Nat) : Int) + ((a3 : Nat) : Int) - 1 = P.2.2 by rw [hP]]
          clear hP k0 k1 k2 w1' w2' w3' w4' w5' w6' w7' w8' t1 t2 t3 t4 hCd HPK hC lg
          obtain ⟨n0, n1, n2⟩ := BoxC.cells bN
          have f0 := bN.free 0
          have f1 := bN.free 1
          have f2 := bN.free 2
          have bP := bN.put P.1 P.2.1 P.2.2
          have hY3 : Below w1.heap.size w1 (((W.setCell ⟨N29, 0, none⟩ (.int .i64 P.1)).setCell ⟨N29, 1, none⟩ (.int .i64 P.2.1)).setCell ⟨N29, 2, none⟩ (.int .i64 P.2.2)) := ((hB2.setCell (p := ⟨N29, 0, none⟩) (by simp; omega) _).setCell (p := ⟨N29, 1, none⟩) (by simp; omega) _).setCell (p := ⟨N29, 2, none⟩) (by simp; omega) _
          have O3 : BoxS (((W.setCell ⟨N29, 0, none⟩ (.int .i64 P.1)).setCell ⟨N29, 1, none⟩ (.int .i64 P.2.1)).setCell ⟨N29, 2, none⟩ (.int .i64 P.2.2)) w1.heap.size h := ((O2.other (Ne.symm hNO) _).other (Ne.symm hNO) _).other (Ne.symm hNO) _
          clear O2 hB2 O hB hs2 lO
          go_upto_region 10 with fail
          obtain ⟨Y, hYY⟩ : ∃ Y, Y = (((W.setCell ⟨N29, 0, none⟩ (.int .i64 P.1)).setCell ⟨N29, 1, none⟩ (.int .i64 P.2.1)).setCell ⟨N29, 2, none⟩ (.int .i64 P.2.2)) := ⟨_, rfl⟩
          rw [← hYY] at bP hY3 O3 ⊢
          clear hYY n0 n1 n2 f0 f1 f2 bN lN
          have lN := bP.lt
          have lO := O3.lt
          obtain ⟨n0, n1, n2⟩ := BoxC.cells bP
          go_wp2_with fail
          have bQ : BoxC (Y.alloc (.cells #[.int .i64 (P.1), .int .i64 (P.2.1), .int .i64 (P.2.2)] 26)) Y.heap.size P.1 P.2.1 P.2.2 := BoxC.new rfl
          refine (rof_one P.1 P.2.1 P.2.2 _ _ bQ).mono ?_
          rintro e w4 ⟨h1, b4⟩
          have b4' : Below Y.heap.size Y w4 := ((Below.refl _ Y).alloc (Nat.le_refl _) _).trans (b4.mono (by simp))
          have O4 := O3.below b4' lO
          have hY4 : Below w1.heap.size w1 w4 := up b4' hY3
          have lO4 := O4.lt
          have hs4 := hY4.size
          clear n0 n1 n2 bP bQ b4 b4' O3 hY3 lO lN
          rcases h1 with ⟨rfl, h7⟩ | ⟨rfl, h7⟩
          · have HJ := Lib.hid (grow_congr (grow_join HG.out (p := P) h7) (q' := fun x => ∃ t, t < j + 1 ∧ x = pkI (toI c) t) fun x => by
              constructor
              · rintro (⟨t, ht, e⟩ | e)
                · exact ⟨t, by omega, e⟩
                · exact ⟨j, by omega, by rw [HPP.out]; exact e⟩
              · rintro ⟨t, ht, e⟩
                by_cases htj : t = j
                · exact .inr (by rw [e, htj, HPP.out])
                · exact .inl ⟨t, by omega, e⟩)
            obtain ⟨d, hd⟩ : ∃ d, d = ofI (P.1, P.2.1, P.2.2) := ⟨_, rfl⟩
            have HJN := Lib.hid (fun X => rjoin_at h d X HG.out.fit)
            rw [show ofI P = d from hd.symm] at HJ
            rw [← hd]
            clear hd
            obtain ⟨sd, hsd⟩ : ∃ sd, sd = setC (fun _ => 0) d := ⟨_, rfl⟩
            obtain ⟨jn, hjn⟩ : ∃ jn, jn = joinF h (setC (fun _ => 0) d) := ⟨_, rfl⟩
            rw [← hjn] at HJ HJN
            rw [← hsd] at HJN ⊢
            clear hsd hjn
            have D5 : BoxS (w4.alloc (.cells (solC sd) 24)) w4.heap.size sd := BoxS.new _ _
            have O5 := O4.alloc (.cells (solC sd) 24)
            have hY5 := hY4.alloc hs4 (.cells (solC sd) 24)
            have hNw : w1.heap.size < w4.heap.size := lO4
            go_upto_region 11 with fail
            obtain ⟨N5, hN5⟩ : ∃ N, N = w4.heap.size := ⟨_, rfl⟩
            obtain ⟨V, hV⟩ : ∃ V, V = w4.alloc (.cells (solC sd) 24) := ⟨_, rfl⟩
            rw [← hV] at D5 O5 hY5 ⊢
            rw [← hN5] at D5 hNw ⊢
            clear hV hN5 O4 hY4 lO4 hs4
            have d0 := (D5).cell (k := 0) (by omega); have d1 := (D5).cell (k := 1) (by omega); have d2 := (D5).cell (k := 2) (by omega); have d3 := (D5).cell (k := 3) (by omega); have d4 := (D5).cell (k := 4) (by omega); have d5 := (D5).cell (k := 5) (by omega); have d6 := (D5).cell (k := 6) (by omega); have d7 := (D5).cell (k := 7) (by omega)
            have o0 := (O5).cell (k := 0) (by omega); have o1 := (O5).cell (k := 1) (by omega); have o2 := (O5).cell (k := 2) (by omega); have o3 := (O5).cell (k := 3) (by omega); have o4 := (O5).cell (k := 4) (by omega); have o5 := (O5).cell (k := 5) (by omega); have o6 := (O5).cell (k := 6) (by omega); have o7 := (O5).cell (k := 7) (by omega)
            go_wp2_with fail
            refine (HJN.out _).mono ?_
            rintro e w6 ⟨rfl, b6⟩
            have O6 := O5.below b6 O5.lt
            have hY6 := up b6 hY5
            clear d0 d1 d2 d3 d4 d5 d6 d7 o0 o1 o2 o3 o4 o5 o6 o7 D5 O5 hY5 b6
            have lO6 := O6.lt
            have o0 := (O6).cell (k := 0) (by omega); have o1 := (O6).cell (k := 1) (by omega); have o2 := (O6).cell (k := 2) (by omega); have o3 := (O6).cell (k := 3) (by omega); have o4 := (O6).cell (k := 4) (by omega); have o5 := (O6).cell (k := 5) (by omega); have o6 := (O6).cell (k := 6) (by omega); have o7 := (O6).cell (k := 7) (by omega)
            have q0 := (O6).free 0; have q1 := (O6).free 1; have q2 := (O6).free 2; have q3 := (O6).free 3; have q4 := (O6).free 4; have q5 := (O6).free 5; have q6 := (O6).free 6; have q7 := (O6).free 7
            go_wp2_with fail
            exact ⟨⟨j + 1, jn, by omega, by go_num, HJ.out, O6.put jn, below_put8 hY6 (Nat.le_refl _) jn⟩, by simp [intOf]; omega⟩
          · have HJ := Lib.hid (grow_congr (grow_skip HG.out (p := P) h7) (q' := fun x => ∃ t, t < j + 1 ∧ x = pkI (toI c) t) fun x => by
              constructor
              · rintro (⟨t, ht, e⟩ | e)
                · exact ⟨t, by omega, e⟩
                · exact ⟨j, by omega, by rw [HPP.out]; exact e⟩
              · rintro ⟨t, ht, e⟩
                by_cases htj : t = j
                · exact .inr (by rw [e, htj, HPP.out])
                · exact .inl ⟨t, by omega, e⟩)
            have O5 := O4.alloc (.cells (solC fun _ => 0) 24)
            have hY5 := hY4.alloc hs4 (.cells (solC fun _ => 0) 24)
            go_wp2_with fail
            go_roundw
            case rel => exact ⟨j + 1, h, by omega, by go_num, HJ.out, O5, hY5⟩
            case measure => simp [intOf]; omega
        · obtain rfl : j = 27 := by omega
          have hdj : decide (((27 : Nat) : Int) < 27) = false := by decide
          have HGN := Lib.hid (grow_next HG.out)
          rw [← HTK.out] at HGN
          go_wp2_with fail
          go_roundw
          case rel => exact ⟨i + 1, h, by omega, by go_num, HGN.out, O, hB⟩
          case measure => simp [intOf]; omega
    · obtain rfl : i = (cellsL f).length := by omega
      have hd : decide (((cellsL f).length : Int) < ((cellsL f).length : Int)) = false := decide_eq_false (by omega)
      have HE := Lib.hid (grow_end (show GrowI f (cellsL f) (fun _ => False) h by rw [← List.take_length (l := cellsL f)]; exact HG.out))
      have R2 := R1.below hB lR1
      have lR2 := R2.lt
      have lO := O.lt
      have o0 := (O).cell (k := 0) (by omega); have o1 := (O).cell (k := 1) (by omega); have o2 := (O).cell (k := 2) (by omega); have o3 := (O).cell (k := 3) (by omega); have o4 := (O).cell (k := 4) (by omega); have o5 := (O).cell (k := 5) (by omega); have o6 := (O).cell (k := 6) (by omega); have o7 := (O).cell (k := 7) (by omega)
      have r0 := (R2).cell (k := 0) (by omega); have r1 := (R2).cell (k := 1) (by omega); have r2 := (R2).cell (k := 2) (by omega); have r3 := (R2).cell (k := 3) (by omega); have r4 := (R2).cell (k := 4) (by omega); have r5 := (R2).cell (k := 5) (by omega); have r6 := (R2).cell (k := 6) (by omega); have r7 := (R2).cell (k := 7) (by omega)
      have q0 := (R2).free 0; have q1 := (R2).free 1; have q2 := (R2).free 2; have q3 := (R2).free 3; have q4 := (R2).free 4; have q5 := (R2).free 5; have q6 := (R2).free 6; have q7 := (R2).free 7
      go_wp2_with fail
      refine bodyPost_ret (res_s (R2.put h) Tryz.results86 rfl) rfl ⟨by rw [sol_congr (eqS_at HE.out)], ?_⟩
      exact below_put8 (up hB hB1) (by omega) h
end Go.Proofs.YtadkaplafaeebaaGreatDoor
/-
  The law of parts: its walk, the contracts of its callees given; the law for every solid.
-/
set_option linter.unusedVariables false
set_option linter.unusedSimpArgs false
namespace Go.Proofs.YtadkaplafaeebaaGreatDoor
open Go Go.RowKit Go.Shelf

theorem sumI_bd {b : Int} (g : Sol → Int) (hg : ∀ x, -b ≤ g x ∧ g x ≤ b) : ∀ l : List Sol, -(b * l.length) ≤ (l.map g).sum ∧ (l.map g).sum ≤ b * l.length
  | [] => by simp
  | x :: l => by
    have h1 := sumI_bd g hg l
    have h2 := hg x
    rw [List.map_cons, List.sum_cons, List.length_cons, Int.natCast_add, Int.mul_add]
    omega
theorem sumN_bd {b : Nat} (g : Sol → Nat) (hg : ∀ x, g x ≤ b) : ∀ l : List Sol, (l.map g).sum ≤ b * l.length
  | [] => by simp
  | x :: l => by
    have h1 := sumN_bd g hg l
    have h2 := hg x
    rw [List.map_cons, List.sum_cons, List.length_cons, Nat.mul_add]
    omega
theorem skin_bd (f : Sol) : skinF f ≤ 3100 := by
  have h1 := skinN_le' f (cellsL f)
  have h2 := cellsL_len f
  unfold skinF
  omega
theorem parts_len1 (m : Sol) (hm : Fit m) (h1 : (partsF m).length = 1) (W : World) (hT : Tab64 W) : Calls Tryz.prog 72 #[sol m] W fun e w' => (∃ p cap, e = .returned (.slice p 1 cap)) ∧ Below W.heap.size W w' :=
  (parts_ok m W hm hT).mono fun e w' ⟨v, he, ho, hb⟩ => by
    obtain ⟨p, cap, rfl⟩ := own_slice ho
    rw [h1] at he
    exact ⟨⟨p, cap, he⟩, hb⟩
set_option maxRecDepth 100000 in
set_option maxHeartbeats 8000000 in
theorem partsl_core (f : Sol) (w : World) (hT : Tab64 w) (hf : Fit f)
    (HC : Hid (∀ W, Tab64 W → Calls Tryz.prog 20 #[] W (RetB (.bool true) W))) :
    Calls Tryz.prog 16 #[sol f] w (RetB (.bool true) w) := by
  have HT := Lib.hid hT
  have HF := Lib.hid hf
  have HI : Hid (IsCls touchL f f (partsF f)) := Lib.hid (cls_all touch_symm hf)
  have HLN : Hid ((partsF f).length ≤ 512) := Lib.hid (clsF_len touchL f)
  have HPF := Lib.hid (fun (X : World) (h : Tab64 X) => parts_ok f X hf h)
  have HE0 := Lib.hid (eul_parts HI.out)
  have HS0 := Lib.hid (skin_parts HI.out)
  have HEV := Lib.hid (skin_even f)
  have HJA := Lib.hid (join_all hf HI.out)
  have C1 := Lib.hid (fun (X : World) (h : Tab64 X) => euler_ok f X hf h)
  have C2 := Lib.hid (fun (X : World) (h : Tab64 X) => skin_ok f X hf h)
  generalize partsF f = L at *
  clear hT hf
  have A_0 : BoxS (w.alloc (.cells (solC f) 24)) w.heap.size f := BoxS.new _ _
  have hB0 : Below w.heap.size w (w.alloc (.cells (solC f) 24)) := by repeat' (first | (with_reducible exact Below.refl _ _) | (with_reducible assumption) | (with_reducible refine Below.alloc ?_ ?_ _) | (with_reducible refine Below.drew ?_) | (with_reducible refine below_drewN ?_ _) | (with_reducible refine Below.setCell ?_ ?_ _) | go_size)
  have c0 := (A_0).cell (k := 0) (by omega); have c1 := (A_0).cell (k := 1) (by omega); have c2 := (A_0).cell (k := 2) (by omega); have c3 := (A_0).cell (k := 3) (by omega); have c4 := (A_0).cell (k := 4) (by omega); have c5 := (A_0).cell (k := 5) (by omega); have c6 := (A_0).cell (k := 6) (by omega); have c7 := (A_0).cell (k := 7) (by omega)
  go_enter Tryz.func16, Tryz.ntmps16
  go_wp2_with fail
  refine (HPF.out _ (HT.out.below hB0 (Nat.le_refl _))).mono ?_
  rintro e w1 ⟨v, rfl, ho, b1⟩
  have A_1 := A_0.below b1 A_0.lt
  have hB1 : Below w.heap.size w w1 := up b1 hB0
  have hr1 := ho.1
  obtain ⟨p, cap, rfl⟩ := own_len hr1
  have lA1 := A_1.lt
  have Z1 : BoxS (w1.alloc (.cells (solC fun _ => 0) 24)) w1.heap.size (fun _ => 0) := BoxS.new _ _
  have hY : Below w1.heap.size w1 (w1.alloc (.cells (solC fun _ => 0) 24)) := (Below.refl _ _).alloc (Nat.le_refl _) _
  clear A_0 hB0 b1 c0 c1 c2 c3 c4 c5 c6 c7 ho HPF
  have hLn := HLN.out
  go_wp2_with fail
  go_loopw [5, 6, 7] (fun eu nu c wr => ∃ (i : Nat) (A : Sol) (E : Int) (N : Nat), i ≤ L.length ∧ c = .int .i64 i ∧ eu = .int .i64 E ∧ nu = .int .i64 ((N : Nat) : Int) ∧ E = ((L.take i).map eulF).sum ∧ N = ((L.take i).map skinF).sum ∧ A = joinL (fun _ => 0) (L.take i) ∧ BoxS wr w1.heap.size A ∧ Below w1.heap.size w1 wr) (fun _ _ c _ => L.length - (intOf c).toNat)
  case atStart => exact ⟨0, fun _ => 0, 0, 0, by omega, rfl, rfl, rfl, rfl, rfl, rfl, Z1, hY⟩
  case round =>
    clear Z1 hY
    obtain ⟨i, A, E, N, hi, rfl, rfl, rfl, hE, hN, hA, Z, hB⟩ := hrel
    have HE := Lib.hid hE; have HN := Lib.hid hN; have HA := Lib.hid hA
    have hEb : -3100000 ≤ E ∧ E ≤ 3100000 := by
      have h1 := sumI_bd (b := 6000) eulF eul_bd (L.take i)
      have h2 : (L.take i).length ≤ 512 := by rw [List.length_take]; omega
      rw [← hE] at h1
      omega
    have hNb : N ≤ 1600000 := by
      have h1 := sumN_bd (b := 3100) skinF skin_bd (L.take i)
      have h2 : (L.take i).length ≤ 512 := by rw [List.length_take]; omega
      rw [← hN] at h1
      omega
    clear hE hN hA
    have lZ := Z.lt
    by_cases hlt : i < L.length
    · have hd : decide ((i : Int) < (L.length : Int)) = true := decide_eq_true (by omega)
      have hib : (i : Int) < (L.length : Int) := by omega
      obtain ⟨g, rfl, hg, hcs⟩ := rowS_pos hr1 (by omega)
      have hci : L[i]? = some L[i] := List.getElem?_eq_getElem hlt
      obtain ⟨m, hm⟩ : ∃ m, m = L[i] := ⟨_, rfl⟩
      rw [← hm] at hci
      clear hm
      have hmem := List.mem_of_getElem? hci
      have hmf := (HI.out.each m hmem).1
      have HFM := Lib.hid hmf
      have HME := Lib.hid (show emptyS m = false from by obtain ⟨c, hc⟩ := IsCls.some HI.out hmem; exact some_ne hc)
      have HMT := Lib.hid (show emptyS (meetF A (growF m)) = true by rw [HA.out]; exact grow_apart HI.out hci)
      have HAF := Lib.hid (show Fit A by rw [HA.out]; exact joinL_fit _ fit0 fun g hg => (HI.out.each g (List.mem_of_mem_take hg)).1)
      have HP1 := Lib.hid (fun (X : World) (h : Tab64 X) => parts_len1 m hmf (part_one HI.out hmem) X h)
      have HGR := Lib.hid (fun (X : World) => grown_ok m X hmf)
      have HMM := Lib.hid (fun (X : World) => meet_ok A (growF m) X HAF.out (growF_fit m))
      have HJN := Lib.hid (fun (X : World) => join_ok A m X HAF.out hmf)
      have HEU := Lib.hid (fun (X : World) (h : Tab64 X) => euler_ok m X hmf h)
      have HSK := Lib.hid (fun (X : World) (h : Tab64 X) => skin_ok m X hmf h)
      have HJT := Lib.hid (show joinL (fun _ => 0) (L.take (i + 1)) = joinF A m by rw [join_take hci, HA.out])
      have HET := Lib.hid (show ((L.take (i + 1)).map eulF).sum = E + eulF m by rw [List.take_add_one, hci, HE.out]; simp)
      have HNT := Lib.hid (show ((L.take (i + 1)).map skinF).sum = N + skinF m by rw [List.take_add_one, hci, HN.out]; simp)
      have hme := eul_bd m; have hms := skin_bd m
      have HCS := Lib.hid (hcs i m hci)
      generalize eulF m = em at *
      generalize skinF m = sm at *
      generalize growF m = gm at *
      generalize joinF A m = jm at *
      obtain ⟨mm, hmm⟩ : ∃ mm, mm = meetF A gm := ⟨_, rfl⟩
      rw [← hmm] at HMT HMM
      clear hmm hmf hmem hci hcs
      have hme0 := HME.out; have hmt0 := HMT.out
      have S := A_1.below hB A_1.lt
      have lg : g < wr.heap.size := Nat.lt_of_lt_of_le hg hB.size
      have hBw : Below w.heap.size w wr := up hB hB1
      have HTU := Lib.hid (HT.out.below hBw (Nat.le_refl _))
      go_upto_region 8 with fail
      obtain ⟨U, hU⟩ : ∃ U, U = wr := ⟨_, rfl⟩
      subst hU
      have hCd : Below U.heap.size U U.drew := Below.drew (Below.refl _ _)
      refine wp_region_relW (fun (iR : Nat) (v : Value) (W : World) => match iR with | 0 => v = .slice (some ⟨g, 0, none⟩) L.length cap | 1 => v = .int .i64 (i : Int) | 2 => v = .pointer (some ⟨g, i * 8, none⟩) | 3 => v = sol m | 4 => v = .agg #[.int .u64 0, .int .u64 0, .int .u64 0, .int .u64 0, .int .u64 0, .int .u64 0, .int .u64 0, .int .u64 0] | 5 => v = .bool false | 6 => v = .bool false | 7 => v = sol A | 8 => v = .slice (some ⟨g, 0, none⟩) L.length cap | 9 => v = .int .i64 (i : Int) | 10 => v = .pointer (some ⟨g, i * 8, none⟩) | 11 => v = sol m | 12 => v = sol gm | 13 => v = sol mm | 14 => v = .agg #[.int .u64 0, .int .u64 0, .int .u64 0, .int .u64 0, .int .u64 0, .int .u64 0, .int .u64 0, .int .u64 0] | 15 => v = .bool false | 16 => v = .bool false | 17 => v = .bool false | 18 => v = .slice (some ⟨g, 0, none⟩) L.length cap | 19 => v = .int .i64 (i : Int) | 20 => v = .pointer (some ⟨g, i * 8, none⟩) | 21 => v = sol m | 22 => ∃ p cap, v = .slice p 1 cap | 23 => v = .int .i64 1 | 24 => v = .bool false | _ => v = .bool false) (fun W => Below U.heap.size U W) (by kernel_rfl) (by kernel_rfl) (by kernel_rfl) hCd (by kernel_rfl) ?hst ?hop ?hend
      case hst =>
        intro jR v W W' hb hv
        rcases jR with _ | _ | _ | _ | _ | _ | _ | _ | _ | _ | _ | _ | _ | _ | _ | _ | _ | _ | _ | _ | _ | _ | _ | _ | _ | _ | jR
        all_goals first | exact hv | (obtain ⟨b, hr⟩ := hv; exact ⟨b, row_below hr hb⟩) | (obtain ⟨b, hr, hn⟩ := hv; exact ⟨b, row_below hr hb, hn⟩)
      case hop =>
        intro iR o ho a' W hC hin hfix
        have x := fun j hj => (hC.cell (p := ⟨g, i * 8 + j, none⟩) lg).trans ((hB.cell (p := ⟨g, i * 8 + j, none⟩) hg).trans (HCS.out j hj))
        have x0 := x 0 (by omega); have x1 := x 1 (by omega); have x2 := x 2 (by omega); have x3 := x 3 (by omega); have x4 := x 4 (by omega); have x5 := x 5 (by omega); have x6 := x 6 (by omega); have x7 := x 7 (by omega)
        rw [Nat.add_zero] at x0
        clear x
        have Z3 := Z.below hC lZ
        have z0 := (Z3).cell (k := 0) (by omega); have z1 := (Z3).cell (k := 1) (by omega); have z2 := (Z3).cell (k := 2) (by omega); have z3 := (Z3).cell (k := 3) (by omega); have z4 := (Z3).cell (k := 4) (by omega); have z5 := (Z3).cell (k := 5) (by omega); have z6 := (Z3).cell (k := 6) (by omega); have z7 := (Z3).cell (k := 7) (by omega)
        have q3 : a'.tmps[3]? = some (.slice (some ⟨g, 0, none⟩) L.length cap) := hfix 3 (by kernel_rfl)
        have q4 : a'.tmps[4]? = some (.pointer (some ⟨w1.heap.size, 0, none⟩)) := hfix 4 (by kernel_rfl)
        have q7 : a'.tmps[7]? = some (.int .i64 (i : Int)) := hfix 7 (by kernel_rfl)
        have hi : iR < 26 := (Array.getElem?_eq_some_iff.1 ho).1
        rcases (show iR = 0 ∨ iR = 1 ∨ iR = 2 ∨ iR = 3 ∨ iR = 4 ∨ iR = 5 ∨ iR = 6 ∨ iR = 7 ∨ iR = 8 ∨ iR = 9 ∨ iR = 10 ∨ iR = 11 ∨ iR = 12 ∨ iR = 13 ∨ iR = 14 ∨ iR = 15 ∨ iR = 16 ∨ iR = 17 ∨ iR = 18 ∨ iR = 19 ∨ iR = 20 ∨ iR = 21 ∨ iR = 22 ∨ iR = 23 ∨ iR = 24 ∨ iR = 25 by omega) with rfl | rfl | rfl | rfl | rfl | rfl | rfl | rfl | rfl | rfl | rfl | rfl | rfl | rfl | rfl | rfl | rfl | rfl | rfl | rfl | rfl | rfl | rfl | rfl | rfl | rfl
        · obtain rfl := Option.some.inj ho
          refine ⟨rfl, fun K hK => ?_⟩
          clear hin hfix ho
          go_simp
          exact hK _ _ rfl hC (Below.refl _ _)
        · obtain rfl := Option.some.inj ho
          refine ⟨rfl, fun K hK => ?_⟩
          clear hin hfix ho
          go_simp
          exact hK _ _ rfl hC (Below.refl _ _)
        · obtain ⟨v0, rfl, h0⟩ := hin 0 16 (by kernel_rfl) (by kernel_rfl)
          obtain ⟨v1, rfl, h1⟩ := hin 1 17 (by kernel_rfl) (by kernel_rfl)
          obtain rfl := Option.some.inj ho
          refine ⟨rfl, fun K hK => ?_⟩
          clear hin hfix ho
          go_simp
          exact hK _ _ rfl hC (Below.refl _ _)
        · obtain ⟨v2, rfl, h2⟩ := hin 2 18 (by kernel_rfl) (by kernel_rfl)
          obtain rfl := Option.some.inj ho
          refine ⟨rfl, fun K hK => ?_⟩
          clear hin hfix ho
          go_simp
          exact hK _ _ rfl hC (Below.refl _ _)
        · obtain rfl := Option.some.inj ho
          refine ⟨rfl, fun K hK => ?_⟩
          clear hin hfix ho
          go_simp
          exact hK _ _ rfl hC (Below.refl _ _)
        · obtain ⟨v3, rfl, h3⟩ := hin 3 19 (by kernel_rfl) (by kernel_rfl)
          obtain ⟨v4, rfl, h4⟩ := hin 4 20 (by kernel_rfl) (by kernel_rfl)
          obtain rfl := Option.some.inj ho
          refine ⟨rfl, fun K hK => ?_⟩
          clear hin hfix ho
          go_simp
          exact hK _ _ rfl hC (Below.refl _ _)
        · obtain ⟨v5, rfl, h5⟩ := hin 5 21 (by kernel_rfl) (by kernel_rfl)
          obtain rfl := Option.some.inj ho
          refine ⟨rfl, fun K hK => ?_⟩
          clear hin hfix ho
          go_simp
          exact hK _ _ rfl hC (Below.refl _ _)
        · obtain ⟨v6, rfl, h6⟩ := hin 6 22 (by kernel_rfl) (by kernel_rfl)
          obtain rfl := Option.some.inj ho
          refine ⟨wanted_at (j := 6) (t := 22) rfl (by kernel_rfl) h6, fun K hK => ?_⟩
          clear hin hfix ho
          go_simp
          exact hK _ _ rfl hC (Below.refl _ _)
        · obtain ⟨v6, rfl, h6⟩ := hin 6 22 (by kernel_rfl) (by kernel_rfl)
          obtain rfl := Option.some.inj ho
          refine ⟨wanted_at (j := 6) (t := 22) rfl (by kernel_rfl) h6, fun K hK => ?_⟩
          clear hin hfix ho
          go_simp
          exact hK _ _ rfl hC (Below.refl _ _)
        · obtain ⟨v6, rfl, h6⟩ := hin 6 22 (by kernel_rfl) (by kernel_rfl)
          obtain rfl := Option.some.inj ho
          refine ⟨wanted_at (j := 6) (t := 22) rfl (by kernel_rfl) h6, fun K hK => ?_⟩
          clear hin hfix ho
          go_simp
          exact hK _ _ rfl hC (Below.refl _ _)
        · obtain ⟨v8, rfl, h8⟩ := hin 8 24 (by kernel_rfl) (by kernel_rfl)
          obtain ⟨v9, rfl, h9⟩ := hin 9 25 (by kernel_rfl) (by kernel_rfl)
          obtain ⟨v6, rfl, h6⟩ := hin 6 22 (by kernel_rfl) (by kernel_rfl)
          obtain rfl := Option.some.inj ho
          refine ⟨wanted_at (j := 6) (t := 22) rfl (by kernel_rfl) h6, fun K hK => ?_⟩
          clear hin hfix ho
          go_simp
          exact hK _ _ rfl hC (Below.refl _ _)
        · obtain ⟨v10, rfl, h10⟩ := hin 10 26 (by kernel_rfl) (by kernel_rfl)
          obtain ⟨v6, rfl, h6⟩ := hin 6 22 (by kernel_rfl) (by kernel_rfl)
          obtain rfl := Option.some.inj ho
          refine ⟨wanted_at (j := 6) (t := 22) rfl (by kernel_rfl) h6, fun K hK => ?_⟩
          clear hin hfix ho
          go_simp
          exact hK _ _ rfl hC (Below.refl _ _)
        · obtain ⟨v11, rfl, h11⟩ := hin 11 27 (by kernel_rfl) (by kernel_rfl)
          obtain ⟨v6, rfl, h6⟩ := hin 6 22 (by kernel_rfl) (by kernel_rfl)
          obtain rfl := Option.some.inj ho
          refine ⟨wanted_at (j := 6) (t := 22) rfl (by kernel_rfl) h6, fun K hK => ?_⟩
          clear hin hfix ho
          go_simp
          refine (HGR.out _).mono ?_
          rintro e W2 ⟨rfl, hb⟩
          exact hK _ _ rfl (hC.trans (hb.mono hC.size)) hb
        · obtain ⟨v7, rfl, h7⟩ := hin 7 23 (by kernel_rfl) (by kernel_rfl)
          obtain ⟨v12, rfl, h12⟩ := hin 12 28 (by kernel_rfl) (by kernel_rfl)
          obtain ⟨v6, rfl, h6⟩ := hin 6 22 (by kernel_rfl) (by kernel_rfl)
          obtain rfl := Option.some.inj ho
          refine ⟨wanted_at (j := 6) (t := 22) rfl (by kernel_rfl) h6, fun K hK => ?_⟩
          clear hin hfix ho
          go_simp
          refine (HMM.out _).mono ?_
          rintro e W2 ⟨rfl, hb⟩
          exact hK _ _ rfl (hC.trans (hb.mono hC.size)) hb
        · obtain ⟨v6, rfl, h6⟩ := hin 6 22 (by kernel_rfl) (by kernel_rfl)
          obtain rfl := Option.some.inj ho
          refine ⟨wanted_at (j := 6) (t := 22) rfl (by kernel_rfl) h6, fun K hK => ?_⟩
          clear hin hfix ho
          go_simp
          exact hK _ _ rfl hC (Below.refl _ _)
        · obtain ⟨v13, rfl, h13⟩ := hin 13 29 (by kernel_rfl) (by kernel_rfl)
          obtain ⟨v14, rfl, h14⟩ := hin 14 30 (by kernel_rfl) (by kernel_rfl)
          obtain ⟨v6, rfl, h6⟩ := hin 6 22 (by kernel_rfl) (by kernel_rfl)
          obtain rfl := Option.some.inj ho
          refine ⟨wanted_at (j := 6) (t := 22) rfl (by kernel_rfl) h6, fun K hK => ?_⟩
          clear hin hfix ho
          go_simp
          exact hK _ _ rfl hC (Below.refl _ _)
        · obtain ⟨v6, rfl, h6⟩ := hin 6 22 (by kernel_rfl) (by kernel_rfl)
          obtain ⟨v15, rfl, h15⟩ := hin 15 31 (by kernel_rfl) (by kernel_rfl)
          obtain rfl := Option.some.inj ho
          refine ⟨rfl, fun K hK => ?_⟩
          clear hin hfix ho
          go_simp
          exact hK _ _ rfl hC (Below.refl _ _)
        · obtain ⟨v16, rfl, h16⟩ := hin 16 32 (by kernel_rfl) (by kernel_rfl)
          obtain rfl := Option.some.inj ho
          refine ⟨rfl, fun K hK => ?_⟩
          clear hin hfix ho
          go_simp
          exact hK _ _ rfl hC (Below.refl _ _)
        · obtain ⟨v17, rfl, h17⟩ := hin 17 33 (by kernel_rfl) (by kernel_rfl)
          obtain rfl := Option.some.inj ho
          refine ⟨wanted_at (j := 17) (t := 33) rfl (by kernel_rfl) h17, fun K hK => ?_⟩
          clear hin hfix ho
          go_simp
          exact hK _ _ rfl hC (Below.refl _ _)
        · obtain ⟨v17, rfl, h17⟩ := hin 17 33 (by kernel_rfl) (by kernel_rfl)
          obtain rfl := Option.some.inj ho
          refine ⟨wanted_at (j := 17) (t := 33) rfl (by kernel_rfl) h17, fun K hK => ?_⟩
          clear hin hfix ho
          go_simp
          exact hK _ _ rfl hC (Below.refl _ _)
        · obtain ⟨v18, rfl, h18⟩ := hin 18 34 (by kernel_rfl) (by kernel_rfl)
          obtain ⟨v19, rfl, h19⟩ := hin 19 35 (by kernel_rfl) (by kernel_rfl)
          obtain ⟨v17, rfl, h17⟩ := hin 17 33 (by kernel_rfl) (by kernel_rfl)
          obtain rfl := Option.some.inj ho
          refine ⟨wanted_at (j := 17) (t := 33) rfl (by kernel_rfl) h17, fun K hK => ?_⟩
          clear hin hfix ho
          go_simp
          exact hK _ _ rfl hC (Below.refl _ _)
        · obtain ⟨v20, rfl, h20⟩ := hin 20 36 (by kernel_rfl) (by kernel_rfl)
          obtain ⟨v17, rfl, h17⟩ := hin 17 33 (by kernel_rfl) (by kernel_rfl)
          obtain rfl := Option.some.inj ho
          refine ⟨wanted_at (j := 17) (t := 33) rfl (by kernel_rfl) h17, fun K hK => ?_⟩
          clear hin hfix ho
          go_simp
          exact hK _ _ rfl hC (Below.refl _ _)
        · obtain ⟨v21, rfl, h21⟩ := hin 21 37 (by kernel_rfl) (by kernel_rfl)
          obtain ⟨v17, rfl, h17⟩ := hin 17 33 (by kernel_rfl) (by kernel_rfl)
          obtain rfl := Option.some.inj ho
          refine ⟨wanted_at (j := 17) (t := 33) rfl (by kernel_rfl) h17, fun K hK => ?_⟩
          clear hin hfix ho
          go_simp
          refine (HP1.out _ (HTU.out.below hC (Nat.le_refl _))).mono ?_
          rintro e W2 ⟨he, hb⟩
          obtain ⟨p, cap, rfl⟩ := he
          exact hK _ _ ⟨p, cap, rfl⟩ (hC.trans (hb.mono hC.size)) hb
        · obtain ⟨v22, ⟨p22, cap22, rfl⟩, h22⟩ := hin 22 38 (by kernel_rfl) (by kernel_rfl)
          obtain ⟨v17, rfl, h17⟩ := hin 17 33 (by kernel_rfl) (by kernel_rfl)
          obtain rfl := Option.some.inj ho
          refine ⟨wanted_at (j := 17) (t := 33) rfl (by kernel_rfl) h17, fun K hK => ?_⟩
          clear hin hfix ho
          go_simp
          exact hK _ _ rfl hC (Below.refl _ _)
        · obtain ⟨v23, rfl, h23⟩ := hin 23 39 (by kernel_rfl) (by kernel_rfl)
          obtain ⟨v17, rfl, h17⟩ := hin 17 33 (by kernel_rfl) (by kernel_rfl)
          obtain rfl := Option.some.inj ho
          refine ⟨wanted_at (j := 17) (t := 33) rfl (by kernel_rfl) h17, fun K hK => ?_⟩
          clear hin hfix ho
          go_simp
          exact hK _ _ rfl hC (Below.refl _ _)
        · obtain ⟨v17, rfl, h17⟩ := hin 17 33 (by kernel_rfl) (by kernel_rfl)
          obtain ⟨v24, rfl, h24⟩ := hin 24 40 (by kernel_rfl) (by kernel_rfl)
          obtain rfl := Option.some.inj ho
          refine ⟨rfl, fun K hK => ?_⟩
          clear hin hfix ho
          go_simp
          exact hK _ _ rfl hC (Below.refl _ _)
      case hend =>
      intro vals W hC hV
      have z0 := hV 0 (by decide)
      have z1 := hV 1 (by decide)
      have z2 := hV 2 (by decide)
      have z3 := hV 3 (by decide)
      have z4 := hV 4 (by decide)
      have z5 := hV 5 (by decide)
      have z6 := hV 6 (by decide)
      have z7 := hV 7 (by decide)
      have z8 := hV 8 (by decide)
      have z9 := hV 9 (by decide)
      have z10 := hV 10 (by decide)
      have z11 := hV 11 (by decide)
      have z12 := hV 12 (by decide)
      have z13 := hV 13 (by decide)
      have z14 := hV 14 (by decide)
      have z15 := hV 15 (by decide)
      have z16 := hV 16 (by decide)
      have z17 := hV 17 (by decide)
      have z18 := hV 18 (by decide)
      have z19 := hV 19 (by decide)
      have z20 := hV 20 (by decide)
      have z21 := hV 21 (by decide)
      have z23 := hV 23 (by decide)
      have z24 := hV 24 (by decide)
      have z25 := hV 25 (by decide)
      clear hV
      simp only at z0 z1 z2 z3 z4 z5 z6 z7 z8 z9 z10 z11 z12 z13 z14 z15 z16 z17 z18 z19 z20 z21 z23 z24 z25 
      have hr : List.range 26 = [0, 1, 2, 3, 4, 5, 6, 7, 8, 9, 10, 11, 12, 13, 14, 15, 16, 17, 18, 19, 20, 21, 22, 23, 24, 25] := rfl
      simp only [List.size_toArray, List.length_cons, List.length_nil, Nat.reduceAdd, List.drop_succ_cons, List.drop_zero, putA, hr, List.foldl_cons, List.foldl_nil, dstR, List.getElem?_toArray, List.getElem?_cons_succ, List.getElem?_cons_zero, Option.bind_some, Act.put, List.setIfInBounds_toArray, List.set_cons_succ, List.set_cons_zero, z0, z1, z2, z3, z4, z5, z6, z7, z8, z9, z10, z11, z12, z13, z14, z15, z16, z17, z18, z19, z20, z21, z23, z24, z25]
      clear hr z0 z1 z2 z3 z4 z5 z6 z7 z8 z9 z10 z11 z12 z13 z14 z15 z16 z17 z18 z19 z20 z21 z23 z24 z25
      obtain ⟨x22, hx22⟩ : ∃ v, v = vals 22 := ⟨_, rfl⟩
      rw [← hx22]
      clear hx22 vals
      obtain ⟨V, hV⟩ : ∃ V, V = W := ⟨_, rfl⟩
      subst hV
      have Z2 := Z.below hC lZ
      have hB2 : Below w1.heap.size w1 V := up hC hB
      have lZ2 := Z2.lt
      have lg2 : g < V.heap.size := Nat.lt_of_lt_of_le lg hC.size
      clear Z hB lZ lg hC hCd hBw HTU S
      have x := fun j hj => (hB2.cell (p := ⟨g, i * 8 + j, none⟩) hg).trans (HCS.out j hj)
      have x0 := x 0 (by omega); have x1 := x 1 (by omega); have x2 := x 2 (by omega); have x3 := x 3 (by omega); have x4 := x 4 (by omega); have x5 := x 5 (by omega); have x6 := x 6 (by omega); have x7 := x 7 (by omega)
      rw [Nat.add_zero] at x0
      clear x
      have z0 := (Z2).cell (k := 0) (by omega); have z1 := (Z2).cell (k := 1) (by omega); have z2 := (Z2).cell (k := 2) (by omega); have z3 := (Z2).cell (k := 3) (by omega); have z4 := (Z2).cell (k := 4) (by omega); have z5 := (Z2).cell (k := 5) (by omega); have z6 := (Z2).cell (k := 6) (by omega); have z7 := (Z2).cell (k := 7) (by omega)
      go_wp2_with fail
      (refine wp_region_quiet_tail 6 (fun w' => Below V.heap.size V w') (by kernel_rfl) (by kernel_rfl) (Below.drew (Below.refl _ _)) ?_; simp only [List.take_succ_cons, List.take_zero, List.drop_succ_cons, List.drop_zero]; (iterate 6 (refine wpQuiet_step (fun K hK => ?_); go_simp; first | (refine hK _ ?_; clear hK K) | (apply Exists.intro; refine ⟨fun W' hW' => ?_, hK _ ?_⟩; (focus (first | (with_reducible exact rfl) | (with_reducible exact ⟨rfl, rfl⟩) | (obtain ⟨hcq, hfq⟩ := bcell hW'; have hzq := hW'.size; (try go_simp); first | (with_reducible exact rfl) | (with_reducible exact ⟨rfl, rfl⟩) | (first | ((with_reducible refine Calls.mono (HJN.out _) ?_); rintro e w9 ⟨rfl, hb9⟩; exact ⟨rfl, hW'.trans (hb9.mono hW'.size)⟩))))); clear hK K))); refine wpQuiet_nil ?_; intro w1q hb1q)
      have Z3 := Z2.below hb1q lZ2
      have hB3 : Below w1.heap.size w1 w1q := up hb1q hB2
      have lZ3 := Z3.lt
      have lg3 : g < w1q.heap.size := Nat.lt_of_lt_of_le lg2 hb1q.size
      clear x0 x1 x2 x3 x4 x5 x6 x7 z0 z1 z2 z3 z4 z5 z6 z7 Z2 hB2 lZ2 lg2 hb1q
      have z0 := (Z3).cell (k := 0) (by omega); have z1 := (Z3).cell (k := 1) (by omega); have z2 := (Z3).cell (k := 2) (by omega); have z3 := (Z3).cell (k := 3) (by omega); have z4 := (Z3).cell (k := 4) (by omega); have z5 := (Z3).cell (k := 5) (by omega); have z6 := (Z3).cell (k := 6) (by omega); have z7 := (Z3).cell (k := 7) (by omega)
      have q0 := (Z3).free 0; have q1 := (Z3).free 1; have q2 := (Z3).free 2; have q3 := (Z3).free 3; have q4 := (Z3).free 4; have q5 := (Z3).free 5; have q6 := (Z3).free 6; have q7 := (Z3).free 7
      have Z4 := Z3.put jm
      have hB4 : Below w1.heap.size w1 (put8 w1q w1.heap.size jm) := below_put8 hB3 (Nat.le_refl _) jm
      have lg4 : g < (put8 w1q w1.heap.size jm).heap.size := Nat.lt_of_lt_of_le hg hB4.size
      go_upto_region 11 with fail
      obtain ⟨X, hX⟩ : ∃ X, X = put8 w1q w1.heap.size jm := ⟨_, rfl⟩
      rw [show ((((((((w1q.setCell ⟨w1.heap.size, 0, none⟩ (.int .u64 (jm 0 : Nat))).setCell ⟨w1.heap.size, 1, none⟩ (.int .u64 (jm 1 : Nat))).setCell ⟨w1.heap.size, 2, none⟩ (.int .u64 (jm 2 : Nat))).setCell ⟨w1.heap.size, 3, none⟩ (.int .u64 (jm 3 : Nat))).setCell ⟨w1.heap.size, 4, none⟩ (.int .u64 (jm 4 : Nat))).setCell ⟨w1.heap.size, 5, none⟩ (.int .u64 (jm 5 : Nat))).setCell ⟨w1.heap.size, 6, none⟩ (.int .u64 (jm 6 : Nat))).setCell ⟨w1.heap.size, 7, none⟩ (.int .u64 (jm 7 : Nat))) = X from hX.symm]
      rw [← hX] at Z4 hB4 lg4
      clear hX z0 z1 z2 z3 z4 z5 z6 z7 q0 q1 q2 q3 q4 q5 q6 q7 Z3 hB3 lZ3 lg3
      have x := fun j hj => (hB4.cell (p := ⟨g, i * 8 + j, none⟩) hg).trans (HCS.out j hj)
      have x0 := x 0 (by omega); have x1 := x 1 (by omega); have x2 := x 2 (by omega); have x3 := x 3 (by omega); have x4 := x 4 (by omega); have x5 := x 5 (by omega); have x6 := x 6 (by omega); have x7 := x 7 (by omega)
      rw [Nat.add_zero] at x0
      clear x
      have HT4 := Lib.hid (HT.out.below (up hB4 hB1) (Nat.le_refl _))
      have we : IntKind.i64.wrap (E + em) = E + em := IntWalk.i64_in _ (by omega)
      have wn : IntKind.i64.wrap ((N : Int) + (sm : Int)) = (N : Int) + (sm : Int) := IntWalk.i64_in _ (by omega)
      go_wp2_with fail
      refine (HEU.out _ HT4.out).mono ?_
      rintro e w5 ⟨rfl, b5⟩
      have Z5 := Z4.below b5 Z4.lt
      have hB5 : Below w1.heap.size w1 w5 := up b5 hB4
      have lg5 : g < w5.heap.size := Nat.lt_of_lt_of_le hg hB5.size
      clear x0 x1 x2 x3 x4 x5 x6 x7 Z4 hB4 b5 HT4 lg4
      have x := fun j hj => (hB5.cell (p := ⟨g, i * 8 + j, none⟩) hg).trans (HCS.out j hj)
      have x0 := x 0 (by omega); have x1 := x 1 (by omega); have x2 := x 2 (by omega); have x3 := x 3 (by omega); have x4 := x 4 (by omega); have x5 := x 5 (by omega); have x6 := x 6 (by omega); have x7 := x 7 (by omega)
      rw [Nat.add_zero] at x0
      clear x
      have HT5 := Lib.hid (HT.out.below (up hB5 hB1) (Nat.le_refl _))
      go_wp2_with fail
      refine (HSK.out _ HT5.out).mono ?_
      rintro e w6 ⟨rfl, b6⟩
      have Z6 := Z5.below b6 Z5.lt
      have hB6 : Below w1.heap.size w1 w6 := up b6 hB5
      clear x0 x1 x2 x3 x4 x5 x6 x7 Z5 hB5 b6 HT5 lg5
      go_wp2_with fail
      go_roundw
      case rel => exact ⟨i + 1, jm, E + em, N + sm, by omega, by go_num, rfl, by go_num, HET.out.symm, HNT.out.symm, HJT.out.symm, Z6, hB6⟩
      case measure => simp [intOf]; omega
    · obtain rfl : i = L.length := by omega
      have hd : decide ((L.length : Int) < (L.length : Int)) = false := decide_eq_false (by omega)
      have HA2 := HA.out; rw [List.take_length] at HA2
      have HE2 := HE.out; rw [List.take_length, ← HE0.out] at HE2
      have HN2 := HN.out; rw [List.take_length, ← HS0.out] at HN2
      have kA : eqS A f = true := by rw [HA2]; exact HJA.out
      have kE : (E == eulF f) = true := by rw [HE2]; simp
      have kN : ((N : Int) == ((skinF f : Nat) : Int)) = true := by rw [HN2]; simp
      have kv : (((N : Nat) : Int) % 2 == 0) = true := by
        have := HEV.out
        rw [← HN2] at this
        rw [beq_iff_eq]
        omega
      clear HA2 HE2 HN2
      generalize eulF f = ef at *
      generalize skinF f = sf at *
      have S := A_1.below hB A_1.lt
      have hBw : Below w.heap.size w wr := up hB hB1
      go_wp2_with fail
      refine (HC.out _ (HT.out.below hBw (Nat.le_refl _))).mono ?_
      rintro e w2 ⟨rfl, b2⟩
      have S2 := S.below b2 S.lt; have Z2 := Z.below b2 lZ; have hB2 := up b2 hBw
      clear S Z hBw b2 hB lZ
      have s0 := (S2).cell (k := 0) (by omega); have s1 := (S2).cell (k := 1) (by omega); have s2 := (S2).cell (k := 2) (by omega); have s3 := (S2).cell (k := 3) (by omega); have s4 := (S2).cell (k := 4) (by omega); have s5 := (S2).cell (k := 5) (by omega); have s6 := (S2).cell (k := 6) (by omega); have s7 := (S2).cell (k := 7) (by omega)
      have z0 := (Z2).cell (k := 0) (by omega); have z1 := (Z2).cell (k := 1) (by omega); have z2 := (Z2).cell (k := 2) (by omega); have z3 := (Z2).cell (k := 3) (by omega); have z4 := (Z2).cell (k := 4) (by omega); have z5 := (Z2).cell (k := 5) (by omega); have z6 := (Z2).cell (k := 6) (by omega); have z7 := (Z2).cell (k := 7) (by omega)
      go_wp2_with fail
      refine (C1.out _ (HT.out.below hB2 (Nat.le_refl _))).mono ?_
      rintro e w3 ⟨rfl, b3⟩
      have S3 := S2.below b3 S2.lt; have hB3 := up b3 hB2
      clear s0 s1 s2 s3 s4 s5 s6 s7 z0 z1 z2 z3 z4 z5 z6 z7 S2 Z2 hB2 b3
      have s0 := (S3).cell (k := 0) (by omega); have s1 := (S3).cell (k := 1) (by omega); have s2 := (S3).cell (k := 2) (by omega); have s3 := (S3).cell (k := 3) (by omega); have s4 := (S3).cell (k := 4) (by omega); have s5 := (S3).cell (k := 5) (by omega); have s6 := (S3).cell (k := 6) (by omega); have s7 := (S3).cell (k := 7) (by omega)
      go_wp2_with fail
      refine (C2.out _ (HT.out.below hB3 (Nat.le_refl _))).mono ?_
      rintro e w4 ⟨rfl, b4⟩
      have hB4 := up b4 hB3
      go_wp2_with fail
      go_ret
      refine ⟨?_, hB4⟩
      first | rfl | (show Ending.returned (.bool (((N : Nat) : Int) % 2 == 0)) = _; rw [kv])
theorem partsl_of (f : Sol) (hf : Fit f) (w : World) (hT : Tab64 w) :
    Calls Tryz.prog 16 #[sol f] w (RetB (.bool true) w) :=
  partsl_core f w hT hf (Lib.hid fun W hW => carved_of ev_cav W hW)
end Go.Proofs.YtadkaplafaeebaaGreatDoor
