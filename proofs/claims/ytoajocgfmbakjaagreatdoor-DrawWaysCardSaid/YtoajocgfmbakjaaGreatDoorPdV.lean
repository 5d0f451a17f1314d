/-
  The reference's Stand: the walk.
-/
import Derived.Test.YtoajocgfmbakjaaGreatDoorPdU
import Derived.Test.YtoajocgfmbakjaaGreatDoorPdR
set_option linter.unusedVariables false
set_option linter.unusedSimpArgs false
namespace Go.Proofs.YtoajocgfmbakjaaGreatDoor
open Go Go.RowKit Go.Shelf

set_option maxRecDepth 100000 in
set_option maxHeartbeats 4000000 in
theorem standR_ok (ms : List Sol) (gone : List Int) (p : Nat) (f : Sol) (s far : Nat) (v gv : Value) (w : World) (hv : SolsAt w v ms) (hm : ∀ m ∈ ms, Fit m) (hg : IntsAt w gv gone) (hp : ms[p]? = some f) (hs : s ≤ 4) (hf : far ≤ 7) :
    Calls Tryz.prog 103 #[v, gv, .agg #[.int .i64 ((p : Int)), .int .i64 ((s : Int)), .int .i64 ((far : Int))]] w (RetB (standV (standR ms gone p f s far)) w) := by
  have HV := Lib.hid hv
  have HM := Lib.hid hm
  have HG := Lib.hid hg
  have HP := Lib.hid hp
  have hpl := (List.getElem?_eq_some_iff.1 hp).1
  have hpi : (p : Int) < (ms.length : Int) := by omega
  have HF := Lib.hid (hm f (List.mem_of_getElem? hp))
  obtain ⟨b, o, cap, rfl, hb, _⟩ := hv.at hp
  obtain ⟨B, hBB⟩ : ∃ B, B = w.heap.size := ⟨_, rfl⟩
  obtain ⟨W0, hW0⟩ : ∃ W0, W0 = w.alloc (.cells #[.int .i64 ((p : Int)), .int .i64 ((s : Int)), .int .i64 ((far : Int))] 40) := ⟨_, rfl⟩
  have q0 : BoxM W0 B p s far := by rw [hW0, hBB]; exact World.alloc_heap_new w _
  have hB0 : Below w.heap.size w W0 := by rw [hW0]; exact (Below.refl _ w).alloc (Nat.le_refl _) _
  have HBE := Lib.hid hBB
  have HIS := Lib.hid (fun k (hk : k ≤ 16) W => shiftR_ok (p : Int) s far k hs hf hk W)
  have HDB := Lib.hid (fun k => dx_bound s far k hf)
  obtain ⟨ans, hans⟩ : ∃ ans, ans = standR ms gone p f s far := ⟨_, rfl⟩
  rw [← hans]
  have HA := Lib.hid hans
  clear hans hBB hm hg hp hv
  go_enter Tryz.func103, Tryz.ntmps103
  go_upto_region 1 with fail
  rw [← hW0, ← HBE.out]
  clear hW0
  go_wp2_with fail
  go_loopw [9] (fun z wr => ∃ k : Nat, 1 ≤ k ∧ k ≤ 17 ∧ z = .int .i64 k ∧ Hid (ans = standK ms gone p f s far (17 - k) k) ∧ BoxM wr B p s far ∧ Below w.heap.size w wr) (fun z _ => 17 - (intOf z).toNat)
  case atStart => exact ⟨1, by omega, by omega, rfl, Lib.hid HA.out, q0, hB0⟩
  case round =>
    clear q0 hB0
    obtain ⟨k, hk1, hk2, rfl, HT, q, hB⟩ := hrel
    by_cases hlt : k ≤ 16
    · have hd : decide ((k : Int) ≤ 16) = true := decide_eq_true (by omega)
      have hki : (k : Int) ≤ 16 := by omega
      have hw1 : IntKind.i64.wrap ((k : Int) + 1) = (k : Int) + 1 := by rw [IntWalk.i64_in] <;> omega
      obtain ⟨j, hj⟩ : ∃ j, 17 - k = j + 1 := ⟨16 - k, by omega⟩
      have hj2 : 17 - (k + 1) = j := by omega
      have HSK := Lib.hid (show standK ms gone p f s far (17 - k) k = if upR far k ≤ 8 then (match stepR ms gone p f s far k with | some r => some r | none => standK ms gone p f s far (17 - (k + 1)) (k + 1)) else none by rw [hj2, hj]; rfl)
      obtain ⟨e1, e2, e3, e4⟩ := HDB.out k
      have HST := Lib.hid (show stepR ms gone p f s far k = if offK f (dxR s far k) (dyR s far k) 512 0 = true then some (-1, -1) else hitK ms gone p f (dxR s far k) (dyR s far k) (upR far k) 512 0 from rfl)
      have HIK := Lib.hid (HIS.out k hlt)
      have huk : upR far k ≤ 16 := by unfold upR; omega
      generalize dxR s far k = dx at *
      generalize dyR s far k = dy at *
      generalize upR far k = uu at *
      obtain ⟨c0, c1, c2⟩ := BoxM.cells q
      have lq : B < _ := (Array.getElem?_eq_some_iff.1 q).1
      clear hj hj2
      go_wp2_with fail
      refine (HIK.out _).mono ?_
      rintro e w1 ⟨rfl, hb1⟩
      have q1 := heap_below q hb1 lq
      have hB1 := up hb1 hB
      clear c0 c1 c2 q hB hb1 lq
      by_cases hup : uu ≤ 8
      · have hdu : decide (uu ≤ 8) = true := decide_eq_true hup
        rw [hdu]
        go_wp2_with fail
        go_loopw [14] (fun z wr => ∃ n : Nat, n ≤ 512 ∧ z = .int .i64 n ∧ Hid (offK f dx dy 512 0 = offK f dx dy (512 - n) n) ∧ BoxM wr B p s far ∧ Below w.heap.size w wr) (fun z _ => 512 - (intOf z).toNat)
        case atStart => exact ⟨0, by omega, rfl, Lib.hid rfl, q1, hB1⟩
        case round =>
          clear q1 hB1
          obtain ⟨n, hn, rfl, HO, q, hB⟩ := hrel
          by_cases hn2 : n < 512
          · have hdn : decide ((n : Int) < 512) = true := decide_eq_true (by omega)
            obtain ⟨c0, c1, c2⟩ := BoxM.cells q
            have lq : B < _ := (Array.getElem?_eq_some_iff.1 q).1
            have hcs := (sols_cells (HV.out.below hB (Nat.le_refl _)) HP.out).2
            have hb9 := Nat.lt_of_lt_of_le hb hB.size
            have x0 := hcs 0 (by omega); have x1 := hcs 1 (by omega); have x2 := hcs 2 (by omega); have x3 := hcs 3 (by omega); have x4 := hcs 4 (by omega); have x5 := hcs 5 (by omega); have x6 := hcs 6 (by omega); have x7 := hcs 7 (by omega)
            rw [Nat.add_zero] at x0
            clear hcs
            have HH := Lib.hid (fun W => hasR_ok f ((n : Int) % 8) ((n : Int) / 8 % 8) ((n : Int) / 64) W HF.out)
            have hwx : IntKind.i64.wrap ((n : Int) % 8 + dx) = (n : Int) % 8 + dx := by rw [IntWalk.i64_in] <;> omega
            have hwy : IntKind.i64.wrap ((n : Int) / 8 % 8 + dy) = (n : Int) / 8 % 8 + dy := by rw [IntWalk.i64_in] <;> omega
            have hwn : IntKind.i64.wrap ((n : Int) + 1) = (n : Int) + 1 := by rw [IntWalk.i64_in] <;> omega
            obtain ⟨hbv, hhb⟩ : ∃ hbv, hbv = hasR f ((n : Int) % 8) ((n : Int) / 8 % 8) ((n : Int) / 64) := ⟨_, rfl⟩
            rw [← hhb] at HH
            have HHB := Lib.hid hhb.symm
            clear hhb
            cases hbv with
            | false =>
              have HOA := Lib.hid (show offAt f dx dy n = false by unfold offAt; rw [HHB.out]; rfl)
              have HO2 := Lib.hid (show offK f dx dy 512 0 = offK f dx dy (512 - (n + 1)) (n + 1) by rw [HO.out, offK_step f dx dy hn2, HOA.out]; rfl)
              go_wp2_with fail
              refine (HH.out _).mono ?_
              rintro e w2 ⟨rfl, hb2⟩
              have q2 := heap_below q hb2 lq
              have HB2 := Lib.hid (up hb2 hB)
              clear c0 c1 c2 q hB hb2 lq x0 x1 x2 x3 x4 x5 x6 x7
              go_wp2_with fail
              case roundEnd => exact ⟨⟨n + 1, by omega, by go_num, HO2, q2, HB2.out⟩, by simp [intOf]; omega⟩
            | true =>
              go_wp2_with fail
              refine (HH.out _).mono ?_
              rintro e w2 ⟨rfl, hb2⟩
              have q2 := heap_below q hb2 lq
              have HB2 := Lib.hid (up hb2 hB)
              clear c0 c1 c2 q hB hb2 lq x0 x1 x2 x3 x4 x5 x6 x7
              by_cases h0 : (n : Int) % 8 + dx < 0
              · have HOA := Lib.hid (show offAt f dx dy n = true by unfold offAt; rw [HHB.out, decide_eq_true h0]; simp)
                have HR := Lib.hid (show ans = some (-1, -1) by rw [HT.out, HSK.out, if_pos hup, HST.out, HO.out, offK_step f dx dy hn2, if_pos HOA.out, if_pos rfl])
                go_wp2_with fail
                go_returns
                exact ⟨by rw [HR.out]; rfl, HB2.out⟩
              · by_cases h1 : 7 < (n : Int) % 8 + dx
                · have HOA := Lib.hid (show offAt f dx dy n = true by unfold offAt; rw [HHB.out, decide_eq_false h0, decide_eq_true h1]; simp)
                  have HR := Lib.hid (show ans = some (-1, -1) by rw [HT.out, HSK.out, if_pos hup, HST.out, HO.out, offK_step f dx dy hn2, if_pos HOA.out, if_pos rfl])
                  go_wp2_with fail
                  go_returns
                  exact ⟨by rw [HR.out]; rfl, HB2.out⟩
                · by_cases h2 : (n : Int) / 8 % 8 + dy < 0
                  · have HOA := Lib.hid (show offAt f dx dy n = true by unfold offAt; rw [HHB.out, decide_eq_false h0, decide_eq_false h1, decide_eq_true h2]; simp)
                    have HR := Lib.hid (show ans = some (-1, -1) by rw [HT.out, HSK.out, if_pos hup, HST.out, HO.out, offK_step f dx dy hn2, if_pos HOA.out, if_pos rfl])
                    go_wp2_with fail
                    go_returns
                    exact ⟨by rw [HR.out]; rfl, HB2.out⟩
                  · by_cases h3 : 7 < (n : Int) / 8 % 8 + dy
                    · have HOA := Lib.hid (show offAt f dx dy n = true by unfold offAt; rw [HHB.out, decide_eq_false h0, decide_eq_false h1, decide_eq_false h2, decide_eq_true h3]; simp)
                      have HR := Lib.hid (show ans = some (-1, -1) by rw [HT.out, HSK.out, if_pos hup, HST.out, HO.out, offK_step f dx dy hn2, if_pos HOA.out, if_pos rfl])
                      go_wp2_with fail
                      go_returns
                      exact ⟨by rw [HR.out]; rfl, HB2.out⟩
                    · have HOA := Lib.hid (show offAt f dx dy n = false by unfold offAt; rw [HHB.out, decide_eq_false h0, decide_eq_false h1, decide_eq_false h2, decide_eq_false h3]; rfl)
                      have HO2 := Lib.hid (show offK f dx dy 512 0 = offK f dx dy (512 - (n + 1)) (n + 1) by rw [HO.out, offK_step f dx dy hn2, HOA.out]; rfl)
                      go_wp2_with fail
                      case roundEnd => exact ⟨⟨n + 1, by omega, by go_num, HO2, q2, HB2.out⟩, by simp [intOf]; omega⟩
          · obtain rfl : n = 512 := by omega
            have hdn : decide ((512 : Int) < 512) = false := decide_eq_false (by omega)
            rw [show ((512 : Nat) : Int) = 512 from rfl]
            have HS2 := Lib.hid (show stepR ms gone p f s far k = hitK ms gone p f dx dy uu 512 0 by
              rw [HST.out, HO.out, if_neg (by simp [offK])])
            go_wp2_with fail
            go_loopw [15] (fun z wr => ∃ n : Nat, n ≤ 512 ∧ z = .int .i64 n ∧ Hid (hitK ms gone p f dx dy uu 512 0 = hitK ms gone p f dx dy uu (512 - n) n) ∧ BoxM wr B p s far ∧ Below w.heap.size w wr) (fun z _ => 512 - (intOf z).toNat)
            case atStart => exact ⟨0, by omega, rfl, Lib.hid rfl, q, hB⟩
            case round =>
              clear q hB
              obtain ⟨n, hn, rfl, HI, q, hB⟩ := hrel
              by_cases hn2 : n < 512
              · have hdn2 : decide ((n : Int) < 512) = true := decide_eq_true (by omega)
                obtain ⟨c0, c1, c2⟩ := BoxM.cells q
                have lq : B < _ := (Array.getElem?_eq_some_iff.1 q).1
                have hcs := (sols_cells (HV.out.below hB (Nat.le_refl _)) HP.out).2
                have hb9 := Nat.lt_of_lt_of_le hb hB.size
                have x0 := hcs 0 (by omega); have x1 := hcs 1 (by omega); have x2 := hcs 2 (by omega); have x3 := hcs 3 (by omega); have x4 := hcs 4 (by omega); have x5 := hcs 5 (by omega); have x6 := hcs 6 (by omega); have x7 := hcs 7 (by omega)
                rw [Nat.add_zero] at x0
                have hwx : IntKind.i64.wrap ((n : Int) % 8 - dx) = (n : Int) % 8 - dx := by rw [IntWalk.i64_in] <;> omega
                have hwy : IntKind.i64.wrap ((n : Int) / 8 % 8 - dy) = (n : Int) / 8 % 8 - dy := by rw [IntWalk.i64_in] <;> omega
                have hwz : IntKind.i64.wrap ((n : Int) / 64 - (uu : Int)) = (n : Int) / 64 - (uu : Int) := by rw [IntWalk.i64_in] <;> omega
                have hwn : IntKind.i64.wrap ((n : Int) + 1) = (n : Int) + 1 := by rw [IntWalk.i64_in] <;> omega
                have HH := Lib.hid (fun W => hasR_ok f ((n : Int) % 8 - dx) ((n : Int) / 8 % 8 - dy) ((n : Int) / 64 - (uu : Int)) W HF.out)
                obtain ⟨hbv, hhb⟩ : ∃ hbv, hbv = hasR f ((n : Int) % 8 - dx) ((n : Int) / 8 % 8 - dy) ((n : Int) / 64 - (uu : Int)) := ⟨_, rfl⟩
                rw [← hhb] at HH
                have HHB := Lib.hid hhb.symm
                clear hcs hhb
                cases hbv with
                | false =>
                  have HAT := Lib.hid (show hitAt ms gone p f dx dy uu n = none by unfold hitAt; rw [HHB.out]; rfl)
                  have HI2 := Lib.hid (show hitK ms gone p f dx dy uu 512 0 = hitK ms gone p f dx dy uu (512 - (n + 1)) (n + 1) by rw [HI.out, hitK_step ms gone p f dx dy uu hn2, HAT.out])
                  go_wp2_with fail
                  refine (HH.out _).mono ?_
                  rintro e w2 ⟨rfl, hb2⟩
                  have q2 := heap_below q hb2 lq
                  have HB2 := Lib.hid (up hb2 hB)
                  clear c0 c1 c2 q hB hb2 lq x0 x1 x2 x3 x4 x5 x6 x7
                  go_wp2_with fail
                  go_roundw
                  case rel => exact ⟨n + 1, by omega, by go_num, HI2, q2, HB2.out⟩
                  case measure => simp [intOf]; omega
                | true =>
                  have HPC := Lib.hid (fun W (h : Below w.heap.size w W) => pieceR_ok ms (.slice (some ⟨b, o, none⟩) ms.length cap) ((n : Int) % 8) ((n : Int) / 8 % 8) ((n : Int) / 64) W (HV.out.below h (Nat.le_refl _)) HM.out)
                  have HAT0 := Lib.hid (show hitAt ms gone p f dx dy uu n = (if pieceR ms ((n : Int) % 8) ((n : Int) / 8 % 8) ((n : Int) / 64) ≠ (p : Int) ∧ (pieceR ms ((n : Int) % 8) ((n : Int) / 8 % 8) ((n : Int) / 64) < 0 ∨ pieceR ms ((n : Int) % 8) ((n : Int) / 8 % 8) ((n : Int) / 64) ∉ gone) then some (pieceR ms ((n : Int) % 8) ((n : Int) / 8 % 8) ((n : Int) / 64)) else none) by unfold hitAt; rw [HHB.out]; rfl)
                  generalize pieceR ms ((n : Int) % 8) ((n : Int) / 8 % 8) ((n : Int) / 64) = pr at *
                  have HIN := Lib.hid (fun W (h : Below w.heap.size w W) => inR_ok gone gv pr W (HG.out.below h (Nat.le_refl _)))
                  go_wp2_with fail
                  refine (HH.out _).mono ?_
                  rintro e w2 ⟨rfl, hb2⟩
                  have q2 := heap_below q hb2 lq
                  have HB2 := Lib.hid (up hb2 hB)
                  clear c0 c1 c2 q hB hb2 lq x0 x1 x2 x3 x4 x5 x6 x7
                  go_wp2_with fail
                  refine (HPC.out _ HB2.out).mono ?_
                  rintro e w3 ⟨rfl, hb3⟩
                  have lq2 : B < _ := (Array.getElem?_eq_some_iff.1 q2).1
                  have q3 := heap_below q2 hb3 lq2
                  have HB3 := Lib.hid (up hb3 HB2.out)
                  clear q2 hb3 HB2 lq2
                  obtain ⟨c0, c1, c2⟩ := BoxM.cells q3
                  by_cases h1 : pr = (p : Int)
                  · have hne : (pr != (p : Int)) = false := by simp [h1]
                    have HAT := Lib.hid (show hitAt ms gone p f dx dy uu n = none by rw [HAT0.out, if_neg (fun h => h.1 h1)])
                    have HI2 := Lib.hid (show hitK ms gone p f dx dy uu 512 0 = hitK ms gone p f dx dy uu (512 - (n + 1)) (n + 1) by rw [HI.out, hitK_step ms gone p f dx dy uu hn2, HAT.out])
                    clear h1
                    go_wp2_with fail
                    go_roundw
                    case rel => exact ⟨n + 1, by omega, by go_num, HI2, q3, HB3.out⟩
                    case measure => simp [intOf]; omega
                  · have hne : (pr != (p : Int)) = true := by simpa using h1
                    by_cases h2 : pr < 0
                    · have HAT := Lib.hid (show hitAt ms gone p f dx dy uu n = some pr by rw [HAT0.out, if_pos ⟨h1, .inl h2⟩])
                      have HR := Lib.hid (show ans = some ((n : Int), pr) by rw [HT.out, HSK.out, if_pos hup, HS2.out, HI.out, hitK_step ms gone p f dx dy uu hn2, HAT.out])
                      have hlt0 : decide (pr < 0) = true := decide_eq_true h2
                      go_wp2_with fail
                      go_returns
                      exact ⟨by rw [HR.out]; rfl, HB3.out⟩
                    · have hlt0 : decide (pr < 0) = false := decide_eq_false h2
                      by_cases h3 : pr ∈ gone
                      · have HAT := Lib.hid (show hitAt ms gone p f dx dy uu n = none by rw [HAT0.out, if_neg (fun h => h.2.elim h2 (fun k => k h3))])
                        have HI3 := Lib.hid (show ∀ W, Below w.heap.size w W → Calls Tryz.prog 76 #[gv, .int .i64 pr] W (RetB (.bool true) W) from fun W h => by have := HIN.out W h; rwa [decide_eq_true h3] at this)
                        have HI2 := Lib.hid (show hitK ms gone p f dx dy uu 512 0 = hitK ms gone p f dx dy uu (512 - (n + 1)) (n + 1) by rw [HI.out, hitK_step ms gone p f dx dy uu hn2, HAT.out])
                        clear HIN h3
                        go_wp2_with fail
                        refine (HI3.out _ HB3.out).mono ?_
                        rintro e w4 ⟨rfl, hb4⟩
                        have lq3 : B < _ := (Array.getElem?_eq_some_iff.1 q3).1
                        have q4 := heap_below q3 hb4 lq3
                        have HB4 := Lib.hid (up hb4 HB3.out)
                        clear c0 c1 c2 q3 hb4 lq3
                        go_wp2_with fail
                        go_roundw
                        case rel => exact ⟨n + 1, by omega, by go_num, HI2, q4, HB4.out⟩
                        case measure => simp [intOf]; omega
                      · have HAT := Lib.hid (show hitAt ms gone p f dx dy uu n = some pr by rw [HAT0.out, if_pos ⟨h1, .inr h3⟩])
                        have HR := Lib.hid (show ans = some ((n : Int), pr) by rw [HT.out, HSK.out, if_pos hup, HS2.out, HI.out, hitK_step ms gone p f dx dy uu hn2, HAT.out])
                        have HI3 := Lib.hid (show ∀ W, Below w.heap.size w W → Calls Tryz.prog 76 #[gv, .int .i64 pr] W (RetB (.bool false) W) from fun W h => by have := HIN.out W h; rwa [decide_eq_false h3] at this)
                        clear HIN h3
                        go_wp2_with fail
                        refine (HI3.out _ HB3.out).mono ?_
                        rintro e w4 ⟨rfl, hb4⟩
                        have HB4 := Lib.hid (up hb4 HB3.out)
                        go_wp2_with fail
                        go_returns
                        exact ⟨by rw [HR.out]; rfl, HB4.out⟩
              · obtain rfl : n = 512 := by omega
                have hdn2 : decide (((512 : Nat) : Int) < 512) = false := decide_eq_false (by omega)
                have HT2 := Lib.hid (show ans = standK ms gone p f s far (17 - (k + 1)) (k + 1) by
                  rw [HT.out, HSK.out, if_pos hup, HS2.out, HI.out]; rfl)
                go_wp2_with fail
                case roundEnd => exact ⟨⟨k + 1, by omega, by omega, by go_num, HT2, q, hB⟩, by simp [intOf]; omega⟩
      · have hdu : decide (uu ≤ 8) = false := decide_eq_false hup
        rw [hdu]
        have HR := Lib.hid (show ans = none by rw [HT.out, HSK.out, if_neg hup])
        go_wp2_with fail
        go_returns
        exact ⟨by rw [HR.out]; rfl, hB1⟩
    · obtain rfl : k = 17 := by omega
      have hd : decide (((17 : Nat) : Int) ≤ 16) = false := decide_eq_false (by omega)
      have HR := Lib.hid (show ans = none by rw [HT.out]; rfl)
      go_wp2_with fail
      go_returns
      exact ⟨by rw [HR.out]; rfl, hB⟩
end Go.Proofs.YtoajocgfmbakjaaGreatDoor
