/-
  Read of the reference, at every text.
-/
import Derived.Test.YtadkaplafaeebaaGreatDoorTxR
import Derived.Test.YtadkaplafaeebaaGreatDoorTxD
set_option linter.unusedVariables false
set_option linter.unusedSimpArgs false
namespace Go.Proofs.YtadkaplafaeebaaGreatDoor
open Go Go.RowKit Go.Shelf

theorem txt_index (L : List UInt8) (i : Nat) (c : UInt8) (h : L[i]? = some c) (W : World) : (Instr.index 9 (.string (txt L)) (.int .i64 (i : Int))).run Tryz.prog W = .ok (.int .u8 (c.toNat : Int)) W := by
  obtain ⟨h1, h2⟩ := List.getElem?_eq_some_iff.1 h
  have hs : (txt L).size = L.length := txt_size L
  rw [run_index_string (P := Tryz.prog) (w := W) 9 (txt L) .i64 (i : Int) Tryz.underlying9, dif_pos ⟨by omega, by omega⟩]
  congr 2
  have : (txt L)[(i : Int).toNat]'(by omega) = c := by
    show (txt L)[i]'(by omega) = c
    rw [← h2]
    rfl
  rw [this]
set_option maxRecDepth 100000 in
set_option maxHeartbeats 4000000 in
theorem rread_long (L : List UInt8) (hn : 150 < L.length) (hL : L.length ≤ 1000000) (w : World) : Calls Tryz.prog 84 #[.string (txt L)] w (RetB (.tuple #[sol (fun _ => 0), .int .i64 4]) w) := by
  have hs : (txt L).size = L.length := txt_size L
  have d2 : decide ((L.length : Int) ≤ 150) = false := decide_eq_false (by omega)
  have d1 : decide ((0 : Int) < (L.length : Int)) = true := decide_eq_true (by omega)
  have bR0 : BoxS ((w.alloc (.cells (solC fun _ => 0) 24)).alloc (.cells (solC fun _ => 0) 24)) w.heap.size (fun _ => 0) := (BoxS.zero rfl).alloc _
  have bS0 : BoxS ((w.alloc (.cells (solC fun _ => 0) 24)).alloc (.cells (solC fun _ => 0) 24)) (w.heap.size + 1) (fun _ => 0) := BoxS.zero (by simp)
  have hB0 : Below w.heap.size w ((w.alloc (.cells (solC fun _ => 0) 24)).alloc (.cells (solC fun _ => 0) 24)) := by repeat' (first | (with_reducible exact Below.refl _ _) | (with_reducible assumption) | (with_reducible refine Below.alloc ?_ ?_ _) | (with_reducible refine Below.drew ?_) | (with_reducible refine below_drewN ?_ _) | (with_reducible refine Below.setCell ?_ ?_ _) | go_size)
  have HW := Lib.hid (fun W : World => rwrite_ok (fun _ => 0) (fun _ => by simp) W)
  have hne : ((writeF fun _ => 0).toList == L) = false := by
    rw [ByteArray.toList_eq, writeF_eq]
    have h1 := writeL_len fun _ => 0
    rw [show (ByteArray.mk (writeL fun _ => 0).toArray).data.toList = writeL fun _ => 0 by simp]
    cases hb : (writeL fun _ => 0) == L with
    | false => rfl
    | true =>
      rw [beq_iff_eq] at hb
      rw [hb] at h1
      omega
  go_enter Tryz.func84, Tryz.ntmps84
  go_wp2_with fail
  refine wp_loop_rounds 1 ?_
  rw [rounds_succ]
  have o0 := (bS0).cell (k := 0) (by omega); have o1 := (bS0).cell (k := 1) (by omega); have o2 := (bS0).cell (k := 2) (by omega); have o3 := (bS0).cell (k := 3) (by omega); have o4 := (bS0).cell (k := 4) (by omega); have o5 := (bS0).cell (k := 5) (by omega); have o6 := (bS0).cell (k := 6) (by omega); have o7 := (bS0).cell (k := 7) (by omega)
  go_wp2_with fail
  refine (HW.out _).mono ?_
  rintro e w2 ⟨rfl, hb2⟩
  have bR2 := bR0.below hb2 bR0.lt
  have hB2 : Below w.heap.size w w2 := hB0.trans (hb2.mono hB0.size)
  clear o0 o1 o2 o3 o4 o5 o6 o7
  have r0 := (bR2).cell (k := 0) (by omega); have r1 := (bR2).cell (k := 1) (by omega); have r2 := (bR2).cell (k := 2) (by omega); have r3 := (bR2).cell (k := 3) (by omega); have r4 := (bR2).cell (k := 4) (by omega); have r5 := (bR2).cell (k := 5) (by omega); have r6 := (bR2).cell (k := 6) (by omega); have r7 := (bR2).cell (k := 7) (by omega)
  have q0 := (bR2).free 0; have q1 := (bR2).free 1; have q2 := (bR2).free 2; have q3 := (bR2).free 3; have q4 := (bR2).free 4; have q5 := (bR2).free 5; have q6 := (bR2).free 6; have q7 := (bR2).free 7
  go_wp2_with fail
  exact bodyPost_ret (res_se (bR2.put fun _ => 0) Tryz.results84 rfl) rfl ⟨rfl, below_put8 hB2 (by omega) (fun _ => 0)⟩
theorem readR_drop {L : List UInt8} {i : Nat} {c : UInt8} (h : L[i]? = some c) (z : Nat) (f : Sol) : readR z f (L.drop i) = if c = 46 then readR (z + 1) f (L.drop (i + 1)) else match digR c.toNat with
    | none => none
    | some d => if 7 < z ∨ 1152921504606846976 ≤ f z then none else readR z (up8 f z (16 * f z + d)) (L.drop (i + 1)) := by
  obtain ⟨h1, h2⟩ := List.getElem?_eq_some_iff.1 h
  rw [List.drop_eq_getElem_cons h1, h2]
  rfl
theorem rdR_none {L : List UInt8} (h : readR 0 zeroS L = none) : rdR L = none := by unfold rdR; rw [h]; rfl
theorem rdR_end {L : List UInt8} {f : Sol} (h : readR 0 zeroS L = some f) : rdR L = if writeL f = L then some f else none := by unfold rdR; rw [h]; rfl
set_option maxRecDepth 100000 in
set_option maxHeartbeats 8000000 in
theorem rread_short (L : List UInt8) (hn : L.length ≤ 150) (w : World) : Calls Tryz.prog 84 #[.string (txt L)] w (RetB (rdV (rdR L)) w) := by
  have hs : (txt L).size = L.length := txt_size L
  have d2 : decide ((L.length : Int) ≤ 150) = true := decide_eq_true (by omega)
  have bR0 : BoxS ((w.alloc (.cells (solC fun _ => 0) 24)).alloc (.cells (solC fun _ => 0) 24)) w.heap.size (fun _ => 0) := (BoxS.zero rfl).alloc _
  have bS0 : BoxS ((w.alloc (.cells (solC fun _ => 0) 24)).alloc (.cells (solC fun _ => 0) 24)) (w.heap.size + 1) (fun _ => 0) := BoxS.zero (by simp)
  have hB0 : Below w.heap.size w ((w.alloc (.cells (solC fun _ => 0) 24)).alloc (.cells (solC fun _ => 0) 24)) := by repeat' (first | (with_reducible exact Below.refl _ _) | (with_reducible assumption) | (with_reducible refine Below.alloc ?_ ?_ _) | (with_reducible refine Below.drew ?_) | (with_reducible refine below_drewN ?_ _) | (with_reducible refine Below.setCell ?_ ?_ _) | go_size)
  have HR := Lib.hid (rfl : rdR L = rdR L)
  obtain ⟨R, hR⟩ : ∃ R, R = rdR L := ⟨_, rfl⟩
  rw [← hR]
  have HRR := Lib.hid hR
  clear hR HR
  go_enter Tryz.func84, Tryz.ntmps84
  go_wp2_with fail
  go_loopw [5, 6] (fun zz c wr => ∃ (z i : Nat) (f : Sol), i ≤ L.length ∧ z ≤ i ∧ c = .int .i64 i ∧ zz = .int .i64 z ∧ Hid (readR 0 zeroS L = readR z f (L.drop i)) ∧ Hid (Fit f) ∧ BoxS wr w.heap.size (fun _ => 0) ∧ BoxS wr (w.heap.size + 1) f ∧ Below w.heap.size w wr) (fun _ c _ => L.length - (intOf c).toNat)
  case atStart => exact ⟨0, 0, fun _ => 0, by omega, by omega, rfl, rfl, Lib.hid rfl, Lib.hid (fun _ => by simp), bR0, bS0, hB0⟩
  case round =>
    clear bR0 bS0 hB0
    obtain ⟨z, i, f, hi, hz, rfl, rfl, HD, HF, bR, bS, hB⟩ := hrel
    have lR := bR.lt
    have lS := bS.lt
    by_cases hlt : i < L.length
    · have d1 : decide ((i : Int) < (L.length : Int)) = true := decide_eq_true (by omega)
      obtain ⟨c, hc⟩ : ∃ c, L[i]? = some c := ⟨L[i], List.getElem?_eq_getElem hlt⟩
      have hix := fun W => txt_index L i c hc W
      have HX := Lib.hid (readR_drop hc z f)
      have HC : Hid (c = 46 ↔ c.toNat = 46) := Lib.hid ⟨fun h => by rw [h]; rfl, fun h => UInt8.toNat_inj.1 h⟩
      have hc256 : c.toNat < 256 := c.toNat_lt
      generalize hcn : c.toNat = n at hix HX HC hc256
      clear hc hcn
      by_cases h46 : n = 46
      · have HN := Lib.hid (show readR 0 zeroS L = readR (z + 1) f (L.drop (i + 1)) by rw [HD.out, HX.out, if_pos (HC.out.2 h46)])
        subst h46
        go_wp2_with fail
        exact ⟨⟨z + 1, i + 1, f, by omega, by omega, by go_num, by go_num, HN, HF, bR, bS, hB⟩, by simp [intOf]; omega⟩
      · have hne46 : ((n : Int) == 46) = false := by simpa using (show ¬ (n : Int) = 46 by omega)
        have HG := Lib.hid (fun W : World => digit_ok n hc256 W)
        have HX2 : Hid (readR 0 zeroS L = match digR n with
          | none => none
          | some d => if 7 < z ∨ 1152921504606846976 ≤ f z then none else readR z (up8 f z (16 * f z + d)) (L.drop (i + 1))) := Lib.hid (by
          rw [HD.out, HX.out, if_neg (fun h => h46 (HC.out.1 h))])
        have hfz := HF.out z
        clear HX HC
        go_wp2_with fail
        refine (HG.out _).mono ?_
        rintro e w1 ⟨⟨v, b, rfl, hv⟩, hb1⟩
        have bR1 := bR.below hb1 lR
        have bS1 := bS.below hb1 lS
        have hB1 : Below w.heap.size w w1 := hB.trans (hb1.mono hB.size)
        have bad : readR 0 zeroS L = none → R = none := fun h => by rw [HRR.out, rdR_none h]
        have BAD := Lib.hid bad
        clear bad bR bS hB hb1
        rcases hv with ⟨d, hd, rfl, rfl⟩ | ⟨hd, rfl⟩
        · have hd16 := digR_lt hd
          have HX3 : Hid (readR 0 zeroS L = if 7 < z ∨ 1152921504606846976 ≤ f z then none else readR z (up8 f z (16 * f z + d)) (L.drop (i + 1))) := Lib.hid (by rw [HX2.out, hd])
          clear hd HX2
          by_cases h7 : 7 < z
          · have d7 : decide ((7 : Int) < (z : Int)) = true := decide_eq_true (by omega)
            have HV := Lib.hid (BAD.out (by rw [HX3.out, if_pos (.inl h7)]))
            have r0 := (bR1).cell (k := 0) (by omega); have r1 := (bR1).cell (k := 1) (by omega); have r2 := (bR1).cell (k := 2) (by omega); have r3 := (bR1).cell (k := 3) (by omega); have r4 := (bR1).cell (k := 4) (by omega); have r5 := (bR1).cell (k := 5) (by omega); have r6 := (bR1).cell (k := 6) (by omega); have r7 := (bR1).cell (k := 7) (by omega)
            have q0 := (bR1).free 0; have q1 := (bR1).free 1; have q2 := (bR1).free 2; have q3 := (bR1).free 3; have q4 := (bR1).free 4; have q5 := (bR1).free 5; have q6 := (bR1).free 6; have q7 := (bR1).free 7
            go_wp2_with fail
            exact bodyPost_ret (res_se (bR1.put fun _ => 0) Tryz.results84 rfl) rfl ⟨by rw [HV.out]; rfl, below_put8 hB1 (by omega) (fun _ => 0)⟩
          · have d7 : decide ((7 : Int) < (z : Int)) = false := decide_eq_false (by omega)
            have cz := bS1.cell (k := z) (by omega)
            have fz := bS1.free z
            by_cases hbig : 1152921504606846976 ≤ f z
            · have HV := Lib.hid (BAD.out (by rw [HX3.out, if_pos (.inr hbig)]))
              have db : decide ((1152921504606846976 : Int) ≤ (f z : Int)) = true := decide_eq_true (by omega)
              have r0 := (bR1).cell (k := 0) (by omega); have r1 := (bR1).cell (k := 1) (by omega); have r2 := (bR1).cell (k := 2) (by omega); have r3 := (bR1).cell (k := 3) (by omega); have r4 := (bR1).cell (k := 4) (by omega); have r5 := (bR1).cell (k := 5) (by omega); have r6 := (bR1).cell (k := 6) (by omega); have r7 := (bR1).cell (k := 7) (by omega)
              have q0 := (bR1).free 0; have q1 := (bR1).free 1; have q2 := (bR1).free 2; have q3 := (bR1).free 3; have q4 := (bR1).free 4; have q5 := (bR1).free 5; have q6 := (bR1).free 6; have q7 := (bR1).free 7
              generalize f z = m at *
              go_wp2_with fail
              exact bodyPost_ret (res_se (bR1.put fun _ => 0) Tryz.results84 rfl) rfl ⟨by rw [HV.out]; rfl, below_put8 hB1 (by omega) (fun _ => 0)⟩
            · have HN := Lib.hid (show readR 0 zeroS L = readR z (up8 f z (16 * f z + d)) (L.drop (i + 1)) by rw [HX3.out, if_neg (by omega)])
              have HF2 := Lib.hid (up8_fit HF.out z (v := 16 * f z + d) (by omega))
              have bN := bS1.set (k := z) (by omega) (16 * f z + d)
              have bRN : BoxS (w1.setCell ⟨w.heap.size + 1, z, none⟩ (.int .u64 ((16 * f z + d : Nat) : Int))) w.heap.size (fun _ => 0) := bR1.other (by omega) _
              have hBN : Below w.heap.size w (w1.setCell ⟨w.heap.size + 1, z, none⟩ (.int .u64 ((16 * f z + d : Nat) : Int))) := hB1.setCell (by simp) _
              obtain ⟨m, hm⟩ : ∃ m, m = f z := ⟨_, rfl⟩
              rw [← hm] at HN HF2 bN bRN hBN cz hbig
              have db : decide ((1152921504606846976 : Int) ≤ (m : Int)) = false := decide_eq_false (by omega)
              have hmi : (m : Int) < 1152921504606846976 := by omega
              have hdi : (d : Int) < 16 := by omega
              clear hm hfz
              go_wp2_with fail
              have e : (16 * (m : Int) + (d : Int)) = ((16 * m + d : Nat) : Int) := by omega
              rw [e]
              exact ⟨⟨z, i + 1, _, by omega, by omega, by go_num, rfl, HN, HF2, bRN, bN, hBN⟩, by simp [intOf]; omega⟩
        · have HV := Lib.hid (BAD.out (by rw [HX2.out, hd]))
          clear hd HX2
          have r0 := (bR1).cell (k := 0) (by omega); have r1 := (bR1).cell (k := 1) (by omega); have r2 := (bR1).cell (k := 2) (by omega); have r3 := (bR1).cell (k := 3) (by omega); have r4 := (bR1).cell (k := 4) (by omega); have r5 := (bR1).cell (k := 5) (by omega); have r6 := (bR1).cell (k := 6) (by omega); have r7 := (bR1).cell (k := 7) (by omega)
          have q0 := (bR1).free 0; have q1 := (bR1).free 1; have q2 := (bR1).free 2; have q3 := (bR1).free 3; have q4 := (bR1).free 4; have q5 := (bR1).free 5; have q6 := (bR1).free 6; have q7 := (bR1).free 7
          go_wp2_with fail
          exact bodyPost_ret (res_se (bR1.put fun _ => 0) Tryz.results84 rfl) rfl ⟨by rw [HV.out]; rfl, below_put8 hB1 (by omega) (fun _ => 0)⟩
    · obtain rfl : i = L.length := by omega
      have d1 : decide ((L.length : Int) < (L.length : Int)) = false := decide_eq_false (by omega)
      have HE := Lib.hid (rdR_end (f := f) (by rw [HD.out, List.drop_eq_nil_of_le (Nat.le_refl _)]; rfl))
      have HW := Lib.hid (fun W : World => rwrite_ok f HF.out W)
      have o0 := (bS).cell (k := 0) (by omega); have o1 := (bS).cell (k := 1) (by omega); have o2 := (bS).cell (k := 2) (by omega); have o3 := (bS).cell (k := 3) (by omega); have o4 := (bS).cell (k := 4) (by omega); have o5 := (bS).cell (k := 5) (by omega); have o6 := (bS).cell (k := 6) (by omega); have o7 := (bS).cell (k := 7) (by omega)
      go_wp2_with fail
      refine (HW.out _).mono ?_
      rintro e w2 ⟨rfl, hb2⟩
      have bR2 := bR.below hb2 lR
      have bS2 := bS.below hb2 lS
      have hB2 : Below w.heap.size w w2 := hB.trans (hb2.mono hB.size)
      clear o0 o1 o2 o3 o4 o5 o6 o7
      have r0 := (bR2).cell (k := 0) (by omega); have r1 := (bR2).cell (k := 1) (by omega); have r2 := (bR2).cell (k := 2) (by omega); have r3 := (bR2).cell (k := 3) (by omega); have r4 := (bR2).cell (k := 4) (by omega); have r5 := (bR2).cell (k := 5) (by omega); have r6 := (bR2).cell (k := 6) (by omega); have r7 := (bR2).cell (k := 7) (by omega)
      have q0 := (bR2).free 0; have q1 := (bR2).free 1; have q2 := (bR2).free 2; have q3 := (bR2).free 3; have q4 := (bR2).free 4; have q5 := (bR2).free 5; have q6 := (bR2).free 6; have q7 := (bR2).free 7
      have o0 := (bS2).cell (k := 0) (by omega); have o1 := (bS2).cell (k := 1) (by omega); have o2 := (bS2).cell (k := 2) (by omega); have o3 := (bS2).cell (k := 3) (by omega); have o4 := (bS2).cell (k := 4) (by omega); have o5 := (bS2).cell (k := 5) (by omega); have o6 := (bS2).cell (k := 6) (by omega); have o7 := (bS2).cell (k := 7) (by omega)
      by_cases he : writeL f = L
      · have hwr : ((writeF f).toList == L) = true := by rw [ByteArray.toList_eq, writeF_eq]; simp [he]
        have HV := Lib.hid (show R = some f by rw [HRR.out, HE.out, if_pos he])
        go_wp2_with fail
        exact bodyPost_ret (res_se (bR2.put f) Tryz.results84 rfl) rfl ⟨by rw [HV.out]; rfl, below_put8 hB2 (by omega) f⟩
      · have hwr : ((writeF f).toList == L) = false := by rw [ByteArray.toList_eq, writeF_eq]; simpa using he
        have HV := Lib.hid (show R = none by rw [HRR.out, HE.out, if_neg he])
        go_wp2_with fail
        exact bodyPost_ret (res_se (bR2.put fun _ => 0) Tryz.results84 rfl) rfl ⟨by rw [HV.out]; rfl, below_put8 hB2 (by omega) (fun _ => 0)⟩
end Go.Proofs.YtadkaplafaeebaaGreatDoor
