/-
  No order is ahead of the rounds: mathematics.
-/
import Derived.Test.YtoajocgfmbakjaaGreatDoorPdB
import Derived.Test.YtoajocgfmbakjaaGreatDoorPdC
import Derived.Test.YtoajocgfmbakjaaGreatDoorPdN
import Derived.Test.YtoajocgfmbakjaaGreatDoorPdK
set_option linter.unusedVariables false
set_option linter.unusedSimpArgs false
namespace Go.Proofs.YtoajocgfmbakjaaGreatDoor
open Go Go.RowKit

theorem rnd_place {ms : List Sol} (h12 : ms.length ≤ 12) : ∀ (l : List Nat) (G g n : Nat), sub G g → g < 65536 → 65536 - g ≤ n → goes ms G l → ∀ (i p : Nat), l[i]? = some p →
    g.testBit p = true ∨ ∃ (k s : Nat), k ≤ i ∧ (roundsK ms n g).1[k]? = some s ∧ s.testBit p = true
  | [], G, g, n, _, _, _, _, i, p, hi => by simp at hi
  | q :: l, G, g, n, hs, hg, hn, h, i, p, hi => by
    obtain ⟨h1, h2, h3⟩ := h
    obtain ⟨n', rfl⟩ : ∃ n', n = n' + 1 := ⟨n - 1, by omega⟩
    have hcan := can_mono hs h2
    unfold roundsK
    by_cases h0 : readyF ms g = 0
    · rw [if_pos h0]
      have hq : g.testBit q = true := by
        cases hgq : g.testBit q with
        | true => rfl
        | false =>
          have := ready_bit.2 ⟨canB_lt hcan, hgq, hcan⟩
          rw [h0] at this
          simp at this
      rcases i with _ | i
      · cases hi
        exact .inl hq
      · rcases rnd_place h12 l (G ||| 2 ^ q) g (n' + 1) (sub_or hs (sub_pow hq)) hg hn h3 i p hi with k1 | ⟨k, s, k1, k2, k3⟩
        · exact .inl k1
        · unfold roundsK at k2
          rw [if_pos h0] at k2
          simp at k2
    · rw [if_neg h0]
      have hr : readyF ms g < 65536 := readyK_lt ms g ms.length (by omega)
      have hb := (lowS_bit (x := readyF ms g) hr h0).1
      obtain ⟨_, hgb, _⟩ := ready_bit.1 hb
      have hgt : g < g ||| readyF ms g := or_gt2 hgb hb
      have hg2 := or_lt16 hg hr
      have hq : (g ||| readyF ms g).testBit q = true := by
        rw [Nat.testBit_or]
        cases hgq : g.testBit q with
        | true => rfl
        | false => rw [ready_bit.2 ⟨canB_lt hcan, hgq, hcan⟩]; rfl
      rcases i with _ | i
      · cases hi
        rw [Nat.testBit_or, Bool.or_eq_true] at hq
        rcases hq with hq | hq
        · exact .inl hq
        · exact .inr ⟨0, _, by omega, rfl, hq⟩
      · rcases rnd_place h12 l (G ||| 2 ^ q) (g ||| readyF ms g) n' (sub_or (sub_trans hs (sub_or_l _ _)) (sub_pow hq)) hg2 (by omega) h3 i p hi with k1 | ⟨k, s, k1, k2, k3⟩
        · rw [Nat.testBit_or, Bool.or_eq_true] at k1
          rcases k1 with k1 | k1
          · exact .inl k1
          · exact .inr ⟨0, _, by omega, rfl, k1⟩
        · exact .inr ⟨k + 1, s, by omega, k2, k3⟩
theorem rnd_once {ms : List Sol} (h12 : ms.length ≤ 12) : ∀ (n g : Nat), g < 65536 → ∀ (k s p : Nat), (roundsK ms n g).1[k]? = some s → s.testBit p = true →
    g.testBit p = false ∧ ∀ (j t : Nat), (roundsK ms n g).1[j]? = some t → t.testBit p = true → j = k
  | 0, g, hg, k, s, p, hk, hp => by simp [roundsK] at hk
  | n + 1, g, hg, k, s, p, hk, hp => by
    unfold roundsK at hk ⊢
    by_cases h0 : readyF ms g = 0
    · rw [if_pos h0] at hk
      simp at hk
    · rw [if_neg h0] at hk ⊢
      have hr : readyF ms g < 65536 := readyK_lt ms g ms.length (by omega)
      have hg2 := or_lt16 hg hr
      rcases k with _ | k
      · cases hk
        refine ⟨(ready_bit.1 hp).2.1, fun j t hj ht => ?_⟩
        rcases j with _ | j
        · rfl
        · have := (rnd_once h12 n _ hg2 j t p hj ht).1
          rw [Nat.testBit_or, hp] at this
          simp at this
      · obtain ⟨k1, k2⟩ := rnd_once h12 n _ hg2 k s p hk hp
        rw [Nat.testBit_or, Bool.or_eq_false_iff] at k1
        refine ⟨k1.1, fun j t hj ht => ?_⟩
        rcases j with _ | j
        · cases hj
          rw [k1.2] at ht
          cases ht
        · rw [k2 j t hj ht]
/-- Each piece of an order is in just one round, which is not behind its place. -/
theorem round_of {ms : List Sol} (hc : chkM ms = 0) {l : List Mo} (h : chkO ms l = true) {i : Nat} {m : Mo} (hi : l[i]? = some m) :
    ∃ k0 r0, (roundsL ms)[k0]? = some r0 ∧ k0 ≤ i ∧ ∀ (k : Nat) (r : List Nat), (roundsL ms)[k]? = some r → (m.1 ∈ r.map (fun x : Nat => (x : Int)) ↔ k = k0) := by
  have h12 := chkM_len hc
  unfold chkO at h
  rw [if_pos hc] at h
  obtain ⟨h1, h2⟩ := ordK_goes l 0 h
  have hm0 : m.1 = (m.1.toNat : Int) := by
    have key : ∀ (l : List Mo) (g : Nat), ordK ms g l = true → ∀ x ∈ l, 0 ≤ x.1 := by
      intro l
      induction l with
      | nil => intro g _ x hx; simp at hx
      | cons y l ih =>
        intro g h x hx
        unfold ordK at h
        rw [Bool.and_eq_true] at h
        rcases List.mem_cons.1 hx with rfl | hx
        · obtain ⟨p, e, _⟩ := next_can h.1; omega
        · exact ih _ h.2 x hx
    have := key l 0 h m (List.mem_of_getElem? hi)
    omega
  have hp : (pcs l)[i]? = some m.1.toNat := by unfold pcs; rw [List.getElem?_map, hi]; rfl
  have hre := roundsK_each h12 65536 0 (ms := ms)
  have e1 : roundsL ms = (roundsK ms 65536 0).1.map listS := if_pos hc
  rcases rnd_place h12 (pcs l) 0 0 65536 (sub_zero _) (by omega) (by omega) h1 i _ hp with k1 | ⟨k, s, k1, k2, k3⟩
  · simp at k1
  · refine ⟨k, listS s, by rw [e1, List.getElem?_map, k2]; rfl, k1, fun j r hj => ?_⟩
    rw [e1, List.getElem?_map] at hj
    cases hy : (roundsK ms 65536 0).1[j]? with
    | none => rw [hy] at hj; cases hj
    | some t =>
      rw [hy] at hj
      cases hj
      have ht := hre t (List.mem_of_getElem? hy)
      have e2 : (m.1 ∈ (listS t).map (fun x : Nat => (x : Int))) ↔ t.testBit m.1.toNat = true := by
        rw [List.mem_map]
        constructor
        · rintro ⟨x, hx, e⟩
          rw [← e, Int.toNat_natCast]
          exact (mem_listS ht).1 hx
        · intro hb
          exact ⟨m.1.toNat, (mem_listS ht).2 hb, hm0.symm⟩
      rw [e2]
      constructor
      · exact (rnd_once h12 65536 0 (by omega) k s _ k2 k3).2 j t hy
      · rintro rfl
        rw [k2] at hy
        cases hy
        exact k3
end Go.Proofs.YtoajocgfmbakjaaGreatDoor
/-
  DrawRounds.
-/
set_option linter.unusedVariables false
set_option linter.unusedSimpArgs false
namespace Go.Proofs.YtoajocgfmbakjaaGreatDoor
open Go Go.RowKit Go.Shelf

set_option maxRecDepth 100000 in
set_option maxHeartbeats 4000000 in
theorem rounds_walk (ms : List Sol) (l : List Mo) (v lv : Value) (w : World) (hv : SolsAt w v ms) (hm : ∀ m ∈ ms, Fit m) (hl : MovsAt w lv l) (hT : Tab32 w) (h64 : Tab64 w) :
    Calls Tryz.prog 14 #[v, lv] w (RetB (.bool true) w) := by
  have HT := Lib.hid hT
  have H6 := Lib.hid h64
  have HM := Lib.hid hm
  have HV := Lib.hid hv
  have HL := Lib.hid hl
  obtain ⟨pa, ca, rfl, hma, _⟩ := hv
  obtain ⟨pl, cl, rfl, hmb, _⟩ := hl
  obtain ⟨fw, hfw⟩ : ∃ fw, fw = decide ((ms.length : Int) ≤ 12 ∨ 12 < (ms.length : Int) ∧ (ms.length : Int) ≤ 15) := ⟨_, rfl⟩
  have HF := Lib.hid (fun W => few_ok pa ms.length ca 12 W)
  rw [← hfw] at HF
  clear hfw hm hT h64
  simp only [maxLen] at hma hmb
  go_enter Tryz.func14, Tryz.ntmps14
  cases fw with
  | false =>
    go_wp2_with fail
    refine (HF.out _).mono ?_
    rintro e w1 ⟨rfl, hb1⟩
    have HB1 := Lib.hid hb1
    go_wp2_with fail
    refine (cast_ok _ (HT.out.below HB1.out (Nat.le_refl _)) (H6.out.below HB1.out (Nat.le_refl _))).mono ?_
    rintro e w4 ⟨rfl, hb4⟩
    go_wp2_with fail
    go_ret
    exact ⟨rfl, up hb4 HB1.out⟩
  | true =>
    by_cases h20 : 20 < l.length
    · have hd20 : decide ((20 : Int) < (l.length : Int)) = true := decide_eq_true (by omega)
      go_wp2_with fail
      refine (HF.out _).mono ?_
      rintro e w1 ⟨rfl, hb1⟩
      have HB1 := Lib.hid hb1
      go_wp2_with fail
      refine (cast_ok _ (HT.out.below HB1.out (Nat.le_refl _)) (H6.out.below HB1.out (Nat.le_refl _))).mono ?_
      rintro e w4 ⟨rfl, hb4⟩
      go_wp2_with fail
      go_ret
      exact ⟨rfl, up hb4 HB1.out⟩
    · have hd20 : decide ((20 : Int) < (l.length : Int)) = false := decide_eq_false (by omega)
      have HR := Lib.hid (fun (W : World) (h : SolsAt W (.slice pa ms.length ca) ms) (h' : Tab32 W) => roundsT_ok ms (.slice pa ms.length ca) W h HM.out h')
      have HO := Lib.hid (fun (W : World) (h : SolsAt W (.slice pa ms.length ca) ms) (h' : MovsAt W (.slice pl l.length cl) l) => checkOrder_ok ms l (.slice pa ms.length ca) (.slice pl l.length cl) W h h' HM.out (by omega))
      have HP := Lib.hid (fun (hc : chkM ms = 0) (h : chkO ms l = true) (i : Nat) (m : Mo) (hi : l[i]? = some m) => round_of hc h hi)
      generalize chkM ms = c at *
      generalize chkO ms l = ok at *
      generalize roundsL ms = L at *
      obtain ⟨K, hK⟩ : ∃ K, K = L.map (fun l => l.map fun x : Nat => (x : Int)) := ⟨_, rfl⟩
      have HK := Lib.hid hK
      clear hK
      go_wp2_with fail
      refine (HF.out _).mono ?_
      rintro e w1 ⟨rfl, hb1⟩
      have HB1 := Lib.hid hb1
      clear hb1
      go_wp2_with fail
      refine (HR.out _ (HV.out.below HB1.out (Nat.le_refl _)) (HT.out.below HB1.out (Nat.le_refl _))).mono ?_
      rintro e w2 ⟨⟨u, rfl, hrow, _⟩, hb2⟩
      have HB2 := Lib.hid (up hb2 HB1.out)
      have hls := listsAt_own hrow
      rw [← HK.out] at hls
      have HLS := Lib.hid hls
      obtain ⟨pu, cu, rfl, hmu, _⟩ := hls
      clear hb2 hrow HR
      go_wp2_with fail
      refine (HO.out _ (HV.out.below HB2.out (Nat.le_refl _)) (HL.out.below HB2.out (Nat.le_refl _))).mono ?_
      rintro e w3 ⟨rfl, hb3⟩
      have HB3 := Lib.hid (up hb3 HB2.out)
      have HL3 := Lib.hid (HLS.out.below hb3 (Nat.le_refl _))
      have HM3 := Lib.hid (HL.out.below HB3.out (Nat.le_refl _))
      clear hb3 HO HLS
      by_cases hc : c = 0
      · subst hc
        cases ok with
        | false =>
          go_wp2_with fail
          refine (cast_ok _ (HT.out.below HB3.out (Nat.le_refl _)) (H6.out.below HB3.out (Nat.le_refl _))).mono ?_
          rintro e w4 ⟨rfl, hb4⟩
          go_wp2_with fail
          go_ret
          exact ⟨rfl, up hb4 HB3.out⟩
        | true =>
          have HP2 := Lib.hid (HP.out rfl rfl)
          have HP3 : Hid (∀ (i : Nat) (m : Mo), l[i]? = some m → ∃ k0, k0 < K.length ∧ k0 ≤ i ∧ ∀ (k : Nat) (r : List Int), K[k]? = some r → (m.1 ∈ r ↔ k = k0)) := Lib.hid fun i m hi => by
            obtain ⟨k0, r0, h1, h2, h3⟩ := HP2.out i m hi
            refine ⟨k0, by rw [HK.out, List.length_map]; exact (List.getElem?_eq_some_iff.1 h1).1, h2, fun k r hk => ?_⟩
            rw [HK.out, List.getElem?_map] at hk
            cases hy : L[k]? with
            | none => rw [hy] at hk; cases hk
            | some y => rw [hy] at hk; cases hk; exact h3 k y hy
          simp only [maxLen] at hmu
          clear HP HP2 HK
          go_wp2_with fail
          go_loopw [9] (fun z wr => ∃ i : Nat, i ≤ l.length ∧ z = .int .i64 i ∧ Below w3.heap.size w3 wr) (fun z _ => l.length - (intOf z).toNat)
          case atStart => exact ⟨0, by omega, rfl, Below.refl _ _⟩
          case round =>
            obtain ⟨i, hi, rfl, hB⟩ := hrel
            by_cases hlt : i < l.length
            · have hd : decide ((i : Int) < (l.length : Int)) = true := decide_eq_true (by omega)
              have hii : (i : Int) < (l.length : Int) := by omega
              have hw1 : IntKind.i64.wrap ((i : Int) + 1) = (i : Int) + 1 := by rw [IntWalk.i64_in] <;> omega
              obtain ⟨m, hmi⟩ : ∃ m, l[i]? = some m := ⟨_, List.getElem?_eq_getElem hlt⟩
              obtain ⟨k0, hk0, hki, hkk⟩ := HP3.out i m hmi
              have HKK := Lib.hid hkk
              obtain ⟨b1, o1, cl', he, hb1, x0, _, _⟩ := HM3.out.at hmi
              obtain ⟨rfl, rfl⟩ : pl = some ⟨b1, o1, none⟩ ∧ cl = cl' := by injection he with e1 e2 e3; exact ⟨e1, e3⟩
              obtain ⟨p, s, far⟩ := m
              have X0 := Lib.hid x0
              clear he x0 hmi hkk
              go_wp2_with fail
              go_loopw [10, 11] (fun t z wr2 => ∃ k : Nat, k ≤ K.length ∧ z = .int .i64 k ∧ t = .int .i64 (if k0 < k then 1 else 0) ∧ Below w3.heap.size w3 wr2) (fun _ z _ => K.length - (intOf z).toNat)
              case atStart => exact ⟨0, by omega, rfl, rfl, hB⟩
              case round =>
                clear hB
                obtain ⟨k, hk, rfl, rfl, hB⟩ := hrel
                obtain ⟨cn, hcn⟩ : ∃ cn : Int, cn = if k0 < k then 1 else 0 := ⟨_, rfl⟩
                rw [← hcn]
                have HCN := Lib.hid hcn
                clear hcn
                by_cases hlt2 : k < K.length
                · have hd2 : decide ((k : Int) < (K.length : Int)) = true := decide_eq_true (by omega)
                  have hkk2 : (k : Int) < (K.length : Int) := by omega
                  have hw2 : IntKind.i64.wrap ((k : Int) + 1) = (k : Int) + 1 := by rw [IntWalk.i64_in] <;> omega
                  obtain ⟨r, hr⟩ : ∃ r, K[k]? = some r := ⟨_, List.getElem?_eq_getElem hlt2⟩
                  obtain ⟨b2, o2, cu', x, he2, hb2, y0, hxl⟩ := (HL3.out.below hB (Nat.le_refl _)).at hr
                  obtain ⟨rfl, rfl⟩ : pu = some ⟨b2, o2, none⟩ ∧ cu = cu' := by injection he2 with e1 e2 e3; exact ⟨e1, e3⟩
                  have z0 := (hB.cell (p := ⟨b1, o1 + i * 3, none⟩) hb1).trans X0.out
                  have hb1' := Nat.lt_of_lt_of_le hb1 hB.size
                  have HXL := Lib.hid hxl
                  have HIN := Lib.hid (fun (W : World) (h : IntsAt W x r) => inR_ok r x p W h)
                  have HKR := Lib.hid (HKK.out k r hr)
                  clear he2 hr hxl
                  by_cases e0 : k = k0
                  · subst e0
                    have HI2 := Lib.hid (fun (W : World) (h : IntsAt W x r) => (show Calls Tryz.prog 76 #[x, .int .i64 p] W (RetB (.bool true) W) by have := HIN.out W h; rwa [show decide (p ∈ r) = true from decide_eq_true (HKR.out.2 rfl)] at this))
                    obtain rfl : cn = 0 := HCN.out.trans (if_neg (by omega))
                    have hik : decide ((i : Int) < (k : Int)) = false := decide_eq_false (by omega)
                    clear HIN HCN
                    go_wp2_with fail
                    (refine wp_region_quiet (C := fun w' => Below wr.heap.size wr w') (by kernel_rfl) (by kernel_rfl) (Below.drew (Below.refl _ _)) ?_; (iterate 10 (refine wpQuiet_step (fun K hK => ?_); go_simp; first | (refine hK _ ?_; clear hK K) | (apply Exists.intro; refine ⟨fun W' hW' => ?_, hK _ ?_⟩; (focus (first | (with_reducible exact rfl) | (with_reducible exact ⟨rfl, rfl⟩) | (obtain ⟨hcq, hfq⟩ := bcell hW'; have hzq := hW'.size; (try go_simp); first | (with_reducible exact rfl) | (with_reducible exact ⟨rfl, rfl⟩) | (first | ((with_reducible refine Calls.mono (HI2.out _ (HXL.out.below hW' (Nat.le_refl _))) ?_); rintro e w9 ⟨rfl, hb9⟩; exact ⟨rfl, hW'.trans (hb9.mono hW'.size)⟩))))); clear hK K))); refine wpQuiet_nil ?_; intro w1q hb1q)
                    have hB2 : Below w3.heap.size w3 w1q := up hb1q hB
                    go_wp2_with fail
                    case roundEnd => exact ⟨⟨k + 1, by omega, by go_num, by rw [if_pos (by omega)], hB2⟩, by simp [intOf]; omega⟩
                  · have HI2 := Lib.hid (fun (W : World) (h : IntsAt W x r) => (show Calls Tryz.prog 76 #[x, .int .i64 p] W (RetB (.bool false) W) by have := HIN.out W h; rwa [show decide (p ∈ r) = false from decide_eq_false (fun h => e0 (HKR.out.1 h))] at this))
                    have HIF := Lib.hid (show cn = if k0 < k + 1 then (1 : Int) else 0 by
                      rw [HCN.out]
                      by_cases h : k0 < k
                      · rw [if_pos h, if_pos (by omega)]
                      · rw [if_neg h, if_neg (by omega)])
                    clear HIN
                    go_wp2_with fail
                    (refine wp_region_quiet (C := fun w' => Below wr.heap.size wr w') (by kernel_rfl) (by kernel_rfl) (Below.drew (Below.refl _ _)) ?_; (iterate 10 (refine wpQuiet_step (fun K hK => ?_); go_simp; first | (refine hK _ ?_; clear hK K) | (apply Exists.intro; refine ⟨fun W' hW' => ?_, hK _ ?_⟩; (focus (first | (with_reducible exact rfl) | (with_reducible exact ⟨rfl, rfl⟩) | (obtain ⟨hcq, hfq⟩ := bcell hW'; have hzq := hW'.size; (try go_simp); first | (with_reducible exact rfl) | (with_reducible exact ⟨rfl, rfl⟩) | (first | ((with_reducible refine Calls.mono (HI2.out _ (HXL.out.below hW' (Nat.le_refl _))) ?_); rintro e w9 ⟨rfl, hb9⟩; exact ⟨rfl, hW'.trans (hb9.mono hW'.size)⟩))))); clear hK K))); refine wpQuiet_nil ?_; intro w1q hb1q)
                    have hB2 : Below w3.heap.size w3 w1q := up hb1q hB
                    go_wp2_with fail
                    case roundEnd => exact ⟨⟨k + 1, by omega, by go_num, by rw [← HIF.out], hB2⟩, by simp [intOf]; omega⟩
                · obtain rfl : k = K.length := by omega
                  have hd2 : decide ((K.length : Int) < (K.length : Int)) = false := decide_eq_false (by omega)
                  obtain rfl : cn = 1 := HCN.out.trans (if_pos hk0)
                  go_wp2_with fail
                  case roundEnd => exact ⟨⟨i + 1, by omega, by go_num, hB⟩, by simp [intOf]; omega⟩
            · obtain rfl : i = l.length := by omega
              have hd : decide ((l.length : Int) < (l.length : Int)) = false := decide_eq_false (by omega)
              have HB4 := Lib.hid (up hB HB3.out)
              go_wp2_with fail
              refine (cast_ok _ (HT.out.below HB4.out (Nat.le_refl _)) (H6.out.below HB4.out (Nat.le_refl _))).mono ?_
              rintro e w4 ⟨rfl, hb4⟩
              go_wp2_with fail
              go_ret
              exact ⟨rfl, up hb4 HB4.out⟩
      · have hne : (c != 0) = true := by simpa using hc
        have hee : (c == c) = true := by simp
        go_wp2_with fail
        refine (cast_ok _ (HT.out.below HB3.out (Nat.le_refl _)) (H6.out.below HB3.out (Nat.le_refl _))).mono ?_
        rintro e w4 ⟨rfl, hb4⟩
        go_wp2_with fail
        go_ret
        exact ⟨rfl, up hb4 HB3.out⟩
end Go.Proofs.YtoajocgfmbakjaaGreatDoor
