/-
  A mould and one of its pieces are looked at.
-/
import Derived.Test.YtoajocgfmbakjaaGreatDoorPdA
import Derived.Test.YtoajocgfmbakjaaGreatDoorPdB
import Derived.Test.YtoajocgfmbakjaaGreatDoorPdC
set_option linter.unusedVariables false
set_option linter.unusedSimpArgs false
namespace Go.Proofs.YtoajocgfmbakjaaGreatDoor
open Go Go.RowKit Go.Shelf

def errA (ms : List Sol) (p : Int) : Int := if chkM ms = 0 then (if 0 ≤ p ∧ p < (ms.length : Int) then 0 else 1) else chkM ms
theorem errA_zero {ms : List Sol} {p : Int} : errA ms p = 0 ↔ chkM ms = 0 ∧ 0 ≤ p ∧ p < (ms.length : Int) := by
  unfold errA
  by_cases h : chkM ms = 0
  · rw [if_pos h]
    by_cases h2 : 0 ≤ p ∧ p < (ms.length : Int)
    · rw [if_pos h2]; simp [h, h2]
    · rw [if_neg h2]; simp [h, h2]
  · rw [if_neg h]; simp [h]
/-- Below, where what has been laid since is stored into. -/
theorem below_put2' {W : World} {w : World} {B : Nat} (x y : Value) (h : Below w.heap.size w W) (hB : w.heap.size ≤ B) : Below w.heap.size w (put2 W B x y) := below_put2 x y h hB
set_option maxRecDepth 100000 in
set_option maxHeartbeats 4000000 in
theorem lookAt_ok (ms : List Sol) (p : Int) (v : Value) (w : World) (hv : SolsAt w v ms) (hm : ∀ m ∈ ms, Fit m) :
    Calls Tryz.prog 133 #[v, .int .i64 p] w fun e w' => (∃ (xa : Option Addr) (xn xc : Nat) (y : Option Nat), e = .returned (.tuple #[.agg #[.slice xa xn xc, .map y], .int .i64 (errA ms p)]) ∧ (errA ms p = 0 → ∃ b, .slice xa xn xc = v ∧ y = some b ∧ w.heap.size ≤ b ∧ Mld w' v b ms noBlk)) ∧ Below w.heap.size w w' := by
  have HV := Lib.hid hv
  have hB0 : Below w.heap.size w (w.alloc (.cells #[.slice none 0 0, .map none] 101)) := (Below.refl _ w).alloc (Nat.le_refl _) _
  have r0 : (w.alloc (.cells #[.slice none 0 0, .map none] 101)).heap[w.heap.size]? = some (.cells #[.slice none 0 0, .map none] 101 (0, 0)) := World.alloc_heap_new w _
  by_cases hc : chkM ms = 0
  · have HY := Lib.hid (look_yes ms v (w.alloc (.cells #[.slice none 0 0, .map none] 101)) (hv.below hB0 (Nat.le_refl _)) hm hc)
    have HE := Lib.hid (show errA ms p = if 0 ≤ p ∧ p < (ms.length : Int) then 0 else 1 from if_pos hc)
    obtain ⟨E, hE⟩ : ∃ E, E = errA ms p := ⟨_, rfl⟩
    rw [← hE] at HE ⊢
    obtain ⟨pa, cap, rfl, _, _⟩ := hv
    have HIP := Lib.hid (fun W => isPiece_ok pa ms.length cap p W)
    clear hm hc hE
    go_enter Tryz.func133, Tryz.ntmps133
    go_wp2_with fail
    refine HY.out.mono ?_
    rintro e w1 ⟨b, rfl, hb, hM1, hB1⟩
    have r1 := heap_below r0 hB1 (Array.getElem?_eq_some_iff.1 r0).1
    have hBw := up hB1 hB0
    have q2 : (w1.alloc (.cells #[.slice pa ms.length cap, .map (some b)] 101)).heap[w1.heap.size]? = some (.cells #[.slice pa ms.length cap, .map (some b)] 101 (0, 0)) := World.alloc_heap_new w1 _
    have hA := (Below.refl _ w1).alloc (Nat.le_refl _) (.cells #[.slice pa ms.length cap, .map (some b)] 101)
    have r2 := heap_below r1 hA (Array.getElem?_eq_some_iff.1 r1).1
    have HB2 := Lib.hid (hBw.trans (hA.mono hBw.size))
    have HM2 := Lib.hid (hM1.below hA)
    have HBB := Lib.hid (show w.heap.size ≤ b by rw [World.size_alloc] at hb; omega)
    have c0 := cells4 q2 0 _ rfl
    clear r0 hB0 r1 hBw hA hM1 hB1 hb
    go_wp2_with fail
    refine (HIP.out _).mono ?_
    rintro e w3 ⟨rfl, hb3⟩
    have r3 := heap_below r2 hb3 (Array.getElem?_eq_some_iff.1 r2).1
    have q3 := heap_below q2 hb3 (Array.getElem?_eq_some_iff.1 q2).1
    have HM3 := Lib.hid (HM2.out.below hb3)
    have HB3 := Lib.hid (up hb3 HB2.out)
    clear c0 r2 q2 hb3
    have c0 := cells4 q3 0 _ rfl
    have c1 := cells4 q3 1 _ rfl
    have d0 := cells4 r3 0 _ rfl
    have d1 := cells4 r3 1 _ rfl
    have f0 := free3 r3 0
    have f1 := free3 r3 1
    have HR3 := Lib.hid r3
    have b4 := blk2_set HR3.out (.slice pa ms.length cap) (.map (some b))
    have HBf := Lib.hid (below_put2 (.slice pa ms.length cap) (.map (some b)) HB3.out (Nat.le_refl _))
    have HMf := Lib.hid (show Mld (put2 w3 w.heap.size (.slice pa ms.length cap) (.map (some b))) (.slice pa ms.length cap) b ms noBlk from ⟨HV.out.below HBf.out (Nat.le_refl _), HM3.out.ways.set HR3.out (.inl (by decide)) (put2_grown _ _ _ _)⟩)
    by_cases hp : 0 ≤ p ∧ p < (ms.length : Int)
    · have hd : decide (0 ≤ p ∧ p < (ms.length : Int)) = true := decide_eq_true hp
      have HE1 := Lib.hid (show E = 0 by rw [HE.out, if_pos hp])
      clear HE
      go_wp2_with fail
      refine bodyPost_ret (res_lo Tryz.results133 rfl (cells4 b4 0 _ rfl) (cells4 b4 1 _ rfl)) rfl ⟨⟨_, _, _, _, by rw [HE1.out]; rfl, fun _ => ⟨b, rfl, rfl, HBB.out, HMf.out⟩⟩, HBf.out⟩
    · have hd : decide (0 ≤ p ∧ p < (ms.length : Int)) = false := decide_eq_false hp
      have HE1 := Lib.hid (show E = 1 by rw [HE.out, if_neg hp])
      clear HE
      go_wp2_with fail
      refine bodyPost_ret (res_lo Tryz.results133 rfl (cells4 b4 0 _ rfl) (cells4 b4 1 _ rfl)) rfl ⟨⟨_, _, _, _, by rw [HE1.out]; rfl, fun _ => ⟨b, rfl, rfl, HBB.out, HMf.out⟩⟩, HBf.out⟩
  · have HN := Lib.hid (look_no ms v (w.alloc (.cells #[.slice none 0 0, .map none] 101)) (hv.below hB0 (Nat.le_refl _)) hm hc)
    have HE := Lib.hid (show errA ms p = chkM ms from if_neg hc)
    rw [HE.out]
    obtain ⟨c, hcc⟩ : ∃ c, c = chkM ms := ⟨_, rfl⟩
    rw [← hcc] at HN hc ⊢
    have hne : (c == 0) = false := by simpa using hc
    have HC := Lib.hid hc
    clear hcc hc hm HE
    obtain ⟨pa, cap, rfl, _, _⟩ := hv
    go_enter Tryz.func133, Tryz.ntmps133
    go_wp2_with fail
    refine HN.out.mono ?_
    rintro e w1 ⟨rfl, hB1⟩
    have r1 := heap_below r0 hB1 (Array.getElem?_eq_some_iff.1 r0).1
    have hBw := up hB1 hB0
    have hA := (Below.refl _ w1).alloc (Nat.le_refl _) (.cells #[.slice none 0 0, .map none] 101)
    have HB2 := Lib.hid (hBw.trans (hA.mono hBw.size))
    have r2 := heap_below r1 hA (Array.getElem?_eq_some_iff.1 r1).1
    have d0 := cells4 r2 0 _ rfl
    have d1 := cells4 r2 1 _ rfl
    have f0 := free3 r2 0
    have f1 := free3 r2 1
    have HR := Lib.hid r2
    clear r0 r1 hB0 hB1 hBw hA r2
    go_wp2_with fail
    have b4 := blk2_set HR.out (.slice none 0 0) (.map none)
    refine bodyPost_ret (res_lo Tryz.results133 rfl (cells4 b4 0 _ rfl) (cells4 b4 1 _ rfl)) rfl ⟨⟨_, _, _, _, rfl, fun h => absurd h HC.out⟩, below_put2 _ _ HB2.out (Nat.le_refl _)⟩
end Go.Proofs.YtoajocgfmbakjaaGreatDoor
/-
  Whether a piece goes when some may go: the closure of Needs.
-/
set_option linter.unusedVariables false
set_option linter.unusedSimpArgs false
namespace Go.Proofs.YtoajocgfmbakjaaGreatDoor
open Go Go.RowKit Go.Shelf

abbrev BoxI (W : World) (b : Nat) (p : Nat) : Prop := W.heap[b]? = some (.cells #[.int .i64 p] 3 (0, 0))
abbrev BoxL (W : World) (A : Nat) (v : Value) (b : Nat) : Prop := W.heap[A]? = some (.cells #[v, .map (some b)] 101 (0, 0))
set_option maxRecDepth 100000 in
set_option maxHeartbeats 2000000 in
theorem needs1_ok (ms : List Sol) (s p A B : Nat) (v : Value) (b : Nat) (w : World) (hm : ∀ m ∈ ms, Fit m) (h12 : ms.length ≤ 12) (hs : s < 65536) (hp : p < 16) (hT : Tab32 w) (hv : Mld w v b ms noBlk) (hA : BoxL w A v b) (hB : BoxI w B p) :
    Calls Tryz.prog 134 #[setV s, .pointer (some ⟨A, 0, none⟩), .pointer (some ⟨B, 0, none⟩)] w (RetK (.bool ((reach ms s).testBit p)) b v ms noBlk w) := by
  have HV := Lib.hid hv
  have HO := Lib.hid (order_ok ms s v b w hm h12 hs hT noBlk (fun _ h => h.elim) hv)
  have h16 := reach_lt h12 s (ms := ms)
  have HR := Lib.hid (show (orderF ms s).2 = reach ms s from rfl)
  have HH := Lib.hid (fun W => has_ok (reach ms s) p h16 hp W)
  rw [HR.out] at HO
  obtain ⟨pa, cap, rfl, _, _⟩ := hv.sols
  have c0 := cells4 hA 0 _ rfl
  have c1 := cells4 hA 1 _ rfl
  clear hm hT hv
  generalize reach ms s = R at *
  go_enter Tryz.func134, Tryz.ntmps134
  go_wp2_with fail
  refine HO.out.mono ?_
  rintro e w1 ⟨⟨u, rfl, _, _⟩, hk1⟩
  have b1 := kept_cells hk1 hB HV.out.ways
  have d0 := cells4 b1 0 _ rfl
  have HK := Lib.hid hk1
  clear c0 c1 hk1 hA
  go_wp2_with fail
  refine (HH.out _).mono ?_
  rintro e w2 ⟨rfl, hb2⟩
  go_wp2
  go_ret
  exact ⟨rfl, kept_trans HK.out (kept_below HK.out.2 hb2)⟩
end Go.Proofs.YtoajocgfmbakjaaGreatDoor
/-
  Needs.
-/
set_option linter.unusedVariables false
set_option linter.unusedSimpArgs false
namespace Go.Proofs.YtoajocgfmbakjaaGreatDoor
open Go Go.RowKit Go.Shelf

/-- The pieces among the first ones without which the piece does not go. -/
def needK (ms : List Sol) (p : Nat) : Nat → Nat
  | 0 => 0
  | i + 1 => if i ≠ p ∧ (reach ms (andN (allN ms.length) (2 ^ i))).testBit p = false then needK ms p i ||| 2 ^ i else needK ms p i
theorem needK_lt (ms : List Sol) (p : Nat) : ∀ i, i ≤ 16 → needK ms p i < 65536
  | 0, _ => by simp [needK]
  | i + 1, h => by
    have ih := needK_lt ms p i (by omega)
    unfold needK
    split
    · exact or16 ih (pow16_lt (by omega))
    · exact ih
def needF (ms : List Sol) (p : Nat) : Nat := needK ms p ms.length
def errN (ms : List Sol) (p : Int) : Int := if errA ms p = 0 then (if (reach ms (allN ms.length)).testBit p.toNat = true then 0 else 30) else errA ms p
def needL (ms : List Sol) (p : Int) : List Nat := if errN ms p = 0 then listS (needF ms p.toNat) else []
set_option maxRecDepth 100000 in
set_option maxHeartbeats 400000 in
theorem needs_ok (ms : List Sol) (p : Int) (v : Value) (w : World) (hv : SolsAt w v ms) (hm : ∀ m ∈ ms, Fit m) (hT : Tab32 w) :
    Calls Tryz.prog 65 #[v, .int .i64 p] w fun e w' => (∃ u, e = .returned (.tuple #[u, .int .i64 (errN ms p)]) ∧ w'.ownsRow w.heap.size 3 1 u (needL ms p).length (flatI (needL ms p)) ∧ (u = .slice none 0 0 ↔ needL ms p = [])) ∧ Below w.heap.size w w' := by
  have HT := Lib.hid hT
  have HM := Lib.hid hm
  have b0 : (w.alloc (.cells #[.int .i64 p] 3)).heap[w.heap.size]? = some (.cells #[.int .i64 p] 3 (0, 0)) := World.alloc_heap_new w _
  have hB0 : Below w.heap.size w (w.alloc (.cells #[.int .i64 p] 3)) := (Below.refl _ w).alloc (Nat.le_refl _) _
  have HLA := Lib.hid (lookAt_ok ms p v (w.alloc (.cells #[.int .i64 p] 3)) (hv.below hB0 (Nat.le_refl _)) hm)
  have HEN := Lib.hid (show errN ms p = if errA ms p = 0 then (if (reach ms (allN ms.length)).testBit p.toNat = true then 0 else 30) else errA ms p from rfl)
  have HNL := Lib.hid (show needL ms p = if errN ms p = 0 then listS (needF ms p.toNat) else [] from rfl)
  obtain ⟨N, hN⟩ : ∃ N, N = errN ms p := ⟨_, rfl⟩
  obtain ⟨L, hL⟩ : ∃ L, L = needL ms p := ⟨_, rfl⟩
  rw [← hN] at HEN HNL ⊢
  rw [← hL] at HNL ⊢
  obtain ⟨pa, cap, rfl, _, _⟩ := hv
  clear hT hm hN hL
  have c0 := cells4 b0 0 _ rfl
  by_cases hE : errA ms p = 0
  · obtain ⟨hc, hp⟩ := errA_zero.1 hE
    obtain ⟨q, rfl⟩ : ∃ q : Nat, p = q := ⟨p.toNat, by omega⟩
    have h12 := chkM_len hc
    have hq : q < ms.length := by omega
    have HE := Lib.hid hE
    have HEN2 := Lib.hid (show N = if (reach ms (allN ms.length)).testBit q = true then 0 else 30 by rw [HEN.out, if_pos hE, Int.toNat_natCast])
    rw [hE] at HLA
    clear hE HEN hp hc
    go_enter Tryz.func65, Tryz.ntmps65
    go_wp2_with fail
    refine HLA.out.mono ?_
    rintro e w1 ⟨⟨xa, xn, xc, y, rfl, hxy⟩, hB1⟩
    obtain ⟨b, hx, rfl, hb, hM1⟩ := hxy trivial
    cases hx
    have b1 := heap_below b0 hB1 (Array.getElem?_eq_some_iff.1 b0).1
    have hBw := up hB1 hB0
    obtain ⟨A, hAA⟩ : ∃ A, A = w1.heap.size := ⟨_, rfl⟩
    obtain ⟨B, hBB⟩ : ∃ B, B = w.heap.size := ⟨_, rfl⟩
    obtain ⟨W2, hW2⟩ : ∃ W2, W2 = w1.alloc (.cells #[.slice pa ms.length cap, .map (some b)] 101) := ⟨_, rfl⟩
    have q2 : BoxL W2 A (.slice pa ms.length cap) b := by rw [hW2, hAA]; exact World.alloc_heap_new w1 _
    have hA : Below w1.heap.size w1 W2 := by rw [hW2]; exact (Below.refl _ w1).alloc (Nat.le_refl _) _
    have b2 : BoxI W2 B q := by rw [hBB]; exact heap_below b1 hA (Array.getElem?_eq_some_iff.1 b1).1
    have HB2 := Lib.hid (hBw.trans (hA.mono hBw.size))
    have HM2 := Lib.hid (hM1.below hA)
    have HBB := Lib.hid (show w.heap.size ≤ b by rw [World.size_alloc] at hb; omega)
    have HAL := Lib.hid (fun W => all_ok pa ms.length cap (by omega) W)
    clear c0 b0 hB0 b1 hBw hA hM1 hB1 hb
    have HT2 := Lib.hid (HT.out.below HB2.out (Nat.le_refl _))
    have HN1 := Lib.hid (fun s W (hs : s < 65536) (hT : Tab32 W) (h : Mld W (.slice pa ms.length cap) b ms noBlk) (h1 : BoxL W A (.slice pa ms.length cap) b) (h2 : BoxI W B q) => needs1_ok ms s q A B (.slice pa ms.length cap) b W HM.out h12 hs (by omega) hT h h1 h2)
    go_wp2_with fail
    rw [← hW2]
    rw [← hAA, ← hBB]
    clear hAA hW2
    have HBq := Lib.hid hBB
    clear hBB
    have c0 := cells4 q2 0 _ rfl
    have lb : b < W2.heap.size := HM2.out.ways.lt
    have HR := Lib.hid (fun g : Nat => reach_lt h12 g (ms := ms))
    refine (HAL.out _).mono ?_
    rintro e w3 ⟨rfl, hb3⟩
    have q3 := heap_below q2 hb3 (Array.getElem?_eq_some_iff.1 q2).1
    have b3 := heap_below b2 hb3 (Array.getElem?_eq_some_iff.1 b2).1
    have HK3 := Lib.hid (kept_below (v := .slice pa ms.length cap) HM2.out.ways hb3)
    clear c0 q2 b2 hb3
    go_wp2_with fail
    refine (HN1.out (allN ms.length) _ (allN_lt (by omega)) (fun j hj => kept_cell HK3.out HM2.out.ways rfl (HT2.out j hj)) (HM2.out.kept HK3.out) q3 b3).mono ?_
    rintro e w4 ⟨rfl, hk4⟩
    have q4 := kept_cells hk4 q3 (HM2.out.kept HK3.out).ways
    have b4 := kept_cells hk4 b3 (HM2.out.kept HK3.out).ways
    have HK4 := Lib.hid (kept_trans HK3.out hk4)
    clear q3 b3 hk4
    cases hbit : (reach ms (allN ms.length)).testBit q with
    | false =>
      have HN30 := Lib.hid (show N = 30 by rw [HEN2.out, hbit]; rfl)
      have HL30 := Lib.hid (show L = [] by rw [HNL.out, HN30.out, if_neg (by decide)])
      clear HEN2 HNL
      go_wp2_with fail
      go_returns
      rw [HN30.out, HL30.out]
      exact ⟨⟨_, rfl, World.ownsRow_nil _ _ _ _, by simp⟩, kept_out HK4.out HBB.out HB2.out⟩
    | true =>
      have HN0 := Lib.hid (show N = 0 by rw [HEN2.out, hbit]; rfl)
      have HL0 := Lib.hid (show L = listS (needK ms q ms.length) by rw [HNL.out, HN0.out, if_pos rfl, Int.toNat_natCast, needF])
      clear HEN2 HNL hbit
      go_wp2_with fail
      go_loopw [9, 29] (fun sv z wr => ∃ i : Nat, i ≤ ms.length ∧ z = .int .i64 i ∧ sv = setV (needK ms q i) ∧ BoxL wr A (.slice pa ms.length cap) b ∧ BoxI wr B q ∧ Hid (Kept b (.slice pa ms.length cap) ms noBlk W2 wr)) (fun _ z _ => ms.length - (intOf z).toNat)
      case atStart => exact ⟨0, by omega, rfl, rfl, q4, b4, HK4⟩
      case round =>
        clear q4 b4 HK4
        obtain ⟨i, hi, rfl, rfl, qr, br, HK⟩ := hrel
        by_cases hlt : i < ms.length
        · have di : decide ((i : Int) < (ms.length : Int)) = true := decide_eq_true (by omega)
          have c0 := cells4 qr 0 _ rfl
          have e0 := cells4 br 0 _ rfl
          have hnl := needK_lt ms q i (by omega)
          have HS := Lib.hid (show needK ms q (i + 1) = if i ≠ q ∧ (reach ms (andN (allN ms.length) (2 ^ i))).testBit q = false then needK ms q i ||| 2 ^ i else needK ms q i from rfl)
          have HWI := Lib.hid (fun W => with_ok (needK ms q i) i hnl (by omega) W)
          obtain ⟨nk, hnk⟩ : ∃ nk, nk = needK ms q i := ⟨_, rfl⟩
          rw [← hnk] at HS HWI hnl ⊢
          have HON := Lib.hid (fun W => only_ok i (by omega) W)
          have HWO := Lib.hid (fun W => without_ok (allN ms.length) (2 ^ i) (allN_lt (by omega)) (pow16_lt (by omega)) W)
          have ha16 := andN16 (t := 2 ^ i) (allN_lt (n := ms.length) (by omega))
          have HMr := Lib.hid (HM2.out.kept HK.out)
          clear hnk
          by_cases hiq : i = q
          · have hne : ((i : Int) != (q : Int)) = false := by rw [hiq]; simp
            have HN := Lib.hid (show needK ms q (i + 1) = nk by rw [HS.out, if_neg (fun h => h.1 hiq)])
            have HIQ := Lib.hid hiq
            clear hiq
            go_wp2_with fail
            case roundEnd => exact ⟨⟨i + 1, by omega, by go_num, by rw [HN.out], qr, br, HK⟩, by simp [intOf]; omega⟩
          · have hne : ((i : Int) != (q : Int)) = true := by rw [bne_iff_ne]; omega
            have HIQ := Lib.hid hiq
            clear hiq
            go_wp2_with fail
            refine (HAL.out _).mono ?_
            rintro e w5 ⟨rfl, hb5⟩
            have q5 := heap_below qr hb5 (Array.getElem?_eq_some_iff.1 qr).1
            have b5 := heap_below br hb5 (Array.getElem?_eq_some_iff.1 br).1
            have HK5 := Lib.hid (kept_trans HK.out (kept_below (v := .slice pa ms.length cap) HK.out.2 hb5))
            clear c0 e0 qr br hb5
            go_wp2_with fail
            refine (HON.out _).mono ?_
            rintro e w6 ⟨rfl, hb6⟩
            have q6 := heap_below q5 hb6 (Array.getElem?_eq_some_iff.1 q5).1
            have b6 := heap_below b5 hb6 (Array.getElem?_eq_some_iff.1 b5).1
            have HK6 := Lib.hid (kept_trans HK5.out (kept_below (v := .slice pa ms.length cap) HK5.out.2 hb6))
            clear q5 b5 hb6
            go_wp2_with fail
            refine (HWO.out _).mono ?_
            rintro e w7 ⟨rfl, hb7⟩
            have q7 := heap_below q6 hb7 (Array.getElem?_eq_some_iff.1 q6).1
            have b7 := heap_below b6 hb7 (Array.getElem?_eq_some_iff.1 b6).1
            have HK7 := Lib.hid (kept_trans HK6.out (kept_below (v := .slice pa ms.length cap) HK6.out.2 hb7))
            clear q6 b6 hb7
            go_wp2_with fail
            refine (HN1.out (andN (allN ms.length) (2 ^ i)) _ ha16 (fun j hj => kept_cell HK7.out HM2.out.ways rfl (HT2.out j hj)) (HM2.out.kept HK7.out) q7 b7).mono ?_
            rintro e w8 ⟨rfl, hk8⟩
            have q8 := kept_cells hk8 q7 (HM2.out.kept HK7.out).ways
            have b8 := kept_cells hk8 b7 (HM2.out.kept HK7.out).ways
            have HK8 := Lib.hid (kept_trans HK7.out hk8)
            clear q7 b7 hk8
            cases hbit : (reach ms (andN (allN ms.length) (2 ^ i))).testBit q with
            | true =>
              have HN := Lib.hid (show needK ms q (i + 1) = nk by rw [HS.out, if_neg (fun h => by rw [hbit] at h; cases h.2)])
              clear HS hbit
              go_wp2_with fail
              case roundEnd => exact ⟨⟨i + 1, by omega, by go_num, by rw [HN.out], q8, b8, HK8⟩, by simp [intOf]; omega⟩
            | false =>
              have HN := Lib.hid (show needK ms q (i + 1) = nk ||| 2 ^ i by rw [HS.out, if_pos ⟨HIQ.out, hbit⟩])
              clear HS hbit
              go_wp2_with fail
              refine (HWI.out _).mono ?_
              rintro e w9 ⟨rfl, hb9⟩
              have q9 := heap_below q8 hb9 (Array.getElem?_eq_some_iff.1 q8).1
              have b9 := heap_below b8 hb9 (Array.getElem?_eq_some_iff.1 b8).1
              have HK9 := Lib.hid (kept_trans HK8.out (kept_below (v := .slice pa ms.length cap) HK8.out.2 hb9))
              go_wp2_with fail
              case roundEnd => exact ⟨⟨i + 1, by omega, by go_num, by rw [HN.out], q9, b9, HK9⟩, by simp [intOf]; omega⟩
        · obtain rfl : i = ms.length := by omega
          have di : decide ((ms.length : Int) < (ms.length : Int)) = false := decide_eq_false (by omega)
          have HBf := Lib.hid (kept_out HK.out HBB.out HB2.out)
          have HLI := Lib.hid (list_ok (needK ms q ms.length) wr (needK_lt ms q _ (by omega)) (HT.out.below HBf.out (Nat.le_refl _)))
          go_wp2_with fail
          refine HLI.out.mono ?_
          rintro e w9 ⟨⟨u, rfl, hrow, hnil⟩, hb9⟩
          go_wp2
          go_returns
          rw [HN0.out, HL0.out]
          exact ⟨⟨u, rfl, row_base hrow HBf.out.size, hnil⟩, up hb9 HBf.out⟩
  · have HE := Lib.hid (show N = errA ms p by rw [HEN.out, if_neg hE])
    have HL := Lib.hid (show L = [] by rw [HNL.out, HE.out, if_neg hE])
    rw [HE.out, HL.out]
    obtain ⟨c, hcc⟩ : ∃ c, c = errA ms p := ⟨_, rfl⟩
    rw [← hcc] at HLA hE ⊢
    have hne : (c != 0) = true := by simpa using hE
    clear hcc hE HE HL HEN HNL
    go_enter Tryz.func65, Tryz.ntmps65
    go_wp2_with fail
    refine HLA.out.mono ?_
    rintro e w1 ⟨⟨xa, xn, xc, y, rfl, _⟩, hB1⟩
    have hBw := up hB1 hB0
    go_wp2
    go_returns
    exact ⟨⟨_, rfl, World.ownsRow_nil _ _ _ _, by simp⟩, hBw.alloc hBw.size _⟩
end Go.Proofs.YtoajocgfmbakjaaGreatDoor
/-
  Last.
-/
set_option linter.unusedVariables false
set_option linter.unusedSimpArgs false
namespace Go.Proofs.YtoajocgfmbakjaaGreatDoor
open Go Go.RowKit Go.Shelf

/-- The pieces among the first ones without which all others come first. -/
def lastK (ms : List Sol) : Nat → Nat
  | 0 => 0
  | i + 1 => if comesB ms (andN (allN ms.length) (2 ^ i)) = true then lastK ms i ||| 2 ^ i else lastK ms i
theorem lastK_lt (ms : List Sol) : ∀ i, i ≤ 16 → lastK ms i < 65536
  | 0, _ => by simp [lastK]
  | i + 1, h => by
    have ih := lastK_lt ms i (by omega)
    unfold lastK
    split
    · exact or16 ih (pow16_lt (by omega))
    · exact ih
def lastL (ms : List Sol) : List Nat := if chkM ms = 0 ∧ comesB ms (allN ms.length) = true then listS (lastK ms ms.length) else []
set_option maxRecDepth 100000 in
set_option maxHeartbeats 2000000 in
theorem last_ok (ms : List Sol) (v : Value) (w : World) (hv : SolsAt w v ms) (hm : ∀ m ∈ ms, Fit m) (hT : Tab32 w) :
    Calls Tryz.prog 54 #[v] w fun e w' => (∃ u, e = .returned (.tuple #[u, .int .i64 (chkM ms)]) ∧ w'.ownsRow w.heap.size 3 1 u (lastL ms).length (flatI (lastL ms)) ∧ (u = .slice none 0 0 ↔ lastL ms = [])) ∧ Below w.heap.size w w' := by
  by_cases hc : chkM ms = 0
  · have HY := Lib.hid (look_yes ms v w hv hm hc)
    have h12 := chkM_len hc
    have HM := Lib.hid hm
    have HT := Lib.hid hT
    have HLL := Lib.hid (show lastL ms = if comesB ms (allN ms.length) = true then listS (lastK ms ms.length) else [] by unfold lastL; simp [hc])
    obtain ⟨L, hL⟩ : ∃ L, L = lastL ms := ⟨_, rfl⟩
    rw [← hL] at HLL ⊢
    rw [hc]
    obtain ⟨pa, cap, rfl, _, _⟩ := hv
    clear hm hc hT hL
    go_enter Tryz.func54, Tryz.ntmps54
    go_wp2_with fail
    refine HY.out.mono ?_
    rintro e w1 ⟨b, rfl, hb, hM1, hB1⟩
    obtain ⟨A, hAA⟩ : ∃ A, A = w1.heap.size := ⟨_, rfl⟩
    obtain ⟨W2, hW2⟩ : ∃ W2, W2 = w1.alloc (.cells #[.slice pa ms.length cap, .map (some b)] 101) := ⟨_, rfl⟩
    have q1 : W2.heap[A]? = some (.cells #[.slice pa ms.length cap, .map (some b)] 101 (0, 0)) := by rw [hW2, hAA]; exact World.alloc_heap_new w1 _
    have hA : Below w1.heap.size w1 W2 := by rw [hW2]; exact (Below.refl _ w1).alloc (Nat.le_refl _) _
    have HB2 := Lib.hid (hB1.trans (hA.mono hB1.size))
    have HM2 := Lib.hid (hM1.below hA)
    have HB := Lib.hid hb
    have HAL := Lib.hid (fun W => all_ok pa ms.length cap (by omega) W)
    have HCO := Lib.hid (fun s W (hs : s < 65536) (hT : Tab32 W) (h : Mld W (.slice pa ms.length cap) b ms noBlk) => comes_ok ms s (.slice pa ms.length cap) b W HM.out h12 hs hT noBlk (fun _ h => h.elim) h)
    go_wp2_with fail
    rw [← hW2, ← hAA]
    clear hA hW2 hAA hM1 hB1 hb
    have hCd : Kept b (.slice pa ms.length cap) ms noBlk W2 W2.drew := kept_below HM2.out.ways (Below.drew (Below.refl _ _))
    have HW2 := Lib.hid HM2.out.ways
    have HT2 := Lib.hid (HT.out.below HB2.out (Nat.le_refl _))
    have hal := allN_lt (n := ms.length) (by omega)
    refine wp_region_relR (fun (iR : Nat) (v : Value) (W : World) => match iR with | 0 => v = .agg #[.slice pa ms.length cap, .map (some b)] | 1 => v = .pointer (some ⟨A, 0, none⟩) | 2 => v = .slice pa ms.length cap | 3 => v = setV (allN ms.length) | 4 => v = .bool (comesB ms (allN ms.length)) | _ => v = .bool (!comesB ms (allN ms.length))) (fun W => Kept b (.slice pa ms.length cap) ms noBlk W2 W) (fun X Y => Kept b (.slice pa ms.length cap) ms noBlk X Y) (by kernel_rfl) (by kernel_rfl) (by kernel_rfl) hCd (by kernel_rfl) ?hst ?hop ?hend
    case hst =>
      intro j v W W' hC hb hv
      rcases j with _ | _ | _ | _ | _ | _ | j
      all_goals exact hv
    case hop =>
      intro iR o ho a' W hC hin hfix
      have q3 := kept_cells hC q1 HW2.out
      have c0 := cells4 q3 0 _ rfl
      have c1 := cells4 q3 1 _ rfl
      have sl4 : a'.tmps[4]? = some (.pointer (some ⟨A, 0, none⟩)) := hfix 4 (by kernel_rfl)
      have hi : iR < 6 := (Array.getElem?_eq_some_iff.1 ho).1
      rcases (show iR = 0 ∨ iR = 1 ∨ iR = 2 ∨ iR = 3 ∨ iR = 4 ∨ iR = 5 by omega) with rfl | rfl | rfl | rfl | rfl | rfl
      · obtain rfl := Option.some.inj ho
        refine .inl ⟨rfl, fun K hK => ?_⟩
        clear hin hfix ho
        go_simp
        exact hK _ _ rfl hC (kept_refl hC)
      · obtain rfl := Option.some.inj ho
        refine .inl ⟨rfl, fun K hK => ?_⟩
        clear hin hfix ho
        go_simp
        exact hK _ _ rfl hC (kept_refl hC)
      · obtain ⟨v1, rfl, h1⟩ := hin 1 17 (by kernel_rfl) (by kernel_rfl)
        obtain rfl := Option.some.inj ho
        refine .inl ⟨rfl, fun K hK => ?_⟩
        clear hin hfix ho
        go_simp
        exact hK _ _ rfl hC (kept_refl hC)
      · obtain ⟨v2, rfl, h2⟩ := hin 2 18 (by kernel_rfl) (by kernel_rfl)
        obtain rfl := Option.some.inj ho
        refine .inl ⟨rfl, fun K hK => ?_⟩
        clear hin hfix ho
        go_simp
        refine (HAL.out _).mono ?_
        rintro e W3 ⟨rfl, hb3⟩
        exact hK _ _ rfl (kept_trans hC (kept_below hC.2 hb3)) (kept_below hC.2 hb3)
      · obtain ⟨v0, rfl, h0⟩ := hin 0 16 (by kernel_rfl) (by kernel_rfl)
        obtain ⟨v3, rfl, h3⟩ := hin 3 19 (by kernel_rfl) (by kernel_rfl)
        obtain rfl := Option.some.inj ho
        refine .inl ⟨rfl, fun K hK => ?_⟩
        clear hin hfix ho
        go_simp
        refine (HCO.out _ _ hal (fun j hj => kept_cell hC HW2.out rfl (HT2.out j hj)) (HM2.out.kept hC)).mono ?_
        rintro e W3 ⟨rfl, hk3⟩
        exact hK _ _ rfl (kept_trans hC hk3) hk3
      · obtain ⟨v4, rfl, h4⟩ := hin 4 20 (by kernel_rfl) (by kernel_rfl)
        obtain rfl := Option.some.inj ho
        refine .inl ⟨rfl, fun K hK => ?_⟩
        clear hin hfix ho
        go_simp
        exact hK _ _ rfl hC (kept_refl hC)
    case hend =>
    intro vals W hC hV
    have z0 := hV 0 (by decide)
    have z1 := hV 1 (by decide)
    have z2 := hV 2 (by decide)
    have z3 := hV 3 (by decide)
    have z4 := hV 4 (by decide)
    have z5 := hV 5 (by decide)
    clear hV
    simp only at z0 z1 z2 z3 z4 z5
    have hr : List.range 6 = [0, 1, 2, 3, 4, 5] := rfl
    simp only [List.size_toArray, List.length_cons, List.length_nil, Nat.reduceAdd, List.drop_succ_cons, List.drop_zero, putA, hr, List.foldl_cons, List.foldl_nil, dstR, List.getElem?_toArray, List.getElem?_cons_succ, List.getElem?_cons_zero, Option.bind_some, Act.put, List.setIfInBounds_toArray, List.set_cons_succ, List.set_cons_zero, z0, z1, z2, z3, z4, z5]
    clear hr z0 z1 z2 z3 z4 z5
    have q3 := kept_cells hC q1 HW2.out
    have HK3 := Lib.hid hC
    clear hCd hC q1
    cases hcm : comesB ms (allN ms.length) with
    | false =>
      have HL0 := Lib.hid (show L = [] by rw [HLL.out, hcm, if_neg Bool.false_ne_true])
      go_wp2_with fail
      go_returns
      rw [HL0.out]
      exact ⟨⟨_, rfl, World.ownsRow_nil _ _ _ _, by simp⟩, kept_out HK3.out HB.out HB2.out⟩
    | true =>
      have HL0 := Lib.hid (show L = listS (lastK ms ms.length) by rw [HLL.out, hcm, if_pos rfl])
      clear HLL hcm
      simp only [Bool.not_true]
      go_wp2_with fail
      go_loopw [6, 24] (fun sv z wr => ∃ i : Nat, i ≤ ms.length ∧ z = .int .i64 i ∧ sv = setV (lastK ms i) ∧ wr.heap[A]? = some (.cells #[.slice pa ms.length cap, .map (some b)] 101 (0, 0)) ∧ Hid (Kept b (.slice pa ms.length cap) ms noBlk W2 wr)) (fun _ z _ => ms.length - (intOf z).toNat)
      case atStart => exact ⟨0, by omega, rfl, rfl, q3, HK3⟩
      case round =>
        clear q3 HK3
        obtain ⟨i, hi, rfl, rfl, qr, HK⟩ := hrel
        by_cases hlt : i < ms.length
        · have di : decide ((i : Int) < (ms.length : Int)) = true := decide_eq_true (by omega)
          have hnl := lastK_lt ms i (by omega)
          have HS := Lib.hid (show lastK ms (i + 1) = if comesB ms (andN (allN ms.length) (2 ^ i)) = true then lastK ms i ||| 2 ^ i else lastK ms i from rfl)
          have HWI := Lib.hid (fun W => with_ok (lastK ms i) i hnl (by omega) W)
          obtain ⟨nk, hnk⟩ : ∃ nk, nk = lastK ms i := ⟨_, rfl⟩
          rw [← hnk] at HS HWI hnl ⊢
          have HON := Lib.hid (fun W => only_ok i (by omega) W)
          have HWO := Lib.hid (fun W => without_ok (allN ms.length) (2 ^ i) (allN_lt (by omega)) (pow16_lt (by omega)) W)
          have ha16 := andN16 (t := 2 ^ i) (allN_lt (n := ms.length) (by omega))
          have HMr := Lib.hid (HM2.out.kept HK.out)
          have HWr := Lib.hid HMr.out.ways
          have HTr := Lib.hid (show Tab32 wr from fun j hj => kept_cell HK.out HW2.out rfl (HT2.out j hj))
          have hCd : Kept b (.slice pa ms.length cap) ms noBlk wr wr.drew := kept_below HWr.out (Below.drew (Below.refl _ _))
          clear hnk
          obtain ⟨cb, hcb⟩ : ∃ cb, cb = comesB ms (andN (allN ms.length) (2 ^ i)) := ⟨_, rfl⟩
          rw [← hcb] at HS
          have HCB := Lib.hid hcb
          clear hcb
          go_wp2_with fail
          refine wp_region_relR (fun (iR : Nat) (v : Value) (W : World) => match iR with | 0 => v = .agg #[.slice pa ms.length cap, .map (some b)] | 1 => v = .pointer (some ⟨A, 0, none⟩) | 2 => v = .slice pa ms.length cap | 3 => v = setV (allN ms.length) | 4 => v = .int .i64 i | 5 => v = setV (2 ^ i) | 6 => v = setV (andN (allN ms.length) (2 ^ i)) | _ => v = .bool cb) (fun W => Kept b (.slice pa ms.length cap) ms noBlk wr W) (fun X Y => Kept b (.slice pa ms.length cap) ms noBlk X Y) (by kernel_rfl) (by kernel_rfl) (by kernel_rfl) hCd (by kernel_rfl) ?hst ?hop ?hend
          case hst =>
            intro j v W W' hC hb hv
            rcases j with _ | _ | _ | _ | _ | _ | _ | _ | j
            all_goals exact hv
          case hop =>
            intro iR o ho a' W hC hin hfix
            have q3 := kept_cells hC qr HWr.out
            have c0 := cells4 q3 0 _ rfl
            have c1 := cells4 q3 1 _ rfl
            have sl4 : a'.tmps[4]? = some (.pointer (some ⟨A, 0, none⟩)) := hfix 4 (by kernel_rfl)
            have sl7 : a'.tmps[7]? = some (.int .i64 i) := hfix 7 (by kernel_rfl)
            have hi : iR < 8 := (Array.getElem?_eq_some_iff.1 ho).1
            rcases (show iR = 0 ∨ iR = 1 ∨ iR = 2 ∨ iR = 3 ∨ iR = 4 ∨ iR = 5 ∨ iR = 6 ∨ iR = 7 by omega) with rfl | rfl | rfl | rfl | rfl | rfl | rfl | rfl
            · obtain rfl := Option.some.inj ho
              refine .inl ⟨rfl, fun K hK => ?_⟩
              clear hin hfix ho
              go_simp
              exact hK _ _ rfl hC (kept_refl hC)
            · obtain rfl := Option.some.inj ho
              refine .inl ⟨rfl, fun K hK => ?_⟩
              clear hin hfix ho
              go_simp
              exact hK _ _ rfl hC (kept_refl hC)
            · obtain ⟨v1, rfl, h1⟩ := hin 1 28 (by kernel_rfl) (by kernel_rfl)
              obtain rfl := Option.some.inj ho
              refine .inl ⟨rfl, fun K hK => ?_⟩
              clear hin hfix ho
              go_simp
              exact hK _ _ rfl hC (kept_refl hC)
            · obtain ⟨v2, rfl, h2⟩ := hin 2 29 (by kernel_rfl) (by kernel_rfl)
              obtain rfl := Option.some.inj ho
              refine .inl ⟨rfl, fun K hK => ?_⟩
              clear hin hfix ho
              go_simp
              refine (HAL.out _).mono ?_
              rintro e W3 ⟨rfl, hb3⟩
              exact hK _ _ rfl (kept_trans hC (kept_below hC.2 hb3)) (kept_below hC.2 hb3)
            · obtain rfl := Option.some.inj ho
              refine .inl ⟨rfl, fun K hK => ?_⟩
              clear hin hfix ho
              go_simp
              exact hK _ _ rfl hC (kept_refl hC)
            · obtain ⟨v4, rfl, h4⟩ := hin 4 31 (by kernel_rfl) (by kernel_rfl)
              obtain rfl := Option.some.inj ho
              refine .inl ⟨rfl, fun K hK => ?_⟩
              clear hin hfix ho
              go_simp
              refine (HON.out _).mono ?_
              rintro e W3 ⟨rfl, hb3⟩
              exact hK _ _ rfl (kept_trans hC (kept_below hC.2 hb3)) (kept_below hC.2 hb3)
            · obtain ⟨v3, rfl, h3⟩ := hin 3 30 (by kernel_rfl) (by kernel_rfl)
              obtain ⟨v5, rfl, h5⟩ := hin 5 32 (by kernel_rfl) (by kernel_rfl)
              obtain rfl := Option.some.inj ho
              refine .inl ⟨rfl, fun K hK => ?_⟩
              clear hin hfix ho
              go_simp
              refine (HWO.out _).mono ?_
              rintro e W3 ⟨rfl, hb3⟩
              exact hK _ _ rfl (kept_trans hC (kept_below hC.2 hb3)) (kept_below hC.2 hb3)
            · obtain ⟨v0, rfl, h0⟩ := hin 0 27 (by kernel_rfl) (by kernel_rfl)
              obtain ⟨v6, rfl, h6⟩ := hin 6 33 (by kernel_rfl) (by kernel_rfl)
              obtain rfl := Option.some.inj ho
              refine .inl ⟨rfl, fun K hK => ?_⟩
              clear hin hfix ho
              go_simp
              refine (HCO.out _ _ ha16 (fun j hj => kept_cell hC HWr.out rfl (HTr.out j hj)) (HMr.out.kept hC)).mono ?_
              rw [← HCB.out]
              rintro e W3 ⟨rfl, hk3⟩
              exact hK _ _ rfl (kept_trans hC hk3) hk3
          case hend =>
          intro vals W hC hV
          have z0 := hV 0 (by decide)
          have z1 := hV 1 (by decide)
          have z2 := hV 2 (by decide)
          have z3 := hV 3 (by decide)
          have z4 := hV 4 (by decide)
          have z5 := hV 5 (by decide)
          have z6 := hV 6 (by decide)
          have z7 := hV 7 (by decide)
          clear hV
          simp only at z0 z1 z2 z3 z4 z5 z6 z7
          have hr : List.range 8 = [0, 1, 2, 3, 4, 5, 6, 7] := rfl
          simp only [List.size_toArray, List.length_cons, List.length_nil, Nat.reduceAdd, List.drop_succ_cons, List.drop_zero, putA, hr, List.foldl_cons, List.foldl_nil, dstR, List.getElem?_toArray, List.getElem?_cons_succ, List.getElem?_cons_zero, Option.bind_some, Act.put, List.setIfInBounds_toArray, List.set_cons_succ, List.set_cons_zero, z0, z1, z2, z3, z4, z5, z6, z7]
          clear hr z0 z1 z2 z3 z4 z5 z6 z7
          have q8 := kept_cells hC qr HWr.out
          have HK8 := Lib.hid (kept_trans HK.out hC)
          clear hCd hC qr
          cases cb with
          | false =>
            have HN := Lib.hid (show lastK ms (i + 1) = nk by rw [HS.out, if_neg Bool.false_ne_true])
            clear HS
            go_wp2_with fail
            case roundEnd => exact ⟨⟨i + 1, by omega, by go_num, by rw [HN.out], q8, HK8⟩, by simp [intOf]; omega⟩
          | true =>
            have HN := Lib.hid (show lastK ms (i + 1) = nk ||| 2 ^ i by rw [HS.out, if_pos rfl])
            clear HS
            go_wp2_with fail
            refine (HWI.out _).mono ?_
            rintro e w9 ⟨rfl, hb9⟩
            have q9 := heap_below q8 hb9 (Array.getElem?_eq_some_iff.1 q8).1
            have HK9 := Lib.hid (kept_trans HK8.out (kept_below (v := .slice pa ms.length cap) HK8.out.2 hb9))
            go_wp2_with fail
            case roundEnd => exact ⟨⟨i + 1, by omega, by go_num, by rw [HN.out], q9, HK9⟩, by simp [intOf]; omega⟩
        · obtain rfl : i = ms.length := by omega
          have di : decide ((ms.length : Int) < (ms.length : Int)) = false := decide_eq_false (by omega)
          have HBf := Lib.hid (kept_out HK.out HB.out HB2.out)
          have HLI := Lib.hid (list_ok (lastK ms ms.length) wr (lastK_lt ms _ (by omega)) (HT.out.below HBf.out (Nat.le_refl _)))
          go_wp2_with fail
          refine HLI.out.mono ?_
          rintro e w9 ⟨⟨u, rfl, hrow, hnil⟩, hb9⟩
          go_wp2
          go_returns
          rw [HL0.out]
          exact ⟨⟨u, rfl, row_base hrow HBf.out.size, hnil⟩, up hb9 HBf.out⟩
  · have HN := Lib.hid (look_no ms v w hv hm hc)
    have HOL := Lib.hid (show lastL ms = [] by unfold lastL; simp [hc])
    rw [HOL.out]
    obtain ⟨c, hcc⟩ : ∃ c, c = chkM ms := ⟨_, rfl⟩
    rw [← hcc] at HN hc ⊢
    have hne : (c != 0) = true := by simpa using hc
    clear hcc hc hm
    go_enter Tryz.func54, Tryz.ntmps54
    go_wp2_with fail
    refine HN.out.mono ?_
    rintro e w1 ⟨rfl, hB1⟩
    go_wp2
    go_returns
    exact ⟨⟨_, rfl, World.ownsRow_nil _ _ _ _, by simp⟩, hB1.alloc hB1.size _⟩
end Go.Proofs.YtoajocgfmbakjaaGreatDoor
