/-
  Go.
-/
import Derived.Test.YtoajocgfmbakjaaGreatDoorPdA
set_option linter.unusedVariables false
set_option linter.unusedSimpArgs false
namespace Go.Proofs.YtoajocgfmbakjaaGreatDoor
open Go Go.RowKit Go.Shelf

/-- The error of a mould, a set and a piece. -/
def goErrP (ms : List Sol) (l : List Int) (p : Int) : Int := if errW ms l = 0 then (if (decide (0 ≤ p ∧ p < (ms.length : Int)) && !((setF ms.length l).getD 0).testBit p.toNat) = true then 0 else 1) else errW ms l
def goT (ms : List Sol) (l : List Int) (p : Int) : Option SD := if goErrP ms l p = 0 then firstG ms ((setF ms.length l).getD 0) p.toNat else none
theorem res_mee {fn : Func} {t s r : Tmp} {tmps : Array Value} {W : World} {B : Nat} {x y z : Value} (h : fn.results = #[.cell t 40, .tmp s, .tmp r]) (ht : tmps[t]?.getD undef = .pointer (some ⟨B, 0, none⟩)) (h0 : W.cell? ⟨B, 0, none⟩ = some x) (h1 : W.cell? ⟨B, 1, none⟩ = some y) (h2 : W.cell? ⟨B, 2, none⟩ = some z) :
    (results fn tmps).run Tryz.prog W = .ok (.tuple #[.agg #[x, y, z], tmps.getD s undef, tmps.getD r undef]) W := by
  simp [results, h, ht, go_sem, h0, h1, h2]
theorem below_putM {W w : World} {B : Nat} (x y z : Value) (h : Below w.heap.size w W) (hB : w.heap.size ≤ B) : Below w.heap.size w (putM W B x y z) :=
  have g := putM_grown W B x y z
  ⟨g.os.trans h.os, g.tape.trans h.tape, g.output.trans h.output, Nat.le_trans h.size g.size, fun k hk => (g.block k (Nat.lt_of_lt_of_le hk h.size) (fun e => by injection e with e; omega)).trans (h.block k hk)⟩
set_option maxRecDepth 100000 in
set_option maxHeartbeats 4000000 in
theorem goT_ok (ms : List Sol) (l : List Int) (p : Int) (v lv : Value) (w : World) (hv : SolsAt w v ms) (hl : IntsAt w lv l) (hm : ∀ m ∈ ms, Fit m) (h100 : l.length ≤ 100) :
    Calls Tryz.prog 39 #[v, lv, .int .i64 p] w (RetB (.tuple #[moveV p.toNat (goT ms l p), .bool (goT ms l p).isSome, .int .i64 (goErrP ms l p)]) w) := by
  have b0 : BoxM (w.alloc (.cells #[.int .i64 (0), .int .i64 (0), .int .i64 (0)] 40)) w.heap.size 0 0 0 := World.alloc_heap_new w _
  have hB0 : Below w.heap.size w (w.alloc (.cells #[.int .i64 (0), .int .i64 (0), .int .i64 (0)] 40)) := (Below.refl _ w).alloc (Nat.le_refl _) _
  have HG := Lib.hid (show goT ms l p = if goErrP ms l p = 0 then firstG ms ((setF ms.length l).getD 0) p.toNat else none from rfl)
  by_cases he : errW ms l = 0
  · obtain ⟨hc, g, hs⟩ : chkM ms = 0 ∧ ∃ g, setF ms.length l = some g := by
      rcases errW_ways ms l with ⟨h1, h2⟩ | ⟨h1, h2, h3⟩ | ⟨h1, h2, h3⟩
      · rw [h2] at he; exact absurd he h1
      · rw [h3] at he; cases he
      · exact ⟨h1, h2⟩
    have HY := Lib.hid (lookW_yes ms l g v lv (w.alloc (.cells #[.int .i64 (0), .int .i64 (0), .int .i64 (0)] 40)) (hv.below hB0 (Nat.le_refl _)) (hl.below hB0 (Nat.le_refl _)) hm hc h100 hs)
    have h12 := chkM_len hc
    have HM := Lib.hid hm
    have hg := setF_lt h12 hs
    rw [hs] at HG
    have HE := Lib.hid (show goErrP ms l p = if (decide (0 ≤ p ∧ p < (ms.length : Int)) && !g.testBit p.toNat) = true then 0 else 1 by unfold goErrP; rw [if_pos he, hs]; rfl)
    obtain ⟨E, hEE⟩ : ∃ E, E = goErrP ms l p := ⟨_, rfl⟩
    obtain ⟨T, hTT⟩ : ∃ T, T = goT ms l p := ⟨_, rfl⟩
    rw [← hEE] at HE HG ⊢
    rw [← hTT] at HG ⊢
    obtain ⟨pa, cap, rfl, _, _⟩ := hv
    clear hEE hTT
    clear hm hc he hs hl
    go_enter Tryz.func39, Tryz.ntmps39
    go_wp2_with fail
    refine HY.out.mono ?_
    rintro e w1 ⟨b, rfl, hb, hM1, hB1⟩
    have b1 := heap_below b0 hB1 (Array.getElem?_eq_some_iff.1 b0).1
    have hBw := up hB1 hB0
    have q2 : (w1.alloc (.cells #[.slice pa ms.length cap, .map (some b)] 101)).heap[w1.heap.size]? = some (.cells #[.slice pa ms.length cap, .map (some b)] 101 (0, 0)) := World.alloc_heap_new w1 _
    have hA := (Below.refl _ w1).alloc (Nat.le_refl _) (.cells #[.slice pa ms.length cap, .map (some b)] 101)
    have b2 := heap_below b1 hA (Array.getElem?_eq_some_iff.1 b1).1
    have HB2 := Lib.hid (hBw.trans (hA.mono hBw.size))
    have HM2 := Lib.hid (hM1.below hA)
    have HBB := Lib.hid (show w.heap.size ≤ b by rw [World.size_alloc] at hb; omega)
    have HIP := Lib.hid (fun W => isPiece_ok pa ms.length cap p W)
    have c0 := cells4 q2 0 _ rfl
    clear b0 hB0 b1 hBw hA hM1 hB1 hb
    go_wp2_with fail
    refine (HIP.out _).mono ?_
    rintro e w3 ⟨rfl, hb3⟩
    have b3 := heap_below b2 hb3 (Array.getElem?_eq_some_iff.1 b2).1
    have q3 := heap_below q2 hb3 (Array.getElem?_eq_some_iff.1 q2).1
    have HM3 := Lib.hid (HM2.out.below hb3)
    have HB3 := Lib.hid (up hb3 HB2.out)
    clear c0 b2 q2 hb3
    by_cases hp : 0 ≤ p ∧ p < (ms.length : Int)
    · obtain ⟨q, rfl⟩ : ∃ q : Nat, p = q := ⟨p.toNat, by omega⟩
      have hd : decide (0 ≤ (q : Int) ∧ (q : Int) < (ms.length : Int)) = true := decide_eq_true hp
      have hq : q < ms.length := by omega
      rw [hd, Int.toNat_natCast, Bool.true_and] at HE
      rw [Int.toNat_natCast] at HG ⊢
      obtain ⟨f, hf⟩ : ∃ f, ms[q]? = some f := ⟨_, List.getElem?_eq_getElem hq⟩
      have HFG := Lib.hid (show firstG ms g q = firstF ms g q f by unfold firstG; rw [hf])
      have HH := Lib.hid (fun W => has_ok g q hg (by omega) W)
      have HFI := Lib.hid (fun W (h : Mld W (.slice pa ms.length cap) b ms noBlk) => first_ok ms g q f (.slice pa ms.length cap) b W hf HM.out h12 hg noBlk (fun _ h => h.elim) h)
      clear hf
      go_wp2_with fail
      refine (HH.out _).mono ?_
      rintro e w4 ⟨rfl, hb4⟩
      have b4 := heap_below b3 hb4 (Array.getElem?_eq_some_iff.1 b3).1
      have q4 := heap_below q3 hb4 (Array.getElem?_eq_some_iff.1 q3).1
      have HM4 := Lib.hid (HM3.out.below hb4)
      have HB4 := Lib.hid (up hb4 HB3.out)
      clear b3 q3 hb4
      cases hbit : g.testBit q with
      | true =>
        have HE3 := Lib.hid (show E = 1 by rw [HE.out, hbit]; rfl)
        have HG3 := Lib.hid (show T = none by rw [HG.out, HE3.out]; rfl)
        clear HE HG
        obtain ⟨x0, x1, x2⟩ := cells3 b4
        have f0 := free3 b4 0
        have f1 := free3 b4 1
        have f2 := free3 b4 2
        go_wp2_with fail
        have b6 := blk3_set b4 (.int .i64 0) (.int .i64 0) (.int .i64 0)
        obtain ⟨d0, d1, d2⟩ := cells3 b6
        refine bodyPost_ret (res_mee Tryz.results39 rfl d0 d1 d2) rfl ⟨by rw [HE3.out, HG3.out]; rfl, below_putM _ _ _ HB4.out (Nat.le_refl _)⟩
      | false =>
        have HE3 := Lib.hid (show E = 0 by rw [HE.out, hbit]; rfl)
        have HG3 := Lib.hid (show firstF ms g q f = T by rw [HG.out, HE3.out, ← HFG.out]; rfl)
        clear HE HG HFG
        have c0 := cells4 q4 0 _ rfl
        have c1 := cells4 q4 1 _ rfl
        go_wp2_with fail
        refine (HFI.out _ HM4.out).mono ?_
        rintro e w5 ⟨rfl, hk5⟩
        rw [HG3.out]
        have b5 := kept_cells hk5 b4 HM4.out.ways
        have HB5 := Lib.hid (kept_out hk5 HBB.out HB4.out)
        obtain ⟨m1, m2, m3, hmv⟩ := moveV_agg q T
        have HMV := Lib.hid hmv
        rw [hmv]
        clear c0 c1 hk5 hmv b4 q4
        have q6 : (w5.alloc (.cells #[.int .i64 (m1), .int .i64 (m2), .int .i64 (m3)] 40)).heap[w5.heap.size]? = some (.cells #[.int .i64 (m1), .int .i64 (m2), .int .i64 (m3)] 40 (0, 0)) := World.alloc_heap_new w5 _
        have b6 := (Below.heap_alloc w5 (.cells #[.int .i64 (m1), .int .i64 (m2), .int .i64 (m3)] 40) _ (Array.getElem?_eq_some_iff.1 b5).1).trans b5
        have HB6 := Lib.hid (HB5.out.alloc HB5.out.size (.cells #[.int .i64 (m1), .int .i64 (m2), .int .i64 (m3)] 40))
        obtain ⟨y0, y1, y2⟩ := cells3 q6
        obtain ⟨x0, x1, x2⟩ := cells3 b6
        have f0 := free3 b6 0
        have f1 := free3 b6 1
        have f2 := free3 b6 2
        have HR6 := Lib.hid b6
        clear b5 b6 q6
        go_wp2_with fail
        have b7 := blk3_set HR6.out (.int .i64 m1) (.int .i64 m2) (.int .i64 m3)
        obtain ⟨d0, d1, d2⟩ := cells3 b7
        refine bodyPost_ret (res_mee Tryz.results39 rfl d0 d1 d2) rfl ⟨by rw [HE3.out, show moveV (q : Int).toNat T = _ from HMV.out]; rfl, below_putM _ _ _ HB6.out (Nat.le_refl _)⟩
    · have hd : decide (0 ≤ p ∧ p < (ms.length : Int)) = false := decide_eq_false hp
      have HE3 := Lib.hid (show E = 1 by rw [HE.out, hd]; rfl)
      have HG3 := Lib.hid (show T = none by rw [HG.out, HE3.out]; rfl)
      clear HE HG
      obtain ⟨x0, x1, x2⟩ := cells3 b3
      have f0 := free3 b3 0
      have f1 := free3 b3 1
      have f2 := free3 b3 2
      go_wp2_with fail
      have b6 := blk3_set b3 (.int .i64 0) (.int .i64 0) (.int .i64 0)
      obtain ⟨d0, d1, d2⟩ := cells3 b6
      refine bodyPost_ret (res_mee Tryz.results39 rfl d0 d1 d2) rfl ⟨by rw [HE3.out, HG3.out]; rfl, below_putM _ _ _ HB3.out (Nat.le_refl _)⟩
  · have HN := Lib.hid (lookW_no ms l v lv (w.alloc (.cells #[.int .i64 (0), .int .i64 (0), .int .i64 (0)] 40)) (hv.below hB0 (Nat.le_refl _)) (hl.below hB0 (Nat.le_refl _)) hm h100 he)
    have HE := Lib.hid (show goErrP ms l p = errW ms l from if_neg he)
    have HT := Lib.hid (show goT ms l p = none by rw [HG.out, HE.out, if_neg he])
    rw [HT.out, HE.out]
    obtain ⟨c, hcc⟩ : ∃ c, c = errW ms l := ⟨_, rfl⟩
    rw [← hcc] at HN he ⊢
    have hne : (c != 0) = true := by simpa using he
    clear hcc he hm HG HE HT
    go_enter Tryz.func39, Tryz.ntmps39
    go_wp2_with fail
    refine HN.out.mono ?_
    rintro e w1 ⟨rfl, hB1⟩
    have b1 := heap_below b0 hB1 (Array.getElem?_eq_some_iff.1 b0).1
    have hBw := up hB1 hB0
    have hA := (Below.refl _ w1).alloc (Nat.le_refl _) (.cells #[.slice none 0 0, .map none] 101)
    have b2 := heap_below b1 hA (Array.getElem?_eq_some_iff.1 b1).1
    have HB2 := Lib.hid (hBw.trans (hA.mono hBw.size))
    obtain ⟨x0, x1, x2⟩ := cells3 b2
    have f0 := free3 b2 0
    have f1 := free3 b2 1
    have f2 := free3 b2 2
    have HR2 := Lib.hid b2
    clear b0 b1 hBw hA b2 hB1 hB0
    go_wp2_with fail
    have b6 := blk3_set HR2.out (.int .i64 0) (.int .i64 0) (.int .i64 0)
    obtain ⟨d0, d1, d2⟩ := cells3 b6
    refine bodyPost_ret (res_mee Tryz.results39 rfl d0 d1 d2) rfl ⟨rfl, below_putM _ _ _ HB2.out (Nat.le_refl _)⟩
end Go.Proofs.YtoajocgfmbakjaaGreatDoor
