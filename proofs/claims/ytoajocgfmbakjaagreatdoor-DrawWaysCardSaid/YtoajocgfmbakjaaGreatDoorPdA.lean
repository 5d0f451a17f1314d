/-
  Whether some order begins with a set.
-/
import Derived.Test.YtoajocgfmbakjaaGreatDoorPdM
set_option linter.unusedVariables false
set_option linter.unusedSimpArgs false
namespace Go.Proofs.YtoajocgfmbakjaaGreatDoor
open Go Go.RowKit Go.Shelf

def comesB (ms : List Sol) (s : Nat) : Bool := decide ((orderF ms s).2 = s)
theorem stepsK_lt {ms : List Sol} {of : Nat} (h12 : ms.length ≤ 12) : ∀ (n g : Nat), g < 65536 → (stepsK ms of n g).2 < 65536
  | 0, g, h => h
  | n + 1, g, h => by
    unfold stepsK
    split
    · exact h
    · rename_i h0
      obtain ⟨h1, _, _⟩ := now_bit h12 h0
      exact stepsK_lt h12 n _ (or16 h (pow16_lt (by omega)))
set_option maxRecDepth 100000 in
set_option maxHeartbeats 2000000 in
theorem comes_ok (ms : List Sol) (s : Nat) (v : Value) (b : Nat) (w : World) (hm : ∀ m ∈ ms, Fit m) (h12 : ms.length ≤ 12) (hs : s < 65536) (hT : Tab32 w) (av : Nat → Prop) (hav : ∀ k, av k → k < w.heap.size) (hv : Mld w v b ms av) :
    Calls Tryz.prog 120 #[mldV v b, setV s] w (RetK (.bool (comesB ms s)) b v ms av w) := by
  have HV := Lib.hid hv
  obtain ⟨W1, hW1⟩ : ∃ W1, W1 = w.alloc (.cells #[v, .map (some b)] 101) := ⟨_, rfl⟩
  have hB1 : Below w.heap.size w W1 := by rw [hW1]; exact (Below.refl _ w).alloc (Nat.le_refl _) _
  have HK1 := Lib.hid (kept_below (v := v) HV.out.ways hB1)
  have H0 := order_ok ms s v b W1 hm h12 hs (hT.below hB1 (Nat.le_refl _)) av (fun k hk => Nat.lt_of_lt_of_le (hav k hk) hB1.size) (HV.out.kept HK1.out)
  rw [hW1] at H0
  have HO := Lib.hid H0
  have HC := Lib.hid (show comesB ms s = decide ((orderF ms s).2 = s) from rfl)
  obtain ⟨pa, cap, rfl, _, _⟩ := hv.sols
  clear H0 hm hT hv
  go_enter Tryz.func120, Tryz.ntmps120
  go_wp2_with fail
  refine HO.out.mono ?_
  rw [← hW1]
  rintro e w2 ⟨⟨u, rfl, _, _⟩, hk2⟩
  have HK2 := Lib.hid (kept_trans HK1.out hk2)
  clear hW1 hB1 hk2 HO
  generalize (orderF ms s).2 = R at *
  by_cases hr : R = s
  · have hd : ((R : Int) == (s : Int)) = true := by rw [hr]; simp
    go_wp2_with fail
    go_ret
    exact ⟨by rw [HC.out, decide_eq_true hr]; rfl, HK2.out⟩
  · have hd : ((R : Int) == (s : Int)) = false := by rw [beq_eq_false_iff_ne]; omega
    go_wp2_with fail
    go_ret
    exact ⟨by rw [HC.out, decide_eq_false hr]; rfl, HK2.out⟩
end Go.Proofs.YtoajocgfmbakjaaGreatDoor
/-
  The set with a list of pieces.
-/
set_option linter.unusedVariables false
set_option linter.unusedSimpArgs false
namespace Go.Proofs.YtoajocgfmbakjaaGreatDoor
open Go Go.RowKit Go.Shelf

/-- A row of numbers, wherever it lies. -/
def IntsAt (W : World) (v : Value) (l : List Int) : Prop := ∃ pa cap, v = .slice pa l.length cap ∧ l.length ≤ maxLen ∧
  (l = [] ∨ ∃ b o, pa = some ⟨b, o, none⟩ ∧ b < W.heap.size ∧ ∀ i x, l[i]? = some x → W.cell? ⟨b, o + i, none⟩ = some (.int .i64 x))
theorem IntsAt.at {W : World} {v : Value} {l : List Int} (h : IntsAt W v l) {i : Nat} {x : Int} (hx : l[i]? = some x) : ∃ b o cap, v = .slice (some ⟨b, o, none⟩) l.length cap ∧ b < W.heap.size ∧ W.cell? ⟨b, o + i, none⟩ = some (.int .i64 x) := by
  obtain ⟨pa, cap, rfl, h2, h3⟩ := h
  rcases h3 with rfl | ⟨b, o, rfl, hb, hc⟩
  · simp at hx
  · exact ⟨b, o, cap, rfl, hb, hc i x hx⟩
theorem IntsAt.below {n : Nat} {W W' : World} {v : Value} {l : List Int} (h : IntsAt W v l) (hb : Below n W W') (hn : W.heap.size ≤ n) : IntsAt W' v l := by
  obtain ⟨pa, cap, rfl, h2, h3⟩ := h
  refine ⟨pa, cap, rfl, h2, h3.imp id ?_⟩
  rintro ⟨b, o, e1, e2, e3⟩
  exact ⟨b, o, e1, Nat.lt_of_lt_of_le e2 hb.size, fun i x hx => (hb.cell (p := ⟨b, o + i, none⟩) (Nat.lt_of_lt_of_le e2 hn)).trans (e3 i x hx)⟩
def setK (n : Nat) : Nat → Int → List Int → Option Nat
  | s, _, [] => some s
  | s, bf, p :: l => if bf < p ∧ 0 ≤ p ∧ p < n then setK n (s ||| 2 ^ p.toNat) p l else none
/-- The set of a list of pieces, if it is one. -/
def setF (n : Nat) (l : List Int) : Option Nat := setK n 0 (-1) l
set_option maxRecDepth 100000 in
set_option maxHeartbeats 2000000 in
theorem setOf_ok (pa : Option Addr) (n c : Nat) (l : List Int) (lv : Value) (w : World) (hn : n ≤ 12) (hl : IntsAt w lv l) (h100 : l.length ≤ 100) :
    Calls Tryz.prog 132 #[.slice pa n c, lv] w (RetB (.tuple #[setV ((setF n l).getD 0), .bool (setF n l).isSome]) w) := by
  have HL := Lib.hid hl
  obtain ⟨pl, cl, rfl, hlx, _⟩ := hl
  go_enter Tryz.func132, Tryz.ntmps132
  go_wp2_with fail
  go_loopw [6, 7, 12] (fun sv bv z wr => ∃ (i s : Nat) (bf : Int), i ≤ l.length ∧ z = .int .i64 i ∧ sv = setV s ∧ s < 65536 ∧ bv = .int .i64 bf ∧ Hid (setF n l = setK n s bf (l.drop i)) ∧ Hid (Below w.heap.size w wr)) (fun _ _ z _ => l.length - (intOf z).toNat)
  case atStart => exact ⟨0, 0, -1, by omega, rfl, rfl, by omega, rfl, Lib.hid rfl, Lib.hid (Below.refl _ _)⟩
  case round =>
    obtain ⟨i, s, bf, hi, rfl, rfl, hs, rfl, HT, HB⟩ := hrel
    by_cases hlt : i < l.length
    · have di : decide ((i : Int) < (l.length : Int)) = true := decide_eq_true (by omega)
      have hii : (i : Int) < (l.length : Int) := by omega
      obtain ⟨p, hp⟩ : ∃ p, l[i]? = some p := ⟨_, List.getElem?_eq_getElem hlt⟩
      obtain ⟨b1, o1, cl', he, hb1, x0⟩ := HL.out.at hp
      obtain ⟨rfl, rfl⟩ : pl = some ⟨b1, o1, none⟩ ∧ cl = cl' := by injection he with e1 e2 e3; exact ⟨e1, e3⟩
      have y0 := (HB.out.cell (p := ⟨b1, o1 + i, none⟩) hb1).trans x0
      have HE := Lib.hid (show setK n s bf (l.drop i) = if bf < p ∧ 0 ≤ p ∧ p < n then setK n (s ||| 2 ^ p.toNat) p (l.drop (i + 1)) else none by
        rw [List.drop_eq_getElem_cons hlt]
        have : l[i] = p := by rw [List.getElem?_eq_getElem hlt] at hp; exact Option.some.inj hp
        rw [this]; rfl)
      have HIP := Lib.hid (fun W => isPiece_ok pa n c p W)
      clear x0 he hp
      by_cases hle : p ≤ bf
      · have hd : decide (p ≤ bf) = true := decide_eq_true hle
        have HR := Lib.hid (show setF n l = none by rw [HT.out, HE.out, if_neg (by omega)])
        go_wp2_with fail
        go_returns
        exact ⟨by rw [HR.out]; rfl, HB.out⟩
      · have hd : decide (p ≤ bf) = false := decide_eq_false hle
        go_wp2_with fail
        refine (HIP.out _).mono ?_
        rintro e w2 ⟨rfl, hb2⟩
        have HB2 := Lib.hid (up hb2 HB.out)
        clear hb2 y0
        by_cases hpc : 0 ≤ p ∧ p < (n : Int)
        · have hd2 : decide (0 ≤ p ∧ p < (n : Int)) = true := decide_eq_true hpc
          have HR := Lib.hid (show setF n l = setK n (s ||| 2 ^ p.toNat) p (l.drop (i + 1)) by rw [HT.out, HE.out, if_pos ⟨by omega, hpc⟩])
          obtain ⟨p', rfl⟩ : ∃ p' : Nat, p = p' := ⟨p.toNat, by omega⟩
          have hp16 : p' < 16 := by omega
          rw [Int.toNat_natCast] at HR
          have HWI := Lib.hid (fun W => with_ok s p' hs hp16 W)
          have hs2 := or16 hs (pow16_lt hp16)
          clear HE
          go_wp2_with fail
          refine (HWI.out _).mono ?_
          rintro e w3 ⟨rfl, hb3⟩
          have HB3 := Lib.hid (up hb3 HB2.out)
          go_wp2_with fail
          case roundEnd => exact ⟨⟨i + 1, _, _, by omega, by go_num, rfl, hs2, rfl, HR, HB3⟩, by simp [intOf]; omega⟩
        · have hd2 : decide (0 ≤ p ∧ p < (n : Int)) = false := decide_eq_false hpc
          have HR := Lib.hid (show setF n l = none by rw [HT.out, HE.out, if_neg (fun h => hpc h.2)])
          go_wp2_with fail
          go_returns
          exact ⟨by rw [HR.out]; rfl, HB2.out⟩
    · obtain rfl : i = l.length := by omega
      have di : decide ((l.length : Int) < (l.length : Int)) = false := decide_eq_false (by omega)
      have HR := Lib.hid (show setF n l = some s by rw [HT.out, List.drop_length]; rfl)
      go_wp2_with fail
      go_returns
      exact ⟨by rw [HR.out]; rfl, HB.out⟩
end Go.Proofs.YtoajocgfmbakjaaGreatDoor
/-
  A mould is looked at, some pieces having gone.
-/
set_option linter.unusedVariables false
set_option linter.unusedSimpArgs false
namespace Go.Proofs.YtoajocgfmbakjaaGreatDoor
open Go Go.RowKit Go.Shelf

theorem res_low {fn : Func} {t s r : Tmp} {tmps : Array Value} {W : World} {B : Nat} {x y : Value} (h : fn.results = #[.cell t 101, .tmp s, .tmp r]) (ht : tmps[t]?.getD undef = .pointer (some ⟨B, 0, none⟩)) (h0 : W.cell? ⟨B, 0, none⟩ = some x) (h1 : W.cell? ⟨B, 1, none⟩ = some y) :
    (results fn tmps).run Tryz.prog W = .ok (.tuple #[.agg #[x, y], tmps.getD s undef, tmps.getD r undef]) W := by
  simp [results, h, ht, go_sem, h0, h1]
theorem below_put2 {W : World} {w : World} {B : Nat} (x y : Value) (h : Below w.heap.size w W) (hB : w.heap.size ≤ B) : Below w.heap.size w (put2 W B x y) :=
  have g := put2_grown W B x y
  ⟨g.os.trans h.os, g.tape.trans h.tape, g.output.trans h.output, Nat.le_trans h.size g.size, fun k hk => (g.block k (Nat.lt_of_lt_of_le hk h.size) (fun e => by injection e with e; omega)).trans (h.block k hk)⟩
set_option maxRecDepth 100000 in
set_option maxHeartbeats 2000000 in
theorem lookW_yes (ms : List Sol) (l : List Int) (s : Nat) (v lv : Value) (w : World) (hv : SolsAt w v ms) (hl : IntsAt w lv l) (hm : ∀ m ∈ ms, Fit m) (hc : chkM ms = 0) (h100 : l.length ≤ 100) (hs : setF ms.length l = some s) :
    Calls Tryz.prog 95 #[v, lv] w fun e w' => ∃ b, e = .returned (.tuple #[mldV v b, setV s, .int .i64 0]) ∧ w.heap.size ≤ b ∧ Mld w' v b ms noBlk ∧ Below w.heap.size w w' := by
  have HLV := Lib.hid hl
  have HV := Lib.hid hv
  have h12 := chkM_len hc
  have hB0 : Below w.heap.size w (w.alloc (.cells #[.slice none 0 0, .map none] 101)) := (Below.refl _ w).alloc (Nat.le_refl _) _
  have r0 : (w.alloc (.cells #[.slice none 0 0, .map none] 101)).heap[w.heap.size]? = some (.cells #[.slice none 0 0, .map none] 101 (0, 0)) := World.alloc_heap_new w _
  have HY := Lib.hid (look_yes ms v (w.alloc (.cells #[.slice none 0 0, .map none] 101)) (hv.below hB0 (Nat.le_refl _)) hm hc)
  obtain ⟨pa, cap, rfl, _, _⟩ := hv
  have HSO := Lib.hid (fun W (h : IntsAt W lv l) => setOf_ok pa ms.length cap l lv W h12 h h100)
  have HS := Lib.hid hs
  clear hm hc hl hs
  go_enter Tryz.func95, Tryz.ntmps95
  go_wp2_with fail
  refine HY.out.mono ?_
  rintro e w1 ⟨b, rfl, hb, hM1, hB1⟩
  have r1 := heap_below r0 hB1 (Array.getElem?_eq_some_iff.1 r0).1
  have hBw := up hB1 hB0
  have q2 : (w1.alloc (.cells #[.slice pa ms.length cap, .map (some b)] 101)).heap[w1.heap.size]? = some (.cells #[.slice pa ms.length cap, .map (some b)] 101 (0, 0)) := World.alloc_heap_new w1 _
  have hA := (Below.refl _ w1).alloc (Nat.le_refl _) (.cells #[.slice pa ms.length cap, .map (some b)] 101)
  have hB2 : Below w.heap.size w (w1.alloc (.cells #[.slice pa ms.length cap, .map (some b)] 101)) := hBw.trans (hA.mono hBw.size)
  have r2 := heap_below r1 hA (Array.getElem?_eq_some_iff.1 r1).1
  have c0 := cells4 q2 0 _ rfl
  have HSW := Lib.hid (HSO.out _ (HLV.out.below hB2 (Nat.le_refl _)))
  have hsz : w.heap.size ≤ b := by rw [World.size_alloc] at hb; omega
  have HB := Lib.hid hsz
  have HM2 := Lib.hid (hM1.below hA)
  have HB2 := Lib.hid hB2
  clear r0 hB0 hB1 r1 hBw hA hB2 hM1 hb hsz HSO
  go_wp2_with fail
  rw [HS.out] at HSW
  refine HSW.out.mono ?_
  rintro e w3 ⟨rfl, hb3⟩
  have r3 := heap_below r2 hb3 (Array.getElem?_eq_some_iff.1 r2).1
  have q3 := heap_below q2 hb3 (Array.getElem?_eq_some_iff.1 q2).1
  have HM3 := Lib.hid (HM2.out.below hb3)
  have HB3 := Lib.hid (up hb3 HB2.out)
  clear c0 r2 q2 hb3 HSW
  have c0 := cells4 q3 0 _ rfl
  have c1 := cells4 q3 1 _ rfl
  have d0 := cells4 r3 0 _ rfl
  have d1 := cells4 r3 1 _ rfl
  have f0 := free3 r3 0
  have f1 := free3 r3 1
  have HR3 := Lib.hid r3
  go_wp2_with fail
  have b4 := blk2_set HR3.out (.slice pa ms.length cap) (.map (some b))
  have hBf := below_put2 (.slice pa ms.length cap) (.map (some b)) HB3.out (Nat.le_refl _)
  refine bodyPost_ret (res_low Tryz.results95 rfl (cells4 b4 0 _ rfl) (cells4 b4 1 _ rfl)) rfl ⟨b, rfl, HB.out, ⟨HV.out.below hBf (Nat.le_refl _), HM3.out.ways.set HR3.out (.inl (by decide)) (put2_grown _ _ _ _)⟩, hBf⟩
end Go.Proofs.YtoajocgfmbakjaaGreatDoor
/-
  lookWithout: no mould, or no set; Ready.
-/
set_option linter.unusedVariables false
set_option linter.unusedSimpArgs false
namespace Go.Proofs.YtoajocgfmbakjaaGreatDoor
open Go Go.RowKit Go.Shelf

set_option maxRecDepth 100000 in
set_option maxHeartbeats 2000000 in
theorem lookW_bad (ms : List Sol) (v lv : Value) (w : World) (hv : SolsAt w v ms) (hm : ∀ m ∈ ms, Fit m) (hc : chkM ms ≠ 0) :
    Calls Tryz.prog 95 #[v, lv] w (RetB (.tuple #[.agg #[.slice none 0 0, .map none], setV 0, .int .i64 (chkM ms)]) w) := by
  have hB0 : Below w.heap.size w (w.alloc (.cells #[.slice none 0 0, .map none] 101)) := (Below.refl _ w).alloc (Nat.le_refl _) _
  have r0 : (w.alloc (.cells #[.slice none 0 0, .map none] 101)).heap[w.heap.size]? = some (.cells #[.slice none 0 0, .map none] 101 (0, 0)) := World.alloc_heap_new w _
  have HN0 := look_no ms v (w.alloc (.cells #[.slice none 0 0, .map none] 101)) (hv.below hB0 (Nat.le_refl _)) hm hc
  obtain ⟨c, hcc⟩ : ∃ c, c = chkM ms := ⟨_, rfl⟩
  rw [← hcc] at HN0 hc ⊢
  have HN := Lib.hid HN0
  have hne : (c != 0) = true := by simpa using hc
  clear hcc hc hm HN0 hv
  go_enter Tryz.func95, Tryz.ntmps95
  go_wp2_with fail
  refine HN.out.mono ?_
  rintro e w1 ⟨rfl, hB1⟩
  have r1 := heap_below r0 hB1 (Array.getElem?_eq_some_iff.1 r0).1
  have hBw := up hB1 hB0
  have hA := (Below.refl _ w1).alloc (Nat.le_refl _) (.cells #[.slice none 0 0, .map none] 101)
  have HB2 := Lib.hid (hBw.trans (hA.mono hBw.size))
  have r2 := heap_below r1 hA (Array.getElem?_eq_some_iff.1 r1).1
  have d0 := cells4 r2 0 _ rfl
  have d1 := cells4 r2 1 _ rfl
  have f0 := free3 r2 0
  have f1 := free3 r2 1
  have HR := Lib.hid r2
  clear r0 r1 hB0 hB1 hBw hA r2
  go_wp2_with fail
  have b4 := blk2_set HR.out (.slice none 0 0) (.map none)
  refine bodyPost_ret (res_low Tryz.results95 rfl (cells4 b4 0 _ rfl) (cells4 b4 1 _ rfl)) rfl ⟨rfl, below_put2 _ _ HB2.out (Nat.le_refl _)⟩
set_option maxRecDepth 100000 in
set_option maxHeartbeats 2000000 in
theorem lookW_arg (ms : List Sol) (l : List Int) (v lv : Value) (w : World) (hv : SolsAt w v ms) (hl : IntsAt w lv l) (hm : ∀ m ∈ ms, Fit m) (hc : chkM ms = 0) (h100 : l.length ≤ 100) (hs : setF ms.length l = none) :
    Calls Tryz.prog 95 #[v, lv] w (RetB (.tuple #[.agg #[.slice none 0 0, .map none], setV 0, .int .i64 1]) w) := by
  have HLV := Lib.hid hl
  have h12 := chkM_len hc
  have hB0 : Below w.heap.size w (w.alloc (.cells #[.slice none 0 0, .map none] 101)) := (Below.refl _ w).alloc (Nat.le_refl _) _
  have r0 : (w.alloc (.cells #[.slice none 0 0, .map none] 101)).heap[w.heap.size]? = some (.cells #[.slice none 0 0, .map none] 101 (0, 0)) := World.alloc_heap_new w _
  have HY := Lib.hid (look_yes ms v (w.alloc (.cells #[.slice none 0 0, .map none] 101)) (hv.below hB0 (Nat.le_refl _)) hm hc)
  obtain ⟨pa, cap, rfl, _, _⟩ := hv
  have HSO := Lib.hid (fun W (h : IntsAt W lv l) => setOf_ok pa ms.length cap l lv W h12 h h100)
  have HS := Lib.hid hs
  clear hm hc hl hs
  go_enter Tryz.func95, Tryz.ntmps95
  go_wp2_with fail
  refine HY.out.mono ?_
  rintro e w1 ⟨b, rfl, hb, hM1, hB1⟩
  have r1 := heap_below r0 hB1 (Array.getElem?_eq_some_iff.1 r0).1
  have hBw := up hB1 hB0
  have q2 : (w1.alloc (.cells #[.slice pa ms.length cap, .map (some b)] 101)).heap[w1.heap.size]? = some (.cells #[.slice pa ms.length cap, .map (some b)] 101 (0, 0)) := World.alloc_heap_new w1 _
  have hA := (Below.refl _ w1).alloc (Nat.le_refl _) (.cells #[.slice pa ms.length cap, .map (some b)] 101)
  have hB2 : Below w.heap.size w (w1.alloc (.cells #[.slice pa ms.length cap, .map (some b)] 101)) := hBw.trans (hA.mono hBw.size)
  have r2 := heap_below r1 hA (Array.getElem?_eq_some_iff.1 r1).1
  have c0 := cells4 q2 0 _ rfl
  have HSW := Lib.hid (HSO.out _ (HLV.out.below hB2 (Nat.le_refl _)))
  have HB2 := Lib.hid hB2
  clear r0 hB0 hB1 r1 hBw hA hB2 hM1 hb HSO q2
  go_wp2_with fail
  rw [HS.out] at HSW
  refine HSW.out.mono ?_
  rintro e w3 ⟨rfl, hb3⟩
  have r3 := heap_below r2 hb3 (Array.getElem?_eq_some_iff.1 r2).1
  have HB3 := Lib.hid (up hb3 HB2.out)
  clear c0 r2 hb3 HSW
  have d0 := cells4 r3 0 _ rfl
  have d1 := cells4 r3 1 _ rfl
  have f0 := free3 r3 0
  have f1 := free3 r3 1
  have HR3 := Lib.hid r3
  go_wp2_with fail
  have b4 := blk2_set HR3.out (.slice none 0 0) (.map none)
  refine bodyPost_ret (res_low Tryz.results95 rfl (cells4 b4 0 _ rfl) (cells4 b4 1 _ rfl)) rfl ⟨rfl, below_put2 _ _ HB3.out (Nat.le_refl _)⟩
end Go.Proofs.YtoajocgfmbakjaaGreatDoor
/-
  Ready; First.
-/
set_option linter.unusedVariables false
set_option linter.unusedSimpArgs false
namespace Go.Proofs.YtoajocgfmbakjaaGreatDoor
open Go Go.RowKit Go.Shelf

/-- The error of a mould and a set; the set. -/
def errW (ms : List Sol) (l : List Int) : Int := if chkM ms = 0 then (if (setF ms.length l).isSome then 0 else 1) else chkM ms
def readyL (ms : List Sol) (l : List Int) : List Nat := if errW ms l = 0 then listS (readyF ms ((setF ms.length l).getD 0)) else []
theorem setK_lt {n : Nat} (hn : n ≤ 12) : ∀ (l : List Int) (s : Nat) (bf : Int) (t : Nat), s < 65536 → setK n s bf l = some t → t < 65536
  | [], s, bf, t, hs, h => by
    cases h
    exact hs
  | p :: l, s, bf, t, hs, h => by
    unfold setK at h
    split at h
    · rename_i hc
      exact setK_lt hn l _ _ t (or16 hs (pow16_lt (by omega))) h
    · cases h
theorem setF_lt {n : Nat} (hn : n ≤ 12) {l : List Int} {t : Nat} (h : setF n l = some t) : t < 65536 := setK_lt hn l 0 (-1) t (by omega) h
/-- The three ways. -/
theorem errW_ways (ms : List Sol) (l : List Int) : (chkM ms ≠ 0 ∧ errW ms l = chkM ms) ∨ (chkM ms = 0 ∧ setF ms.length l = none ∧ errW ms l = 1) ∨ (chkM ms = 0 ∧ (∃ s, setF ms.length l = some s) ∧ errW ms l = 0) := by
  unfold errW
  by_cases h : chkM ms = 0
  · rw [if_pos h]
    cases hs : setF ms.length l with
    | none => exact .inr (.inl ⟨h, rfl, rfl⟩)
    | some s => exact .inr (.inr ⟨h, ⟨s, rfl⟩, rfl⟩)
  · exact .inl ⟨h, if_neg h⟩
/-- lookWithout where it fails. -/
theorem lookW_no (ms : List Sol) (l : List Int) (v lv : Value) (w : World) (hv : SolsAt w v ms) (hl : IntsAt w lv l) (hm : ∀ m ∈ ms, Fit m) (h100 : l.length ≤ 100) (he : errW ms l ≠ 0) :
    Calls Tryz.prog 95 #[v, lv] w (RetB (.tuple #[.agg #[.slice none 0 0, .map none], setV 0, .int .i64 (errW ms l)]) w) := by
  rcases errW_ways ms l with ⟨h1, h2⟩ | ⟨h1, h2, h3⟩ | ⟨h1, h2, h3⟩
  · rw [h2]; exact lookW_bad ms v lv w hv hm h1
  · rw [h3]; exact lookW_arg ms l v lv w hv hl hm h1 h100 h2
  · exact absurd h3 he
set_option maxRecDepth 100000 in
set_option maxHeartbeats 2000000 in
theorem readyT_ok (ms : List Sol) (l : List Int) (v lv : Value) (w : World) (hv : SolsAt w v ms) (hl : IntsAt w lv l) (hm : ∀ m ∈ ms, Fit m) (h100 : l.length ≤ 100) (hT : Tab32 w) :
    Calls Tryz.prog 41 #[v, lv] w fun e w' => (∃ u, e = .returned (.tuple #[u, .int .i64 (errW ms l)]) ∧ w'.ownsRow w.heap.size 3 1 u (readyL ms l).length (flatI (readyL ms l)) ∧ (u = .slice none 0 0 ↔ readyL ms l = [])) ∧ Below w.heap.size w w' := by
  have HT := Lib.hid hT
  clear hT
  by_cases he : errW ms l = 0
  · obtain ⟨hc, s, hs⟩ : chkM ms = 0 ∧ ∃ s, setF ms.length l = some s := by
      rcases errW_ways ms l with ⟨h1, h2⟩ | ⟨h1, h2, h3⟩ | ⟨h1, h2, h3⟩
      · rw [h2] at he; exact absurd he h1
      · rw [h3] at he; cases he
      · exact ⟨h1, h2⟩
    have HY := Lib.hid (lookW_yes ms l s v lv w hv hl hm hc h100 hs)
    have h12 := chkM_len hc
    have HM := Lib.hid hm
    have hs16 := setF_lt h12 hs
    have HO := Lib.hid (show readyL ms l = listS (readyF ms s) by unfold readyL; rw [if_pos he, hs]; rfl)
    rw [he, HO.out]
    have hl16 : readyF ms s < 65536 := readyK_lt ms s ms.length (by omega)
    obtain ⟨pa, cap, rfl, _, _⟩ := hv
    clear hm hc he hs hl
    go_enter Tryz.func41, Tryz.ntmps41
    go_wp2_with fail
    refine HY.out.mono ?_
    rintro e w1 ⟨b, rfl, hb, hM1, hB1⟩
    have q1 : (w1.alloc (.cells #[.slice pa ms.length cap, .map (some b)] 101)).heap[w1.heap.size]? = some (.cells #[.slice pa ms.length cap, .map (some b)] 101 (0, 0)) := World.alloc_heap_new w1 _
    have hA := (Below.refl _ w1).alloc (Nat.le_refl _) (.cells #[.slice pa ms.length cap, .map (some b)] 101)
    have hB2 : Below w.heap.size w (w1.alloc (.cells #[.slice pa ms.length cap, .map (some b)] 101)) := hB1.trans (hA.mono hB1.size)
    have c0 := cells4 q1 0 _ rfl
    have c1 := cells4 q1 1 _ rfl
    have HG := Lib.hid (ready_ok ms s (.slice pa ms.length cap) b _ HM.out h12 hs16 noBlk (fun _ h => h.elim) (hM1.below hA))
    have HB2 := Lib.hid hB2
    have HB := Lib.hid hb
    clear q1 hA hB2 hM1 hB1 hb
    go_wp2_with fail
    refine HG.out.mono ?_
    rintro e w3 ⟨rfl, hk3⟩
    have HB3 := Lib.hid (kept_out hk3 HB.out HB2.out)
    clear c0 c1 hk3 HG
    have HL := Lib.hid (list_ok (readyF ms s) w3 hl16 (HT.out.below HB3.out (Nat.le_refl _)))
    go_wp2_with fail
    refine HL.out.mono ?_
    rintro e w4 ⟨⟨u, rfl, hrow, hnil⟩, hb4⟩
    go_wp2
    go_returns
    exact ⟨⟨u, rfl, row_base hrow HB3.out.size, hnil⟩, up hb4 HB3.out⟩
  · have HN := Lib.hid (lookW_no ms l v lv w hv hl hm h100 he)
    have HO := Lib.hid (show readyL ms l = [] from if_neg he)
    rw [HO.out]
    obtain ⟨c, hcc⟩ : ∃ c, c = errW ms l := ⟨_, rfl⟩
    rw [← hcc] at HN he ⊢
    have hne : (c != 0) = true := by simpa using he
    clear hcc he hm
    go_enter Tryz.func41, Tryz.ntmps41
    go_wp2_with fail
    refine HN.out.mono ?_
    rintro e w1 ⟨rfl, hB1⟩
    go_wp2
    go_returns
    exact ⟨⟨_, rfl, World.ownsRow_nil _ _ _ _, by simp⟩, hB1.alloc hB1.size _⟩
end Go.Proofs.YtoajocgfmbakjaaGreatDoor
/-
  First.
-/
set_option linter.unusedVariables false
set_option linter.unusedSimpArgs false
namespace Go.Proofs.YtoajocgfmbakjaaGreatDoor
open Go Go.RowKit Go.Shelf

def firstB (ms : List Sol) (l : List Int) : Bool := if errW ms l = 0 then comesB ms ((setF ms.length l).getD 0) else false
set_option maxRecDepth 100000 in
set_option maxHeartbeats 2000000 in
theorem firstT_ok (ms : List Sol) (l : List Int) (v lv : Value) (w : World) (hv : SolsAt w v ms) (hl : IntsAt w lv l) (hm : ∀ m ∈ ms, Fit m) (h100 : l.length ≤ 100) (hT : Tab32 w) :
    Calls Tryz.prog 63 #[v, lv] w (RetB (.tuple #[.bool (firstB ms l), .int .i64 (errW ms l)]) w) := by
  have HT := Lib.hid hT
  clear hT
  by_cases he : errW ms l = 0
  · obtain ⟨hc, s, hs⟩ : chkM ms = 0 ∧ ∃ s, setF ms.length l = some s := by
      rcases errW_ways ms l with ⟨h1, h2⟩ | ⟨h1, h2, h3⟩ | ⟨h1, h2, h3⟩
      · rw [h2] at he; exact absurd he h1
      · rw [h3] at he; cases he
      · exact ⟨h1, h2⟩
    have HY := Lib.hid (lookW_yes ms l s v lv w hv hl hm hc h100 hs)
    have h12 := chkM_len hc
    have HM := Lib.hid hm
    have hs16 := setF_lt h12 hs
    have HO := Lib.hid (show firstB ms l = comesB ms s by unfold firstB; rw [if_pos he, hs]; rfl)
    rw [he, HO.out]
    obtain ⟨pa, cap, rfl, _, _⟩ := hv
    clear hm hc he hs hl
    go_enter Tryz.func63, Tryz.ntmps63
    go_wp2_with fail
    refine HY.out.mono ?_
    rintro e w1 ⟨b, rfl, hb, hM1, hB1⟩
    have q1 : (w1.alloc (.cells #[.slice pa ms.length cap, .map (some b)] 101)).heap[w1.heap.size]? = some (.cells #[.slice pa ms.length cap, .map (some b)] 101 (0, 0)) := World.alloc_heap_new w1 _
    have hA := (Below.refl _ w1).alloc (Nat.le_refl _) (.cells #[.slice pa ms.length cap, .map (some b)] 101)
    have hB2 : Below w.heap.size w (w1.alloc (.cells #[.slice pa ms.length cap, .map (some b)] 101)) := hB1.trans (hA.mono hB1.size)
    have c0 := cells4 q1 0 _ rfl
    have c1 := cells4 q1 1 _ rfl
    have HG := Lib.hid (comes_ok ms s (.slice pa ms.length cap) b _ HM.out h12 hs16 (HT.out.below hB2 (Nat.le_refl _)) noBlk (fun _ h => h.elim) (hM1.below hA))
    have HB2 := Lib.hid hB2
    have HB := Lib.hid hb
    clear q1 hA hB2 hM1 hB1 hb
    go_wp2_with fail
    refine HG.out.mono ?_
    rintro e w3 ⟨rfl, hk3⟩
    have HB3 := Lib.hid (kept_out hk3 HB.out HB2.out)
    clear c0 c1 hk3 HG
    go_wp2
    go_returns
    exact ⟨rfl, HB3.out⟩
  · have HN := Lib.hid (lookW_no ms l v lv w hv hl hm h100 he)
    have HO := Lib.hid (show firstB ms l = false from if_neg he)
    rw [HO.out]
    obtain ⟨c, hcc⟩ : ∃ c, c = errW ms l := ⟨_, rfl⟩
    rw [← hcc] at HN he ⊢
    have hne : (c != 0) = true := by simpa using he
    clear hcc he hm
    go_enter Tryz.func63, Tryz.ntmps63
    go_wp2_with fail
    refine HN.out.mono ?_
    rintro e w1 ⟨rfl, hB1⟩
    go_wp2
    go_returns
    exact ⟨rfl, hB1.alloc hB1.size _⟩
end Go.Proofs.YtoajocgfmbakjaaGreatDoor
/-
  CheckGo.
-/
set_option linter.unusedVariables false
set_option linter.unusedSimpArgs false
namespace Go.Proofs.YtoajocgfmbakjaaGreatDoor
open Go Go.RowKit Go.Shelf

/-- The error of a mould, a set and a move. -/
def goErr (ms : List Sol) (l : List Int) (m : Mo) : Int := if errW ms l = 0 then (if (moveB ms.length m.1 m.2.1 m.2.2 && !((setF ms.length l).getD 0).testBit m.1.toNat) = true then 0 else 1) else errW ms l
def goB (ms : List Sol) (l : List Int) (m : Mo) : Bool := if errW ms l = 0 then nextB ms ((setF ms.length l).getD 0) m else false
set_option maxRecDepth 100000 in
set_option maxHeartbeats 4000000 in
theorem checkGo_ok (ms : List Sol) (l : List Int) (p s far : Int) (v lv : Value) (w : World) (hv : SolsAt w v ms) (hl : IntsAt w lv l) (hm : ∀ m ∈ ms, Fit m) (h100 : l.length ≤ 100) :
    Calls Tryz.prog 36 #[v, lv, .agg #[.int .i64 (p), .int .i64 (s), .int .i64 (far)]] w (RetB (.tuple #[.bool (goB ms l (p, s, far)), .int .i64 (goErr ms l (p, s, far))]) w) := by
  have b0 : BoxM (w.alloc (.cells #[.int .i64 (p), .int .i64 (s), .int .i64 (far)] 40)) w.heap.size p s far := World.alloc_heap_new w _
  have hB0 : Below w.heap.size w (w.alloc (.cells #[.int .i64 (p), .int .i64 (s), .int .i64 (far)] 40)) := (Below.refl _ w).alloc (Nat.le_refl _) _
  by_cases he : errW ms l = 0
  · obtain ⟨hc, g, hs⟩ : chkM ms = 0 ∧ ∃ g, setF ms.length l = some g := by
      rcases errW_ways ms l with ⟨h1, h2⟩ | ⟨h1, h2, h3⟩ | ⟨h1, h2, h3⟩
      · rw [h2] at he; exact absurd he h1
      · rw [h3] at he; cases he
      · exact ⟨h1, h2⟩
    have HY := Lib.hid (lookW_yes ms l g v lv (w.alloc (.cells #[.int .i64 (p), .int .i64 (s), .int .i64 (far)] 40)) (hv.below hB0 (Nat.le_refl _)) (hl.below hB0 (Nat.le_refl _)) hm hc h100 hs)
    have h12 := chkM_len hc
    have HM := Lib.hid hm
    have hg := setF_lt h12 hs
    have HO := Lib.hid (show goB ms l (p, s, far) = nextB ms g (p, s, far) by unfold goB; rw [if_pos he, hs]; rfl)
    have HE := Lib.hid (show goErr ms l (p, s, far) = if (moveB ms.length p s far && !g.testBit p.toNat) = true then 0 else 1 by unfold goErr; rw [if_pos he, hs]; rfl)
    rw [HO.out]
    obtain ⟨E, hEE⟩ : ∃ E, E = goErr ms l (p, s, far) := ⟨_, rfl⟩
    rw [← hEE] at HE ⊢
    obtain ⟨pa, cap, rfl, _, _⟩ := hv
    clear hEE
    clear hm hc he hs hl
    go_enter Tryz.func36, Tryz.ntmps36
    go_wp2_with fail
    refine HY.out.mono ?_
    rintro e w1 ⟨b, rfl, hb, hM1, hB1⟩
    have b1 := heap_below b0 hB1 (Array.getElem?_eq_some_iff.1 b0).1
    have hBw := up hB1 hB0
    have q2 : (w1.alloc (.cells #[.slice pa ms.length cap, .map (some b)] 101)).heap[w1.heap.size]? = some (.cells #[.slice pa ms.length cap, .map (some b)] 101 (0, 0)) := World.alloc_heap_new w1 _
    have hA := (Below.refl _ w1).alloc (Nat.le_refl _) (.cells #[.slice pa ms.length cap, .map (some b)] 101)
    have b2 := heap_below b1 hA (Array.getElem?_eq_some_iff.1 b1).1
    have HB2 := Lib.hid (hBw.trans (hA.mono hBw.size))
    have HM2 := Lib.hid (hM1.below hA)
    have HBB := Lib.hid (show w.heap.size ≤ b by rw [World.size_alloc] at hb; omega)
    have HIM := Lib.hid (fun W => isMove_ok pa ms.length cap p s far W)
    have c0 := cells4 q2 0 _ rfl
    obtain ⟨x0, x1, x2⟩ := cells3 b2
    clear b0 hB0 b1 hBw hA hM1 hB1 hb
    go_wp2_with fail
    refine (HIM.out _).mono ?_
    rintro e w3 ⟨rfl, hb3⟩
    have b3 := heap_below b2 hb3 (Array.getElem?_eq_some_iff.1 b2).1
    have q3 := heap_below q2 hb3 (Array.getElem?_eq_some_iff.1 q2).1
    have HM3 := Lib.hid (HM2.out.below hb3)
    have HB3 := Lib.hid (up hb3 HB2.out)
    clear c0 x0 x1 x2 b2 q2 hb3
    cases hmv : moveB ms.length p s far with
    | false =>
      have HR := Lib.hid (show nextB ms g (p, s, far) = false by unfold nextB; rw [hmv]; rfl)
      have HE1 := Lib.hid (show E = 1 by rw [HE.out, hmv]; rfl)
      clear HE
      go_wp2_with fail
      go_returns
      exact ⟨by rw [HE1.out, HR.out]; rfl, HB3.out⟩
    | true =>
      obtain ⟨p', x, rfl, rfl, rfl, hp', ht, hx⟩ := moveB_ok hmv
      obtain ⟨f, hf⟩ : ∃ f, ms[p']? = some f := ⟨_, List.getElem?_eq_getElem hp'⟩
      have HX := Lib.hid (show nextB ms g ((p' : Int), (x.1 : Int), (x.2 : Int)) = (!g.testBit p' && canGoF ms g p' f x) by
        unfold nextB
        dsimp only
        rw [hmv, ht, hx, hf, Bool.true_and])
      have HE2 := Lib.hid (show E = if g.testBit p' = true then 1 else 0 by rw [HE.out, hmv, ht]; cases g.testBit p' <;> rfl)
      clear HE
      have HH := Lib.hid (fun W => has_ok g p' hg (by omega) W)
      have HC := Lib.hid (fun W (h : Mld W (.slice pa ms.length cap) b ms noBlk) => canGo_ok ms g p' x f (.slice pa ms.length cap) b W hf HM.out h12 hg noBlk (fun _ h => h.elim) h)
      clear hf ht hx hmv
      obtain ⟨x0, x1, x2⟩ := cells3 b3
      go_wp2_with fail
      refine (HH.out _).mono ?_
      rintro e w4 ⟨rfl, hb4⟩
      have b4 := heap_below b3 hb4 (Array.getElem?_eq_some_iff.1 b3).1
      have q4 := heap_below q3 hb4 (Array.getElem?_eq_some_iff.1 q3).1
      have HM4 := Lib.hid (HM3.out.below hb4)
      have HB4 := Lib.hid (up hb4 HB3.out)
      clear x0 x1 x2 b3 q3 hb4
      cases hbit : g.testBit p' with
      | true =>
        have HE3 := Lib.hid (show E = 1 by rw [HE2.out, hbit]; rfl)
        clear HE2
        go_wp2_with fail
        go_returns
        exact ⟨by rw [HE3.out, HX.out, hbit]; rfl, HB4.out⟩
      | false =>
        have HE3 := Lib.hid (show E = 0 by rw [HE2.out, hbit]; rfl)
        clear HE2
        have c0 := cells4 q4 0 _ rfl
        have c1 := cells4 q4 1 _ rfl
        obtain ⟨x0, x1, x2⟩ := cells3 b4
        go_wp2_with fail
        refine (HC.out _ HM4.out).mono ?_
        rintro e w5 ⟨rfl, hk5⟩
        go_wp2
        go_returns
        exact ⟨by rw [HE3.out, HX.out, hbit]; rfl, kept_out hk5 HBB.out HB4.out⟩
  · have HN := Lib.hid (lookW_no ms l v lv (w.alloc (.cells #[.int .i64 (p), .int .i64 (s), .int .i64 (far)] 40)) (hv.below hB0 (Nat.le_refl _)) (hl.below hB0 (Nat.le_refl _)) hm h100 he)
    have HO := Lib.hid (show goB ms l (p, s, far) = false from if_neg he)
    have HE := Lib.hid (show goErr ms l (p, s, far) = errW ms l from if_neg he)
    rw [HO.out, HE.out]
    obtain ⟨c, hcc⟩ : ∃ c, c = errW ms l := ⟨_, rfl⟩
    rw [← hcc] at HN he ⊢
    have hne : (c != 0) = true := by simpa using he
    clear hcc he hm
    go_enter Tryz.func36, Tryz.ntmps36
    go_wp2_with fail
    refine HN.out.mono ?_
    rintro e w1 ⟨rfl, hB1⟩
    have hBw := up hB1 hB0
    go_wp2
    go_returns
    exact ⟨rfl, hBw.alloc hBw.size _⟩
end Go.Proofs.YtoajocgfmbakjaaGreatDoor
