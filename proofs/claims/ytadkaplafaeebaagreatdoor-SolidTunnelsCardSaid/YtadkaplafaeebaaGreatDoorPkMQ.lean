/-
  Symmetries.
-/
import Derived.Test.YtadkaplafaeebaaGreatDoorPkGQ
import Derived.Test.YtadkaplafaeebaaGreatDoorPkLQ
import Derived.Test.YtadkaplafaeebaaGreatDoorPkFQ
set_option linter.unusedVariables false
set_option linter.unusedSimpArgs false
namespace Go.Proofs.YtadkaplafaeebaaGreatDoor
open Go Go.RowKit Go.Shelf

theorem info_int : (Tryz.prog.info? 3).map (fun i => (i.zero, i.size, i.bytes)) = some (some (.int .i64 0), 1, 8) := by kernel_rfl
theorem under_ints : Tryz.prog.underlying 64 = some (.slice 3) := by kernel_rfl
def symP (f : Sol) (t : Nat) : Bool := eqS (imgF f t) (cornF f)
def symN (f : Sol) (t : Nat) : List Nat := (List.range t).filter (symP f)
def intL (l : List Nat) : List Value := l.map fun n => .int .i64 (n : Nat)
theorem symN_succ (f : Sol) (t : Nat) : symN f (t + 1) = symN f t ++ if symP f t then [t] else [] := by
  unfold symN
  rw [List.range_succ, List.filter_append, List.filter_cons, List.filter_nil]
theorem symN_len (f : Sol) (t : Nat) : (symN f t).length ≤ t := by
  have := List.length_filter_le (symP f) (List.range t)
  simpa [symN] using this
/-- A slice that holds these numbers. -/
def OwnInts (w W : World) (v : Value) (l : List Nat) : Prop := W.ownsRow w.heap.size 3 1 v l.length (intL l) ∧ (v = .slice none 0 0 ↔ l = [])

set_option maxRecDepth 100000 in
set_option maxHeartbeats 4000000 in
theorem sym_any (f : Sol) (w : World) (hf : Fit f) (hT : Tab64 w) :
    Calls Tryz.prog 67 #[sol f] w fun e w' => ∃ v, e = .returned v ∧ OwnInts w w' v (symN f 24) ∧ Below w.heap.size w w' := by
  obtain ⟨i0, hi, hz0, hz1, hz2⟩ := info_parts info_int
  have HF := Lib.hid hf
  have HT := Lib.hid hT
  have CF := Lib.hid (fun (t : Nat) (ht : t < 24) W (h : Below w.heap.size w W) => turned_ok f t W HF.out ht (HT.out.below h (Nat.le_refl _)))
  have CG := Lib.hid (fun (t : Nat) W => cornered_any (turnedF f t) W (solOf_fit _))
  clear hf hT
  go_enter Tryz.func67, Tryz.ntmps67
  go_wp2_with fail
  refine (cornered_any f _ HF.out).mono ?_
  rintro e w1 ⟨rfl, hb1⟩
  have bS : BoxS w1 w.heap.size f := (BoxS.new w f).below hb1 (by simp)
  have hB1 : Below w.heap.size w w1 := up hb1 (by repeat' (first | (with_reducible exact Below.refl _ _) | (with_reducible assumption) | (with_reducible refine Below.alloc ?_ ?_ _) | (with_reducible refine Below.drew ?_) | (with_reducible refine below_drewN ?_ _) | (with_reducible refine Below.setCell ?_ ?_ _) | go_size))
  have lS := bS.lt
  go_wp2_with fail
  go_loopw [4, 8] (fun lv c wr => ∃ t : Nat, t ≤ 24 ∧ c = .int .i64 t ∧ BoxS wr w.heap.size f ∧ BoxS wr w1.heap.size (cornF f) ∧ wr.ownsRow (w1.heap.size + 1) 3 1 lv (symN f t).length (intL (symN f t)) ∧ (lv = .slice none 0 0 ↔ symN f t = []) ∧ Below w.heap.size w wr ∧ w1.heap.size + 1 ≤ wr.heap.size) (fun _ c _ => 24 - (intOf c).toNat)
  case atStart => exact ⟨0, by omega, rfl, bS.alloc _, BoxS.new' rfl, World.ownsRow_nil _ _ _ _, by simp [symN], hB1.alloc (by omega) _, by simp⟩
  case round =>
    clear bS
    obtain ⟨t, ht, rfl, bS, bL, hrow, hnil, hB, hsz⟩ := hrel
    have kS := bS.lt
    have kL := bL.lt
    have hlen := symN_len f t
    by_cases hlt : t < 24
    · have hd : decide ((t : Int) < 24) = true := decide_eq_true (by omega)
      have c0 := (bS).cell (k := 0) (by omega); have c1 := (bS).cell (k := 1) (by omega); have c2 := (bS).cell (k := 2) (by omega); have c3 := (bS).cell (k := 3) (by omega); have c4 := (bS).cell (k := 4) (by omega); have c5 := (bS).cell (k := 5) (by omega); have c6 := (bS).cell (k := 6) (by omega); have c7 := (bS).cell (k := 7) (by omega)
      have p0 := (bL).cell (k := 0) (by omega); have p1 := (bL).cell (k := 1) (by omega); have p2 := (bL).cell (k := 2) (by omega); have p3 := (bL).cell (k := 3) (by omega); have p4 := (bL).cell (k := 4) (by omega); have p5 := (bL).cell (k := 5) (by omega); have p6 := (bL).cell (k := 6) (by omega); have p7 := (bL).cell (k := 7) (by omega)
      have HS := Lib.hid (symN_succ f t)
      go_wp2_with fail
      obtain ⟨W, hW⟩ : ∃ W, W = wr := ⟨_, rfl⟩
      subst hW
      (refine wp_region_quiet (C := fun w' => Below W.heap.size W w') (by kernel_rfl) (by kernel_rfl) (Below.drew (Below.refl _ _)) ?_; (iterate 6 (refine wpQuiet_step (fun K hK => ?_); go_simp; first | (refine hK _ ?_; clear hK K) | (apply Exists.intro; refine ⟨fun W' hW' => ?_, hK _ ?_⟩; (focus (first | (with_reducible exact rfl) | (with_reducible exact ⟨rfl, rfl⟩) | (obtain ⟨hcq, hfq⟩ := bcell hW'; have hzq := hW'.size; (try go_simp); first | (with_reducible exact rfl) | (with_reducible exact ⟨rfl, rfl⟩) | (first | ((with_reducible refine Calls.mono (CF.out t hlt _ (hB.trans (hW'.mono hB.size))) ?_); rintro e w9 ⟨rfl, hb9⟩; exact ⟨rfl, hW'.trans (hb9.mono hW'.size)⟩) | ((with_reducible refine Calls.mono (CG.out t _) ?_); rintro e w9 ⟨rfl, hb9⟩; exact ⟨rfl, hW'.trans (hb9.mono hW'.size)⟩))))); clear hK K))); refine wpQuiet_nil ?_; intro w1q hb1q)
      have hs1 := hb1q.size
      have bS2 := bS.below hb1q kS
      have bL2 := bL.below hb1q kL
      have hrow2 := row_below hrow hb1q
      have hB2 : Below w.heap.size w w1q := up hb1q hB
      clear c0 c1 c2 c3 c4 c5 c6 c7 p0 p1 p2 p3 p4 p5 p6 p7
      have hs0 := hB2.size
      cases hq : eqS (cornF (turnedF f t)) (cornF f)
      · have hP : symP f t = false := hq
        have HSN := Lib.hid (show symN f (t + 1) = symN f t by rw [HS.out, hP]; simp)
        go_wp2_with fail
        go_roundw
        case rel => exact ⟨t + 1, by omega, by go_num, bS2, bL2, by rw [HSN.out]; exact hrow2, by rw [HSN.out]; exact hnil, hB2, by omega⟩
        case measure => simp [intOf]; omega
      · have hP : symP f t = true := hq
        have HSN := Lib.hid (show symN f (t + 1) = symN f t ++ [t] by rw [HS.out, hP]; simp)
        go_wp2_with (at_builtin; refine wpList_append_own _ rfl _ _ 64 rfl (w1.heap.size + 1) 3 i0 (.int .i64 0) 1 8 under_ints hi hz0 hz1 hz2 rfl (by decide) u4 _ _ rfl (hrow2.alloc _) ⟨w1q.heap.size, 0, none⟩ 1 1 [.int .i64 (t : Int)] rfl rfl (cell_one_new _ _ _) (by simp [Value.oneCell']) (by simp only [maxLen]; omega) (by omega) (by simp; omega) ?_; intro v' w4 hown' hgrow _; obtain ⟨g', cap', rfl⟩ := ownsRow_succ hown')
        have hb5 : Below (w1.heap.size + 1) w1q w4 := ((Below.refl (w1.heap.size + 1) w1q).alloc (by omega) _).grown hgrow (by simp; omega) fun j ej => (hrow2.lt j ej).1
        have hs5 := hb5.size
        exact ⟨⟨t + 1, by omega, by go_num, bS2.below hb5 (by omega), bL2.below hb5 (by omega), by rw [HSN.out]; simpa [intL] using hown', by rw [HSN.out]; simp, hB2.trans (hb5.mono (by omega)), by omega⟩, by simp [intOf]; omega⟩
    · obtain rfl : t = 24 := by omega
      have hd : decide ((24 : Int) < 24) = false := by decide
      go_wp2
      go_ret
      exact ⟨u4, rfl, ⟨row_base hrow (by omega), hnil⟩, hB⟩
theorem sym_ok (f : Sol) (w : World) (hf : Fit f) (h : emptyS f = false) (hT : Tab64 w) :
    Calls Tryz.prog 67 #[sol f] w fun e w' => ∃ v, e = .returned v ∧ OwnInts w w' v (symN f 24) ∧ Below w.heap.size w w' := sym_any f w hf hT
end Go.Proofs.YtadkaplafaeebaaGreatDoor
/-
  hook, ring: the examples' solids.
-/
set_option linter.unusedVariables false
set_option linter.unusedSimpArgs false
namespace Go.Proofs.YtadkaplafaeebaaGreatDoor
open Go Go.RowKit

/-- A solid with one plane. -/
def oneS (n : Nat) : Sol := fun i => if i = 0 then n else 0
theorem BoxS.newOne (w : World) (n : Nat) (m : Int) (hm : (n : Int) = m) : BoxS (w.alloc (.cells #[.int .u64 m, .int .u64 0, .int .u64 0, .int .u64 0, .int .u64 0, .int .u64 0, .int .u64 0, .int .u64 0] 24)) w.heap.size (oneS n) := by
  subst hm
  exact BoxS.new w (oneS n)
set_option maxRecDepth 100000 in
theorem hook_ok (w : World) : Calls Tryz.prog 88 #[] w fun e w' => e = .returned (sol (oneS 263)) ∧ Below w.heap.size w w' := by
  go_enter Tryz.func88, Tryz.ntmps88
  go_wp2
  refine bodyPost_ret (res_s (BoxS.newOne w 263 263 rfl) Tryz.results88 rfl) rfl ⟨rfl, ?_⟩
  repeat' (first | (with_reducible exact Below.refl _ _) | (with_reducible assumption) | (with_reducible refine Below.alloc ?_ ?_ _) | (with_reducible refine Below.drew ?_) | (with_reducible refine below_drewN ?_ _) | (with_reducible refine Below.setCell ?_ ?_ _) | go_size)
set_option maxRecDepth 100000 in
theorem ring_ok (w : World) : Calls Tryz.prog 89 #[] w fun e w' => e = .returned (sol (oneS 460039)) ∧ Below w.heap.size w w' := by
  go_enter Tryz.func89, Tryz.ntmps89
  go_wp2
  refine bodyPost_ret (res_s (BoxS.newOne w 460039 460039 rfl) Tryz.results89 rfl) rfl ⟨rfl, ?_⟩
  repeat' (first | (with_reducible exact Below.refl _ _) | (with_reducible assumption) | (with_reducible refine Below.alloc ?_ ?_ _) | (with_reducible refine Below.drew ?_) | (with_reducible refine below_drewN ?_ _) | (with_reducible refine Below.setCell ?_ ?_ _) | go_size)
end Go.Proofs.YtadkaplafaeebaaGreatDoor
/-
  The reference's SameInts.
-/
set_option linter.unusedVariables false
set_option linter.unusedSimpArgs false
namespace Go.Proofs.YtadkaplafaeebaaGreatDoor
open Go Go.RowKit Go.Shelf

theorem intL_get (l : List Nat) (i n : Nat) (h : l[i]? = some n) : (intL l)[i]? = some (.int .i64 (n : Nat)) := by simp [intL, h]
set_option maxRecDepth 100000 in
set_option maxHeartbeats 4000000 in
theorem sameInts_ok (la lb : List Nat) (va vb : Value) (b1 b2 : Nat) (w : World) (h1 : w.ownsRow b1 3 1 va la.length (intL la)) (h2 : w.ownsRow b2 3 1 vb lb.length (intL lb)) (hla : la.length ≤ 4000) (hlb : lb.length ≤ 4000) :
    Calls Tryz.prog 66 #[va, vb] w fun e w' => e = .returned (.bool (decide (la = lb))) ∧ Below w.heap.size w w' := by
  have hp1 : ∃ p cap, va = .slice p la.length cap := by
    rcases h1.2 with ⟨e1, e2⟩ | ⟨g, cap, cur, e1, _⟩
    · exact ⟨none, 0, by rw [e1, e2]⟩
    · exact ⟨_, _, e1⟩
  have hp2 : ∃ p cap, vb = .slice p lb.length cap := by
    rcases h2.2 with ⟨e1, e2⟩ | ⟨g, cap, cur, e1, _⟩
    · exact ⟨none, 0, by rw [e1, e2]⟩
    · exact ⟨_, _, e1⟩
  obtain ⟨p1, c1, rfl⟩ := hp1
  obtain ⟨p2, c2, rfl⟩ := hp2
  obtain ⟨ans, hans⟩ : ∃ ans, ans = decide (la = lb) := ⟨_, rfl⟩
  rw [← hans]
  have HA := Lib.hid hans
  clear hans
  by_cases hl : la.length = lb.length
  · have hn : ((la.length : Int) != (lb.length : Int)) = false := by simp [hl]
    go_enter Tryz.func66, Tryz.ntmps66
    go_wp2
    go_loopw [5] (fun c wr => ∃ i : Nat, i ≤ la.length ∧ c = .int .i64 i ∧ Hid (la.take i = lb.take i) ∧ Below w.heap.size w wr) (fun c _ => la.length - (intOf c).toNat)
    case atStart => exact ⟨0, by omega, rfl, Lib.hid rfl, Below.refl _ _⟩
    case round =>
      obtain ⟨i, hi, rfl, HT, hB⟩ := hrel
      by_cases hlt : i < la.length
      · have hd : decide ((i : Int) < (la.length : Int)) = true := decide_eq_true (by omega)
        have ga : la[i]? = some la[i] := List.getElem?_eq_getElem hlt
        have gb : lb[i]? = some (lb[i]'(by omega)) := List.getElem?_eq_getElem (by omega)
        obtain ⟨x, hx⟩ : ∃ x, x = la[i] := ⟨_, rfl⟩
        obtain ⟨y, hy⟩ : ∃ y, y = lb[i]'(by omega) := ⟨_, rfl⟩
        rw [← hx] at ga
        rw [← hy] at gb
        clear hx hy
        obtain ⟨g1, rfl, hg1⟩ : ∃ g, p1 = some ⟨g, 0, none⟩ ∧ g < w.heap.size := by
          rcases h1.2 with ⟨_, e2⟩ | ⟨g, cap, cur, e1, _, e3, _⟩
          · omega
          · injection e1 with e4; exact ⟨g, e4, (Array.getElem?_eq_some_iff.1 e3).1⟩
        obtain ⟨g2, rfl, hg2⟩ : ∃ g, p2 = some ⟨g, 0, none⟩ ∧ g < w.heap.size := by
          rcases h2.2 with ⟨_, e2⟩ | ⟨g, cap, cur, e1, _, e3, _⟩
          · omega
          · injection e1 with e4; exact ⟨g, e4, (Array.getElem?_eq_some_iff.1 e3).1⟩
        have ca : wr.cell? ⟨g1, i, none⟩ = some (.int .i64 (x : Int)) := by
          have := h1.cells (g := g1) rfl i _ (intL_get la i x ga)
          rw [addr_add] at this
          exact (hB.cell (p := ⟨g1, i, none⟩) hg1).trans this
        have cb : wr.cell? ⟨g2, i, none⟩ = some (.int .i64 (y : Int)) := by
          have := h2.cells (g := g2) rfl i _ (intL_get lb i y gb)
          rw [addr_add] at this
          exact (hB.cell (p := ⟨g2, i, none⟩) hg2).trans this
        have hlb2 : (i : Int) < (lb.length : Int) := by omega
        have hla2 : (i : Int) < (la.length : Int) := by omega
        by_cases hxy : x = y
        · have hq : ((x : Int) != (y : Int)) = false := by simp [hxy]
          go_wp2
          go_region
          all_goals go_wp2
          exact ⟨⟨i + 1, by omega, by go_num, Lib.hid (by rw [List.take_add_one, List.take_add_one, ga, gb, HT.out, hxy]), hB.drew⟩, by simp [intOf]; omega⟩
        · have hq : ((x : Int) != (y : Int)) = true := by simp; omega
          have hA2 : ans = false := by
            rw [HA.out]
            refine decide_eq_false fun e => hxy ?_
            subst e
            rw [ga] at gb
            injection gb
          go_wp2
          go_region
          all_goals go_wp2
          go_ret
          exact ⟨by rw [hA2]; rfl, hB.drew⟩
      · obtain rfl : i = la.length := by omega
        have hd : decide ((la.length : Int) < (la.length : Int)) = false := decide_eq_false (by omega)
        have hA2 : ans = true := by
          rw [HA.out]
          have := HT.out
          rw [List.take_length, hl, List.take_length] at this
          exact decide_eq_true this
        go_wp2
        go_ret
        exact ⟨by rw [hA2]; rfl, hB⟩
  · have hn : ((la.length : Int) != (lb.length : Int)) = true := by simp; omega
    have hA2 : ans = false := by
      rw [HA.out]
      exact decide_eq_false fun e => hl (by rw [e])
    go_enter Tryz.func66, Tryz.ntmps66
    go_wp2
    go_ret
    exact ⟨by rw [hA2]; rfl, by repeat' (first | (with_reducible exact Below.refl _ _) | (with_reducible assumption) | (with_reducible refine Below.alloc ?_ ?_ _) | (with_reducible refine Below.drew ?_) | (with_reducible refine below_drewN ?_ _) | (with_reducible refine Below.setCell ?_ ?_ _) | go_size)⟩
end Go.Proofs.YtadkaplafaeebaaGreatDoor
