/-
  The reference's Bounds.
-/
import Derived.Test.YtadkaplafaeebaaGreatDoorPkRB
import Derived.Test.YtadkaplafaeebaaGreatDoorPkTE
import Derived.Test.YtadkaplafaeebaaGreatDoorPkO
import Derived.Test.YtadkaplafaeebaaGreatDoorPkP
import Derived.Test.YtadkaplafaeebaaGreatDoorPkTC
set_option linter.unusedVariables false
set_option linter.unusedSimpArgs false
namespace Go.Proofs.YtadkaplafaeebaaGreatDoor
open Go Go.RowKit

set_option maxRecDepth 100000 in
set_option maxHeartbeats 4000000 in
theorem rbounds_no (f : Sol) (w : World) (hf : Fit f) (hL : (cellsL f).length = 0) :
    Calls Tryz.prog 39 #[sol f] w fun e w' => e = .returned (.tuple #[.agg #[.int .i64 (0), .int .i64 (0), .int .i64 (0), .int .i64 (0), .int .i64 (0), .int .i64 (0)], .bool false]) ∧ Below w.heap.size w w' := by
  have HF := Lib.hid hf
  clear hf
  have R0 : Box6 ((w.alloc (.cells (solC f) 24)).alloc (.cells #[.int .i64 (0), .int .i64 (0), .int .i64 (0), .int .i64 (0), .int .i64 (0), .int .i64 (0)] 40)) (w.heap.size + 1) 0 0 0 0 0 0 := blk_new (by simp)
  have hB0 : Below w.heap.size w ((w.alloc (.cells (solC f) 24)).alloc (.cells #[.int .i64 (0), .int .i64 (0), .int .i64 (0), .int .i64 (0), .int .i64 (0), .int .i64 (0)] 40)) := by repeat' (first | (with_reducible exact Below.refl _ _) | (with_reducible assumption) | (with_reducible refine Below.alloc ?_ ?_ _) | (with_reducible refine Below.drew ?_) | (with_reducible refine below_drewN ?_ _) | (with_reducible refine Below.setCell ?_ ?_ _) | go_size)
  go_enter Tryz.func39, Tryz.ntmps39
  go_wp2_with fail
  refine (rcells_ok f _ HF.out).mono ?_
  rintro e w1 ⟨v, rfl, hrow, _, hb1⟩
  have R1 := blk_below R0 hb1 (blk_lt R0)
  have hB1 : Below w.heap.size w w1 := up hb1 hB0
  obtain ⟨p, cap, rfl⟩ := own_len hrow
  rw [hL]
  have lR := blk_lt R1
  obtain ⟨r0, r1, r2, r3, r4, r5⟩ := Box6.cells R1
  have g0 := blk_free (k := 0) R1; have g1 := blk_free (k := 1) R1; have g2 := blk_free (k := 2) R1; have g3 := blk_free (k := 3) R1; have g4 := blk_free (k := 4) R1; have g5 := blk_free (k := 5) R1
  clear hrow
  go_wp2_with fail
  have bE := blk_set (k := 5) (blk_set (k := 4) (blk_set (k := 3) (blk_set (k := 2) (blk_set (k := 1) (blk_set (k := 0) R1 (.int .i64 0)) (.int .i64 0)) (.int .i64 0)) (.int .i64 0)) (.int .i64 0)) (.int .i64 0)
  refine bodyPost_ret (res_6e Tryz.results39 rfl (blk_cell (k := 0) bE) (blk_cell (k := 1) bE) (blk_cell (k := 2) bE) (blk_cell (k := 3) bE) (blk_cell (k := 4) bE) (blk_cell (k := 5) bE)) rfl ⟨rfl, ?_⟩
  repeat' (first | (with_reducible exact Below.refl _ _) | (with_reducible assumption) | (with_reducible refine Below.alloc ?_ ?_ _) | (with_reducible refine Below.drew ?_) | (with_reducible refine below_drewN ?_ _) | (with_reducible refine Below.setCell ?_ ?_ _) | go_size)
def NewB (B : Nat) (v : Value) (W : World) : Prop := ∃ b, v = .pointer (some ⟨b, 0, none⟩) ∧ B ≤ b ∧ Box6 W b 0 0 0 0 0 0
theorem NewB.below {B : Nat} {v : Value} {W W' : World} (h : NewB B v W) (hb : Below W.heap.size W W') : NewB B v W' := by
  obtain ⟨g, h1, h2, h3⟩ := h
  exact ⟨g, h1, h2, blk_below h3 hb (blk_lt h3)⟩
def VB (B g n cap : Nat) (c : Cl) (i : Nat) (v : Value) (W : World) : Prop := match i with
  | 0 => v = .slice (some ⟨g, 0, none⟩) n cap | 1 => v = .pointer (some ⟨g, 0, none⟩) | 2 => v = cell c | 3 => v = .slice (some ⟨g, 0, none⟩) n cap | 4 => v = .pointer (some ⟨g, 0, none⟩) | 5 => v = cell c
  | 6 => v = .agg #[.int .i64 (cX c), .int .i64 (cY c), .int .i64 (cZ c), .int .i64 (cX c), .int .i64 (cY c), .int .i64 (cZ c)] | 7 => NewB B v W | _ => True
theorem min_nat (a b : Nat) : min (a : Int) (b : Int) = ((min a b : Nat) : Int) := by omega
theorem max_nat (a b : Nat) : max (a : Int) (b : Int) = ((max a b : Nat) : Int) := by omega
set_option maxRecDepth 100000 in
set_option maxHeartbeats 4000000 in
theorem rbounds_yes (f : Sol) (w : World) (hf : Fit f) (he : emptyS f = false) :
    Calls Tryz.prog 39 #[sol f] w fun e w' => e = .returned (.tuple #[.agg #[.int .i64 (((lowX f : Nat) : Int)), .int .i64 (((lowY f : Nat) : Int)), .int .i64 (((lowZ f : Nat) : Int)), .int .i64 (((highX f : Nat) : Int) - 1), .int .i64 (((highY f : Nat) : Int) - 1), .int .i64 (((highZ f : Nat) : Int) - 1)], .bool true]) ∧ Below w.heap.size w w' := by
  have hL : 0 < (cellsL f).length := List.length_pos_iff.2 (cellsL_ne hf he)
  have hn : (((cellsL f).length : Int) == 0) = false := beq_eq_false_iff_ne.2 (by omega)
  obtain ⟨c0, hc0⟩ : ∃ c, (cellsL f)[0]? = some c := ⟨_, List.getElem?_eq_getElem hL⟩
  have hm0 : c0 ∈ cellsL f := List.mem_of_getElem? hc0
  have BA := Lib.hid (bnd_all hf he hm0)
  have BN := Lib.hid (boundN hf he)
  have HF := Lib.hid hf
  clear hf hm0
  have S0 : BoxS ((w.alloc (.cells (solC f) 24)).alloc (.cells #[.int .i64 (0), .int .i64 (0), .int .i64 (0), .int .i64 (0), .int .i64 (0), .int .i64 (0)] 40)) w.heap.size f := (BoxS.new _ _).alloc _
  have R0 : Box6 ((w.alloc (.cells (solC f) 24)).alloc (.cells #[.int .i64 (0), .int .i64 (0), .int .i64 (0), .int .i64 (0), .int .i64 (0), .int .i64 (0)] 40)) (w.heap.size + 1) 0 0 0 0 0 0 := blk_new (by simp)
  have hB0 : Below w.heap.size w ((w.alloc (.cells (solC f) 24)).alloc (.cells #[.int .i64 (0), .int .i64 (0), .int .i64 (0), .int .i64 (0), .int .i64 (0), .int .i64 (0)] 40)) := by repeat' (first | (with_reducible exact Below.refl _ _) | (with_reducible assumption) | (with_reducible refine Below.alloc ?_ ?_ _) | (with_reducible refine Below.drew ?_) | (with_reducible refine below_drewN ?_ _) | (with_reducible refine Below.setCell ?_ ?_ _) | go_size)
  go_enter Tryz.func39, Tryz.ntmps39
  go_wp2_with fail
  refine (rcells_ok f _ HF.out).mono ?_
  rintro e w1 ⟨v, rfl, hrow, _, hb1⟩
  have R1 := blk_below R0 hb1 (blk_lt R0)
  have S1 := S0.below hb1 S0.lt
  have hB1 : Below w.heap.size w w1 := up hb1 hB0
  obtain ⟨p, cap, g, rfl, hp, hg, hgd, hcs⟩ := rowC_at (d := w.heap.size) hrow S1.lt (by simp; omega)
  obtain rfl := hp hL
  have hlen := cellsL_len f
  have HCS := Lib.hid hcs
  have lR : w.heap.size + 1 < w1.heap.size := blk_lt R1
  have hgR : g ≠ w.heap.size + 1 := by
    rcases hgd with h | h
    · omega
    · simp at h; omega
  obtain ⟨k0, k1, k2⟩ := hcs 0 c0 hc0
  simp only [Nat.zero_mul, Nat.zero_add] at k0 k1 k2
  have hL' : (0 : Int) < ((cellsL f).length : Int) := by omega
  clear S0 R0 hB0 hb1 hrow hgd hcs S1
  go_wp2_with fail
  have hC2 : Below w1.heap.size w1 w1.drew := Below.drew (Below.refl _ _)
  refine wp_region_relT 8 (VB w1.heap.size g (cellsL f).length cap c0) (fun W => Below w1.heap.size w1 W) (by kernel_rfl) (by kernel_rfl) (by kernel_rfl) (by kernel_rfl) (by kernel_rfl) (by kernel_rfl) (by kernel_rfl) (by kernel_rfl) hC2 ?hst ?hop ?hend
  case hst =>
    intro j v W W' hb hv
    rcases j with _ | _ | _ | _ | _ | _ | _ | _ | j
    all_goals first | exact hv | exact NewB.below hv hb
  case hop =>
    intro i o hi ho a' W hC hin hfix K hK
    have q4 : a'.tmps[4]? = some (.slice (some ⟨g, 0, none⟩) (cellsL f).length cap) := hfix 4 (by kernel_rfl)
    have k0 := (hC.cell (p := ⟨g, 0, none⟩) hg).trans k0
    have k1 := (hC.cell (p := ⟨g, 1, none⟩) hg).trans k1
    have k2 := (hC.cell (p := ⟨g, 2, none⟩) hg).trans k2
    rcases (show i = 0 ∨ i = 1 ∨ i = 2 ∨ i = 3 ∨ i = 4 ∨ i = 5 ∨ i = 6 ∨ i = 7 by omega) with rfl | rfl | rfl | rfl | rfl | rfl | rfl | rfl
    · obtain rfl := Option.some.inj ho
      clear hin hfix ho
      go_simp
      exact hK _ _ rfl hC (Below.refl _ _)
    · obtain ⟨v0, rfl, h0⟩ := hin 0 13 (by kernel_rfl) (by kernel_rfl)
      obtain rfl := Option.some.inj ho
      clear hin hfix ho
      go_simp
      exact hK _ _ rfl hC (Below.refl _ _)
    · obtain ⟨v0, rfl, h0⟩ := hin 1 14 (by kernel_rfl) (by kernel_rfl)
      obtain rfl := Option.some.inj ho
      clear hin hfix ho
      go_simp
      exact hK _ _ rfl hC (Below.refl _ _)
    · obtain rfl := Option.some.inj ho
      clear hin hfix ho
      go_simp
      exact hK _ _ rfl hC (Below.refl _ _)
    · obtain ⟨v0, rfl, h0⟩ := hin 3 16 (by kernel_rfl) (by kernel_rfl)
      obtain rfl := Option.some.inj ho
      clear hin hfix ho
      go_simp
      exact hK _ _ rfl hC (Below.refl _ _)
    · obtain ⟨v0, rfl, h0⟩ := hin 4 17 (by kernel_rfl) (by kernel_rfl)
      obtain rfl := Option.some.inj ho
      clear hin hfix ho
      go_simp
      exact hK _ _ rfl hC (Below.refl _ _)
    · obtain ⟨v2, rfl, h2⟩ := hin 2 15 (by kernel_rfl) (by kernel_rfl)
      obtain ⟨v5, rfl, h5⟩ := hin 5 18 (by kernel_rfl) (by kernel_rfl)
      obtain rfl := Option.some.inj ho
      clear hin hfix ho
      go_simp
      exact hK _ _ rfl hC (Below.refl _ _)
    · obtain rfl := Option.some.inj ho
      clear hin hfix ho
      go_simp
      exact hK _ _ ⟨W.heap.size, rfl, hC.size, World.alloc_heap_new W _⟩ (hC.alloc hC.size _) ((Below.refl _ W).alloc (Nat.le_refl _) _)
  case hend =>
  intro vals W hC hV
  have z0 := hV 0 (by decide)
  have z1 := hV 1 (by decide)
  have z2 := hV 2 (by decide)
  have z3 := hV 3 (by decide)
  have z4 := hV 4 (by decide)
  have z5 := hV 5 (by decide)
  have z6 := hV 6 (by decide)
  obtain ⟨N, z7, hN, bN⟩ := hV 7 (by decide)
  clear hV
  simp only [VB] at z0 z1 z2 z3 z4 z5 z6
  have hr : List.range 8 = [0, 1, 2, 3, 4, 5, 6, 7] := rfl
  simp only [List.drop_succ_cons, List.drop_zero, putA, hr, List.foldl_cons, List.foldl_nil, dstR, List.getElem?_toArray, List.getElem?_cons_succ, List.getElem?_cons_zero, Option.bind_some, Act.put, List.setIfInBounds_toArray, List.set_cons_succ, List.set_cons_zero, z0, z1, z2, z3, z4, z5, z6, z7]
  clear hr z0 z1 z2 z3 z4 z5 z6 z7 vals
  have R2 := blk_below R1 hC lR
  have hB2 : Below w.heap.size w W := up hC hB1
  have hG2 : W.heap[g]? = w1.heap[g]? := hC.block g hg
  have hgN : g ≠ N := by omega
  have lN := blk_lt bN
  have hsw := hB2.size
  obtain ⟨n0, n1, n2, n3, n4, n5⟩ := Box6.cells bN
  have g0 := blk_free (k := 0) bN; have g1 := blk_free (k := 1) bN; have g2 := blk_free (k := 2) bN; have g3 := blk_free (k := 3) bN; have g4 := blk_free (k := 4) bN; have g5 := blk_free (k := 5) bN
  clear k0 k1 k2 R1 hB1 hL' hC2 hC
  --LOOP
  go_wp2_with fail
  have B0 : Box6 ((((((W.setCell ⟨N, 0, none⟩ (.int .i64 ((cX c0 : Nat) : Int))).setCell ⟨N, 1, none⟩ (.int .i64 ((cY c0 : Nat) : Int))).setCell ⟨N, 2, none⟩ (.int .i64 ((cZ c0 : Nat) : Int))).setCell ⟨N, 3, none⟩ (.int .i64 ((cX c0 : Nat) : Int))).setCell ⟨N, 4, none⟩ (.int .i64 ((cY c0 : Nat) : Int))).setCell ⟨N, 5, none⟩ (.int .i64 ((cZ c0 : Nat) : Int))) N (cX c0 : Nat) (cY c0 : Nat) (cZ c0 : Nat) (cX c0 : Nat) (cY c0 : Nat) (cZ c0 : Nat) := (blk_set (k := 5) (blk_set (k := 4) (blk_set (k := 3) (blk_set (k := 2) (blk_set (k := 1) (blk_set (k := 0) bN (.int .i64 ((cX c0 : Nat) : Int))) (.int .i64 ((cY c0 : Nat) : Int))) (.int .i64 ((cZ c0 : Nat) : Int))) (.int .i64 ((cX c0 : Nat) : Int))) (.int .i64 ((cY c0 : Nat) : Int))) (.int .i64 ((cZ c0 : Nat) : Int)))
  have lR2 : w.heap.size + 1 < N := by omega
  have R3 : Box6 ((((((W.setCell ⟨N, 0, none⟩ (.int .i64 ((cX c0 : Nat) : Int))).setCell ⟨N, 1, none⟩ (.int .i64 ((cY c0 : Nat) : Int))).setCell ⟨N, 2, none⟩ (.int .i64 ((cZ c0 : Nat) : Int))).setCell ⟨N, 3, none⟩ (.int .i64 ((cX c0 : Nat) : Int))).setCell ⟨N, 4, none⟩ (.int .i64 ((cY c0 : Nat) : Int))).setCell ⟨N, 5, none⟩ (.int .i64 ((cZ c0 : Nat) : Int))) (w.heap.size + 1) 0 0 0 0 0 0 := (blk_other (blk_other (blk_other (blk_other (blk_other (blk_other R2 (by omega) _) (by omega) _) (by omega) _) (by omega) _) (by omega) _) (by omega) _)
  have hG3 : ((((((W.setCell ⟨N, 0, none⟩ (.int .i64 ((cX c0 : Nat) : Int))).setCell ⟨N, 1, none⟩ (.int .i64 ((cY c0 : Nat) : Int))).setCell ⟨N, 2, none⟩ (.int .i64 ((cZ c0 : Nat) : Int))).setCell ⟨N, 3, none⟩ (.int .i64 ((cX c0 : Nat) : Int))).setCell ⟨N, 4, none⟩ (.int .i64 ((cY c0 : Nat) : Int))).setCell ⟨N, 5, none⟩ (.int .i64 ((cZ c0 : Nat) : Int))).heap[g]? = w1.heap[g]? := ((Below.heap_setCell _ ⟨N, 5, none⟩ _ g hgN).trans ((Below.heap_setCell _ ⟨N, 4, none⟩ _ g hgN).trans ((Below.heap_setCell _ ⟨N, 3, none⟩ _ g hgN).trans ((Below.heap_setCell _ ⟨N, 2, none⟩ _ g hgN).trans ((Below.heap_setCell _ ⟨N, 1, none⟩ _ g hgN).trans ((Below.heap_setCell _ ⟨N, 0, none⟩ _ g hgN).trans (hG2)))))))
  have hB3 : Below w.heap.size w ((((((W.setCell ⟨N, 0, none⟩ (.int .i64 ((cX c0 : Nat) : Int))).setCell ⟨N, 1, none⟩ (.int .i64 ((cY c0 : Nat) : Int))).setCell ⟨N, 2, none⟩ (.int .i64 ((cZ c0 : Nat) : Int))).setCell ⟨N, 3, none⟩ (.int .i64 ((cX c0 : Nat) : Int))).setCell ⟨N, 4, none⟩ (.int .i64 ((cY c0 : Nat) : Int))).setCell ⟨N, 5, none⟩ (.int .i64 ((cZ c0 : Nat) : Int))) := ((((((hB2.setCell (p := ⟨N, 0, none⟩) (by simp; omega) _).setCell (p := ⟨N, 1, none⟩) (by simp; omega) _).setCell (p := ⟨N, 2, none⟩) (by simp; omega) _).setCell (p := ⟨N, 3, none⟩) (by simp; omega) _).setCell (p := ⟨N, 4, none⟩) (by simp; omega) _).setCell (p := ⟨N, 5, none⟩) (by simp; omega) _)
  obtain ⟨V, hV⟩ : ∃ V, V = ((((((W.setCell ⟨N, 0, none⟩ (.int .i64 ((cX c0 : Nat) : Int))).setCell ⟨N, 1, none⟩ (.int .i64 ((cY c0 : Nat) : Int))).setCell ⟨N, 2, none⟩ (.int .i64 ((cZ c0 : Nat) : Int))).setCell ⟨N, 3, none⟩ (.int .i64 ((cX c0 : Nat) : Int))).setCell ⟨N, 4, none⟩ (.int .i64 ((cY c0 : Nat) : Int))).setCell ⟨N, 5, none⟩ (.int .i64 ((cZ c0 : Nat) : Int))) := ⟨_, rfl⟩
  rw [← hV] at B0 R3 hG3 hB3 ⊢
  clear hV n0 n1 n2 n3 n4 n5 g0 g1 g2 g3 g4 g5 bN R2 hB2 hG2
  go_loopw [6] (fun c wr => ∃ i : Nat, i ≤ (cellsL f).length ∧ c = .int .i64 i ∧ Box6 wr (w.heap.size + 1) 0 0 0 0 0 0 ∧ Box6 wr N (minL cX ((cellsL f).take i) (cX c0) : Nat) (minL cY ((cellsL f).take i) (cY c0) : Nat) (minL cZ ((cellsL f).take i) (cZ c0) : Nat) (maxL cX ((cellsL f).take i) (cX c0) : Nat) (maxL cY ((cellsL f).take i) (cY c0) : Nat) (maxL cZ ((cellsL f).take i) (cZ c0) : Nat) ∧ wr.heap[g]? = w1.heap[g]? ∧ Below w.heap.size w wr) (fun c _ => (cellsL f).length - (intOf c).toNat)
  case atStart => exact ⟨0, by omega, rfl, R3, B0, hG3, hB3⟩
  case round =>
    clear R3 B0 hG3 hB3
    obtain ⟨i, hi, rfl, R, B, hG, hB⟩ := hrel
    have lR0 := blk_lt R
    have lB0 := blk_lt B
    have hsz := hB.size
    by_cases hlt : i < (cellsL f).length
    · have hd : decide (i < (cellsL f).length) = true := decide_eq_true hlt
      have hib : (i : Int) < (((cellsL f).length : Nat) : Int) := by omega
      have hci : (cellsL f)[i]? = some (cellsL f)[i] := List.getElem?_eq_getElem hlt
      obtain ⟨c, hc⟩ : ∃ c, c = (cellsL f)[i] := ⟨_, rfl⟩
      rw [← hc] at hci
      clear hc
      have HTK := Lib.hid (show (cellsL f).take (i + 1) = (cellsL f).take i ++ [c] by rw [List.take_add_one, hci]; rfl)
      obtain ⟨q0, q1, q2⟩ := HCS.out i c hci
      clear hci
      obtain ⟨m0, hm0⟩ : ∃ m, m = minL cX ((cellsL f).take i) (cX c0) := ⟨_, rfl⟩
      rw [← hm0] at B
      have HM0 := Lib.hid hm0
      clear hm0
      obtain ⟨m1, hm1⟩ : ∃ m, m = minL cY ((cellsL f).take i) (cY c0) := ⟨_, rfl⟩
      rw [← hm1] at B
      have HM1 := Lib.hid hm1
      clear hm1
      obtain ⟨m2, hm2⟩ : ∃ m, m = minL cZ ((cellsL f).take i) (cZ c0) := ⟨_, rfl⟩
      rw [← hm2] at B
      have HM2 := Lib.hid hm2
      clear hm2
      obtain ⟨m3, hm3⟩ : ∃ m, m = maxL cX ((cellsL f).take i) (cX c0) := ⟨_, rfl⟩
      rw [← hm3] at B
      have HM3 := Lib.hid hm3
      clear hm3
      obtain ⟨m4, hm4⟩ : ∃ m, m = maxL cY ((cellsL f).take i) (cY c0) := ⟨_, rfl⟩
      rw [← hm4] at B
      have HM4 := Lib.hid hm4
      clear hm4
      obtain ⟨m5, hm5⟩ : ∃ m, m = maxL cZ ((cellsL f).take i) (cZ c0) := ⟨_, rfl⟩
      rw [← hm5] at B
      have HM5 := Lib.hid hm5
      clear hm5
      have hgl : g < wr.heap.size := Nat.lt_of_not_le fun h => by
        have h1 : wr.heap[g]? = none := Array.getElem?_eq_none h
        rw [hG] at h1
        simp [hg] at h1
      have R_0 := R; have B_0 := B; have hG_0 := hG; have hB_0 := hB; have hgl_0 := hgl; have lB_0 : N < wr.heap.size := lB0
      clear R B hG hB hgl lB0
      have k0 := (cell_same hG_0 (i * 3)).trans q0
      have k1 := (cell_same hG_0 (i * 3 + 1)).trans q1
      have k2 := (cell_same hG_0 (i * 3 + 2)).trans q2
      obtain ⟨b0, b1, b2, b3, b4, b5⟩ := Box6.cells B_0
      have e0 : min ((m0 : Nat) : Int) ((cX c : Nat) : Int) = ((min m0 (cX c) : Nat) : Int) := min_nat _ _
      go_wp2_with fail
      (refine wp_region_quiet_tail 11 (fun w' => Below wr.heap.size wr w') (by kernel_rfl) (by kernel_rfl) (Below.drew (Below.refl _ _)) ?_; simp only [List.take_succ_cons, List.take_zero, List.drop_succ_cons, List.drop_zero]; (iterate 11 (refine wpQuiet_step (fun K hK => ?_); go_simp; first | (refine hK _ ?_; clear hK K) | (apply Exists.intro; refine ⟨fun W' hW' => ?_, hK _ ?_⟩; (focus (first | (with_reducible exact rfl) | (with_reducible exact ⟨rfl, rfl⟩) | (obtain ⟨hcq, hfq⟩ := bcell hW'; have hzq := hW'.size; (try go_simp); first | (with_reducible exact rfl) | (with_reducible exact ⟨rfl, rfl⟩) | (fail)))); clear hK K))); refine wpQuiet_nil ?_; intro w1q hb1q)
      have B_x := blk_below B_0 hb1q lB_0
      have R_x := blk_below R_0 hb1q (blk_lt R_0)
      have hG_x : w1q.heap[g]? = w1.heap[g]? := (hb1q.block g hgl_0).trans hG_0
      have hB_x : Below w.heap.size w w1q := up hb1q hB_0
      have hgl_x : g < w1q.heap.size := Nat.lt_of_lt_of_le hgl_0 hb1q.size
      have lB_x : N < w1q.heap.size := blk_lt B_x
      clear k0 k1 k2 b0 b1 b2 b3 b4 b5 R_0 B_0 hG_0 hB_0 hgl_0 lB_0 hb1q
      obtain ⟨b0, b1, b2, b3, b4, b5⟩ := Box6.cells B_x
      have fr := blk_free (k := 0) B_x
      have B_1 : Box6 (w1q.setCell ⟨N, 0, none⟩ (.int .i64 ((min m0 (cX c) : Nat) : Int))) N ((min m0 (cX c)) : Nat) (m1 : Nat) (m2 : Nat) (m3 : Nat) (m4 : Nat) (m5 : Nat) := blk_set (k := 0) B_x _
      have R_1 : Box6 (w1q.setCell ⟨N, 0, none⟩ (.int .i64 ((min m0 (cX c) : Nat) : Int))) (w.heap.size + 1) 0 0 0 0 0 0 := blk_other R_x (by omega) _
      have hG_1 : (w1q.setCell ⟨N, 0, none⟩ (.int .i64 ((min m0 (cX c) : Nat) : Int))).heap[g]? = w1.heap[g]? := (Below.heap_setCell _ ⟨N, 0, none⟩ _ g hgN).trans hG_x
      have hB_1 : Below w.heap.size w (w1q.setCell ⟨N, 0, none⟩ (.int .i64 ((min m0 (cX c) : Nat) : Int))) := hB_x.setCell (p := ⟨N, 0, none⟩) (by simp; omega) _
      have hgl_1 : g < (w1q.setCell ⟨N, 0, none⟩ (.int .i64 ((min m0 (cX c) : Nat) : Int))).heap.size := by simpa using hgl_x
      have lB_1 : N < (w1q.setCell ⟨N, 0, none⟩ (.int .i64 ((min m0 (cX c) : Nat) : Int))).heap.size := by simpa using lB_x
      go_upto_region 9 with fail
      obtain ⟨U1, hU1⟩ : ∃ U, U = (w1q.setCell ⟨N, 0, none⟩ (.int .i64 ((min m0 (cX c) : Nat) : Int))) := ⟨_, rfl⟩
      rw [← hU1] at R_1 B_1 hG_1 hB_1 hgl_1 lB_1 ⊢
      clear hU1 R_x B_x hG_x hB_x hgl_x lB_x b0 b1 b2 b3 b4 b5 fr
      clear w1q
      have k0 := (cell_same hG_1 (i * 3)).trans q0
      have k1 := (cell_same hG_1 (i * 3 + 1)).trans q1
      have k2 := (cell_same hG_1 (i * 3 + 2)).trans q2
      obtain ⟨b0, b1, b2, b3, b4, b5⟩ := Box6.cells B_1
      have e1 : min ((m1 : Nat) : Int) ((cY c : Nat) : Int) = ((min m1 (cY c) : Nat) : Int) := min_nat _ _
      (refine wp_region_quiet_tail 11 (fun w' => Below U1.heap.size U1 w') (by kernel_rfl) (by kernel_rfl) (Below.drew (Below.refl _ _)) ?_; simp only [List.take_succ_cons, List.take_zero, List.drop_succ_cons, List.drop_zero]; (iterate 11 (refine wpQuiet_step (fun K hK => ?_); go_simp; first | (refine hK _ ?_; clear hK K) | (apply Exists.intro; refine ⟨fun W' hW' => ?_, hK _ ?_⟩; (focus (first | (with_reducible exact rfl) | (with_reducible exact ⟨rfl, rfl⟩) | (obtain ⟨hcq, hfq⟩ := bcell hW'; have hzq := hW'.size; (try go_simp); first | (with_reducible exact rfl) | (with_reducible exact ⟨rfl, rfl⟩) | (fail)))); clear hK K))); refine wpQuiet_nil ?_; intro w1q hb1q)
      have B_x := blk_below B_1 hb1q lB_1
      have R_x := blk_below R_1 hb1q (blk_lt R_1)
      have hG_x : w1q.heap[g]? = w1.heap[g]? := (hb1q.block g hgl_1).trans hG_1
      have hB_x : Below w.heap.size w w1q := up hb1q hB_1
      have hgl_x : g < w1q.heap.size := Nat.lt_of_lt_of_le hgl_1 hb1q.size
      have lB_x : N < w1q.heap.size := blk_lt B_x
      clear k0 k1 k2 b0 b1 b2 b3 b4 b5 R_1 B_1 hG_1 hB_1 hgl_1 lB_1 hb1q
      obtain ⟨b0, b1, b2, b3, b4, b5⟩ := Box6.cells B_x
      have fr := blk_free (k := 1) B_x
      have B_2 : Box6 (w1q.setCell ⟨N, 1, none⟩ (.int .i64 ((min m1 (cY c) : Nat) : Int))) N ((min m0 (cX c)) : Nat) ((min m1 (cY c)) : Nat) (m2 : Nat) (m3 : Nat) (m4 : Nat) (m5 : Nat) := blk_set (k := 1) B_x _
      have R_2 : Box6 (w1q.setCell ⟨N, 1, none⟩ (.int .i64 ((min m1 (cY c) : Nat) : Int))) (w.heap.size + 1) 0 0 0 0 0 0 := blk_other R_x (by omega) _
      have hG_2 : (w1q.setCell ⟨N, 1, none⟩ (.int .i64 ((min m1 (cY c) : Nat) : Int))).heap[g]? = w1.heap[g]? := (Below.heap_setCell _ ⟨N, 1, none⟩ _ g hgN).trans hG_x
      have hB_2 : Below w.heap.size w (w1q.setCell ⟨N, 1, none⟩ (.int .i64 ((min m1 (cY c) : Nat) : Int))) := hB_x.setCell (p := ⟨N, 1, none⟩) (by simp; omega) _
      have hgl_2 : g < (w1q.setCell ⟨N, 1, none⟩ (.int .i64 ((min m1 (cY c) : Nat) : Int))).heap.size := by simpa using hgl_x
      have lB_2 : N < (w1q.setCell ⟨N, 1, none⟩ (.int .i64 ((min m1 (cY c) : Nat) : Int))).heap.size := by simpa using lB_x
      go_upto_region 10 with fail
      obtain ⟨U2, hU2⟩ : ∃ U, U = (w1q.setCell ⟨N, 1, none⟩ (.int .i64 ((min m1 (cY c) : Nat) : Int))) := ⟨_, rfl⟩
      rw [← hU2] at R_2 B_2 hG_2 hB_2 hgl_2 lB_2 ⊢
      clear hU2 R_x B_x hG_x hB_x hgl_x lB_x b0 b1 b2 b3 b4 b5 fr
      clear w1q
      have k0 := (cell_same hG_2 (i * 3)).trans q0
      have k1 := (cell_same hG_2 (i * 3 + 1)).trans q1
      have k2 := (cell_same hG_2 (i * 3 + 2)).trans q2
      obtain ⟨b0, b1, b2, b3, b4, b5⟩ := Box6.cells B_2
      have e2 : min ((m2 : Nat) : Int) ((cZ c : Nat) : Int) = ((min m2 (cZ c) : Nat) : Int) := min_nat _ _
      (refine wp_region_quiet_tail 11 (fun w' => Below U2.heap.size U2 w') (by kernel_rfl) (by kernel_rfl) (Below.drew (Below.refl _ _)) ?_; simp only [List.take_succ_cons, List.take_zero, List.drop_succ_cons, List.drop_zero]; (iterate 11 (refine wpQuiet_step (fun K hK => ?_); go_simp; first | (refine hK _ ?_; clear hK K) | (apply Exists.intro; refine ⟨fun W' hW' => ?_, hK _ ?_⟩; (focus (first | (with_reducible exact rfl) | (with_reducible exact ⟨rfl, rfl⟩) | (obtain ⟨hcq, hfq⟩ := bcell hW'; have hzq := hW'.size; (try go_simp); first | (with_reducible exact rfl) | (with_reducible exact ⟨rfl, rfl⟩) | (fail)))); clear hK K))); refine wpQuiet_nil ?_; intro w1q hb1q)
      have B_x := blk_below B_2 hb1q lB_2
      have R_x := blk_below R_2 hb1q (blk_lt R_2)
      have hG_x : w1q.heap[g]? = w1.heap[g]? := (hb1q.block g hgl_2).trans hG_2
      have hB_x : Below w.heap.size w w1q := up hb1q hB_2
      have hgl_x : g < w1q.heap.size := Nat.lt_of_lt_of_le hgl_2 hb1q.size
      have lB_x : N < w1q.heap.size := blk_lt B_x
      clear k0 k1 k2 b0 b1 b2 b3 b4 b5 R_2 B_2 hG_2 hB_2 hgl_2 lB_2 hb1q
      obtain ⟨b0, b1, b2, b3, b4, b5⟩ := Box6.cells B_x
      have fr := blk_free (k := 2) B_x
      have B_3 : Box6 (w1q.setCell ⟨N, 2, none⟩ (.int .i64 ((min m2 (cZ c) : Nat) : Int))) N ((min m0 (cX c)) : Nat) ((min m1 (cY c)) : Nat) ((min m2 (cZ c)) : Nat) (m3 : Nat) (m4 : Nat) (m5 : Nat) := blk_set (k := 2) B_x _
      have R_3 : Box6 (w1q.setCell ⟨N, 2, none⟩ (.int .i64 ((min m2 (cZ c) : Nat) : Int))) (w.heap.size + 1) 0 0 0 0 0 0 := blk_other R_x (by omega) _
      have hG_3 : (w1q.setCell ⟨N, 2, none⟩ (.int .i64 ((min m2 (cZ c) : Nat) : Int))).heap[g]? = w1.heap[g]? := (Below.heap_setCell _ ⟨N, 2, none⟩ _ g hgN).trans hG_x
      have hB_3 : Below w.heap.size w (w1q.setCell ⟨N, 2, none⟩ (.int .i64 ((min m2 (cZ c) : Nat) : Int))) := hB_x.setCell (p := ⟨N, 2, none⟩) (by simp; omega) _
      have hgl_3 : g < (w1q.setCell ⟨N, 2, none⟩ (.int .i64 ((min m2 (cZ c) : Nat) : Int))).heap.size := by simpa using hgl_x
      have lB_3 : N < (w1q.setCell ⟨N, 2, none⟩ (.int .i64 ((min m2 (cZ c) : Nat) : Int))).heap.size := by simpa using lB_x
      go_upto_region 11 with fail
      obtain ⟨U3, hU3⟩ : ∃ U, U = (w1q.setCell ⟨N, 2, none⟩ (.int .i64 ((min m2 (cZ c) : Nat) : Int))) := ⟨_, rfl⟩
      rw [← hU3] at R_3 B_3 hG_3 hB_3 hgl_3 lB_3 ⊢
      clear hU3 R_x B_x hG_x hB_x hgl_x lB_x b0 b1 b2 b3 b4 b5 fr
      clear w1q
      have k0 := (cell_same hG_3 (i * 3)).trans q0
      have k1 := (cell_same hG_3 (i * 3 + 1)).trans q1
      have k2 := (cell_same hG_3 (i * 3 + 2)).trans q2
      obtain ⟨b0, b1, b2, b3, b4, b5⟩ := Box6.cells B_3
      have e3 : max ((m3 : Nat) : Int) ((cX c : Nat) : Int) = ((max m3 (cX c) : Nat) : Int) := max_nat _ _
      (refine wp_region_quiet_tail 11 (fun w' => Below U3.heap.size U3 w') (by kernel_rfl) (by kernel_rfl) (Below.drew (Below.refl _ _)) ?_; simp only [List.take_succ_cons, List.take_zero, List.drop_succ_cons, List.drop_zero]; (iterate 11 (refine wpQuiet_step (fun K hK => ?_); go_simp; first | (refine hK _ ?_; clear hK K) | (apply Exists.intro; refine ⟨fun W' hW' => ?_, hK _ ?_⟩; (focus (first | (with_reducible exact rfl) | (with_reducible exact ⟨rfl, rfl⟩) | (obtain ⟨hcq, hfq⟩ := bcell hW'; have hzq := hW'.size; (try go_simp); first | (with_reducible exact rfl) | (with_reducible exact ⟨rfl, rfl⟩) | (fail)))); clear hK K))); refine wpQuiet_nil ?_; intro w1q hb1q)
      have B_x := blk_below B_3 hb1q lB_3
      have R_x := blk_below R_3 hb1q (blk_lt R_3)
      have hG_x : w1q.heap[g]? = w1.heap[g]? := (hb1q.block g hgl_3).trans hG_3
      have hB_x : Below w.heap.size w w1q := up hb1q hB_3
      have hgl_x : g < w1q.heap.size := Nat.lt_of_lt_of_le hgl_3 hb1q.size
      have lB_x : N < w1q.heap.size := blk_lt B_x
      clear k0 k1 k2 b0 b1 b2 b3 b4 b5 R_3 B_3 hG_3 hB_3 hgl_3 lB_3 hb1q
      obtain ⟨b0, b1, b2, b3, b4, b5⟩ := Box6.cells B_x
      have fr := blk_free (k := 3) B_x
      have B_4 : Box6 (w1q.setCell ⟨N, 3, none⟩ (.int .i64 ((max m3 (cX c) : Nat) : Int))) N ((min m0 (cX c)) : Nat) ((min m1 (cY c)) : Nat) ((min m2 (cZ c)) : Nat) ((max m3 (cX c)) : Nat) (m4 : Nat) (m5 : Nat) := blk_set (k := 3) B_x _
      have R_4 : Box6 (w1q.setCell ⟨N, 3, none⟩ (.int .i64 ((max m3 (cX c) : Nat) : Int))) (w.heap.size + 1) 0 0 0 0 0 0 := blk_other R_x (by omega) _
      have hG_4 : (w1q.setCell ⟨N, 3, none⟩ (.int .i64 ((max m3 (cX c) : Nat) : Int))).heap[g]? = w1.heap[g]? := (Below.heap_setCell _ ⟨N, 3, none⟩ _ g hgN).trans hG_x
      have hB_4 : Below w.heap.size w (w1q.setCell ⟨N, 3, none⟩ (.int .i64 ((max m3 (cX c) : Nat) : Int))) := hB_x.setCell (p := ⟨N, 3, none⟩) (by simp; omega) _
      have hgl_4 : g < (w1q.setCell ⟨N, 3, none⟩ (.int .i64 ((max m3 (cX c) : Nat) : Int))).heap.size := by simpa using hgl_x
      have lB_4 : N < (w1q.setCell ⟨N, 3, none⟩ (.int .i64 ((max m3 (cX c) : Nat) : Int))).heap.size := by simpa using lB_x
      go_upto_region 12 with fail
      obtain ⟨U4, hU4⟩ : ∃ U, U = (w1q.setCell ⟨N, 3, none⟩ (.int .i64 ((max m3 (cX c) : Nat) : Int))) := ⟨_, rfl⟩
      rw [← hU4] at R_4 B_4 hG_4 hB_4 hgl_4 lB_4 ⊢
      clear hU4 R_x B_x hG_x hB_x hgl_x lB_x b0 b1 b2 b3 b4 b5 fr
      clear w1q
      have k0 := (cell_same hG_4 (i * 3)).trans q0
      have k1 := (cell_same hG_4 (i * 3 + 1)).trans q1
      have k2 := (cell_same hG_4 (i * 3 + 2)).trans q2
      obtain ⟨b0, b1, b2, b3, b4, b5⟩ := Box6.cells B_4
      have e4 : max ((m4 : Nat) : Int) ((cY c : Nat) : Int) = ((max m4 (cY c) : Nat) : Int) := max_nat _ _
      (refine wp_region_quiet_tail 11 (fun w' => Below U4.heap.size U4 w') (by kernel_rfl) (by kernel_rfl) (Below.drew (Below.refl _ _)) ?_; simp only [List.take_succ_cons, List.take_zero, List.drop_succ_cons, List.drop_zero]; (iterate 11 (refine wpQuiet_step (fun K hK => ?_); go_simp; first | (refine hK _ ?_; clear hK K) | (apply Exists.intro; refine ⟨fun W' hW' => ?_, hK _ ?_⟩; (focus (first | (with_reducible exact rfl) | (with_reducible exact ⟨rfl, rfl⟩) | (obtain ⟨hcq, hfq⟩ := bcell hW'; have hzq := hW'.size; (try go_simp); first | (with_reducible exact rfl) | (with_reducible exact ⟨rfl, rfl⟩) | (fail)))); clear hK K))); refine wpQuiet_nil ?_; intro w1q hb1q)
      have B_x := blk_below B_4 hb1q lB_4
      have R_x := blk_below R_4 hb1q (blk_lt R_4)
      have hG_x : w1q.heap[g]? = w1.heap[g]? := (hb1q.block g hgl_4).trans hG_4
      have hB_x : Below w.heap.size w w1q := up hb1q hB_4
      have hgl_x : g < w1q.heap.size := Nat.lt_of_lt_of_le hgl_4 hb1q.size
      have lB_x : N < w1q.heap.size := blk_lt B_x
      clear k0 k1 k2 b0 b1 b2 b3 b4 b5 R_4 B_4 hG_4 hB_4 hgl_4 lB_4 hb1q
      obtain ⟨b0, b1, b2, b3, b4, b5⟩ := Box6.cells B_x
      have fr := blk_free (k := 4) B_x
      have B_5 : Box6 (w1q.setCell ⟨N, 4, none⟩ (.int .i64 ((max m4 (cY c) : Nat) : Int))) N ((min m0 (cX c)) : Nat) ((min m1 (cY c)) : Nat) ((min m2 (cZ c)) : Nat) ((max m3 (cX c)) : Nat) ((max m4 (cY c)) : Nat) (m5 : Nat) := blk_set (k := 4) B_x _
      have R_5 : Box6 (w1q.setCell ⟨N, 4, none⟩ (.int .i64 ((max m4 (cY c) : Nat) : Int))) (w.heap.size + 1) 0 0 0 0 0 0 := blk_other R_x (by omega) _
      have hG_5 : (w1q.setCell ⟨N, 4, none⟩ (.int .i64 ((max m4 (cY c) : Nat) : Int))).heap[g]? = w1.heap[g]? := (Below.heap_setCell _ ⟨N, 4, none⟩ _ g hgN).trans hG_x
      have hB_5 : Below w.heap.size w (w1q.setCell ⟨N, 4, none⟩ (.int .i64 ((max m4 (cY c) : Nat) : Int))) := hB_x.setCell (p := ⟨N, 4, none⟩) (by simp; omega) _
      have hgl_5 : g < (w1q.setCell ⟨N, 4, none⟩ (.int .i64 ((max m4 (cY c) : Nat) : Int))).heap.size := by simpa using hgl_x
      have lB_5 : N < (w1q.setCell ⟨N, 4, none⟩ (.int .i64 ((max m4 (cY c) : Nat) : Int))).heap.size := by simpa using lB_x
      go_upto_region 13 with fail
      obtain ⟨U5, hU5⟩ : ∃ U, U = (w1q.setCell ⟨N, 4, none⟩ (.int .i64 ((max m4 (cY c) : Nat) : Int))) := ⟨_, rfl⟩
      rw [← hU5] at R_5 B_5 hG_5 hB_5 hgl_5 lB_5 ⊢
      clear hU5 R_x B_x hG_x hB_x hgl_x lB_x b0 b1 b2 b3 b4 b5 fr
      clear w1q
      have k0 := (cell_same hG_5 (i * 3)).trans q0
      have k1 := (cell_same hG_5 (i * 3 + 1)).trans q1
      have k2 := (cell_same hG_5 (i * 3 + 2)).trans q2
      obtain ⟨b0, b1, b2, b3, b4, b5⟩ := Box6.cells B_5
      have e5 : max ((m5 : Nat) : Int) ((cZ c : Nat) : Int) = ((max m5 (cZ c) : Nat) : Int) := max_nat _ _
      (refine wp_region_quiet_tail 11 (fun w' => Below U5.heap.size U5 w') (by kernel_rfl) (by kernel_rfl) (Below.drew (Below.refl _ _)) ?_; simp only [List.take_succ_cons, List.take_zero, List.drop_succ_cons, List.drop_zero]; (iterate 11 (refine wpQuiet_step (fun K hK => ?_); go_simp; first | (refine hK _ ?_; clear hK K) | (apply Exists.intro; refine ⟨fun W' hW' => ?_, hK _ ?_⟩; (focus (first | (with_reducible exact rfl) | (with_reducible exact ⟨rfl, rfl⟩) | (obtain ⟨hcq, hfq⟩ := bcell hW'; have hzq := hW'.size; (try go_simp); first | (with_reducible exact rfl) | (with_reducible exact ⟨rfl, rfl⟩) | (fail)))); clear hK K))); refine wpQuiet_nil ?_; intro w1q hb1q)
      have B_x := blk_below B_5 hb1q lB_5
      have R_x := blk_below R_5 hb1q (blk_lt R_5)
      have hG_x : w1q.heap[g]? = w1.heap[g]? := (hb1q.block g hgl_5).trans hG_5
      have hB_x : Below w.heap.size w w1q := up hb1q hB_5
      have hgl_x : g < w1q.heap.size := Nat.lt_of_lt_of_le hgl_5 hb1q.size
      have lB_x : N < w1q.heap.size := blk_lt B_x
      clear k0 k1 k2 b0 b1 b2 b3 b4 b5 R_5 B_5 hG_5 hB_5 hgl_5 lB_5 hb1q
      obtain ⟨b0, b1, b2, b3, b4, b5⟩ := Box6.cells B_x
      have fr := blk_free (k := 5) B_x
      have B_6 : Box6 (w1q.setCell ⟨N, 5, none⟩ (.int .i64 ((max m5 (cZ c) : Nat) : Int))) N ((min m0 (cX c)) : Nat) ((min m1 (cY c)) : Nat) ((min m2 (cZ c)) : Nat) ((max m3 (cX c)) : Nat) ((max m4 (cY c)) : Nat) ((max m5 (cZ c)) : Nat) := blk_set (k := 5) B_x _
      have R_6 : Box6 (w1q.setCell ⟨N, 5, none⟩ (.int .i64 ((max m5 (cZ c) : Nat) : Int))) (w.heap.size + 1) 0 0 0 0 0 0 := blk_other R_x (by omega) _
      have hG_6 : (w1q.setCell ⟨N, 5, none⟩ (.int .i64 ((max m5 (cZ c) : Nat) : Int))).heap[g]? = w1.heap[g]? := (Below.heap_setCell _ ⟨N, 5, none⟩ _ g hgN).trans hG_x
      have hB_6 : Below w.heap.size w (w1q.setCell ⟨N, 5, none⟩ (.int .i64 ((max m5 (cZ c) : Nat) : Int))) := hB_x.setCell (p := ⟨N, 5, none⟩) (by simp; omega) _
      have hgl_6 : g < (w1q.setCell ⟨N, 5, none⟩ (.int .i64 ((max m5 (cZ c) : Nat) : Int))).heap.size := by simpa using hgl_x
      have lB_6 : N < (w1q.setCell ⟨N, 5, none⟩ (.int .i64 ((max m5 (cZ c) : Nat) : Int))).heap.size := by simpa using lB_x
      go_wp2_with fail
      have HBX : Box6 (w1q.setCell ⟨N, 5, none⟩ (.int .i64 ((max m5 (cZ c) : Nat) : Int))) N (minL cX ((cellsL f).take (i + 1)) (cX c0) : Nat) (minL cY ((cellsL f).take (i + 1)) (cY c0) : Nat) (minL cZ ((cellsL f).take (i + 1)) (cZ c0) : Nat) (maxL cX ((cellsL f).take (i + 1)) (cX c0) : Nat) (maxL cY ((cellsL f).take (i + 1)) (cY c0) : Nat) (maxL cZ ((cellsL f).take (i + 1)) (cZ c0) : Nat) := by
        rw [HTK.out, minL_snoc, minL_snoc, minL_snoc, maxL_snoc, maxL_snoc, maxL_snoc, ← HM0.out, ← HM1.out, ← HM2.out, ← HM3.out, ← HM4.out, ← HM5.out]
        exact B_6
      case roundEnd => exact ⟨⟨i + 1, by omega, by simp, R_6, HBX, hG_6, hB_6⟩, by simp [intOf]; omega⟩
    · obtain rfl : i = (cellsL f).length := by omega
      have hd : decide ((cellsL f).length < (cellsL f).length) = false := decide_eq_false (by omega)
      rw [List.take_length] at B
      obtain ⟨⟨ax, ay, az⟩, bx, by_, bz⟩ := BA.out
      rw [ax, ay, az, bx, by_, bz] at B
      obtain ⟨x0, x1, y0, y1, z0, z1⟩ := BN.out
      rw [show ((highX f - 1 : Nat) : Int) = (highX f : Int) - 1 by omega, show ((highY f - 1 : Nat) : Int) = (highY f : Int) - 1 by omega, show ((highZ f - 1 : Nat) : Int) = (highZ f : Int) - 1 by omega] at B
      obtain ⟨b0, b1, b2, b3, b4, b5⟩ := Box6.cells B
      obtain ⟨r0, r1, r2, r3, r4, r5⟩ := Box6.cells R
      have g0 := blk_free (k := 0) R; have g1 := blk_free (k := 1) R; have g2 := blk_free (k := 2) R; have g3 := blk_free (k := 3) R; have g4 := blk_free (k := 4) R; have g5 := blk_free (k := 5) R
      clear ax ay az bx by_ bz x0 x1 y0 y1 z0 z1
      go_wp2_with fail
      have bE := (blk_set (k := 5) (blk_set (k := 4) (blk_set (k := 3) (blk_set (k := 2) (blk_set (k := 1) (blk_set (k := 0) R (.int .i64 ((lowX f : Nat) : Int))) (.int .i64 ((lowY f : Nat) : Int))) (.int .i64 ((lowZ f : Nat) : Int))) (.int .i64 (((highX f : Nat) : Int) - 1))) (.int .i64 (((highY f : Nat) : Int) - 1))) (.int .i64 (((highZ f : Nat) : Int) - 1)))
      refine bodyPost_ret (res_6e Tryz.results39 rfl (blk_cell (k := 0) bE) (blk_cell (k := 1) bE) (blk_cell (k := 2) bE) (blk_cell (k := 3) bE) (blk_cell (k := 4) bE) (blk_cell (k := 5) bE)) rfl ⟨rfl, ?_⟩
      repeat' (first | (with_reducible exact Below.refl _ _) | (with_reducible assumption) | (with_reducible refine Below.alloc ?_ ?_ _) | (with_reducible refine Below.drew ?_) | (with_reducible refine below_drewN ?_ _) | (with_reducible refine Below.setCell ?_ ?_ _) | go_size)
end Go.Proofs.YtadkaplafaeebaaGreatDoor
/-
  The law of boxes: its walk, the contracts of its callees given; the law for every solid and box.
-/
set_option linter.unusedVariables false
set_option linter.unusedSimpArgs false
namespace Go.Proofs.YtadkaplafaeebaaGreatDoor
open Go Go.RowKit

set_option maxRecDepth 100000 in
set_option maxHeartbeats 4000000 in
theorem boxes_core (f p : Sol) (a b c d e0 g x0 x1 x2 x3 x4 x5 e : Int) (is : Bool) (w : World) (hT : Tab64 w)
    (H1 : Hid (∀ W, Tab64 W → Calls Tryz.prog 38 #[sol f] W (RetB (.tuple #[.agg #[.int .i64 (x0), .int .i64 (x1), .int .i64 (x2), .int .i64 (x3), .int .i64 (x4), .int .i64 (x5)], .bool is]) W)))
    (H2 : Hid (∀ W, Calls Tryz.prog 39 #[sol f] W (RetB (.tuple #[.agg #[.int .i64 (x0), .int .i64 (x1), .int .i64 (x2), .int .i64 (x3), .int .i64 (x4), .int .i64 (x5)], .bool is]) W)))
    (H3 : Hid (∀ W, Calls Tryz.prog 40 #[.agg #[.int .i64 (a), .int .i64 (b), .int .i64 (c), .int .i64 (d), .int .i64 (e0), .int .i64 (g)]] W (RetB (.tuple #[sol p, .int .i64 e]) W)))
    (H4 : Hid (∀ W, Calls Tryz.prog 41 #[.agg #[.int .i64 (a), .int .i64 (b), .int .i64 (c), .int .i64 (d), .int .i64 (e0), .int .i64 (g)]] W (RetB (.tuple #[sol p, .int .i64 e]) W)))
    (HC : Hid (∀ W, Tab64 W → Calls Tryz.prog 20 #[] W (RetB (.bool true) W))) :
    Calls Tryz.prog 4 #[sol f, .agg #[.int .i64 (a), .int .i64 (b), .int .i64 (c), .int .i64 (d), .int .i64 (e0), .int .i64 (g)]] w (RetB (.bool true) w) := by
  have HT := Lib.hid hT
  clear hT
  have S_0 : BoxS ((w.alloc (.cells (solC f) 24)).alloc (.cells #[.int .i64 (a), .int .i64 (b), .int .i64 (c), .int .i64 (d), .int .i64 (e0), .int .i64 (g)] 40)) w.heap.size f := ((BoxS.new _ _).alloc _)
  have B_0 : ((w.alloc (.cells (solC f) 24)).alloc (.cells #[.int .i64 (a), .int .i64 (b), .int .i64 (c), .int .i64 (d), .int .i64 (e0), .int .i64 (g)] 40)).heap[(w.heap.size + 1)]? = some (.cells #[.int .i64 (a), .int .i64 (b), .int .i64 (c), .int .i64 (d), .int .i64 (e0), .int .i64 (g)] 40 (0, 0)) := (blk_new (by simp))
  have hB0 : Below w.heap.size w ((w.alloc (.cells (solC f) 24)).alloc (.cells #[.int .i64 (a), .int .i64 (b), .int .i64 (c), .int .i64 (d), .int .i64 (e0), .int .i64 (g)] 40)) := by repeat' (first | (with_reducible exact Below.refl _ _) | (with_reducible assumption) | (with_reducible refine Below.alloc ?_ ?_ _) | (with_reducible refine Below.drew ?_) | (with_reducible refine below_drewN ?_ _) | (with_reducible refine Below.setCell ?_ ?_ _) | go_size)
  go_enter Tryz.func4, Tryz.ntmps4
  have cS0 := (S_0).cell (k := 0) (by omega); have cS1 := (S_0).cell (k := 1) (by omega); have cS2 := (S_0).cell (k := 2) (by omega); have cS3 := (S_0).cell (k := 3) (by omega); have cS4 := (S_0).cell (k := 4) (by omega); have cS5 := (S_0).cell (k := 5) (by omega); have cS6 := (S_0).cell (k := 6) (by omega); have cS7 := (S_0).cell (k := 7) (by omega)
  go_wp2_with fail
  clear cS0 cS1 cS2 cS3 cS4 cS5 cS6 cS7
  refine (H1.out _ (HT.out.below hB0 (Nat.le_refl _))).mono ?_
  rintro e w1 ⟨rfl, b1⟩
  have S_1 := (S_0.below b1 S_0.lt).alloc (.cells #[.int .i64 (x0), .int .i64 (x1), .int .i64 (x2), .int .i64 (x3), .int .i64 (x4), .int .i64 (x5)] 40)
  have B_1 := blk_alloc (blk_below B_0 b1 (blk_lt B_0)) (.cells #[.int .i64 (x0), .int .i64 (x1), .int .i64 (x2), .int .i64 (x3), .int .i64 (x4), .int .i64 (x5)] 40)
  have hB1q : Below w.heap.size w w1 := up b1 hB0
  have hB1 := hB1q.alloc hB1q.size (.cells #[.int .i64 (x0), .int .i64 (x1), .int .i64 (x2), .int .i64 (x3), .int .i64 (x4), .int .i64 (x5)] 40)
  clear S_0 B_0 hB0 b1 hB1q
  have X_1 : (w1.alloc (.cells #[.int .i64 (x0), .int .i64 (x1), .int .i64 (x2), .int .i64 (x3), .int .i64 (x4), .int .i64 (x5)] 40)).heap[w1.heap.size]? = some (.cells #[.int .i64 (x0), .int .i64 (x1), .int .i64 (x2), .int .i64 (x3), .int .i64 (x4), .int .i64 (x5)] 40 (0, 0)) := blk_new rfl
  have cS0 := (S_1).cell (k := 0) (by omega); have cS1 := (S_1).cell (k := 1) (by omega); have cS2 := (S_1).cell (k := 2) (by omega); have cS3 := (S_1).cell (k := 3) (by omega); have cS4 := (S_1).cell (k := 4) (by omega); have cS5 := (S_1).cell (k := 5) (by omega); have cS6 := (S_1).cell (k := 6) (by omega); have cS7 := (S_1).cell (k := 7) (by omega)
  go_wp2_with fail
  clear cS0 cS1 cS2 cS3 cS4 cS5 cS6 cS7
  refine (H2.out _).mono ?_
  rintro e w2 ⟨rfl, b2⟩
  have S_2 := (S_1.below b2 S_1.lt).alloc (.cells #[.int .i64 (x0), .int .i64 (x1), .int .i64 (x2), .int .i64 (x3), .int .i64 (x4), .int .i64 (x5)] 40)
  have B_2 := blk_alloc (blk_below B_1 b2 (blk_lt B_1)) (.cells #[.int .i64 (x0), .int .i64 (x1), .int .i64 (x2), .int .i64 (x3), .int .i64 (x4), .int .i64 (x5)] 40)
  have X_2 := blk_alloc (blk_below X_1 b2 (blk_lt X_1)) (.cells #[.int .i64 (x0), .int .i64 (x1), .int .i64 (x2), .int .i64 (x3), .int .i64 (x4), .int .i64 (x5)] 40)
  have hB2q : Below w.heap.size w w2 := up b2 hB1
  have hB2 := hB2q.alloc hB2q.size (.cells #[.int .i64 (x0), .int .i64 (x1), .int .i64 (x2), .int .i64 (x3), .int .i64 (x4), .int .i64 (x5)] 40)
  clear S_1 B_1 X_1 hB1 b2 hB2q
  have Y_2 : (w2.alloc (.cells #[.int .i64 (x0), .int .i64 (x1), .int .i64 (x2), .int .i64 (x3), .int .i64 (x4), .int .i64 (x5)] 40)).heap[w2.heap.size]? = some (.cells #[.int .i64 (x0), .int .i64 (x1), .int .i64 (x2), .int .i64 (x3), .int .i64 (x4), .int .i64 (x5)] 40 (0, 0)) := blk_new rfl
  have cB0 := blk_cell (k := 0) B_2
  have cB1 := blk_cell (k := 1) B_2
  have cB2 := blk_cell (k := 2) B_2
  have cB3 := blk_cell (k := 3) B_2
  have cB4 := blk_cell (k := 4) B_2
  have cB5 := blk_cell (k := 5) B_2
  simp only [List.getElem?_toArray, List.getElem?_cons_zero, List.getElem?_cons_succ] at cB0 cB1 cB2 cB3 cB4 cB5
  go_wp2_with fail
  clear cB0 cB1 cB2 cB3 cB4 cB5
  refine (H3.out _).mono ?_
  rintro e w3 ⟨rfl, b3⟩
  have S_3 := (S_2.below b3 S_2.lt).alloc (.cells (solC p) 24)
  have B_3 := blk_alloc (blk_below B_2 b3 (blk_lt B_2)) (.cells (solC p) 24)
  have X_3 := blk_alloc (blk_below X_2 b3 (blk_lt X_2)) (.cells (solC p) 24)
  have Y_3 := blk_alloc (blk_below Y_2 b3 (blk_lt Y_2)) (.cells (solC p) 24)
  have hB3q : Below w.heap.size w w3 := up b3 hB2
  have hB3 := hB3q.alloc hB3q.size (.cells (solC p) 24)
  clear S_2 B_2 X_2 Y_2 hB2 b3 hB3q
  have P_3 : BoxS (w3.alloc (.cells (solC p) 24)) w3.heap.size p := BoxS.new _ _
  have cB0 := blk_cell (k := 0) B_3
  have cB1 := blk_cell (k := 1) B_3
  have cB2 := blk_cell (k := 2) B_3
  have cB3 := blk_cell (k := 3) B_3
  have cB4 := blk_cell (k := 4) B_3
  have cB5 := blk_cell (k := 5) B_3
  simp only [List.getElem?_toArray, List.getElem?_cons_zero, List.getElem?_cons_succ] at cB0 cB1 cB2 cB3 cB4 cB5
  go_wp2_with fail
  clear cB0 cB1 cB2 cB3 cB4 cB5
  refine (H4.out _).mono ?_
  rintro e w4 ⟨rfl, b4⟩
  have S_4 := (S_3.below b4 S_3.lt).alloc (.cells (solC p) 24)
  have B_4 := blk_alloc (blk_below B_3 b4 (blk_lt B_3)) (.cells (solC p) 24)
  have X_4 := blk_alloc (blk_below X_3 b4 (blk_lt X_3)) (.cells (solC p) 24)
  have Y_4 := blk_alloc (blk_below Y_3 b4 (blk_lt Y_3)) (.cells (solC p) 24)
  have P_4 := (P_3.below b4 P_3.lt).alloc (.cells (solC p) 24)
  have hB4q : Below w.heap.size w w4 := up b4 hB3
  have hB4 := hB4q.alloc hB4q.size (.cells (solC p) 24)
  clear S_3 B_3 X_3 Y_3 P_3 hB3 b4 hB4q
  have Q_4 : BoxS (w4.alloc (.cells (solC p) 24)) w4.heap.size p := BoxS.new _ _
  go_wp2_with fail
  refine (HC.out _ (HT.out.below hB4 (Nat.le_refl _))).mono ?_
  rintro e w5 ⟨rfl, b5⟩
  have S_5 := S_4.below b5 S_4.lt
  have B_5 := blk_below B_4 b5 (blk_lt B_4)
  have X_5 := blk_below X_4 b5 (blk_lt X_4)
  have Y_5 := blk_below Y_4 b5 (blk_lt Y_4)
  have P_5 := P_4.below b5 P_4.lt
  have Q_5 := Q_4.below b5 Q_4.lt
  have hB5 : Below w.heap.size w w5 := up b5 hB4
  clear S_4 B_4 X_4 Y_4 P_4 Q_4 hB4 b5
  have k1 : eqC (x0, x1, x2) (x0, x1, x2) = true := decide_eq_true rfl
  have k2 : eqC (x3, x4, x5) (x3, x4, x5) = true := decide_eq_true rfl
  have k3 : (is == is) = true := by simp
  have k4 : (e == e) = true := by simp
  have k5 : eqS p p = true := eq_refl' p
  have cX0 := blk_cell (k := 0) X_5
  have cX1 := blk_cell (k := 1) X_5
  have cX2 := blk_cell (k := 2) X_5
  have cX3 := blk_cell (k := 3) X_5
  have cX4 := blk_cell (k := 4) X_5
  have cX5 := blk_cell (k := 5) X_5
  simp only [List.getElem?_toArray, List.getElem?_cons_zero, List.getElem?_cons_succ] at cX0 cX1 cX2 cX3 cX4 cX5
  have cY0 := blk_cell (k := 0) Y_5
  have cY1 := blk_cell (k := 1) Y_5
  have cY2 := blk_cell (k := 2) Y_5
  have cY3 := blk_cell (k := 3) Y_5
  have cY4 := blk_cell (k := 4) Y_5
  have cY5 := blk_cell (k := 5) Y_5
  simp only [List.getElem?_toArray, List.getElem?_cons_zero, List.getElem?_cons_succ] at cY0 cY1 cY2 cY3 cY4 cY5
  have cP0 := (P_5).cell (k := 0) (by omega); have cP1 := (P_5).cell (k := 1) (by omega); have cP2 := (P_5).cell (k := 2) (by omega); have cP3 := (P_5).cell (k := 3) (by omega); have cP4 := (P_5).cell (k := 4) (by omega); have cP5 := (P_5).cell (k := 5) (by omega); have cP6 := (P_5).cell (k := 6) (by omega); have cP7 := (P_5).cell (k := 7) (by omega)
  have cQ0 := (Q_5).cell (k := 0) (by omega); have cQ1 := (Q_5).cell (k := 1) (by omega); have cQ2 := (Q_5).cell (k := 2) (by omega); have cQ3 := (Q_5).cell (k := 3) (by omega); have cQ4 := (Q_5).cell (k := 4) (by omega); have cQ5 := (Q_5).cell (k := 5) (by omega); have cQ6 := (Q_5).cell (k := 6) (by omega); have cQ7 := (Q_5).cell (k := 7) (by omega)
  go_wp2_with fail
  clear cX0 cX1 cX2 cX3 cX4 cX5 cY0 cY1 cY2 cY3 cY4 cY5 cP0 cP1 cP2 cP3 cP4 cP5 cP6 cP7 cQ0 cQ1 cQ2 cQ3 cQ4 cQ5 cQ6 cQ7
  go_ret
  exact ⟨rfl, hB5⟩
theorem boxes_of (f : Sol) (hf : Fit f) (a b c d e g : Int) (w : World) (hT : Tab64 w) :
    Calls Tryz.prog 4 #[sol f, .agg #[.int .i64 (a), .int .i64 (b), .int .i64 (c), .int .i64 (d), .int .i64 (e), .int .i64 (g)]] w (RetB (.bool true) w) := by
  have HC : Hid (∀ W, Tab64 W → Calls Tryz.prog 20 #[] W (RetB (.bool true) W)) := Lib.hid fun W hW => carved_of ev_cav W hW
  obtain ⟨x0, x1, x2, x3, x4, x5, is, H1, H2⟩ : ∃ x0 x1 x2 x3 x4 x5 is, (∀ W : World, Tab64 W → Calls Tryz.prog 38 #[sol f] W (RetB (.tuple #[.agg #[.int .i64 (x0), .int .i64 (x1), .int .i64 (x2), .int .i64 (x3), .int .i64 (x4), .int .i64 (x5)], .bool is]) W)) ∧ (∀ W : World, Calls Tryz.prog 39 #[sol f] W (RetB (.tuple #[.agg #[.int .i64 (x0), .int .i64 (x1), .int .i64 (x2), .int .i64 (x3), .int .i64 (x4), .int .i64 (x5)], .bool is]) W)) := by
    cases he : emptyS f with
    | true => exact ⟨0, 0, 0, 0, 0, 0, false, fun W _ => bounds_no f W he, fun W => rbounds_no f W hf (by rw [cells_of_empty hf he]; rfl)⟩
    | false => exact ⟨_, _, _, _, _, _, true, fun W _ => bounds_yes f W hf he, fun W => rbounds_yes f W hf he⟩
  obtain ⟨p, e', H3, H4⟩ : ∃ p e', (∀ W : World, Calls Tryz.prog 40 #[.agg #[.int .i64 (a), .int .i64 (b), .int .i64 (c), .int .i64 (d), .int .i64 (e), .int .i64 (g)]] W (RetB (.tuple #[sol p, .int .i64 e']) W)) ∧ (∀ W : World, Calls Tryz.prog 41 #[.agg #[.int .i64 (a), .int .i64 (b), .int .i64 (c), .int .i64 (d), .int .i64 (e), .int .i64 (g)]] W (RetB (.tuple #[sol p, .int .i64 e']) W)) := by
    rcases box_case a b c d e g with ⟨a', b', c', d', e', g', ⟨rfl, rfl, rfl⟩, ⟨rfl, rfl, rfl⟩, h1, h2, h3⟩ | ⟨k, hk, h⟩
    · exact ⟨_, 0, fun W => block_in a' b' c' d' e' g' W h1 h2 h3, fun W => rblock_in a' b' c' d' e' g' W h1 h2 h3⟩
    · exact ⟨_, 1, fun W => block_no a b c d e g k W hk h, fun W => rblock_no a b c d e g k W hk h⟩
  exact boxes_core f p a b c d e g x0 x1 x2 x3 x4 x5 e' is w hT (Lib.hid H1) (Lib.hid H2) (Lib.hid H3) (Lib.hid H4) HC
end Go.Proofs.YtadkaplafaeebaaGreatDoor
