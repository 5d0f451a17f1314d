/-
  The reference's Bounds.
-/
import Derived.Test.YtadkaplafaeebaaGreatDoorPkRB
import Derived.Test.YtadkaplafaeebaaGreatDoorPkTE
import Derived.Test.YtadkaplafaeebaaGreatDoorPkO
import Derived.Test.YtadkaplafaeebaaGreatDoorPkP
import Derived.Test.YtadkaplafaeebaaGreatDoorPkZ
import Derived.Test.YtadkaplafaeebaaGreatDoorPkXB
import Derived.Test.YtadkaplafaeebaaGreatDoorPkTC
import Derived.Test.YtadkaplafaeebaaGreatDoorPkTH
import Derived.Test.YtadkaplafaeebaaGreatDoorPkC
set_option linter.unusedVariables false
set_option linter.unusedSimpArgs false
namespace Go.Proofs.YtadkaplafaeebaaGreatDoor
open Go Go.RowKit

set_option maxRecDepth 100000 in
set_option maxHeartbeats 4000000 in
theorem rbounds_no (f : Sol) (w : World) (hf : Fit f) (hL : (cellsL f).length = 0) :
    Calls Tryz.prog 39 #[sol f] w fun e w' => e = .returned (.tuple #[.agg #[.int .i64 (0), .int .i64 (0), .int .i64 (0), .int .i64 (0), .int .i64 (0), .int .i64 (0)], .bool false]) ∧ Below w.heap.size w w' := by
  have HF := Lib.hid hf
  clear hf
  have R0 : Box6 ((w.alloc (.cells (solC f) 24)).alloc (.cells #[.int .i64 (0), .int .i64 (0), .int .i64 (0), .int .i64 (0), .int .i64 (0), .int .i64 (0)] 40)) (w.heap.size + 1) 0 0 0 0 0 0 := blk_new (by simp)
  have hB0 : Below w.heap.size w ((w.alloc (.cells (solC f) 24)).alloc (.cells #[.int .i64 (0), .int .i64 (0), .int .i64 (0), .int .i64 (0), .int .i64 (0), .int .i64 (0)] 40)) := by repeat' (first | (with_reducible exact Below.refl _ _) | (with_reducible assumption) | (with_reducible refine Below.alloc ?_ ?_ _) | (with_reducible refine Below.drew ?_) | (with_reducible refine below_drewN ?_ _) | (with_reducible refine Below.setCell ?_ ?_ _) | go_size)
  go_enter Tryz.func39, Tryz.ntmps39
  go_wp2_with fail
  refine (rcells_ok f _ HF.out).mono ?_
  rintro e w1 ⟨v, rfl, hrow, _, hb1⟩
  have R1 := blk_below R0 hb1 (blk_lt R0)
  have hB1 : Below w.heap.size w w1 := up hb1 hB0
  obtain ⟨p, cap, rfl⟩ := own_len hrow
  rw [hL]
  have lR := blk_lt R1
  obtain ⟨r0, r1, r2, r3, r4, r5⟩ := Box6.cells R1
  have g0 := blk_free (k := 0) R1; have g1 := blk_free (k := 1) R1; have g2 := blk_free (k := 2) R1; have g3 := blk_free (k := 3) R1; have g4 := blk_free (k := 4) R1; have g5 := blk_free (k := 5) R1
  clear hrow
  go_wp2_with fail
  have bE := blk_set (k := 5) (blk_set (k := 4) (blk_set (k := 3) (blk_set (k := 2) (blk_set (k := 1) (blk_set (k := 0) R1 (.int .i64 0)) (.int .i64 0)) (.int .i64 0)) (.int .i64 0)) (.int .i64 0)) (.int .i64 0)
  refine bodyPost_ret (res_6e Tryz.results39 rfl (blk_cell (k := 0) bE) (blk_cell (k := 1) bE) (blk_cell (k := 2) bE) (blk_cell (k := 3) bE) (blk_cell (k := 4) bE) (blk_cell (k := 5) bE)) rfl ⟨rfl, ?_⟩
  repeat' (first | (with_reducible exact Below.refl _ _) | (with_reducible assumption) | (with_reducible refine Below.alloc ?_ ?_ _) | (with_reducible refine Below.drew ?_) | (with_reducible refine below_drewN ?_ _) | (with_reducible refine Below.setCell ?_ ?_ _) | go_size)
def NewB (B : Nat) (v : Value) (W : World) : Prop := ∃ b, v = .pointer (some ⟨b, 0, none⟩) ∧ B ≤ b ∧ Box6 W b 0 0 0 0 0 0
theorem NewB.below {B : Nat} {v : Value} {W W' : World} (h : NewB B v W) (hb : Below W.heap.size W W') : NewB B v W' := by
  obtain ⟨g, h1, h2, h3⟩ := h
  exact ⟨g, h1, h2, blk_below h3 hb (blk_lt h3)⟩
def VB (B g n cap : Nat) (c : Cl) (i : Nat) (v : Value) (W : World) : Prop := match i with
  | 0 => v = .slice (some ⟨g, 0, none⟩) n cap | 1 => v = .pointer (some ⟨g, 0, none⟩) | 2 => v = cell c | 3 => v = .slice (some ⟨g, 0, none⟩) n cap | 4 => v = .pointer (some ⟨g, 0, none⟩) | 5 => v = cell c
  | 6 => v = .agg #[.int .i64 (cX c), .int .i64 (cY c), .int .i64 (cZ c), .int .i64 (cX c), .int .i64 (cY c), .int .i64 (cZ c)] | 7 => NewB B v W | _ => True
theorem min_nat (a b : Nat) : min (a : Int) (b : Int) = ((min a b : Nat) : Int) := by omega
theorem max_nat (a b : Nat) : max (a : Int) (b : Int) = ((max a b : Nat) : Int) := by omega
set_option maxRecDepth 100000 in
set_option maxHeartbeats 4000000 in
theorem rbounds_yes (f : Sol) (w : World) (hf : Fit f) (he : emptyS f = false) :
    Calls Tryz.prog 39 #[sol f] w fun e w' => e = .returned (.tuple #[.agg #[.int .i64 (((lowX f : Nat) : Int)), .int .i64 (((lowY f : Nat) : Int)), .int .i64 (((lowZ f : Nat) : Int)), .int .i64 (((highX f : Nat) : Int) - 1), .int .i64 (((highY f : Nat) : Int) - 1), .int .i64 (((highZ f : Nat) : Int) - 1)], .bool true]) ∧ Below w.heap.size w w' := by
  have hL : 0 < (cellsL f).length := List.length_pos_iff.2 (cellsL_ne hf he)
  have hn : (((cellsL f).length : Int) == 0) = false := beq_eq_false_iff_ne.2 (by omega)
  obtain ⟨c0, hc0⟩ : ∃ c, (cellsL f)[0]? = some c := ⟨_, List.getElem?_eq_getElem hL⟩
  have hm0 : c0 ∈ cellsL f := List.mem_of_getElem? hc0
  have BA := Lib.hid (bnd_all hf he hm0)
  have BN := Lib.hid (boundN hf he)
  have HF := Lib.hid hf
  clear hf hm0
  have S0 : BoxS ((w.alloc (.cells (solC f) 24)).alloc (.cells #[.int .i64 (0), .int .i64 (0), .int .i64 (0), .int .i64 (0), .int .i64 (0), .int .i64 (0)] 40)) w.heap.size f := (BoxS.new _ _).alloc _
  have R0 : Box6 ((w.alloc (.cells (solC f) 24)).alloc (.cells #[.int .i64 (0), .int .i64 (0), .int .i64 (0), .int .i64 (0), .int .i64 (0), .int .i64 (0)] 40)) (w.heap.size + 1) 0 0 0 0 0 0 := blk_new (by simp)
  have hB0 : Below w.heap.size w ((w.alloc (.cells (solC f) 24)).alloc (.cells #[.int .i64 (0), .int .i64 (0), .int .i64 (0), .int .i64 (0), .int .i64 (0), .int .i64 (0)] 40)) := by repeat' (first | (with_reducible exact Below.refl _ _) | (with_reducible assumption) | (with_reducible refine Below.alloc ?_ ?_ _) | (with_reducible refine Below.drew ?_) | (with_reducible refine below_drewN ?_ _) | (with_reducible refine Below.setCell ?_ ?_ _) | go_size)
  go_enter Tryz.func39, Tryz.ntmps39
  go_wp2_with fail
  refine (rcells_ok f _ HF.out).mono ?_
  rintro e w1 ⟨v, rfl, hrow, _, hb1⟩
  have R1 := blk_below R0 hb1 (blk_lt R0)
  have S1 := S0.below hb1 S0.lt
  have hB1 : Below w.heap.size w w1 := up hb1 hB0
  obtain ⟨p, cap, g, rfl, hp, hg, hgd, hcs⟩ := rowC_at (d := w.heap.size) hrow S1.lt (by simp; omega)
  obtain rfl := hp hL
  have hlen := cellsL_len f
  have HCS := Lib.hid hcs
  have lR : w.heap.size + 1 < w1.heap.size := blk_lt R1
  have hgR : g ≠ w.heap.size + 1 := by
    rcases hgd with h | h
    · omega
    · simp at h; omega
  obtain ⟨k0, k1, k2⟩ := hcs 0 c0 hc0
  simp only [Nat.zero_mul, Nat.zero_add] at k0 k1 k2
  have hL' : (0 : Int) < ((cellsL f).length : Int) := by omega
  clear S0 R0 hB0 hb1 hrow hgd hcs S1
  go_wp2_with fail
  have hC2 : Below w1.heap.size w1 w1.drew := Below.drew (Below.refl _ _)
  refine wp_region_relT 8 (VB w1.heap.size g (cellsL f).length cap c0) (fun W => Below w1.heap.size w1 W) (by kernel_rfl) (by kernel_rfl) (by kernel_rfl) (by kernel_rfl) (by kernel_rfl) (by kernel_rfl) (by kernel_rfl) (by kernel_rfl) hC2 ?hst ?hop ?hend
  case hst =>
    intro j v W W' hb hv
    rcases j with _ | _ | _ | _ | _ | _ | _ | _ | j
    all_goals first | exact hv | exact NewB.below hv hb
  case hop =>
    intro i o hi ho a' W hC hin hfix K hK
    have q4 : a'.tmps[4]? = some (.slice (some ⟨g, 0, none⟩) (cellsL f).length cap) := hfix 4 (by kernel_rfl)
    have k0 := (hC.cell (p := ⟨g, 0, none⟩) hg).trans k0
    have k1 := (hC.cell (p := ⟨g, 1, none⟩) hg).trans k1
    have k2 := (hC.cell (p := ⟨g, 2, none⟩) hg).trans k2
    rcases (show i = 0 ∨ i = 1 ∨ i = 2 ∨ i = 3 ∨ i = 4 ∨ i = 5 ∨ i = 6 ∨ i = 7 by omega) with rfl | rfl | rfl | rfl | rfl | rfl | rfl | rfl
    · obtain rfl := Option.some.inj ho
      clear hin hfix ho
      go_simp
      exact hK _ _ rfl hC (Below.refl _ _)
    · obtain ⟨v0, rfl, h0⟩ := hin 0 13 (by kernel_rfl) (by kernel_rfl)
      obtain rfl := Option.some.inj ho
      clear hin hfix ho
      go_simp
      exact hK _ _ rfl hC (Below.refl _ _)
    · obtain ⟨v0, rfl, h0⟩ := hin 1 14 (by kernel_rfl) (by kernel_rfl)
      obtain rfl := Option.some.inj ho
      clear hin hfix ho
      go_simp
      exact hK _ _ rfl hC (Below.refl _ _)
    · obtain rfl := Option.some.inj ho
      clear hin hfix ho
      go_simp
      exact hK _ _ rfl hC (Below.refl _ _)
    · obtain ⟨v0, rfl, h0⟩ := hin 3 16 (by kernel_rfl) (by kernel_rfl)
      obtain rfl := Option.some.inj ho
      clear hin hfix ho
      go_simp
      exact hK _ _ rfl hC (Below.refl _ _)
    · obtain ⟨v0, rfl, h0⟩ := hin 4 17 (by kernel_rfl) (by kernel_rfl)
      obtain rfl := Option.some.inj ho
      clear hin hfix ho
      go_simp
      exact hK _ _ rfl hC (Below.refl _ _)
    · obtain ⟨v2, rfl, h2⟩ := hin 2 15 (by kernel_rfl) (by kernel_rfl)
      obtain ⟨v5, rfl, h5⟩ := hin 5 18 (by kernel_rfl) (by kernel_rfl)
      obtain rfl := Option.some.inj ho
      clear hin hfix ho
      go_simp
      exact hK _ _ rfl hC (Below.refl _ _)
    · obtain rfl := Option.some.inj ho
      clear hin hfix ho
      go_simp
      exact hK _ _ ⟨W.heap.size, rfl, hC.size, World.alloc_heap_new W _⟩ (hC.alloc hC.size _) ((Below.refl _ W).alloc (Nat.le_refl _) _)
  case hend =>
  intro vals W hC hV
  have z0 := hV 0 (by decide)
  have z1 := hV 1 (by decide)
  have z2 := hV 2 (by decide)
  have z3 := hV 3 (by decide)
  have z4 := hV 4 (by decide)
  have z5 := hV 5 (by decide)
  have z6 := hV 6 (by decide)
  obtain ⟨N, z7, hN, bN⟩ := hV 7 (by decide)
  clear hV
  simp only [VB] at z0 z1 z2 z3 z4 z5 z6
  have hr : List.range 8 = [0, 1, 2, 3, 4, 5, 6, 7] := rfl
  simp only [List.drop_succ_cons, List.drop_zero, putA, hr, List.foldl_cons, List.foldl_nil, dstR, List.getElem?_toArray, List.getElem?_cons_succ, List.getElem?_cons_zero, Option.bind_some, Act.put, List.setIfInBounds_toArray, List.set_cons_succ, List.set_cons_zero, z0, z1, z2, z3, z4, z5, z6, z7]
  clear hr z0 z1 z2 z3 z4 z5 z6 z7 vals
  have R2 := blk_below R1 hC lR
  have hB2 : Below w.heap.size w W := up hC hB1
  have hG2 : W.heap[g]? = w1.heap[g]? := hC.block g hg
  have hgN : g ≠ N := by omega
  have lN := blk_lt bN
  have hsw := hB2.size
  obtain ⟨n0, n1, n2, n3, n4, n5⟩ := Box6.cells bN
  have g0 := blk_free (k := 0) bN; have g1 := blk_free (k := 1) bN; have g2 := blk_free (k := 2) bN; have g3 := blk_free (k := 3) bN; have g4 := blk_free (k := 4) bN; have g5 := blk_free (k := 5) bN
  clear k0 k1 k2 R1 hB1 hL' hC2 hC
  --LOOP
  go_wp2_with fail
  have B0 : Box6 ((((((W.setCell ⟨N, 0, none⟩ (.int .i64 ((cX c0 : Nat) : Int))).setCell ⟨N, 1, none⟩ (.int .i64 ((cY c0 : Nat) : Int))).setCell ⟨N, 2, none⟩ (.int .i64 ((cZ c0 : Nat) : Int))).setCell ⟨N, 3, none⟩ (.int .i64 ((cX c0 : Nat) : Int))).setCell ⟨N, 4, none⟩ (.int .i64 ((cY c0 : Nat) : Int))).setCell ⟨N, 5, none⟩ (.int .i64 ((cZ c0 : Nat) : Int))) N (cX c0 : Nat) (cY c0 : Nat) (cZ c0 : Nat) (cX c0 : Nat) (cY c0 : Nat) (cZ c0 : Nat) := (blk_set (k := 5) (blk_set (k := 4) (blk_set (k := 3) (blk_set (k := 2) (blk_set (k := 1) (blk_set (k := 0) bN (.int .i64 ((cX c0 : Nat) : Int))) (.int .i64 ((cY c0 : Nat) : Int))) (.int .i64 ((cZ c0 : Nat) : Int))) (.int .i64 ((cX c0 : Nat) : Int))) (.int .i64 ((cY c0 : Nat) : Int))) (.int .i64 ((cZ c0 : Nat) : Int)))
  have lR2 : w.heap.size + 1 < N := by omega
  have R3 : Box6 ((((((W.setCell ⟨N, 0, none⟩ (.int .i64 ((cX c0 : Nat) : Int))).setCell ⟨N, 1, none⟩ (.int .i64 ((cY c0 : Nat) : Int))).setCell ⟨N, 2, none⟩ (.int .i64 ((cZ c0 : Nat) : Int))).setCell ⟨N, 3, none⟩ (.int .i64 ((cX c0 : Nat) : Int))).setCell ⟨N, 4, none⟩ (.int .i64 ((cY c0 : Nat) : Int))).setCell ⟨N, 5, none⟩ (.int .i64 ((cZ c0 : Nat) : Int))) (w.heap.size + 1) 0 0 0 0 0 0 := (blk_other (blk_other (blk_other (blk_other (blk_other (blk_other R2 (by omega) _) (by omega) _) (by omega) _) (by omega) _) (by omega) _) (by omega) _)
  have hG3 : ((((((W.setCell ⟨N, 0, none⟩ (.int .i64 ((cX c0 : Nat) : Int))).setCell ⟨N, 1, none⟩ (.int .i64 ((cY c0 : Nat) : Int))).setCell ⟨N, 2, none⟩ (.int .i64 ((cZ c0 : Nat) : Int))).setCell ⟨N, 3, none⟩ (.int .i64 ((cX c0 : Nat) : Int))).setCell ⟨N, 4, none⟩ (.int .i64 ((cY c0 : Nat) : Int))).setCell ⟨N, 5, none⟩ (.int .i64 ((cZ c0 : Nat) : Int))).heap[g]? = w1.heap[g]? := ((Below.heap_setCell _ ⟨N, 5, none⟩ _ g hgN).trans ((Below.heap_setCell _ ⟨N, 4, none⟩ _ g hgN).trans ((Below.heap_setCell _ ⟨N, 3, none⟩ _ g hgN).trans ((Below.heap_setCell _ ⟨N, 2, none⟩ _ g hgN).trans ((Below.heap_setCell _ ⟨N, 1, none⟩ _ g hgN).trans ((Below.heap_setCell _ ⟨N, 0, none⟩ _ g hgN).trans (hG2)))))))
  have hB3 : Below w.heap.size w ((((((W.setCell ⟨N, 0, none⟩ (.int .i64 ((cX c0 : Nat) : Int))).setCell ⟨N, 1, none⟩ (.int .i64 ((cY c0 : Nat) : Int))).setCell ⟨N, 2, none⟩ (.int .i64 ((cZ c0 : Nat) : Int))).setCell ⟨N, 3, none⟩ (.int .i64 ((cX c0 : Nat) : Int))).setCell ⟨N, 4, none⟩ (.int .i64 ((cY c0 : Nat) : Int))).setCell ⟨N, 5, none⟩ (.int .i64 ((cZ c0 : Nat) : Int))) := ((((((hB2.setCell (p := ⟨N, 0, none⟩) (by simp; omega) _).setCell (p := ⟨N, 1, none⟩) (by simp; omega) _).setCell (p := ⟨N, 2, none⟩) (by simp; omega) _).setCell (p := ⟨N, 3, none⟩) (by simp; omega) _).setCell (p := ⟨N, 4, none⟩) (by simp; omega) _).setCell (p := ⟨N, 5, none⟩) (by simp; omega) _)
  obtain ⟨V, hV⟩ : ∃ V, V = ((((((W.setCell ⟨N, 0, none⟩ (.int .i64 ((cX c0 : Nat) : Int))).setCell ⟨N, 1, none⟩ (.int .i64 ((cY c0 : Nat) : Int))).setCell ⟨N, 2, none⟩ (.int .i64 ((cZ c0 : Nat) : Int))).setCell ⟨N, 3, none⟩ (.int .i64 ((cX c0 : Nat) : Int))).setCell ⟨N, 4, none⟩ (.int .i64 ((cY c0 : Nat) : Int))).setCell ⟨N, 5, none⟩ (.int .i64 ((cZ c0 : Nat) : Int))) := ⟨_, rfl⟩
  rw [← hV] at B0 R3 hG3 hB3 ⊢
  clear hV n0 n1 n2 n3 n4 n5 g0 g1 g2 g3 g4 g5 bN R2 hB2 hG2
  go_loopw [6] (fun c wr => ∃ i : Nat, i ≤ (cellsL f).length ∧ c = .int .i64 i ∧ Box6 wr (w.heap.size + 1) 0 0 0 0 0 0 ∧ Box6 wr N (minL cX ((cellsL f).take i) (cX c0) : Nat) (minL cY ((cellsL f).take i) (cY c0) : Nat) (minL cZ ((cellsL f).take i) (cZ c0) : Nat) (maxL cX ((cellsL f).take i) (cX c0) : Nat) (maxL cY ((cellsL f).take i) (cY c0) : Nat) (maxL cZ ((cellsL f).take i) (cZ c0) : Nat) ∧ wr.heap[g]? = w1.heap[g]? ∧ Below w.heap.size w wr) (fun c _ => (cellsL f).length - (intOf c).toNat)
  case atStart => exact ⟨0, by omega, rfl, R3, B0, hG3, hB3⟩
  case round =>
    clear R3 B0 hG3 hB3
    obtain ⟨i, hi, rfl, R, B, hG, hB⟩ := hrel
    have lR0 := blk_lt R
    have lB0 := blk_lt B
    have hsz := hB.size
    by_cases hlt : i < (cellsL f).length
    · have hd : decide (i < (cellsL f).length) = true := decide_eq_true hlt
      have hib : (i : Int) < (((cellsL f).length : Nat) : Int) := by omega
      have hci : (cellsL f)[i]? = some (cellsL f)[i] := List.getElem?_eq_getElem hlt
      obtain ⟨c, hc⟩ : ∃ c, c = (cellsL f)[i] := ⟨_, rfl⟩
      rw [← hc] at hci
      clear hc
      have HTK := Lib.hid (show (cellsL f).take (i + 1) = (cellsL f).take i ++ [c] by rw [List.take_add_one, hci]; rfl)
      obtain ⟨q0, q1, q2⟩ := HCS.out i c hci
      clear hci
      obtain ⟨m0, hm0⟩ : ∃ m, m = minL cX ((cellsL f).take i) (cX c0) := ⟨_, rfl⟩
      rw [← hm0] at B
      have HM0 := Lib.hid hm0
      clear hm0
      obtain ⟨m1, hm1⟩ : ∃ m, m = minL cY ((cellsL f).take i) (cY c0) := ⟨_, rfl⟩
      rw [← hm1] at B
      have HM1 := Lib.hid hm1
      clear hm1
      obtain ⟨m2, hm2⟩ : ∃ m, m = minL cZ ((cellsL f).take i) (cZ c0) := ⟨_, rfl⟩
      rw [← hm2] at B
      have HM2 := Lib.hid hm2
      clear hm2
      obtain ⟨m3, hm3⟩ : ∃ m, m = maxL cX ((cellsL f).take i) (cX c0) := ⟨_, rfl⟩
      rw [← hm3] at B
      have HM3 := Lib.hid hm3
      clear hm3
      obtain ⟨m4, hm4⟩ : ∃ m, m = maxL cY ((cellsL f).take i) (cY c0) := ⟨_, rfl⟩
      rw [← hm4] at B
      have HM4 := Lib.hid hm4
      clear hm4
      obtain ⟨m5, hm5⟩ : ∃ m, m = maxL cZ ((cellsL f).take i) (cZ c0) := ⟨_, rfl⟩
      rw [← hm5] at B
      have HM5 := Lib.hid hm5
      clear hm5
      have hgl : g < wr.heap.size := Nat.lt_of_not_le fun h => by
        have h1 : wr.heap[g]? = none := Array.getElem?_eq_none h
        rw [hG] at h1
        simp [hg] at h1
      have R_0 := R; have B_0 := B; have hG_0 := hG; have hB_0 := hB; have hgl_0 := hgl; have lB_0 : N < wr.heap.size := lB0
      clear R B hG hB hgl lB0
      have k0 := (cell_same hG_0 (i * 3)).trans q0
      have k1 := (cell_same hG_0 (i * 3 + 1)).trans q1
      have k2 := (cell_same hG_0 (i * 3 + 2)).trans q2
      obtain ⟨b0, b1, b2, b3, b4, b5⟩ := Box6.cells B_0
      have e0 : min ((m0 : Nat) : Int) ((cX c : Nat) : Int) = ((min m0 (cX c) : Nat) : Int) := min_nat _ _
      go_wp2_with fail
      (refine wp_region_quiet_tail 11 (fun w' => Below wr.heap.size wr w') (by kernel_rfl) (by kernel_rfl) (Below.drew (Below.refl _ _)) ?_; simp only [List.take_succ_cons, List.take_zero, List.drop_succ_cons, List.drop_zero]; (iterate 11 (refine wpQuiet_step (fun K hK => ?_); go_simp; first | (refine hK _ ?_; clear hK K) | (apply Exists.intro; refine ⟨fun W' hW' => ?_, hK _ ?_⟩; (focus (first | (with_reducible exact rfl) | (with_reducible exact ⟨rfl, rfl⟩) | (obtain ⟨hcq, hfq⟩ := bcell hW'; have hzq := hW'.size; (try go_simp); first | (with_reducible exact rfl) | (with_reducible exact ⟨rfl, rfl⟩) | (fail)))); clear hK K))); refine wpQuiet_nil ?_; intro w1q hb1q)
      have B_x := blk_below B_0 hb1q lB_0
      have R_x := blk_below R_0 hb1q (blk_lt R_0)
      have hG_x : w1q.heap[g]? = w1.heap[g]? := (hb1q.block g hgl_0).trans hG_0
      have hB_x : Below w.heap.size w w1q := up hb1q hB_0
      have hgl_x : g < w1q.heap.size := Nat.lt_of_lt_of_le hgl_0 hb1q.size
      have lB_x : N < w1q.heap.size := blk_lt B_x
      clear k0 k1 k2 b0 b1 b2 b3 b4 b5 R_0 B_0 hG_0 hB_0 hgl_0 lB_0 hb1q
      obtain ⟨b0, b1, b2, b3, b4, b5⟩ := Box6.cells B_x
      have fr := blk_free (k := 0) B_x
      have B_1 : Box6 (w1q.setCell ⟨N, 0, none⟩ (.int .i64 ((min m0 (cX c) : Nat) : Int))) N ((min m0 (cX c)) : Nat) (m1 : Nat) (m2 : Nat) (m3 : Nat) (m4 : Nat) (m5 : Nat) := blk_set (k := 0) B_x _
      have R_1 : Box6 (w1q.setCell ⟨N, 0, none⟩ (.int .i64 ((min m0 (cX c) : Nat) : Int))) (w.heap.size + 1) 0 0 0 0 0 0 := blk_other R_x (by omega) _
      have hG_1 : (w1q.setCell ⟨N, 0, none⟩ (.int .i64 ((min m0 (cX c) : Nat) : Int))).heap[g]? = w1.heap[g]? := (Below.heap_setCell _ ⟨N, 0, none⟩ _ g hgN).trans hG_x
      have hB_1 : Below w.heap.size w (w1q.setCell ⟨N, 0, none⟩ (.int .i64 ((min m0 (cX c) : Nat) : Int))) := hB_x.setCell (p := ⟨N, 0, none⟩) (by simp; omega) _
      have hgl_1 : g < (w1q.setCell ⟨N, 0, none⟩ (.int .i64 ((min m0 (cX c) : Nat) : Int))).heap.size := by simpa using hgl_x
      have lB_1 : N < (w1q.setCell ⟨N, 0, none⟩ (.int .i64 ((min m0 (cX c) : Nat) : Int))).heap.size := by simpa using lB_x
      go_upto_region 9 with fail
      obtain ⟨U1, hU1⟩ : ∃ U, U = (w1q.setCell ⟨N, 0, none⟩ (.int .i64 ((min m0 (cX c) : Nat) : Int))) := ⟨_, rfl⟩
      rw [← hU1] at R_1 B_1 hG_1 hB_1 hgl_1 lB_1 ⊢
      clear hU1 R_x B_x hG_x hB_x hgl_x lB_x b0 b1 b2 b3 b4 b5 fr
      clear w1q
      have k0 := (cell_same hG_1 (i * 3)).trans q0
      have k1 := (cell_same hG_1 (i * 3 + 1)).trans q1
      have k2 := (cell_same hG_1 (i * 3 + 2)).trans q2
      obtain ⟨b0, b1, b2, b3, b4, b5⟩ := Box6.cells B_1
      have e1 : min ((m1 : Nat) : Int) ((cY c : Nat) : Int) = ((min m1 (cY c) : Nat) : Int) := min_nat _ _
      (refine wp_region_quiet_tail 11 (fun w' => Below U1.heap.size U1 w') (by kernel_rfl) (by kernel_rfl) (Below.drew (Below.refl _ _)) ?_; simp only [List.take_succ_cons, List.take_zero, List.drop_succ_cons, List.drop_zero]; (iterate 11 (refine wpQuiet_step (fun K hK => ?_); go_simp; first | (refine hK _ ?_; clear hK K) | (apply Exists.intro; refine ⟨fun W' hW' => ?_, hK _ ?_⟩; (focus (first | (with_reducible exact rfl) | (with_reducible exact ⟨rfl, rfl⟩) | (obtain ⟨hcq, hfq⟩ := bcell hW'; have hzq := hW'.size; (try go_simp); first | (with_reducible exact rfl) | (with_reducible exact ⟨rfl, rfl⟩) | (fail)))); clear hK K))); refine wpQuiet_nil ?_; intro w1q hb1q)
      have B_x := blk_below B_1 hb1q lB_1
      have R_x := blk_below R_1 hb1q (blk_lt R_1)
      have hG_x : w1q.heap[g]? = w1.heap[g]? := (hb1q.block g hgl_1).trans hG_1
      have hB_x : Below w.heap.size w w1q := up hb1q hB_1
      have hgl_x : g < w1q.heap.size := Nat.lt_of_lt_of_le hgl_1 hb1q.size
      have lB_x : N < w1q.heap.size := blk_lt B_x
      clear k0 k1 k2 b0 b1 b2 b3 b4 b5 R_1 B_1 hG_1 hB_1 hgl_1 lB_1 hb1q
      obtain ⟨b0, b1, b2, b3, b4, b5⟩ := Box6.cells B_x
      have fr := blk_free (k := 1) B_x
      have B_2 : Box6 (w1q.setCell ⟨N, 1, none⟩ (.int .i64 ((min m1 (cY c) : Nat) : Int))) N ((min m0 (cX c)) : Nat) ((min m1 (cY c)) : Nat) (m2 : Nat) (m3 : Nat) (m4 : Nat) (m5 : Nat) := blk_set (k := 1) B_x _
      have R_2 : Box6 (w1q.setCell ⟨N, 1, none⟩ (.int .i64 ((min m1 (cY c) : Nat) : Int))) (w.heap.size + 1) 0 0 0 0 0 0 := blk_other R_x (by omega) _
      have hG_2 : (w1q.setCell ⟨N, 1, none⟩ (.int .i64 ((min m1 (cY c) : Nat) : Int))).heap[g]? = w1.heap[g]? := (Below.heap_setCell _ ⟨N, 1, none⟩ _ g hgN).trans hG_x
      have hB_2 : Below w.heap.size w (w1q.setCell ⟨N, 1, none⟩ (.int .i64 ((min m1 (cY c) : Nat) : Int))) := hB_x.setCell (p := ⟨N, 1, none⟩) (by simp; omega) _
      have hgl_2 : g < (w1q.setCell ⟨N, 1, none⟩ (.int .i64 ((min m1 (cY c) : Nat) : Int))).heap.size := by simpa using hgl_x
      have lB_2 : N < (w1q.setCell ⟨N, 1, none⟩ (.int .i64 ((min m1 (cY c) : Nat) : Int))).heap.size := by simpa using lB_x
      go_upto_region 10 with fail
      obtain ⟨U2, hU2⟩ : ∃ U, U = (w1q.setCell ⟨N, 1, none⟩ (.int .i64 ((min m1 (cY c) : Nat) : Int))) := ⟨_, rfl⟩
      rw [← hU2] at R_2 B_2 hG_2 hB_2 hgl_2 lB_2 ⊢
      clear hU2 R_x B_x hG_x hB_x hgl_x lB_x b0 b1 b2 b3 b4 b5 fr
      clear w1q
      have k0 := (cell_same hG_2 (i * 3)).trans q0
      have k1 := (cell_same hG_2 (i * 3 + 1)).trans q1
      have k2 := (cell_same hG_2 (i * 3 + 2)).trans q2
      obtain ⟨b0, b1, b2, b3, b4, b5⟩ := Box6.cells B_2
      have e2 : min ((m2 : Nat) : Int) ((cZ c : Nat) : Int) = ((min m2 (cZ c) : Nat) : Int) := min_nat _ _
      (refine wp_region_quiet_tail 11 (fun w' => Below U2.heap.size U2 w') (by kernel_rfl) (by kernel_rfl) (Below.drew (Below.refl _ _)) ?_; simp only [List.take_succ_cons, List.take_zero, List.drop_succ_cons, List.drop_zero]; (iterate 11 (refine wpQuiet_step (fun K hK => ?_); go_simp; first | (refine hK _ ?_; clear hK K) | (apply Exists.intro; refine ⟨fun W' hW' => ?_, hK _ ?_⟩; (focus (first | (with_reducible exact rfl) | (with_reducible exact ⟨rfl, rfl⟩) | (obtain ⟨hcq, hfq⟩ := bcell hW'; have hzq := hW'.size; (try go_simp); first | (with_reducible exact rfl) | (with_reducible exact ⟨rfl, rfl⟩) | (fail)))); clear hK K))); refine wpQuiet_nil ?_; intro w1q hb1q)
      have B_x := blk_below B_2 hb1q lB_2
      have R_x := blk_below R_2 hb1q (blk_lt R_2)
      have hG_x : w1q.heap[g]? = w1.heap[g]? := (hb1q.block g hgl_2).trans hG_2
      have hB_x : Below w.heap.size w w1q := up hb1q hB_2
      have hgl_x : g < w1q.heap.size := Nat.lt_of_lt_of_le hgl_2 hb1q.size
      have lB_x : N < w1q.heap.size := blk_lt B_x
      clear k0 k1 k2 b0 b1 b2 b3 b4 b5 R_2 B_2 hG_2 hB_2 hgl_2 lB_2 hb1q
      obtain ⟨b0, b1, b2, b3, b4, b5⟩ := Box6.cells B_x
      have fr := blk_free (k := 2) B_x
      have B_3 : Box6 (w1q.setCell ⟨N, 2, none⟩ (.int .i64 ((min m2 (cZ c) : Nat) : Int))) N ((min m0 (cX c)) : Nat) ((min m1 (cY c)) : Nat) ((min m2 (cZ c)) : Nat) (m3 : Nat) (m4 : Nat) (m5 : Nat) := blk_set (k := 2) B_x _
      have R_3 : Box6 (w1q.setCell ⟨N, 2, none⟩ (.int .i64 ((min m2 (cZ c) : Nat) : Int))) (w.heap.size + 1) 0 0 0 0 0 0 := blk_other R_x (by omega) _
      have hG_3 : (w1q.setCell ⟨N, 2, none⟩ (.int .i64 ((min m2 (cZ c) : Nat) : Int))).heap[g]? = w1.heap[g]? := (Below.heap_setCell _ ⟨N, 2, none⟩ _ g hgN).trans hG_x
      have hB_3 : Below w.heap.size w (w1q.setCell ⟨N, 2, none⟩ (.int .i64 ((min m2 (cZ c) : Nat) : Int))) := hB_x.setCell (p := ⟨N, 2, none⟩) (by simp; omega) _
      have hgl_3 : g < (w1q.setCell ⟨N, 2, none⟩ (.int .i64 ((min m2 (cZ c) : Nat) : Int))).heap.size := by simpa using hgl_x
      have lB_3 : N < (w1q.setCell ⟨N, 2, none⟩ (.int .i64 ((min m2 (cZ c) : Nat) : Int))).heap.size := by simpa using lB_x
      go_upto_region 11 with fail
      obtain ⟨U3, hU3⟩ : ∃ U, U = (w1q.setCell ⟨N, 2, none⟩ (.int .i64 ((min m2 (cZ c) : Nat) : Int))) := ⟨_, rfl⟩
      rw [← hU3] at R_3 B_3 hG_3 hB_3 hgl_3 lB_3 ⊢
      clear hU3 R_x B_x hG_x hB_x hgl_x lB_x b0 b1 b2 b3 b4 b5 fr
      clear w1q
      have k0 := (cell_same hG_3 (i * 3)).trans q0
      have k1 := (cell_same hG_3 (i * 3 + 1)).trans q1
      have k2 := (cell_same hG_3 (i * 3 + 2)).trans q2
      obtain ⟨b0, b1, b2, b3, b4, b5⟩ := Box6.cells B_3
      have e3 : max ((m3 : Nat) : Int) ((cX c : Nat) : Int) = ((max m3 (cX c) : Nat) : Int) := max_nat _ _
      (refine wp_region_quiet_tail 11 (fun w' => Below U3.heap.size U3 w') (by kernel_rfl) (by kernel_rfl) (Below.drew (Below.refl _ _)) ?_; simp only [List.take_succ_cons, List.take_zero, List.drop_succ_cons, List.drop_zero]; (iterate 11 (refine wpQuiet_step (fun K hK => ?_); go_simp; first | (refine hK _ ?_; clear hK K) | (apply Exists.intro; refine ⟨fun W' hW' => ?_, hK _ ?_⟩; (focus (first | (with_reducible exact rfl) | (with_reducible exact ⟨rfl, rfl⟩) | (obtain ⟨hcq, hfq⟩ := bcell hW'; have hzq := hW'.size; (try go_simp); first | (with_reducible exact rfl) | (with_reducible exact ⟨rfl, rfl⟩) | (fail)))); clear hK K))); refine wpQuiet_nil ?_; intro w1q hb1q)
      have B_x := blk_below B_3 hb1q lB_3
      have R_x := blk_below R_3 hb1q (blk_lt R_3)
      have hG_x : w1q.heap[g]? = w1.heap[g]? := (hb1q.block g hgl_3).trans hG_3
      have hB_x : Below w.heap.size w w1q := up hb1q hB_3
      have hgl_x : g < w1q.heap.size := Nat.lt_of_lt_of_le hgl_3 hb1q.size
      have lB_x : N < w1q.heap.size := blk_lt B_x
      clear k0 k1 k2 b0 b1 b2 b3 b4 b5 R_3 B_3 hG_3 hB_3 hgl_3 lB_3 hb1q
      obtain ⟨b0, b1, b2, b3, b4, b5⟩ := Box6.cells B_x
      have fr := blk_free (k := 3) B_x
      have B_4 : Box6 (w1q.setCell ⟨N, 3, none⟩ (.int .i64 ((max m3 (cX c) : Nat) : Int))) N ((min m0 (cX c)) : Nat) ((min m1 (cY c)) : Nat) ((min m2 (cZ c)) : Nat) ((max m3 (cX c)) : Nat) (m4 : Nat) (m5 : Nat) := blk_set (k := 3) B_x _
      have R_4 : Box6 (w1q.setCell ⟨N, 3, none⟩ (.int .i64 ((max m3 (cX c) : Nat) : Int))) (w.heap.size + 1) 0 0 0 0 0 0 := blk_other R_x (by omega) _
      have hG_4 : (w1q.setCell ⟨N, 3, none⟩ (.int .i64 ((max m3 (cX c) : Nat) : Int))).heap[g]? = w1.heap[g]? := (Below.heap_setCell _ ⟨N, 3, none⟩ _ g hgN).trans hG_x
      have hB_4 : Below w.heap.size w (w1q.setCell ⟨N, 3, none⟩ (.int .i64 ((max m3 (cX c) : Nat) : Int))) := hB_x.setCell (p := ⟨N, 3, none⟩) (by simp; omega) _
      have hgl_4 : g < (w1q.setCell ⟨N, 3, none⟩ (.int .i64 ((max m3 (cX c) : Nat) : Int))).heap.size := by simpa using hgl_x
      have lB_4 : N < (w1q.setCell ⟨N, 3, none⟩ (.int .i64 ((max m3 (cX c) : Nat) : Int))).heap.size := by simpa using lB_x
      go_upto_region 12 with fail
      obtain ⟨U4, hU4⟩ : ∃ U, U = (w1q.setCell ⟨N, 3, none⟩ (.int .i64 ((max m3 (cX c) : Nat) : Int))) := ⟨_, rfl⟩
      rw [← hU4] at R_4 B_4 hG_4 hB_4 hgl_4 lB_4 ⊢
      clear hU4 R_x B_x hG_x hB_x hgl_x lB_x b0 b1 b2 b3 b4 b5 fr
      clear w1q
      have k0 := (cell_same hG_4 (i * 3)).trans q0
      have k1 := (cell_same hG_4 (i * 3 + 1)).trans q1
      have k2 := (cell_same hG_4 (i * 3 + 2)).trans q2
      obtain ⟨b0, b1, b2, b3, b4, b5⟩ := Box6.cells B_4
      have e4 : max ((m4 : Nat) : Int) ((cY c : Nat) : Int) = ((max m4 (cY c) : Nat) : Int) := max_nat _ _
      (refine wp_region_quiet_tail 11 (fun w' => Below U4.heap.size U4 w') (by kernel_rfl) (by kernel_rfl) (Below.drew (Below.refl _ _)) ?_; simp only [List.take_succ_cons, List.take_zero, List.drop_succ_cons, List.drop_zero]; (iterate 11 (refine wpQuiet_step (fun K hK => ?_); go_simp; first | (refine hK _ ?_; clear hK K) | (apply Exists.intro; refine ⟨fun W' hW' => ?_, hK _ ?_⟩; (focus (first | (with_reducible exact rfl) | (with_reducible exact ⟨rfl, rfl⟩) | (obtain ⟨hcq, hfq⟩ := bcell hW'; have hzq := hW'.size; (try go_simp); first | (with_reducible exact rfl) | (with_reducible exact ⟨rfl, rfl⟩) | (fail)))); clear hK K))); refine wpQuiet_nil ?_; intro w1q hb1q)
      have B_x := blk_below B_4 hb1q lB_4
      have R_x := blk_below R_4 hb1q (blk_lt R_4)
      have hG_x : w1q.heap[g]? = w1.heap[g]? := (hb1q.block g hgl_4).trans hG_4
      have hB_x : Below w.heap.size w w1q := up hb1q hB_4
      have hgl_x : g < w1q.heap.size := Nat.lt_of_lt_of_le hgl_4 hb1q.size
      have lB_x : N < w1q.heap.size := blk_lt B_x
      clear k0 k1 k2 b0 b1 b2 b3 b4 b5 R_4 B_4 hG_4 hB_4 hgl_4 lB_4 hb1q
      obtain ⟨b0, b1, b2, b3, b4, b5⟩ := Box6.cells B_x
      have fr := blk_free (k := 4) B_x
      have B_5 : Box6 (w1q.setCell ⟨N, 4, none⟩ (.int .i64 ((max m4 (cY c) : Nat) : Int))) N ((min m0 (cX c)) : Nat) ((min m1 (cY c)) : Nat) ((min m2 (cZ c)) : Nat) ((max m3 (cX c)) : Nat) ((max m4 (cY c)) : Nat) (m5 : Nat) := blk_set (k := 4) B_x _
      have R_5 : Box6 (w1q.setCell ⟨N, 4, none⟩ (.int .i64 ((max m4 (cY c) : Nat) : Int))) (w.heap.size + 1) 0 0 0 0 0 0 := blk_other R_x (by omega) _
      have hG_5 : (w1q.setCell ⟨N, 4, none⟩ (.int .i64 ((max m4 (cY c) : Nat) : Int))).heap[g]? = w1.heap[g]? := (Below.heap_setCell _ ⟨N, 4, none⟩ _ g hgN).trans hG_x
      have hB_5 : Below w.heap.size w (w1q.setCell ⟨N, 4, none⟩ (.int .i64 ((max m4 (cY c) : Nat) : Int))) := hB_x.setCell (p := ⟨N, 4, none⟩) (by simp; omega) _
      have hgl_5 : g < (w1q.setCell ⟨N, 4, none⟩ (.int .i64 ((max m4 (cY c) : Nat) : Int))).heap.size := by simpa using hgl_x
      have lB_5 : N < (w1q.setCell ⟨N, 4, none⟩ (.int .i64 ((max m4 (cY c) : Nat) : Int))).heap.size := by simpa using lB_x
      go_upto_region 13 with fail
      obtain ⟨U5, hU5⟩ : ∃ U, U = (w1q.setCell ⟨N, 4, none⟩ (.int .i64 ((max m4 (cY c) : Nat) : Int))) := ⟨_, rfl⟩
      rw [← hU5] at R_5 B_5 hG_5 hB_5 hgl_5 lB_5 ⊢
      clear hU5 R_x B_x hG_x hB_x hgl_x lB_x b0 b1 b2 b3 b4 b5 fr
      clear w1q
      have k0 := (cell_same hG_5 (i * 3)).trans q0
      have k1 := (cell_same hG_5 (i * 3 + 1)).trans q1
      have k2 := (cell_same hG_5 (i * 3 + 2)).trans q2
      obtain ⟨b0, b1, b2, b3, b4, b5⟩ := Box6.cells B_5
      have e5 : max ((m5 : Nat) : Int) ((cZ c : Nat) : Int) = ((max m5 (cZ c) : Nat) : Int) := max_nat _ _
      (refine wp_region_quiet_tail 11 (fun w' => Below U5.heap.size U5 w') (by kernel_rfl) (by kernel_rfl) (Below.drew (Below.refl _ _)) ?_; simp only [List.take_succ_cons, List.take_zero, List.drop_succ_cons, List.drop_zero]; (iterate 11 (refine wpQuiet_step (fun K hK => ?_); go_simp; first | (refine hK _ ?_; clear hK K) | (apply Exists.intro; refine ⟨fun W' hW' => ?_, hK _ ?_⟩; (focus (first | (with_reducible exact rfl) | (with_reducible exact ⟨rfl, rfl⟩) | (obtain ⟨hcq, hfq⟩ := bcell hW'; have hzq := hW'.size; (try go_simp); first | (with_reducible exact rfl) | (with_reducible exact ⟨rfl, rfl⟩) | (fail)))); clear hK K))); refine wpQuiet_nil ?_; intro w1q hb1q)
      have B_x := blk_below B_5 hb1q lB_5
      have R_x := blk_below R_5 hb1q (blk_lt R_5)
      have hG_x : w1q.heap[g]? = w1.heap[g]? := (hb1q.block g hgl_5).trans hG_5
      have hB_x : Below w.heap.size w w1q := up hb1q hB_5
      have hgl_x : g < w1q.heap.size := Nat.lt_of_lt_of_le hgl_5 hb1q.size
      have lB_x : N < w1q.heap.size := blk_lt B_x
      clear k0 k1 k2 b0 b1 b2 b3 b4 b5 R_5 B_5 hG_5 hB_5 hgl_5 lB_5 hb1q
      obtain ⟨b0, b1, b2, b3, b4, b5⟩ := Box6.cells B_x
      have fr := blk_free (k := 5) B_x
      have B_6 : Box6 (w1q.setCell ⟨N, 5, none⟩ (.int .i64 ((max m5 (cZ c) : Nat) : Int))) N ((min m0 (cX c)) : Nat) ((min m1 (cY c)) : Nat) ((min m2 (cZ c)) : Nat) ((max m3 (cX c)) : Nat) ((max m4 (cY c)) : Nat) ((max m5 (cZ c)) : Nat) := blk_set (k := 5) B_x _
      have R_6 : Box6 (w1q.setCell ⟨N, 5, none⟩ (.int .i64 ((max m5 (cZ c) : Nat) : Int))) (w.heap.size + 1) 0 0 0 0 0 0 := blk_other R_x (by omega) _
      have hG_6 : (w1q.setCell ⟨N, 5, none⟩ (.int .i64 ((max m5 (cZ c) : Nat) : Int))).heap[g]? = w1.heap[g]? := (Below.heap_setCell _ ⟨N, 5, none⟩ _ g hgN).trans hG_x
      have hB_6 : Below w.heap.size w (w1q.setCell ⟨N, 5, none⟩ (.int .i64 ((max m5 (cZ c) : Nat) : Int))) := hB_x.setCell (p := ⟨N, 5, none⟩) (by simp; omega) _
      have hgl_6 : g < (w1q.setCell ⟨N, 5, none⟩ (.int .i64 ((max m5 (cZ c) : Nat) : Int))).heap.size := by simpa using hgl_x
      have lB_6 : N < (w1q.setCell ⟨N, 5, none⟩ (.int .i64 ((max m5 (cZ c) : Nat) : Int))).heap.size := by simpa using lB_x
      go_wp2_with fail
      have HBX : Box6 (w1q.setCell ⟨N, 5, none⟩ (.int .i64 ((max m5 (cZ c) : Nat) : Int))) N (minL cX ((cellsL f).take (i + 1)) (cX c0) : Nat) (minL cY ((cellsL f).take (i + 1)) (cY c0) : Nat) (minL cZ ((cellsL f).take (i + 1)) (cZ c0) : Nat) (maxL cX ((cellsL f).take (i + 1)) (cX c0) : Nat) (maxL cY ((cellsL f).take (i + 1)) (cY c0) : Nat) (maxL cZ ((cellsL f).take (i + 1)) (cZ c0) : Nat) := by
        rw [HTK.out, minL_snoc, minL_snoc, minL_snoc, maxL_snoc, maxL_snoc, maxL_snoc, ← HM0.out, ← HM1.out, ← HM2.out, ← HM3.out, ← HM4.out, ← HM5.out]
        exact B_6
      case roundEnd => exact ⟨⟨i + 1, by omega, by simp, R_6, HBX, hG_6, hB_6⟩, by simp [intOf]; omega⟩
    · obtain rfl : i = (cellsL f).length := by omega
      have hd : decide ((cellsL f).length < (cellsL f).length) = false := decide_eq_false (by omega)
      rw [List.take_length] at B
      obtain ⟨⟨ax, ay, az⟩, bx, by_, bz⟩ := BA.out
      rw [ax, ay, az, bx, by_, bz] at B
      obtain ⟨x0, x1, y0, y1, z0, z1⟩ := BN.out
      rw [show ((highX f - 1 : Nat) : Int) = (highX f : Int) - 1 by omega, show ((highY f - 1 : Nat) : Int) = (highY f : Int) - 1 by omega, show ((highZ f - 1 : Nat) : Int) = (highZ f : Int) - 1 by omega] at B
      obtain ⟨b0, b1, b2, b3, b4, b5⟩ := Box6.cells B
      obtain ⟨r0, r1, r2, r3, r4, r5⟩ := Box6.cells R
      have g0 := blk_free (k := 0) R; have g1 := blk_free (k := 1) R; have g2 := blk_free (k := 2) R; have g3 := blk_free (k := 3) R; have g4 := blk_free (k := 4) R; have g5 := blk_free (k := 5) R
      clear ax ay az bx by_ bz x0 x1 y0 y1 z0 z1
      go_wp2_with fail
      have bE := (blk_set (k := 5) (blk_set (k := 4) (blk_set (k := 3) (blk_set (k := 2) (blk_set (k := 1) (blk_set (k := 0) R (.int .i64 ((lowX f : Nat) : Int))) (.int .i64 ((lowY f : Nat) : Int))) (.int .i64 ((lowZ f : Nat) : Int))) (.int .i64 (((highX f : Nat) : Int) - 1))) (.int .i64 (((highY f : Nat) : Int) - 1))) (.int .i64 (((highZ f : Nat) : Int) - 1)))
      refine bodyPost_ret (res_6e Tryz.results39 rfl (blk_cell (k := 0) bE) (blk_cell (k := 1) bE) (blk_cell (k := 2) bE) (blk_cell (k := 3) bE) (blk_cell (k := 4) bE) (blk_cell (k := 5) bE)) rfl ⟨rfl, ?_⟩
      repeat' (first | (with_reducible exact Below.refl _ _) | (with_reducible assumption) | (with_reducible refine Below.alloc ?_ ?_ _) | (with_reducible refine Below.drew ?_) | (with_reducible refine below_drewN ?_ _) | (with_reducible refine Below.setCell ?_ ?_ _) | go_size)
end Go.Proofs.YtadkaplafaeebaaGreatDoor
/-
  Fits of a solid that has no cell, and of any solids.
-/
set_option linter.unusedVariables false
set_option linter.unusedSimpArgs false
namespace Go.Proofs.YtadkaplafaeebaaGreatDoor
open Go Go.RowKit Go.Shelf

attribute [local go_sem] Oper.semAt_some

set_option maxRecDepth 100000 in
set_option maxHeartbeats 2000000 in
theorem fits_empty (f g : Sol) (w : World) (hge : emptyS g = true) :
    Calls Tryz.prog 54 #[sol f, sol g] w fun e w' => e = .returned (.tuple #[.agg #[.int .i64 (0), .int .i64 (-7), .int .i64 (-7), .int .i64 (-7)], .bool true]) ∧ Below w.heap.size w w' := by
  have HGE := Lib.hid hge
  clear hge
  refine (callsIn_wide (n := 7)).1 ?_
  refine callsIn_of_wp_marks Tryz.func54 rfl trivial ?_ rfl
  simp only [Tryz.ntmps54, List.size_toArray, List.length_cons, List.length_nil, Nat.reduceAdd, Nat.reduceSub, Array.replicate_succ, Array.replicate_zero, List.push_toArray, List.append_toArray, List.nil_append, List.cons_append]
  refine wpIn_wide.2 ?_
  have bB0 : BoxS (((w.alloc (.cells (solC f) 24)).alloc (.cells (solC g) 24)).alloc (.cells #[.int .i64 (0), .int .i64 (0), .int .i64 (0), .int .i64 (0)] 46)) (w.heap.size + 1) g := (BoxS.new' (by simp)).alloc _
  have bR0 : Q4 (((w.alloc (.cells (solC f) 24)).alloc (.cells (solC g) 24)).alloc (.cells #[.int .i64 (0), .int .i64 (0), .int .i64 (0), .int .i64 (0)] 46)) (w.heap.size + 1 + 1) 0 0 0 0 := blk_new (by simp)
  have hB0 : Below w.heap.size w (((w.alloc (.cells (solC f) 24)).alloc (.cells (solC g) 24)).alloc (.cells #[.int .i64 (0), .int .i64 (0), .int .i64 (0), .int .i64 (0)] 46)) := by repeat' (first | (with_reducible exact Below.refl _ _) | (with_reducible assumption) | (with_reducible refine Below.alloc ?_ ?_ _) | (with_reducible refine Below.drew ?_) | (with_reducible refine below_drewN ?_ _) | (with_reducible refine Below.setCell ?_ ?_ _) | go_size)
  have c0 := (bB0).cell (k := 0) (by omega); have c1 := (bB0).cell (k := 1) (by omega); have c2 := (bB0).cell (k := 2) (by omega); have c3 := (bB0).cell (k := 3) (by omega); have c4 := (bB0).cell (k := 4) (by omega); have c5 := (bB0).cell (k := 5) (by omega); have c6 := (bB0).cell (k := 6) (by omega); have c7 := (bB0).cell (k := 7) (by omega)
  go_wp2_with fail
  go_step3
  go_wp2_with fail
  clear c0 c1 c2 c3 c4 c5 c6 c7
  refine (isEmpty_is HGE.out _).mono ?_
  rintro e w1 ⟨rfl, hb1⟩
  have bR1 := blk_below bR0 hb1 (blk_lt bR0)
  have hB1 : Below w.heap.size w w1 := up hb1 hB0
  clear bB0 bR0 hB0 hb1
  have lR1 := blk_lt bR1
  go_wp2_with fail
  refine (motionOf_ok 0 (-7) (-7) (-7) _).mono ?_
  rintro e w2 ⟨rfl, hb2⟩
  have R4 := blk_below bR1 hb2 lR1
  have hB4 : Below w.heap.size w w2 := up hb2 hB1
  have lR2 := blk_lt R4
  clear bR1 hB1 lR1 hb2
  obtain ⟨r0, r1, r2, r3⟩ := Q4.cells R4
  have f0 := blk_free (k := 0) R4; have f1 := blk_free (k := 1) R4; have f2 := blk_free (k := 2) R4; have f3 := blk_free (k := 3) R4
  go_wp2_with fail
  have g1 := blk_set (k := 0) R4 (.int .i64 0)
  have g2 := blk_set (k := 1) g1 (.int .i64 (-7))
  have g3 := blk_set (k := 2) g2 (.int .i64 (-7))
  have g4 := blk_set (k := 3) g3 (.int .i64 (-7))
  have b4 := (((hB4.setCell (p := ⟨w.heap.size + 1 + 1, 0, none⟩) (by simp; omega) (.int .i64 0)).setCell (p := ⟨w.heap.size + 1 + 1, 1, none⟩) (by simp; omega) (.int .i64 (-7))).setCell (p := ⟨w.heap.size + 1 + 1, 2, none⟩) (by simp; omega) (.int .i64 (-7))).setCell (p := ⟨w.heap.size + 1 + 1, 3, none⟩) (by simp; omega) (.int .i64 (-7))
  rw [Exit.noGoto_ret]
  refine leaves_marks w.heap.size [] _ List.nodup_nil (fun D hD => by cases hD) (fun W3 hb hk => ⟨_, res_4e Tryz.results54 rfl (blk_cell (k := 0) (hk _ _ rfl g4)) (blk_cell (k := 1) (hk _ _ rfl g4)) (blk_cell (k := 2) (hk _ _ rfl g4)) (blk_cell (k := 3) (hk _ _ rfl g4)), ?_, b4.trans hb⟩)
  rfl
def motE (f g : Sol) : Value := if emptyS g = true then .agg #[.int .i64 (0), .int .i64 (-7), .int .i64 (-7), .int .i64 (-7)] else motV (fitsF f g)
theorem fits_all (f g : Sol) (w : World) (hf : Fit f) (hg : Fit g) (hT : Tab64 w) :
    Calls Tryz.prog 54 #[sol f, sol g] w fun e w' => e = .returned (.tuple #[motE f g, .bool (fitB f g)]) ∧ Below w.heap.size w w' := by
  unfold motE fitB
  by_cases h : emptyS g = true
  · rw [if_pos h, if_pos h]
    exact fits_empty f g w h
  · rw [if_neg h, if_neg h]
    exact fits_any f g w hf hg (by simpa using h) hT
theorem motE_form (f g : Sol) : ∃ a b c d : Int, motE f g = .agg #[.int .i64 (a), .int .i64 (b), .int .i64 (c), .int .i64 (d)] := by
  unfold motE
  split
  · exact ⟨_, _, _, _, rfl⟩
  · match fitsF f g with
    | none => exact ⟨0, 0, 0, 0, rfl⟩
    | some (t, c) => exact ⟨t, c.1, c.2.1, c.2.2, rfl⟩
end Go.Proofs.YtadkaplafaeebaaGreatDoor
/-
  Where the reference seeks a place, and where there can be one: mathematics.
-/
set_option linter.unusedVariables false
set_option linter.unusedSimpArgs false
namespace Go.Proofs.YtadkaplafaeebaaGreatDoor
open Go Go.RowKit

theorem flat_none {α : Type} (F : Nat → List α) : ∀ (n a : Nat), (∀ i, a ≤ i → i < a + n → F i = []) → (List.range' a n).flatMap F = []
  | 0, a, _ => by simp
  | n + 1, a, h => by
    rw [List.range'_succ, List.flatMap_cons, h a (by omega) (by omega), flat_none F n (a + 1) fun i h1 h2 => h i (by omega) (by omega)]
    rfl
theorem flat_shift {α : Type} (F : Nat → List α) (a : Nat) : ∀ (n b : Nat), (List.range' (a + b) n).flatMap F = (List.range' b n).flatMap fun i => F (a + i)
  | 0, b => by simp
  | n + 1, b => by
    rw [List.range'_succ, List.range'_succ, List.flatMap_cons, List.flatMap_cons, show a + b + 1 = a + (b + 1) by omega, flat_shift F a n (b + 1)]
theorem flat_congr {α : Type} (F G : Nat → List α) : ∀ (n a : Nat), (∀ i, a ≤ i → i < a + n → F i = G i) → (List.range' a n).flatMap F = (List.range' a n).flatMap G
  | 0, a, _ => by simp
  | n + 1, a, h => by
    rw [List.range'_succ, List.flatMap_cons, List.flatMap_cons, h a (by omega) (by omega), flat_congr F G n (a + 1) fun i h1 h2 => h i (by omega) (by omega)]
theorem flat_window {α : Type} (F : Nat → List α) (n a m : Nat) (h : m = 0 ∨ a + m ≤ n) (h0 : ∀ i, i < n → (i < a ∨ a + m ≤ i) → F i = []) :
    (List.range' 0 n).flatMap F = (List.range' 0 m).flatMap fun i => F (a + i) := by
  by_cases hm : m = 0
  · subst hm
    rw [flat_none F n 0 fun i _ h2 => h0 i (by omega) (by omega)]
    rfl
  · have hn : a + m ≤ n := by omega
    have e1 : List.range' 0 n = List.range' 0 a ++ (List.range' a m ++ List.range' (a + m) (n - a - m)) := by
      have e2 : List.range' a m ++ List.range' (a + m) (n - a - m) = List.range' a (n - a) := by
        rw [List.range'_append_1]
        congr 1
        omega
      have e3 : List.range' 0 a ++ List.range' a (n - a) = List.range' 0 n := by
        have := @List.range'_append_1 0 a (n - a)
        rw [Nat.zero_add] at this
        rw [this]
        congr 1
        omega
      rw [e2, e3]
    rw [e1, List.flatMap_append, List.flatMap_append, flat_none F a 0 fun i _ h2 => h0 i (by omega) (by omega), flat_none F (n - a - m) (a + m) fun i h1 h2 => h0 i (by omega) (by omega), List.nil_append, List.append_nil]
    exact flat_shift F a m 0
/-- Where the reference seeks: wherever no cell leaves the grid. -/
def room (g : Sol) (lo hi : Sol → Nat) : Nat := 9 - (hi g - lo g)
def seekL (f g : Sol) : List Pl := insZ f g (-(lowZ g : Int)) (-(lowY g : Int)) (-(lowX g : Int)) (room g lowZ highZ) (room g lowY highY) (room g lowX highX) 0
theorem no_hit {f g : Sol} (hf : Fit f) (hg : Fit g) (hge : emptyS g = false) {x y z : Int} (ho : outB g x y z = false)
    (h : x < (lowX f : Int) - lowX g ∨ (highX f : Int) - highX g < x ∨ y < (lowY f : Int) - lowY g ∨ (highY f : Int) - highY g < y ∨ z < (lowZ f : Int) - lowZ g ∨ (highZ f : Int) - highZ g < z) : inB (shiftF g x y z 8) f = false := by
  cases hi : inB (shiftF g x y z 8) f with
  | false => rfl
  | true =>
    have hin := (in_iff (shiftF_fit hg x y z 8)).1 hi
    obtain ⟨⟨p1, h1, q1⟩, ⟨p2, h2, q2⟩, ⟨p3, h3, q3⟩⟩ := has_at_low hg hge
    obtain ⟨⟨p4, h4, q4⟩, ⟨p5, h5, q5⟩, ⟨p6, h6, q6⟩⟩ := has_at_high hg hge
    have key : ∀ p, hasI g p = true → ((lowX f : Int) ≤ p.1 + x ∧ (lowY f : Int) ≤ p.2.1 + y ∧ (lowZ f : Int) ≤ p.2.2 + z) ∧ p.1 + x < highX f ∧ p.2.1 + y < highY f ∧ p.2.2 + z < highZ f := fun p hp => by
      have := hin (plus p (x, y, z)) ((has_shift hg ho _).2 ⟨p, hp, rfl⟩)
      exact ⟨has_low hf this, has_high hf this⟩
    have k1 := key p1 h1
    have k2 := key p2 h2
    have k3 := key p3 h3
    have k4 := key p4 h4
    have k5 := key p5 h5
    have k6 := key p6 h6
    omega
theorem seek_is {f g : Sol} (hf : Fit f) (hg : Fit g) (he : emptyS f = false) (hge : emptyS g = false) : seekL f g = insideL f g := by
  have bf := boundN hf he
  have bg := boundN hg hge
  obtain ⟨fx0, fx1, fy0, fy1, fz0, fz1⟩ := bf
  obtain ⟨gx0, gx1, gy0, gy1, gz0, gz1⟩ := bg
  have ho : ∀ i j k : Nat, i < room g lowX highX → j < room g lowY highY → k < room g lowZ highZ → outB g (-(lowX g : Int) + i) (-(lowY g : Int) + j) (-(lowZ g : Int) + k) = false := fun i j k h1 h2 h3 => by
    unfold room at *
    unfold outB
    exact decide_eq_false (by omega)
  have hX : ∀ j k : Nat, j < room g lowY highY → k < room g lowZ highZ → insX f g (-(lowY g : Int) + j) (-(lowZ g : Int) + k) (-(lowX g : Int)) (room g lowX highX) 0 = insX f g (-(lowY g : Int) + j) (-(lowZ g : Int) + k) ((lowX f : Int) - lowX g) (gap (lowX f) (highX f) (lowX g) (highX g)) 0 := fun j k hj hk => by
    unfold insX
    rw [Nat.sub_zero, Nat.sub_zero, flat_window _ (room g lowX highX) (lowX f) (gap (lowX f) (highX f) (lowX g) (highX g)) (by unfold room gap; omega) fun i hi h => by
      rw [no_hit hf hg hge (ho i j k hi hj hk) (by unfold gap room at *; omega)]
      rfl]
    refine flat_congr _ _ _ _ fun i _ hi => ?_
    rw [show -(lowX g : Int) + ((lowX f + i : Nat) : Int) = (lowX f : Int) - lowX g + i by omega]
  have nX : ∀ j k : Nat, j < room g lowY highY → k < room g lowZ highZ → (j < lowY f ∨ lowY f + gap (lowY f) (highY f) (lowY g) (highY g) ≤ j ∨ k < lowZ f ∨ lowZ f + gap (lowZ f) (highZ f) (lowZ g) (highZ g) ≤ k) → insX f g (-(lowY g : Int) + j) (-(lowZ g : Int) + k) (-(lowX g : Int)) (room g lowX highX) 0 = [] := fun j k hj hk h => by
    unfold insX
    refine flat_none _ _ _ fun i _ hi => ?_
    rw [no_hit hf hg hge (ho i j k (by omega) hj hk) (by unfold gap room at *; omega)]
    rfl
  have hY : ∀ k : Nat, k < room g lowZ highZ → insY f g (-(lowZ g : Int) + k) (-(lowY g : Int)) (-(lowX g : Int)) (room g lowY highY) (room g lowX highX) 0 = insY f g (-(lowZ g : Int) + k) ((lowY f : Int) - lowY g) ((lowX f : Int) - lowX g) (gap (lowY f) (highY f) (lowY g) (highY g)) (gap (lowX f) (highX f) (lowX g) (highX g)) 0 := fun k hk => by
    unfold insY
    rw [Nat.sub_zero, Nat.sub_zero, flat_window _ (room g lowY highY) (lowY f) (gap (lowY f) (highY f) (lowY g) (highY g)) (by unfold room gap; omega) fun j hj h => nX j k hj hk (by omega)]
    refine flat_congr _ _ _ _ fun j _ hj => ?_
    rw [hX (lowY f + j) k (by unfold gap room at *; omega) hk, show -(lowY g : Int) + ((lowY f + j : Nat) : Int) = (lowY f : Int) - lowY g + j by omega]
  unfold seekL insideL
  rw [if_neg (by rw [he]; simp)]
  unfold insZ
  rw [Nat.sub_zero, Nat.sub_zero, flat_window _ (room g lowZ highZ) (lowZ f) (gap (lowZ f) (highZ f) (lowZ g) (highZ g)) (by unfold room gap; omega) fun k hk h => by
    unfold insY
    exact flat_none _ _ _ fun j _ hj => nX j k (by omega) hk (by omega)]
  refine flat_congr _ _ _ _ fun k _ hk => ?_
  rw [hY (lowZ f + k) (by unfold gap room at *; omega), show -(lowZ g : Int) + ((lowZ f + k : Nat) : Int) = (lowZ f : Int) - lowZ g + k by omega]
end Go.Proofs.YtadkaplafaeebaaGreatDoor
/-
  The reference's Fits.
-/
set_option linter.unusedVariables false
set_option linter.unusedSimpArgs false
namespace Go.Proofs.YtadkaplafaeebaaGreatDoor
open Go Go.RowKit

theorem rmoved_in (f : Sol) (hf : Fit f) (he : emptyS f = false) {x y z : Int} (ho : outB f x y z = false) (W : World) :
    Calls Tryz.prog 45 #[sol f, .int .i64 x, .int .i64 y, .int .i64 z] W (RetB (.tuple #[sol (shiftS f x y z), .int .i64 0]) W) := by
  have hL := len_pos hf he
  have hall := (all_in hf he (x, y, z)).1 ho
  obtain ⟨x0, x1, y0, y1, z0, z1⟩ := boundN hf he
  have of := out_facts ho
  refine (rMoved_loop f x y z W hf (decide_eq_true (by omega)) (decide_eq_true (by omega)) (decide_eq_true (by omega)) hL).mono fun e w' ⟨h, hb⟩ => ?_
  rcases h with ⟨h, _⟩ | ⟨_, c, hc, hn⟩
  · refine ⟨?_, hb⟩
    rw [h, sol_congr (eqS_at (eqS_symm (mov_eq hf ho hall)))]
  · rw [hall c hc] at hn
    cases hn
set_option maxRecDepth 100000 in
set_option maxHeartbeats 4000000 in
theorem rfits_core (f g : Sol) (mv : Value) (sm : Bool) (w : World) (hf : Fit f) (hg : Fit g) (hge : emptyS g = false) (hfe : emptyS f = false) (hn : numF g ≤ numF f) (hmv : mv = motV (fitsF f g)) (hsm : sm = (fitsF f g).isSome) :
    Calls Tryz.prog 55 #[sol f, sol g] w fun e w' => e = .returned (.tuple #[mv, .bool sm]) ∧ Below w.heap.size w w' := by
  have HMV := Lib.hid hmv
  have HSM := Lib.hid hsm
  clear hmv hsm
  have HF := Lib.hid hf
  have HG := Lib.hid hg
  have HFE := Lib.hid hfe
  have HGE := Lib.hid hge
  have C1 := Lib.hid (fun (W : World) => rcount_ok f W hf)
  have C2 := Lib.hid (fun (W : World) => rcount_ok g W hg)
  have hnn : decide (numF f < numF g) = false := decide_eq_false (by omega)
  have hN1 : numF f ≤ 512 := cellsL_len f
  have hN2 : numF g ≤ 512 := cellsL_len g
  clear hf hg hfe hn
  have A0 : BoxS (((w.alloc (.cells (solC f) 24)).alloc (.cells (solC g) 24)).alloc (.cells #[.int .i64 (0), .int .i64 (0), .int .i64 (0), .int .i64 (0)] 46)) w.heap.size f := ((BoxS.new _ _).alloc _).alloc _
  have B0 : BoxS (((w.alloc (.cells (solC f) 24)).alloc (.cells (solC g) 24)).alloc (.cells #[.int .i64 (0), .int .i64 (0), .int .i64 (0), .int .i64 (0)] 46)) (w.heap.size + 1) g := (BoxS.new' (by simp)).alloc _
  have R0 : Q4 (((w.alloc (.cells (solC f) 24)).alloc (.cells (solC g) 24)).alloc (.cells #[.int .i64 (0), .int .i64 (0), .int .i64 (0), .int .i64 (0)] 46)) (w.heap.size + 1 + 1) 0 0 0 0 := blk_new (by simp)
  have hB0 : Below w.heap.size w (((w.alloc (.cells (solC f) 24)).alloc (.cells (solC g) 24)).alloc (.cells #[.int .i64 (0), .int .i64 (0), .int .i64 (0), .int .i64 (0)] 46)) := by repeat' (first | (with_reducible exact Below.refl _ _) | (with_reducible assumption) | (with_reducible refine Below.alloc ?_ ?_ _) | (with_reducible refine Below.drew ?_) | (with_reducible refine below_drewN ?_ _) | (with_reducible refine Below.setCell ?_ ?_ _) | go_size)
  have b0 := (B0).cell (k := 0) (by omega); have b1 := (B0).cell (k := 1) (by omega); have b2 := (B0).cell (k := 2) (by omega); have b3 := (B0).cell (k := 3) (by omega); have b4 := (B0).cell (k := 4) (by omega); have b5 := (B0).cell (k := 5) (by omega); have b6 := (B0).cell (k := 6) (by omega); have b7 := (B0).cell (k := 7) (by omega)
  go_enter Tryz.func55, Tryz.ntmps55
  go_wp2_with fail
  obtain ⟨U, hU⟩ : ∃ U, U = (((w.alloc (.cells (solC f) 24)).alloc (.cells (solC g) 24)).alloc (.cells #[.int .i64 (0), .int .i64 (0), .int .i64 (0), .int .i64 (0)] 46)) := ⟨_, rfl⟩
  rw [← hU] at A0 B0 R0 hB0 b0 b1 b2 b3 b4 b5 b6 b7 ⊢
  clear hU
  have a0 := (A0).cell (k := 0) (by omega); have a1 := (A0).cell (k := 1) (by omega); have a2 := (A0).cell (k := 2) (by omega); have a3 := (A0).cell (k := 3) (by omega); have a4 := (A0).cell (k := 4) (by omega); have a5 := (A0).cell (k := 5) (by omega); have a6 := (A0).cell (k := 6) (by omega); have a7 := (A0).cell (k := 7) (by omega)
  have lA : w.heap.size < U.heap.size := A0.lt
  have lB : w.heap.size + 1 < U.heap.size := B0.lt
  have lR : w.heap.size + 1 + 1 < U.heap.size := blk_lt R0
  (refine wp_region_quiet (C := fun w' => Below U.heap.size U w') (by kernel_rfl) (by kernel_rfl) (Below.drew (Below.refl _ _)) ?_; (iterate 5 (refine wpQuiet_step (fun K hK => ?_); go_simp; first | (refine hK _ ?_; clear hK K) | (apply Exists.intro; refine ⟨fun W' hW' => ?_, hK _ ?_⟩; (focus (first | (with_reducible exact rfl) | (with_reducible exact ⟨rfl, rfl⟩) | (obtain ⟨hcq, hfq⟩ := bcell hW'; have hzq := hW'.size; (try go_simp); first | (with_reducible exact rfl) | (with_reducible exact ⟨rfl, rfl⟩) | (first | ((with_reducible refine Calls.mono (C1.out _) ?_); rintro e w9 ⟨rfl, hb9⟩; exact ⟨rfl, hW'.trans (hb9.mono hW'.size)⟩) | ((with_reducible refine Calls.mono (C2.out _) ?_); rintro e w9 ⟨rfl, hb9⟩; exact ⟨rfl, hW'.trans (hb9.mono hW'.size)⟩))))); clear hK K))); refine wpQuiet_nil ?_; intro w1q hb1q)
  have A1 := A0.below hb1q lA
  have B1 := B0.below hb1q lB
  have R1 := blk_below R0 hb1q lR
  have hB1 : Below w.heap.size w w1q := up hb1q hB0
  clear A0 B0 R0 hB0 hb1q lA lB lR a0 a1 a2 a3 a4 a5 a6 a7 b0 b1 b2 b3 b4 b5 b6 b7 C1 C2
  go_wp2_with fail
  have HR : Hid (fitsF f g = fitsFrom f g (24 - 0) 0) := Lib.hid rfl
  generalize fitsF f g = res at *
  go_loopw [6] (fun c wr => ∃ t : Nat, t ≤ 24 ∧ c = .int .i64 t ∧ res = fitsFrom f g (24 - t) t ∧ BoxS wr w.heap.size f ∧ BoxS wr (w.heap.size + 1) g ∧ Q4 wr (w.heap.size + 1 + 1) 0 0 0 0 ∧ Below w.heap.size w wr) (fun c _ => 24 - (intOf c).toNat)
  case atStart => exact ⟨0, by omega, rfl, HR.out, A1, B1, R1, hB1⟩
  case round =>
    clear A1 B1 R1 hB1 HR
    obtain ⟨t, ht, rfl, hr, A, B, R, hB⟩ := hrel
    have HR := Lib.hid hr
    clear hr
    have lA : w.heap.size < wr.heap.size := A.lt
    have lB : w.heap.size + 1 < wr.heap.size := B.lt
    have lR : w.heap.size + 1 + 1 < wr.heap.size := blk_lt R
    by_cases hlt : t < 24
    · have hd : decide ((t : Int) < 24) = true := decide_eq_true (by omega)
      have CT := Lib.hid (fun (W : World) => rTurned_yes g t W HG.out hlt)
      have hhf := turnedF_fit g t
      have hhe := turnedF_ne HG.out HGE.out t
      have HI := Lib.hid (seek_is HF.out hhf HFE.out hhe)
      have CB := Lib.hid (fun (W : World) => rbounds_yes (turnedF g t) W hhf hhe)
      have hbn := boundN hhf hhe
      have HFT := Lib.hid (show fitAt f g t = (insideL f (turnedF g t)).head?.map fun p => (t, p.1) from rfl)
      obtain ⟨h, hh⟩ : ∃ h, h = turnedF g t := ⟨_, rfl⟩
      rw [← hh] at CT hhf hhe HI CB hbn HFT
      clear hh
      rw [← HI.out] at HFT
      clear HI
      have HHF := Lib.hid hhf
      have HHE := Lib.hid hhe
      obtain ⟨xa, xb, ya, yb, za, zb⟩ := hbn
      clear hhf hhe
      have b0 := (B).cell (k := 0) (by omega); have b1 := (B).cell (k := 1) (by omega); have b2 := (B).cell (k := 2) (by omega); have b3 := (B).cell (k := 3) (by omega); have b4 := (B).cell (k := 4) (by omega); have b5 := (B).cell (k := 5) (by omega); have b6 := (B).cell (k := 6) (by omega); have b7 := (B).cell (k := 7) (by omega)
      go_wp2_with fail
      refine (CT.out _).mono ?_
      rintro e w2 ⟨rfl, b2'⟩
      have A2 := (A.below b2' lA).alloc (.cells (solC h) 24)
      have B2 := (B.below b2' lB).alloc (.cells (solC h) 24)
      have R2 := blk_alloc (blk_below R b2' lR) (.cells (solC h) 24)
      have S2 : BoxS (w2.alloc (.cells (solC h) 24)) w2.heap.size h := BoxS.new _ _
      have hB2q : Below w.heap.size w w2 := up b2' hB
      have hB2 := hB2q.alloc hB2q.size (.cells (solC h) 24)
      have l2 : w.heap.size + 1 + 1 < w2.heap.size := Nat.lt_of_lt_of_le lR b2'.size
      clear A B R hB b2' hB2q lA lB lR b0 b1 b2 b3 b4 b5 b6 b7
      have s0 := (S2).cell (k := 0) (by omega); have s1 := (S2).cell (k := 1) (by omega); have s2 := (S2).cell (k := 2) (by omega); have s3 := (S2).cell (k := 3) (by omega); have s4 := (S2).cell (k := 4) (by omega); have s5 := (S2).cell (k := 5) (by omega); have s6 := (S2).cell (k := 6) (by omega); have s7 := (S2).cell (k := 7) (by omega)
      go_wp2_with fail
      refine (CB.out _).mono ?_
      rintro e w3 ⟨rfl, b3'⟩
      have A3 := (A2.below b3' A2.lt).alloc (.cells #[.int .i64 ((lowX h : Int)), .int .i64 ((lowY h : Int)), .int .i64 ((lowZ h : Int)), .int .i64 ((highX h : Int) - 1), .int .i64 ((highY h : Int) - 1), .int .i64 ((highZ h : Int) - 1)] 40)
      have B3 := (B2.below b3' B2.lt).alloc (.cells #[.int .i64 ((lowX h : Int)), .int .i64 ((lowY h : Int)), .int .i64 ((lowZ h : Int)), .int .i64 ((highX h : Int) - 1), .int .i64 ((highY h : Int) - 1), .int .i64 ((highZ h : Int) - 1)] 40)
      have R3 := blk_alloc (blk_below R2 b3' (blk_lt R2)) (.cells #[.int .i64 ((lowX h : Int)), .int .i64 ((lowY h : Int)), .int .i64 ((lowZ h : Int)), .int .i64 ((highX h : Int) - 1), .int .i64 ((highY h : Int) - 1), .int .i64 ((highZ h : Int) - 1)] 40)
      have S3 := (S2.below b3' S2.lt).alloc (.cells #[.int .i64 ((lowX h : Int)), .int .i64 ((lowY h : Int)), .int .i64 ((lowZ h : Int)), .int .i64 ((highX h : Int) - 1), .int .i64 ((highY h : Int) - 1), .int .i64 ((highZ h : Int) - 1)] 40)
      have X3 : Box6 (w3.alloc (.cells #[.int .i64 ((lowX h : Int)), .int .i64 ((lowY h : Int)), .int .i64 ((lowZ h : Int)), .int .i64 ((highX h : Int) - 1), .int .i64 ((highY h : Int) - 1), .int .i64 ((highZ h : Int) - 1)] 40)) w3.heap.size (lowX h) (lowY h) (lowZ h) ((highX h : Int) - 1) ((highY h : Int) - 1) ((highZ h : Int) - 1) := blk_new rfl
      have hB3q : Below w.heap.size w w3 := up b3' hB2
      have hB3 := hB3q.alloc hB3q.size (.cells #[.int .i64 ((lowX h : Int)), .int .i64 ((lowY h : Int)), .int .i64 ((lowZ h : Int)), .int .i64 ((highX h : Int) - 1), .int .i64 ((highY h : Int) - 1), .int .i64 ((highZ h : Int) - 1)] 40)
      have l3 : w2.heap.size < w3.heap.size := by have := b3'.size; simp at this; omega
      clear A2 B2 R2 S2 hB2 b3' hB3q s0 s1 s2 s3 s4 s5 s6 s7
      obtain ⟨x0, x1, x2, x3, x4, x5⟩ := Box6.cells X3
      go_wp2_with fail
      have hnz : room h lowZ highZ = 9 - (highZ h - lowZ h) := rfl
      have hny : room h lowY highY = 9 - (highY h - lowY h) := rfl
      have hnx : room h lowX highX = 9 - (highX h - lowX h) := rfl
      have HL := Lib.hid (show (seekL f h).head? = (insZ f h (-(lowZ h : Int)) (-(lowY h : Int)) (-(lowX h : Int)) (room h lowZ highZ) (room h lowY highY) (room h lowX highX) 0).head? from rfl)
      generalize room h lowZ highZ = nz at *
      generalize room h lowY highY = ny at *
      generalize room h lowX highX = nx at *
      generalize (seekL f h).head? = L at *
      go_loopw [11] (fun c wr => ∃ k : Nat, k ≤ nz ∧ c = .int .i64 (-(lowZ h : Int) + (k : Int)) ∧ L = (insZ f h (-(lowZ h : Int)) (-(lowY h : Int)) (-(lowX h : Int)) nz ny nx k).head? ∧
        BoxS wr w.heap.size f ∧ BoxS wr (w.heap.size + 1) g ∧ Q4 wr (w.heap.size + 1 + 1) 0 0 0 0 ∧ BoxS wr w2.heap.size h ∧ Box6 wr w3.heap.size (lowX h) (lowY h) (lowZ h) ((highX h : Int) - 1) ((highY h : Int) - 1) ((highZ h : Int) - 1) ∧ Below w.heap.size w wr) (fun c _ => nz - (intOf c + (lowZ h : Int)).toNat)
      case atStart => exact ⟨0, by omega, by simp, HL.out, A3, B3, R3, S3, X3, hB3⟩
      case round =>
        clear A3 B3 R3 S3 X3 hB3 HL x0 x1 x2 x3 x4 x5
        obtain ⟨k, hk, rfl, hLk, A, B, R, S, X, hB⟩ := hrel
        have HLK := Lib.hid hLk
        clear hLk
        have lX := blk_lt X
        obtain ⟨x0, x1, x2, x3, x4, x5⟩ := Box6.cells X
        by_cases hlz : k < nz
        · have hdz : decide (-(lowZ h : Int) + (k : Int) ≤ 7 - ((highZ h : Int) - 1)) = true := decide_eq_true (by omega)
          have HZ1 := Lib.hid (insZ_succ f h (-(lowZ h : Int)) (-(lowY h : Int)) (-(lowX h : Int)) ny nx hlz)
          go_wp2_with fail
          go_loopw [12] (fun c wr => ∃ j : Nat, j ≤ ny ∧ c = .int .i64 (-(lowY h : Int) + (j : Int)) ∧ L = (insY f h (-(lowZ h : Int) + (k : Int)) (-(lowY h : Int)) (-(lowX h : Int)) ny nx j ++ insZ f h (-(lowZ h : Int)) (-(lowY h : Int)) (-(lowX h : Int)) nz ny nx (k + 1)).head? ∧ BoxS wr w.heap.size f ∧ BoxS wr (w.heap.size + 1) g ∧ Q4 wr (w.heap.size + 1 + 1) 0 0 0 0 ∧ BoxS wr w2.heap.size h ∧ Box6 wr w3.heap.size (lowX h) (lowY h) (lowZ h) ((highX h : Int) - 1) ((highY h : Int) - 1) ((highZ h : Int) - 1) ∧ Below w.heap.size w wr) (fun c _ => ny - (intOf c + (lowY h : Int)).toNat)
          case atStart => exact ⟨0, by omega, by simp, by rw [HLK.out, HZ1.out], A, B, R, S, X, hB⟩
          case round =>
            clear A B R S X hB HLK HZ1 x0 x1 x2 x3 x4 x5 lX
            obtain ⟨j, hj, rfl, hLk, A, B, R, S, X, hB⟩ := hrel
            have HLK := Lib.hid hLk
            clear hLk
            have lX := blk_lt X
            obtain ⟨x0, x1, x2, x3, x4, x5⟩ := Box6.cells X
            by_cases hly : j < ny
            · have hdy : decide (-(lowY h : Int) + (j : Int) ≤ 7 - ((highY h : Int) - 1)) = true := decide_eq_true (by omega)
              have HY1 := Lib.hid (insY_succ f h (-(lowZ h : Int) + (k : Int)) (-(lowY h : Int)) (-(lowX h : Int)) nx hly)
              go_wp2_with fail
              go_loopw [13] (fun c wr => ∃ i : Nat, i ≤ nx ∧ c = .int .i64 (-(lowX h : Int) + (i : Int)) ∧ L = (insX f h (-(lowY h : Int) + (j : Int)) (-(lowZ h : Int) + (k : Int)) (-(lowX h : Int)) nx i ++ (insY f h (-(lowZ h : Int) + (k : Int)) (-(lowY h : Int)) (-(lowX h : Int)) ny nx (j + 1) ++ insZ f h (-(lowZ h : Int)) (-(lowY h : Int)) (-(lowX h : Int)) nz ny nx (k + 1))).head? ∧ BoxS wr w.heap.size f ∧ BoxS wr (w.heap.size + 1) g ∧ Q4 wr (w.heap.size + 1 + 1) 0 0 0 0 ∧ BoxS wr w2.heap.size h ∧ Box6 wr w3.heap.size (lowX h) (lowY h) (lowZ h) ((highX h : Int) - 1) ((highY h : Int) - 1) ((highZ h : Int) - 1) ∧ Below w.heap.size w wr) (fun c _ => nx - (intOf c + (lowX h : Int)).toNat)
              case atStart => exact ⟨0, by omega, by simp, by rw [HLK.out, HY1.out, List.append_assoc], A, B, R, S, X, hB⟩
              case round =>
                clear A B R S X hB HLK HY1 x0 x1 x2 x3 x4 x5 lX
                obtain ⟨i, hi, rfl, hLk, A, B, R, S, X, hB⟩ := hrel
                have HLK := Lib.hid hLk
                clear hLk
                have lA : w.heap.size < wr.heap.size := A.lt
                have lB := B.lt
                have lR : w.heap.size + 1 + 1 < wr.heap.size := blk_lt R
                have lS := S.lt
                have lX := blk_lt X
                obtain ⟨x0, x1, x2, x3, x4, x5⟩ := Box6.cells X
                by_cases hlx : i < nx
                · have hdx : decide (-(lowX h : Int) + (i : Int) ≤ 7 - ((highX h : Int) - 1)) = true := decide_eq_true (by omega)
                  have ho : outB h (-(lowX h : Int) + (i : Int)) (-(lowY h : Int) + (j : Int)) (-(lowZ h : Int) + (k : Int)) = false := decide_eq_false (by omega)
                  have CM := Lib.hid (rmoved_in h HHF.out HHE.out ho)
                  have HX1 := Lib.hid (insX_succ f h (-(lowY h : Int) + (j : Int)) (-(lowZ h : Int) + (k : Int)) (-(lowX h : Int)) hlx)
                  rw [show shiftF h (-(lowX h : Int) + (i : Int)) (-(lowY h : Int) + (j : Int)) (-(lowZ h : Int) + (k : Int)) 8 = shiftS h (-(lowX h : Int) + (i : Int)) (-(lowY h : Int) + (j : Int)) (-(lowZ h : Int) + (k : Int)) from rfl] at HX1
                  obtain ⟨m, hm⟩ : ∃ m, m = shiftS h (-(lowX h : Int) + (i : Int)) (-(lowY h : Int) + (j : Int)) (-(lowZ h : Int) + (k : Int)) := ⟨_, rfl⟩
                  have hmf : Fit m := by rw [hm]; exact shiftF_fit HHF.out _ _ _ 8
                  rw [← hm] at CM HX1
                  have CI := Lib.hid (fun (W : World) => rin_ok m f W hmf HF.out)
                  rw [rin_is hmf] at CI
                  clear hm ho hmf
                  have s0 := (S).cell (k := 0) (by omega); have s1 := (S).cell (k := 1) (by omega); have s2 := (S).cell (k := 2) (by omega); have s3 := (S).cell (k := 3) (by omega); have s4 := (S).cell (k := 4) (by omega); have s5 := (S).cell (k := 5) (by omega); have s6 := (S).cell (k := 6) (by omega); have s7 := (S).cell (k := 7) (by omega)
                  go_wp2_with fail
                  refine (CM.out _).mono ?_
                  rintro e w4 ⟨rfl, b4⟩
                  have A4 := (A.below b4 lA).alloc (.cells (solC m) 24)
                  have B4 := (B.below b4 lB).alloc (.cells (solC m) 24)
                  have R4 := blk_alloc (blk_below R b4 lR) (.cells (solC m) 24)
                  have S4 := (S.below b4 lS).alloc (.cells (solC m) 24)
                  have X4 := blk_alloc (blk_below X b4 lX) (.cells (solC m) 24)
                  have P4 : BoxS (w4.alloc (.cells (solC m) 24)) w4.heap.size m := BoxS.new _ _
                  have hB4q : Below w.heap.size w w4 := up b4 hB
                  have lA' := lA
                  have b4' := b4
                  have hB4 := hB4q.alloc hB4q.size (.cells (solC m) 24)
                  clear A B R S X hB b4 hB4q lA lB lR lS lX x0 x1 x2 x3 x4 x5 s0 s1 s2 s3 s4 s5 s6 s7
                  have lA4 : w.heap.size < w4.heap.size := Nat.lt_of_lt_of_le lA' b4'.size
                  have a0 := (A4).cell (k := 0) (by omega); have a1 := (A4).cell (k := 1) (by omega); have a2 := (A4).cell (k := 2) (by omega); have a3 := (A4).cell (k := 3) (by omega); have a4 := (A4).cell (k := 4) (by omega); have a5 := (A4).cell (k := 5) (by omega); have a6 := (A4).cell (k := 6) (by omega); have a7 := (A4).cell (k := 7) (by omega)
                  have p0 := (P4).cell (k := 0) (by omega); have p1 := (P4).cell (k := 1) (by omega); have p2 := (P4).cell (k := 2) (by omega); have p3 := (P4).cell (k := 3) (by omega); have p4 := (P4).cell (k := 4) (by omega); have p5 := (P4).cell (k := 5) (by omega); have p6 := (P4).cell (k := 6) (by omega); have p7 := (P4).cell (k := 7) (by omega)
                  go_wp2_with fail
                  refine (CI.out _).mono ?_
                  rintro e w5 ⟨rfl, b5⟩
                  have A5 := A4.below b5 A4.lt
                  have B5 := B4.below b5 B4.lt
                  have R5 := blk_below R4 b5 (blk_lt R4)
                  have S5 := S4.below b5 S4.lt
                  have X5 := blk_below X4 b5 (blk_lt X4)
                  have hB5 : Below w.heap.size w w5 := up b5 hB4
                  clear A4 B4 R4 S4 X4 P4 hB4 b5 b4' lA' lA4 p0 p1 p2 p3 p4 p5 p6 p7 a0 a1 a2 a3 a4 a5 a6 a7
                  cases hin : inB m f
                  · have HX2 := Lib.hid (show L = (insX f h (-(lowY h : Int) + (j : Int)) (-(lowZ h : Int) + (k : Int)) (-(lowX h : Int)) nx (i + 1) ++ (insY f h (-(lowZ h : Int) + (k : Int)) (-(lowY h : Int)) (-(lowX h : Int)) ny nx (j + 1) ++ insZ f h (-(lowZ h : Int)) (-(lowY h : Int)) (-(lowX h : Int)) nz ny nx (k + 1))).head? by
                      rw [HLK.out, HX1.out, hin]
                      rfl)
                    go_wp2_with fail
                    go_roundw
                    case rel => exact ⟨i + 1, by omega, congrArg _ (by omega), HX2.out, A5, B5, R5, S5, X5, hB5⟩
                    case measure => simp [intOf]; omega
                  · have HN := Lib.hid (show res = some (t, (-(lowX h : Int) + (i : Int), -(lowY h : Int) + (j : Int), -(lowZ h : Int) + (k : Int))) by
                      rw [HR.out, show 24 - t = (24 - (t + 1)) + 1 by omega, fitsFrom, HFT.out, HLK.out, HX1.out, hin]
                      rfl)
                    have lR5 : w.heap.size + 1 + 1 < w5.heap.size := blk_lt R5
                    obtain ⟨n0, n1, n2, n3⟩ := Q4.cells R5
                    have f0 := blk_free (k := 0) R5; have f1 := blk_free (k := 1) R5; have f2 := blk_free (k := 2) R5; have f3 := blk_free (k := 3) R5
                    dsimp only
                    iterate 52 first | go_values | go_skip | go_guarded | go_step | go_upon | go_back | (simp only [Int.not_lt, Int.not_le] at *; go_simp) | go_simp
                    show bodyPost _ _ (fun e w' => e = .returned (.tuple #[mv, .bool sm]) ∧ Below w.heap.size w w') _ _ _
                    have bE := blk_set (k := 3) (blk_set (k := 2) (blk_set (k := 1) (blk_set (k := 0) R5 (.int .i64 t)) (.int .i64 (-(lowX h : Int) + (i : Int)))) (.int .i64 (-(lowY h : Int) + (j : Int)))) (.int .i64 (-(lowZ h : Int) + (k : Int)))
                    refine bodyPost_ret (res_4e Tryz.results55 rfl (blk_cell (k := 0) bE) (blk_cell (k := 1) bE) (blk_cell (k := 2) bE) (blk_cell (k := 3) bE)) rfl ⟨by rw [HMV.out, HSM.out, HN.out]; rfl, ?_⟩
                    repeat' (first | (with_reducible exact Below.refl _ _) | (with_reducible assumption) | (with_reducible refine Below.alloc ?_ ?_ _) | (with_reducible refine Below.drew ?_) | (with_reducible refine below_drewN ?_ _) | (with_reducible refine Below.setCell ?_ ?_ _) | go_size)
                · obtain rfl : i = nx := by omega
                  have hdx : decide (-(lowX h : Int) + (i : Int) ≤ 7 - ((highX h : Int) - 1)) = false := decide_eq_false (by omega)
                  rw [insX_end, List.nil_append] at HLK
                  go_wp2_with fail
                  go_roundw
                  case rel => exact ⟨j + 1, by omega, congrArg _ (by omega), HLK.out, A, B, R, S, X, hB⟩
                  case measure => simp [intOf]; omega
            · obtain rfl : j = ny := by omega
              have hdy : decide (-(lowY h : Int) + (j : Int) ≤ 7 - ((highY h : Int) - 1)) = false := decide_eq_false (by omega)
              rw [insY_end, List.nil_append] at HLK
              go_wp2_with fail
              go_roundw
              case rel => exact ⟨k + 1, by omega, congrArg _ (by omega), HLK.out, A, B, R, S, X, hB⟩
              case measure => simp [intOf]; omega
        · obtain rfl : k = nz := by omega
          have hdz : decide (-(lowZ h : Int) + (k : Int) ≤ 7 - ((highZ h : Int) - 1)) = false := decide_eq_false (by omega)
          rw [insZ_end] at HLK
          have HN := Lib.hid (show res = fitsFrom f g (24 - (t + 1)) (t + 1) by
            rw [HR.out, show 24 - t = (24 - (t + 1)) + 1 by omega, fitsFrom, HFT.out, HLK.out]
            rfl)
          go_wp2_with fail
          case roundEnd => exact ⟨⟨t + 1, by omega, by simp, HN.out, A, B, R, hB⟩, by simp [intOf]; omega⟩
    · obtain rfl : t = 24 := by omega
      have hd : decide (((24 : Nat) : Int) < 24) = false := by decide
      have HN := Lib.hid (show res = none by rw [HR.out]; rfl)
      obtain ⟨n0, n1, n2, n3⟩ := Q4.cells R
      have f0 := blk_free (k := 0) R; have f1 := blk_free (k := 1) R; have f2 := blk_free (k := 2) R; have f3 := blk_free (k := 3) R
      go_wp2_with fail
      have bE := blk_set (k := 3) (blk_set (k := 2) (blk_set (k := 1) (blk_set (k := 0) R (.int .i64 0)) (.int .i64 0)) (.int .i64 0)) (.int .i64 0)
      refine bodyPost_ret (res_4e Tryz.results55 rfl (blk_cell (k := 0) bE) (blk_cell (k := 1) bE) (blk_cell (k := 2) bE) (blk_cell (k := 3) bE)) rfl ⟨by rw [HMV.out, HSM.out, HN.out]; rfl, ?_⟩
      repeat' (first | (with_reducible exact Below.refl _ _) | (with_reducible assumption) | (with_reducible refine Below.alloc ?_ ?_ _) | (with_reducible refine Below.drew ?_) | (with_reducible refine below_drewN ?_ _) | (with_reducible refine Below.setCell ?_ ?_ _) | go_size)
end Go.Proofs.YtadkaplafaeebaaGreatDoor
/-
  CheckFit, the program's and the reference's; the reference's Fits for any solids.
-/
set_option linter.unusedVariables false
set_option linter.unusedSimpArgs false
namespace Go.Proofs.YtadkaplafaeebaaGreatDoor
open Go Go.RowKit

set_option maxRecDepth 100000 in
set_option maxHeartbeats 4000000 in
theorem check_of (f g p : Sol) (t x y z e : Int) (r : Bool) (w : World) (hT : Tab64 w)
    (HP : Hid (∀ W, Tab64 W → Calls Tryz.prog 48 #[sol g, .agg #[.int .i64 (t), .int .i64 (x), .int .i64 (y), .int .i64 (z)]] W (RetB (.tuple #[sol p, .int .i64 e]) W)))
    (HI : Hid (∀ W, Calls Tryz.prog 36 #[sol p, sol f] W (RetB (.bool (inB p f)) W)))
    (HE : Hid (e = 0 ∧ r = inB p f ∨ e ≠ 0 ∧ r = false)) :
    Calls Tryz.prog 56 #[sol f, sol g, .agg #[.int .i64 (t), .int .i64 (x), .int .i64 (y), .int .i64 (z)]] w (RetB (.bool r) w) := by
  have HT := Lib.hid hT
  clear hT
  have F_0 : BoxS (((w.alloc (.cells (solC f) 24)).alloc (.cells (solC g) 24)).alloc (.cells #[.int .i64 (t), .int .i64 (x), .int .i64 (y), .int .i64 (z)] 46)) w.heap.size f := (((BoxS.new _ _).alloc _).alloc _)
  have G_0 : BoxS (((w.alloc (.cells (solC f) 24)).alloc (.cells (solC g) 24)).alloc (.cells #[.int .i64 (t), .int .i64 (x), .int .i64 (y), .int .i64 (z)] 46)) (w.heap.size + 1) g := ((BoxS.new' (by simp)).alloc _)
  have M_0 : Q4 (((w.alloc (.cells (solC f) 24)).alloc (.cells (solC g) 24)).alloc (.cells #[.int .i64 (t), .int .i64 (x), .int .i64 (y), .int .i64 (z)] 46)) (w.heap.size + 1 + 1) (t) (x) (y) (z) := (blk_new (by simp))
  have hB0 : Below w.heap.size w (((w.alloc (.cells (solC f) 24)).alloc (.cells (solC g) 24)).alloc (.cells #[.int .i64 (t), .int .i64 (x), .int .i64 (y), .int .i64 (z)] 46)) := by repeat' (first | (with_reducible exact Below.refl _ _) | (with_reducible assumption) | (with_reducible refine Below.alloc ?_ ?_ _) | (with_reducible refine Below.drew ?_) | (with_reducible refine below_drewN ?_ _) | (with_reducible refine Below.setCell ?_ ?_ _) | go_size)
  go_enter Tryz.func56, Tryz.ntmps56
  have cG0 := (G_0).cell (k := 0) (by omega); have cG1 := (G_0).cell (k := 1) (by omega); have cG2 := (G_0).cell (k := 2) (by omega); have cG3 := (G_0).cell (k := 3) (by omega); have cG4 := (G_0).cell (k := 4) (by omega); have cG5 := (G_0).cell (k := 5) (by omega); have cG6 := (G_0).cell (k := 6) (by omega); have cG7 := (G_0).cell (k := 7) (by omega)
  have cM0 := blk_cell (k := 0) M_0
  have cM1 := blk_cell (k := 1) M_0
  have cM2 := blk_cell (k := 2) M_0
  have cM3 := blk_cell (k := 3) M_0
  simp only [List.getElem?_toArray, List.getElem?_cons_zero, List.getElem?_cons_succ] at cM0 cM1 cM2 cM3
  go_wp2_with fail
  clear cG0 cG1 cG2 cG3 cG4 cG5 cG6 cG7 cM0 cM1 cM2 cM3
  refine (HP.out _ (HT.out.below hB0 (Nat.le_refl _))).mono ?_
  rintro e w1 ⟨rfl, b1⟩
  have F_1 := (F_0.below b1 F_0.lt).alloc (.cells (solC p) 24)
  have G_1 := (G_0.below b1 G_0.lt).alloc (.cells (solC p) 24)
  have M_1 := blk_alloc (blk_below M_0 b1 (blk_lt M_0)) (.cells (solC p) 24)
  have hB1q : Below w.heap.size w w1 := up b1 hB0
  have hB1 := hB1q.alloc hB1q.size (.cells (solC p) 24)
  clear F_0 G_0 M_0 hB0 b1 hB1q
  have P_1 : BoxS (w1.alloc (.cells (solC p) 24)) w1.heap.size p := BoxS.new _ _
  rcases HE.out with ⟨he, hr⟩ | ⟨he, hr⟩
  · subst he
    subst hr
    have cF0 := (F_1).cell (k := 0) (by omega); have cF1 := (F_1).cell (k := 1) (by omega); have cF2 := (F_1).cell (k := 2) (by omega); have cF3 := (F_1).cell (k := 3) (by omega); have cF4 := (F_1).cell (k := 4) (by omega); have cF5 := (F_1).cell (k := 5) (by omega); have cF6 := (F_1).cell (k := 6) (by omega); have cF7 := (F_1).cell (k := 7) (by omega)
    have cP0 := (P_1).cell (k := 0) (by omega); have cP1 := (P_1).cell (k := 1) (by omega); have cP2 := (P_1).cell (k := 2) (by omega); have cP3 := (P_1).cell (k := 3) (by omega); have cP4 := (P_1).cell (k := 4) (by omega); have cP5 := (P_1).cell (k := 5) (by omega); have cP6 := (P_1).cell (k := 6) (by omega); have cP7 := (P_1).cell (k := 7) (by omega)
    go_wp2_with fail
    clear cF0 cF1 cF2 cF3 cF4 cF5 cF6 cF7 cP0 cP1 cP2 cP3 cP4 cP5 cP6 cP7
    refine (HI.out _).mono ?_
    rintro e w2 ⟨rfl, b2⟩
    have F_2 := F_1.below b2 F_1.lt
    have G_2 := G_1.below b2 G_1.lt
    have M_2 := blk_below M_1 b2 (blk_lt M_1)
    have P_2 := P_1.below b2 P_1.lt
    have hB2 : Below w.heap.size w w2 := up b2 hB1
    clear F_1 G_1 M_1 P_1 hB1 b2
    go_wp2_with fail
    go_ret
    exact ⟨rfl, hB2⟩
  · subst hr
    have he1 : (e == 0) = false := by simpa using he
    have he2 : decide (e = 0) = false := decide_eq_false he
    go_wp2_with fail
    go_ret
    exact ⟨rfl, hB1⟩
set_option maxRecDepth 100000 in
set_option maxHeartbeats 4000000 in
theorem rcheck_of (f g p : Sol) (t x y z e : Int) (r : Bool) (w : World)
    (HP : Hid (∀ W, Calls Tryz.prog 49 #[sol g, .agg #[.int .i64 (t), .int .i64 (x), .int .i64 (y), .int .i64 (z)]] W (RetB (.tuple #[sol p, .int .i64 e]) W)))
    (HI : Hid (∀ W, Calls Tryz.prog 37 #[sol p, sol f] W (RetB (.bool (inB p f)) W)))
    (HE : Hid (e = 0 ∧ r = inB p f ∨ e ≠ 0 ∧ r = false)) :
    Calls Tryz.prog 57 #[sol f, sol g, .agg #[.int .i64 (t), .int .i64 (x), .int .i64 (y), .int .i64 (z)]] w (RetB (.bool r) w) := by
  have F_0 : BoxS (((w.alloc (.cells (solC f) 24)).alloc (.cells (solC g) 24)).alloc (.cells #[.int .i64 (t), .int .i64 (x), .int .i64 (y), .int .i64 (z)] 46)) w.heap.size f := (((BoxS.new _ _).alloc _).alloc _)
  have G_0 : BoxS (((w.alloc (.cells (solC f) 24)).alloc (.cells (solC g) 24)).alloc (.cells #[.int .i64 (t), .int .i64 (x), .int .i64 (y), .int .i64 (z)] 46)) (w.heap.size + 1) g := ((BoxS.new' (by simp)).alloc _)
  have M_0 : Q4 (((w.alloc (.cells (solC f) 24)).alloc (.cells (solC g) 24)).alloc (.cells #[.int .i64 (t), .int .i64 (x), .int .i64 (y), .int .i64 (z)] 46)) (w.heap.size + 1 + 1) (t) (x) (y) (z) := (blk_new (by simp))
  have hB0 : Below w.heap.size w (((w.alloc (.cells (solC f) 24)).alloc (.cells (solC g) 24)).alloc (.cells #[.int .i64 (t), .int .i64 (x), .int .i64 (y), .int .i64 (z)] 46)) := by repeat' (first | (with_reducible exact Below.refl _ _) | (with_reducible assumption) | (with_reducible refine Below.alloc ?_ ?_ _) | (with_reducible refine Below.drew ?_) | (with_reducible refine below_drewN ?_ _) | (with_reducible refine Below.setCell ?_ ?_ _) | go_size)
  go_enter Tryz.func57, Tryz.ntmps57
  have cG0 := (G_0).cell (k := 0) (by omega); have cG1 := (G_0).cell (k := 1) (by omega); have cG2 := (G_0).cell (k := 2) (by omega); have cG3 := (G_0).cell (k := 3) (by omega); have cG4 := (G_0).cell (k := 4) (by omega); have cG5 := (G_0).cell (k := 5) (by omega); have cG6 := (G_0).cell (k := 6) (by omega); have cG7 := (G_0).cell (k := 7) (by omega)
  have cM0 := blk_cell (k := 0) M_0
  have cM1 := blk_cell (k := 1) M_0
  have cM2 := blk_cell (k := 2) M_0
  have cM3 := blk_cell (k := 3) M_0
  simp only [List.getElem?_toArray, List.getElem?_cons_zero, List.getElem?_cons_succ] at cM0 cM1 cM2 cM3
  go_wp2_with fail
  clear cG0 cG1 cG2 cG3 cG4 cG5 cG6 cG7 cM0 cM1 cM2 cM3
  refine (HP.out _).mono ?_
  rintro e w1 ⟨rfl, b1⟩
  have F_1 := (F_0.below b1 F_0.lt).alloc (.cells (solC p) 24)
  have G_1 := (G_0.below b1 G_0.lt).alloc (.cells (solC p) 24)
  have M_1 := blk_alloc (blk_below M_0 b1 (blk_lt M_0)) (.cells (solC p) 24)
  have hB1q : Below w.heap.size w w1 := up b1 hB0
  have hB1 := hB1q.alloc hB1q.size (.cells (solC p) 24)
  clear F_0 G_0 M_0 hB0 b1 hB1q
  have P_1 : BoxS (w1.alloc (.cells (solC p) 24)) w1.heap.size p := BoxS.new _ _
  rcases HE.out with ⟨he, hr⟩ | ⟨he, hr⟩
  · subst he
    subst hr
    have cF0 := (F_1).cell (k := 0) (by omega); have cF1 := (F_1).cell (k := 1) (by omega); have cF2 := (F_1).cell (k := 2) (by omega); have cF3 := (F_1).cell (k := 3) (by omega); have cF4 := (F_1).cell (k := 4) (by omega); have cF5 := (F_1).cell (k := 5) (by omega); have cF6 := (F_1).cell (k := 6) (by omega); have cF7 := (F_1).cell (k := 7) (by omega)
    have cP0 := (P_1).cell (k := 0) (by omega); have cP1 := (P_1).cell (k := 1) (by omega); have cP2 := (P_1).cell (k := 2) (by omega); have cP3 := (P_1).cell (k := 3) (by omega); have cP4 := (P_1).cell (k := 4) (by omega); have cP5 := (P_1).cell (k := 5) (by omega); have cP6 := (P_1).cell (k := 6) (by omega); have cP7 := (P_1).cell (k := 7) (by omega)
    go_wp2_with fail
    clear cF0 cF1 cF2 cF3 cF4 cF5 cF6 cF7 cP0 cP1 cP2 cP3 cP4 cP5 cP6 cP7
    refine (HI.out _).mono ?_
    rintro e w2 ⟨rfl, b2⟩
    have F_2 := F_1.below b2 F_1.lt
    have G_2 := G_1.below b2 G_1.lt
    have M_2 := blk_below M_1 b2 (blk_lt M_1)
    have P_2 := P_1.below b2 P_1.lt
    have hB2 : Below w.heap.size w w2 := up b2 hB1
    clear F_1 G_1 M_1 P_1 hB1 b2
    go_wp2_with fail
    go_ret
    exact ⟨rfl, hB2⟩
  · subst hr
    have he1 : (e == 0) = false := by simpa using he
    have he2 : decide (e = 0) = false := decide_eq_false he
    go_wp2_with fail
    go_ret
    exact ⟨rfl, hB1⟩
end Go.Proofs.YtadkaplafaeebaaGreatDoor
/-
  The reference's Fits for any solids.
-/
set_option linter.unusedVariables false
set_option linter.unusedSimpArgs false
namespace Go.Proofs.YtadkaplafaeebaaGreatDoor
open Go Go.RowKit

set_option maxRecDepth 100000 in
set_option maxHeartbeats 4000000 in
theorem rfits_empty (f g : Sol) (w : World) (hge : emptyS g = true) :
    Calls Tryz.prog 55 #[sol f, sol g] w fun e w' => e = .returned (.tuple #[.agg #[.int .i64 (0), .int .i64 (-7), .int .i64 (-7), .int .i64 (-7)], .bool true]) ∧ Below w.heap.size w w' := by
  have B0 : BoxS (((w.alloc (.cells (solC f) 24)).alloc (.cells (solC g) 24)).alloc (.cells #[.int .i64 (0), .int .i64 (0), .int .i64 (0), .int .i64 (0)] 46)) (w.heap.size + 1) g := (BoxS.new' (by simp)).alloc _
  have R0 : Q4 (((w.alloc (.cells (solC f) 24)).alloc (.cells (solC g) 24)).alloc (.cells #[.int .i64 (0), .int .i64 (0), .int .i64 (0), .int .i64 (0)] 46)) (w.heap.size + 1 + 1) 0 0 0 0 := blk_new (by simp)
  have hB0 : Below w.heap.size w (((w.alloc (.cells (solC f) 24)).alloc (.cells (solC g) 24)).alloc (.cells #[.int .i64 (0), .int .i64 (0), .int .i64 (0), .int .i64 (0)] 46)) := by repeat' (first | (with_reducible exact Below.refl _ _) | (with_reducible assumption) | (with_reducible refine Below.alloc ?_ ?_ _) | (with_reducible refine Below.drew ?_) | (with_reducible refine below_drewN ?_ _) | (with_reducible refine Below.setCell ?_ ?_ _) | go_size)
  have b0 := (B0).cell (k := 0) (by omega); have b1 := (B0).cell (k := 1) (by omega); have b2 := (B0).cell (k := 2) (by omega); have b3 := (B0).cell (k := 3) (by omega); have b4 := (B0).cell (k := 4) (by omega); have b5 := (B0).cell (k := 5) (by omega); have b6 := (B0).cell (k := 6) (by omega); have b7 := (B0).cell (k := 7) (by omega)
  go_enter Tryz.func55, Tryz.ntmps55
  iterate 17 first | go_values | go_skip | go_guarded | go_step | go_upon | go_back | (simp only [Int.not_lt, Int.not_le] at *; go_simp) | go_simp
  clear b0 b1 b2 b3 b4 b5 b6 b7
  obtain ⟨U, hU⟩ : ∃ U, U = (((w.alloc (.cells (solC f) 24)).alloc (.cells (solC g) 24)).alloc (.cells #[.int .i64 (0), .int .i64 (0), .int .i64 (0), .int .i64 (0)] 46)) := ⟨_, rfl⟩
  rw [← hU] at B0 R0 hB0 ⊢
  clear hU
  have b0 := (B0).cell (k := 0) (by omega); have b1 := (B0).cell (k := 1) (by omega); have b2 := (B0).cell (k := 2) (by omega); have b3 := (B0).cell (k := 3) (by omega); have b4 := (B0).cell (k := 4) (by omega); have b5 := (B0).cell (k := 5) (by omega); have b6 := (B0).cell (k := 6) (by omega); have b7 := (B0).cell (k := 7) (by omega)
  have lB : w.heap.size + 1 < U.heap.size := B0.lt
  have lR : w.heap.size + 1 + 1 < U.heap.size := blk_lt R0
  obtain ⟨n0, n1, n2, n3⟩ := Q4.cells R0
  have f0 := blk_free (k := 0) R0; have f1 := blk_free (k := 1) R0; have f2 := blk_free (k := 2) R0; have f3 := blk_free (k := 3) R0
  go_wp2_with fail
  have bE := blk_set (k := 3) (blk_set (k := 2) (blk_set (k := 1) (blk_set (k := 0) R0 (.int .i64 0)) (.int .i64 (-7))) (.int .i64 (-7))) (.int .i64 (-7))
  refine bodyPost_ret (res_4e Tryz.results55 rfl (blk_cell (k := 0) bE) (blk_cell (k := 1) bE) (blk_cell (k := 2) bE) (blk_cell (k := 3) bE)) rfl ⟨rfl, ?_⟩
  repeat' (first | (with_reducible exact Below.refl _ _) | (with_reducible assumption) | (with_reducible refine Below.alloc ?_ ?_ _) | (with_reducible refine Below.drew ?_) | (with_reducible refine below_drewN ?_ _) | (with_reducible refine Below.setCell ?_ ?_ _) | go_size)
set_option maxRecDepth 100000 in
set_option maxHeartbeats 4000000 in
theorem rfits_less (f g : Sol) (w : World) (hf : Fit f) (hg : Fit g) (hge : emptyS g = false) (hn : numF f < numF g) :
    Calls Tryz.prog 55 #[sol f, sol g] w fun e w' => e = .returned (.tuple #[.agg #[.int .i64 (0), .int .i64 (0), .int .i64 (0), .int .i64 (0)], .bool false]) ∧ Below w.heap.size w w' := by
  have C1 := Lib.hid (fun (W : World) => rcount_ok f W hf)
  have C2 := Lib.hid (fun (W : World) => rcount_ok g W hg)
  have hnn : decide (numF f < numF g) = true := decide_eq_true hn
  have hN1 : numF f ≤ 512 := cellsL_len f
  have hN2 : numF g ≤ 512 := cellsL_len g
  clear hf hg
  have A0 : BoxS (((w.alloc (.cells (solC f) 24)).alloc (.cells (solC g) 24)).alloc (.cells #[.int .i64 (0), .int .i64 (0), .int .i64 (0), .int .i64 (0)] 46)) w.heap.size f := ((BoxS.new _ _).alloc _).alloc _
  have B0 : BoxS (((w.alloc (.cells (solC f) 24)).alloc (.cells (solC g) 24)).alloc (.cells #[.int .i64 (0), .int .i64 (0), .int .i64 (0), .int .i64 (0)] 46)) (w.heap.size + 1) g := (BoxS.new' (by simp)).alloc _
  have R0 : Q4 (((w.alloc (.cells (solC f) 24)).alloc (.cells (solC g) 24)).alloc (.cells #[.int .i64 (0), .int .i64 (0), .int .i64 (0), .int .i64 (0)] 46)) (w.heap.size + 1 + 1) 0 0 0 0 := blk_new (by simp)
  have hB0 : Below w.heap.size w (((w.alloc (.cells (solC f) 24)).alloc (.cells (solC g) 24)).alloc (.cells #[.int .i64 (0), .int .i64 (0), .int .i64 (0), .int .i64 (0)] 46)) := by repeat' (first | (with_reducible exact Below.refl _ _) | (with_reducible assumption) | (with_reducible refine Below.alloc ?_ ?_ _) | (with_reducible refine Below.drew ?_) | (with_reducible refine below_drewN ?_ _) | (with_reducible refine Below.setCell ?_ ?_ _) | go_size)
  have b0 := (B0).cell (k := 0) (by omega); have b1 := (B0).cell (k := 1) (by omega); have b2 := (B0).cell (k := 2) (by omega); have b3 := (B0).cell (k := 3) (by omega); have b4 := (B0).cell (k := 4) (by omega); have b5 := (B0).cell (k := 5) (by omega); have b6 := (B0).cell (k := 6) (by omega); have b7 := (B0).cell (k := 7) (by omega)
  go_enter Tryz.func55, Tryz.ntmps55
  go_wp2_with fail
  obtain ⟨U, hU⟩ : ∃ U, U = (((w.alloc (.cells (solC f) 24)).alloc (.cells (solC g) 24)).alloc (.cells #[.int .i64 (0), .int .i64 (0), .int .i64 (0), .int .i64 (0)] 46)) := ⟨_, rfl⟩
  rw [← hU] at A0 B0 R0 hB0 b0 b1 b2 b3 b4 b5 b6 b7 ⊢
  clear hU
  have a0 := (A0).cell (k := 0) (by omega); have a1 := (A0).cell (k := 1) (by omega); have a2 := (A0).cell (k := 2) (by omega); have a3 := (A0).cell (k := 3) (by omega); have a4 := (A0).cell (k := 4) (by omega); have a5 := (A0).cell (k := 5) (by omega); have a6 := (A0).cell (k := 6) (by omega); have a7 := (A0).cell (k := 7) (by omega)
  have lA : w.heap.size < U.heap.size := A0.lt
  have lB : w.heap.size + 1 < U.heap.size := B0.lt
  have lR : w.heap.size + 1 + 1 < U.heap.size := blk_lt R0
  (refine wp_region_quiet (C := fun w' => Below U.heap.size U w') (by kernel_rfl) (by kernel_rfl) (Below.drew (Below.refl _ _)) ?_; (iterate 5 (refine wpQuiet_step (fun K hK => ?_); go_simp; first | (refine hK _ ?_; clear hK K) | (apply Exists.intro; refine ⟨fun W' hW' => ?_, hK _ ?_⟩; (focus (first | (with_reducible exact rfl) | (with_reducible exact ⟨rfl, rfl⟩) | (obtain ⟨hcq, hfq⟩ := bcell hW'; have hzq := hW'.size; (try go_simp); first | (with_reducible exact rfl) | (with_reducible exact ⟨rfl, rfl⟩) | (first | ((with_reducible refine Calls.mono (C1.out _) ?_); rintro e w9 ⟨rfl, hb9⟩; exact ⟨rfl, hW'.trans (hb9.mono hW'.size)⟩) | ((with_reducible refine Calls.mono (C2.out _) ?_); rintro e w9 ⟨rfl, hb9⟩; exact ⟨rfl, hW'.trans (hb9.mono hW'.size)⟩))))); clear hK K))); refine wpQuiet_nil ?_; intro w1q hb1q)
  have R1 := blk_below R0 hb1q lR
  have hB1 : Below w.heap.size w w1q := up hb1q hB0
  clear A0 B0 R0 hB0 hb1q lA lB lR a0 a1 a2 a3 a4 a5 a6 a7 b0 b1 b2 b3 b4 b5 b6 b7 C1 C2
  obtain ⟨n0, n1, n2, n3⟩ := Q4.cells R1
  have f0 := blk_free (k := 0) R1; have f1 := blk_free (k := 1) R1; have f2 := blk_free (k := 2) R1; have f3 := blk_free (k := 3) R1
  go_wp2_with fail
  have bE := blk_set (k := 3) (blk_set (k := 2) (blk_set (k := 1) (blk_set (k := 0) R1 (.int .i64 0)) (.int .i64 0)) (.int .i64 0)) (.int .i64 0)
  refine bodyPost_ret (res_4e Tryz.results55 rfl (blk_cell (k := 0) bE) (blk_cell (k := 1) bE) (blk_cell (k := 2) bE) (blk_cell (k := 3) bE)) rfl ⟨rfl, ?_⟩
  repeat' (first | (with_reducible exact Below.refl _ _) | (with_reducible assumption) | (with_reducible refine Below.alloc ?_ ?_ _) | (with_reducible refine Below.drew ?_) | (with_reducible refine below_drewN ?_ _) | (with_reducible refine Below.setCell ?_ ?_ _) | go_size)
theorem rfits_all (f g : Sol) (w : World) (hf : Fit f) (hg : Fit g) :
    Calls Tryz.prog 55 #[sol f, sol g] w fun e w' => e = .returned (.tuple #[motE f g, .bool (fitB f g)]) ∧ Below w.heap.size w w' := by
  by_cases h : emptyS g = true
  · unfold motE fitB
    rw [if_pos h, if_pos h]
    exact rfits_empty f g w h
  · have he : emptyS g = false := by simpa using h
    by_cases hn : numF f < numF g
    · have hB : fitB f g = false := by
        cases hb : fitB f g with
        | false => rfl
        | true => exact absurd (num_fit ((fitB_iff hf hg).1 hb)) (by omega)
      have hN : fitsF f g = none := by
        unfold fitB at hB
        rw [if_neg h] at hB
        cases hx : fitsF f g with
        | none => rfl
        | some x => rw [hx] at hB; cases hB
      rw [hB]
      unfold motE
      rw [if_neg h, hN]
      exact rfits_less f g w hf hg he hn
    · unfold motE fitB
      rw [if_neg h, if_neg h]
      have hfe : emptyS f = false := by
        cases hx : emptyS f with
        | false => rfl
        | true =>
          have h0 : numF f = 0 := by show (cellsL f).length = 0; rw [cells_of_empty hf hx]; rfl
          have h1 : 0 < numF g := len_pos hg he
          omega
      exact rfits_core f g _ _ w hf hg he hfe (by omega) rfl rfl
end Go.Proofs.YtadkaplafaeebaaGreatDoor
/-
  The law of fits: its walk, the contracts of its callees given; the law for every two solids and every motion.
-/
set_option linter.unusedVariables false
set_option linter.unusedSimpArgs false
namespace Go.Proofs.YtadkaplafaeebaaGreatDoor
open Go Go.RowKit

set_option maxRecDepth 100000 in
set_option maxHeartbeats 4000000 in
theorem fits_core (f g : Sol) (t x y z A0 A1 A2 A3 : Int) (is r : Bool) (w : World) (hT : Tab64 w)
    (H1 : Hid (∀ W, Tab64 W → Calls Tryz.prog 54 #[sol f, sol g] W (RetB (.tuple #[.agg #[.int .i64 (A0), .int .i64 (A1), .int .i64 (A2), .int .i64 (A3)], .bool is]) W)))
    (H2 : Hid (∀ W, Calls Tryz.prog 55 #[sol f, sol g] W (RetB (.tuple #[.agg #[.int .i64 (A0), .int .i64 (A1), .int .i64 (A2), .int .i64 (A3)], .bool is]) W)))
    (HC : Hid (∀ W, Tab64 W → Calls Tryz.prog 20 #[] W (RetB (.bool true) W)))
    (H5 : Hid (∀ W, Tab64 W → Calls Tryz.prog 56 #[sol f, sol g, .agg #[.int .i64 (t), .int .i64 (x), .int .i64 (y), .int .i64 (z)]] W (RetB (.bool r) W)))
    (H6 : Hid (∀ W, Calls Tryz.prog 57 #[sol f, sol g, .agg #[.int .i64 (t), .int .i64 (x), .int .i64 (y), .int .i64 (z)]] W (RetB (.bool r) W))) :
    Calls Tryz.prog 7 #[sol f, sol g, .agg #[.int .i64 (t), .int .i64 (x), .int .i64 (y), .int .i64 (z)]] w (RetB (.bool true) w) := by
  have HT := Lib.hid hT
  clear hT
  have F_0 : BoxS (((w.alloc (.cells (solC f) 24)).alloc (.cells (solC g) 24)).alloc (.cells #[.int .i64 (t), .int .i64 (x), .int .i64 (y), .int .i64 (z)] 46)) w.heap.size f := (((BoxS.new _ _).alloc _).alloc _)
  have G_0 : BoxS (((w.alloc (.cells (solC f) 24)).alloc (.cells (solC g) 24)).alloc (.cells #[.int .i64 (t), .int .i64 (x), .int .i64 (y), .int .i64 (z)] 46)) (w.heap.size + 1) g := ((BoxS.new' (by simp)).alloc _)
  have M_0 : Q4 (((w.alloc (.cells (solC f) 24)).alloc (.cells (solC g) 24)).alloc (.cells #[.int .i64 (t), .int .i64 (x), .int .i64 (y), .int .i64 (z)] 46)) (w.heap.size + 1 + 1) (t) (x) (y) (z) := (blk_new (by simp))
  have hB0 : Below w.heap.size w (((w.alloc (.cells (solC f) 24)).alloc (.cells (solC g) 24)).alloc (.cells #[.int .i64 (t), .int .i64 (x), .int .i64 (y), .int .i64 (z)] 46)) := by repeat' (first | (with_reducible exact Below.refl _ _) | (with_reducible assumption) | (with_reducible refine Below.alloc ?_ ?_ _) | (with_reducible refine Below.drew ?_) | (with_reducible refine below_drewN ?_ _) | (with_reducible refine Below.setCell ?_ ?_ _) | go_size)
  go_enter Tryz.func7, Tryz.ntmps7
  have cF0 := (F_0).cell (k := 0) (by omega); have cF1 := (F_0).cell (k := 1) (by omega); have cF2 := (F_0).cell (k := 2) (by omega); have cF3 := (F_0).cell (k := 3) (by omega); have cF4 := (F_0).cell (k := 4) (by omega); have cF5 := (F_0).cell (k := 5) (by omega); have cF6 := (F_0).cell (k := 6) (by omega); have cF7 := (F_0).cell (k := 7) (by omega)
  have cG0 := (G_0).cell (k := 0) (by omega); have cG1 := (G_0).cell (k := 1) (by omega); have cG2 := (G_0).cell (k := 2) (by omega); have cG3 := (G_0).cell (k := 3) (by omega); have cG4 := (G_0).cell (k := 4) (by omega); have cG5 := (G_0).cell (k := 5) (by omega); have cG6 := (G_0).cell (k := 6) (by omega); have cG7 := (G_0).cell (k := 7) (by omega)
  go_wp2_with fail
  clear cF0 cF1 cF2 cF3 cF4 cF5 cF6 cF7 cG0 cG1 cG2 cG3 cG4 cG5 cG6 cG7
  refine (H1.out _ (HT.out.below hB0 (Nat.le_refl _))).mono ?_
  rintro e w1 ⟨rfl, b1⟩
  have F_1 := (F_0.below b1 F_0.lt).alloc (.cells #[.int .i64 (A0), .int .i64 (A1), .int .i64 (A2), .int .i64 (A3)] 46)
  have G_1 := (G_0.below b1 G_0.lt).alloc (.cells #[.int .i64 (A0), .int .i64 (A1), .int .i64 (A2), .int .i64 (A3)] 46)
  have M_1 := blk_alloc (blk_below M_0 b1 (blk_lt M_0)) (.cells #[.int .i64 (A0), .int .i64 (A1), .int .i64 (A2), .int .i64 (A3)] 46)
  have hB1q : Below w.heap.size w w1 := up b1 hB0
  have hB1 := hB1q.alloc hB1q.size (.cells #[.int .i64 (A0), .int .i64 (A1), .int .i64 (A2), .int .i64 (A3)] 46)
  clear F_0 G_0 M_0 hB0 b1 hB1q
  have X_1 : Q4 (w1.alloc (.cells #[.int .i64 (A0), .int .i64 (A1), .int .i64 (A2), .int .i64 (A3)] 46)) w1.heap.size (A0) (A1) (A2) (A3) := blk_new rfl
  have cF0 := (F_1).cell (k := 0) (by omega); have cF1 := (F_1).cell (k := 1) (by omega); have cF2 := (F_1).cell (k := 2) (by omega); have cF3 := (F_1).cell (k := 3) (by omega); have cF4 := (F_1).cell (k := 4) (by omega); have cF5 := (F_1).cell (k := 5) (by omega); have cF6 := (F_1).cell (k := 6) (by omega); have cF7 := (F_1).cell (k := 7) (by omega)
  have cG0 := (G_1).cell (k := 0) (by omega); have cG1 := (G_1).cell (k := 1) (by omega); have cG2 := (G_1).cell (k := 2) (by omega); have cG3 := (G_1).cell (k := 3) (by omega); have cG4 := (G_1).cell (k := 4) (by omega); have cG5 := (G_1).cell (k := 5) (by omega); have cG6 := (G_1).cell (k := 6) (by omega); have cG7 := (G_1).cell (k := 7) (by omega)
  go_wp2_with fail
  clear cF0 cF1 cF2 cF3 cF4 cF5 cF6 cF7 cG0 cG1 cG2 cG3 cG4 cG5 cG6 cG7
  refine (H2.out _).mono ?_
  rintro e w2 ⟨rfl, b2⟩
  have F_2 := (F_1.below b2 F_1.lt).alloc (.cells #[.int .i64 (A0), .int .i64 (A1), .int .i64 (A2), .int .i64 (A3)] 46)
  have G_2 := (G_1.below b2 G_1.lt).alloc (.cells #[.int .i64 (A0), .int .i64 (A1), .int .i64 (A2), .int .i64 (A3)] 46)
  have M_2 := blk_alloc (blk_below M_1 b2 (blk_lt M_1)) (.cells #[.int .i64 (A0), .int .i64 (A1), .int .i64 (A2), .int .i64 (A3)] 46)
  have X_2 := blk_alloc (blk_below X_1 b2 (blk_lt X_1)) (.cells #[.int .i64 (A0), .int .i64 (A1), .int .i64 (A2), .int .i64 (A3)] 46)
  have hB2q : Below w.heap.size w w2 := up b2 hB1
  have hB2 := hB2q.alloc hB2q.size (.cells #[.int .i64 (A0), .int .i64 (A1), .int .i64 (A2), .int .i64 (A3)] 46)
  clear F_1 G_1 M_1 X_1 hB1 b2 hB2q
  have Y_2 : Q4 (w2.alloc (.cells #[.int .i64 (A0), .int .i64 (A1), .int .i64 (A2), .int .i64 (A3)] 46)) w2.heap.size (A0) (A1) (A2) (A3) := blk_new rfl
  obtain ⟨M, hM⟩ : ∃ M, M = w1.heap.size := ⟨_, rfl⟩
  obtain ⟨N, hN⟩ : ∃ N, N = w2.heap.size := ⟨_, rfl⟩
  obtain ⟨U, hU⟩ : ∃ U, U = w2.alloc (.cells #[.int .i64 (A0), .int .i64 (A1), .int .i64 (A2), .int .i64 (A3)] 46) := ⟨_, rfl⟩
  go_upto_region 3 with fail
  rw [← hU] at F_2 G_2 M_2 X_2 Y_2 hB2 ⊢
  rw [← hM] at X_2 ⊢
  rw [← hN] at Y_2 ⊢
  clear hU hM hN
  have lF := F_2.lt; have lG := G_2.lt; have lM := blk_lt M_2; have lX := blk_lt X_2; have lY := blk_lt Y_2
  have HTU := Lib.hid (HT.out.below hB2 (Nat.le_refl _))
  have hCd : Below U.heap.size U U.drew := Below.drew (Below.refl _ _)
  have k1 : (is == is) = true := by simp
  have k2 : (r == r) = true := by simp
  refine wp_region_relW (fun (i : Nat) (v : Value) (W : World) => match i with | 0 => v = .bool true | 1 => v = .bool true | 2 => v = .agg #[.int .i64 (A0), .int .i64 (A1), .int .i64 (A2), .int .i64 (A3)] | 3 => v = .agg #[.int .i64 (A0), .int .i64 (A1), .int .i64 (A2), .int .i64 (A3)] | 4 => v = .bool true | 5 => v = .bool true | 6 => v = .bool true | 7 => v = .bool is | 8 => v = .bool is | 9 => v = .bool true | 10 => v = .bool true | 11 => v = .bool true | 12 => v = sol f | 13 => v = sol g | 14 => v = .agg #[.int .i64 (t), .int .i64 (x), .int .i64 (y), .int .i64 (z)] | 15 => v = .bool r | 16 => v = sol f | 17 => v = sol g | 18 => v = .agg #[.int .i64 (t), .int .i64 (x), .int .i64 (y), .int .i64 (z)] | 19 => v = .bool r | 20 => v = .bool true | 21 => v = .bool true | _ => v = .bool true) (fun W => Below U.heap.size U W) (by kernel_rfl) (by kernel_rfl) (by kernel_rfl) hCd (by kernel_rfl) ?hst ?hop ?hend
  case hst =>
    intro j v W W' hb hv
    rcases j with _ | _ | _ | _ | _ | _ | _ | _ | _ | _ | _ | _ | _ | _ | _ | _ | _ | _ | _ | _ | _ | _ | _ | j
    all_goals exact hv
  case hop =>
    intro i o ho a' W hC hin hfix
    have F3 := F_2.below hC lF
    have G3 := G_2.below hC lG
    have M3 := blk_below M_2 hC lM
    have X3 := blk_below X_2 hC lX
    have Y3 := blk_below Y_2 hC lY
    have f0 := (F3).cell (k := 0) (by omega); have f1 := (F3).cell (k := 1) (by omega); have f2 := (F3).cell (k := 2) (by omega); have f3 := (F3).cell (k := 3) (by omega); have f4 := (F3).cell (k := 4) (by omega); have f5 := (F3).cell (k := 5) (by omega); have f6 := (F3).cell (k := 6) (by omega); have f7 := (F3).cell (k := 7) (by omega)
    have g0 := (G3).cell (k := 0) (by omega); have g1 := (G3).cell (k := 1) (by omega); have g2 := (G3).cell (k := 2) (by omega); have g3 := (G3).cell (k := 3) (by omega); have g4 := (G3).cell (k := 4) (by omega); have g5 := (G3).cell (k := 5) (by omega); have g6 := (G3).cell (k := 6) (by omega); have g7 := (G3).cell (k := 7) (by omega)
    obtain ⟨m0, m1, m2, m3⟩ := Q4.cells M3
    obtain ⟨x0, x1, x2, x3⟩ := Q4.cells X3
    obtain ⟨y0, y1, y2, y3⟩ := Q4.cells Y3
    have q3 : a'.tmps[3]? = some (.pointer (some ⟨w.heap.size, 0, none⟩)) := hfix 3 (by kernel_rfl)
    have q4 : a'.tmps[4]? = some (.pointer (some ⟨w.heap.size + 1, 0, none⟩)) := hfix 4 (by kernel_rfl)
    have q5 : a'.tmps[5]? = some (.pointer (some ⟨w.heap.size + 1 + 1, 0, none⟩)) := hfix 5 (by kernel_rfl)
    have q7 : a'.tmps[7]? = some (.pointer (some ⟨M, 0, none⟩)) := hfix 7 (by kernel_rfl)
    have q9 : a'.tmps[9]? = some (.pointer (some ⟨N, 0, none⟩)) := hfix 9 (by kernel_rfl)
    have q8 : a'.tmps[8]? = some (.bool is) := hfix 8 (by kernel_rfl)
    have q10 : a'.tmps[10]? = some (.bool is) := hfix 10 (by kernel_rfl)
    have hi : i < 23 := (Array.getElem?_eq_some_iff.1 ho).1
    rcases (show i = 0 ∨ i = 1 ∨ i = 2 ∨ i = 3 ∨ i = 4 ∨ i = 5 ∨ i = 6 ∨ i = 7 ∨ i = 8 ∨ i = 9 ∨ i = 10 ∨ i = 11 ∨ i = 12 ∨ i = 13 ∨ i = 14 ∨ i = 15 ∨ i = 16 ∨ i = 17 ∨ i = 18 ∨ i = 19 ∨ i = 20 ∨ i = 21 ∨ i = 22 by omega) with rfl | rfl | rfl | rfl | rfl | rfl | rfl | rfl | rfl | rfl | rfl | rfl | rfl | rfl | rfl | rfl | rfl | rfl | rfl | rfl | rfl | rfl | rfl
    · obtain rfl := Option.some.inj ho
      refine ⟨rfl, fun K hK => ?_⟩
      clear hin hfix ho
      go_simp
      refine (HC.out _ (HTU.out.below hC (Nat.le_refl _))).mono ?_
      rintro e W2 ⟨rfl, hb⟩
      exact hK _ _ rfl (hC.trans (hb.mono hC.size)) hb
    · obtain ⟨v0, rfl, h0⟩ := hin 0 23 (by kernel_rfl) (by kernel_rfl)
      obtain rfl := Option.some.inj ho
      refine ⟨rfl, fun K hK => ?_⟩
      clear hin hfix ho
      go_simp
      exact hK _ _ rfl hC (Below.refl _ _)
    · obtain ⟨v1, rfl, h1⟩ := hin 1 24 (by kernel_rfl) (by kernel_rfl)
      obtain rfl := Option.some.inj ho
      refine ⟨wanted_at (j := 1) (t := 24) rfl (by kernel_rfl) h1, fun K hK => ?_⟩
      clear hin hfix ho
      go_simp
      exact hK _ _ rfl hC (Below.refl _ _)
    · obtain ⟨v1, rfl, h1⟩ := hin 1 24 (by kernel_rfl) (by kernel_rfl)
      obtain rfl := Option.some.inj ho
      refine ⟨wanted_at (j := 1) (t := 24) rfl (by kernel_rfl) h1, fun K hK => ?_⟩
      clear hin hfix ho
      go_simp
      exact hK _ _ rfl hC (Below.refl _ _)
    · obtain ⟨v2, rfl, h2⟩ := hin 2 25 (by kernel_rfl) (by kernel_rfl)
      obtain ⟨v3, rfl, h3⟩ := hin 3 26 (by kernel_rfl) (by kernel_rfl)
      obtain ⟨v1, rfl, h1⟩ := hin 1 24 (by kernel_rfl) (by kernel_rfl)
      obtain rfl := Option.some.inj ho
      refine ⟨wanted_at (j := 1) (t := 24) rfl (by kernel_rfl) h1, fun K hK => ?_⟩
      clear hin hfix ho
      go_simp
      exact hK _ _ rfl hC (Below.refl _ _)
    · obtain ⟨v1, rfl, h1⟩ := hin 1 24 (by kernel_rfl) (by kernel_rfl)
      obtain ⟨v4, rfl, h4⟩ := hin 4 27 (by kernel_rfl) (by kernel_rfl)
      obtain rfl := Option.some.inj ho
      refine ⟨rfl, fun K hK => ?_⟩
      clear hin hfix ho
      go_simp
      exact hK _ _ rfl hC (Below.refl _ _)
    · obtain ⟨v5, rfl, h5⟩ := hin 5 28 (by kernel_rfl) (by kernel_rfl)
      obtain rfl := Option.some.inj ho
      refine ⟨rfl, fun K hK => ?_⟩
      clear hin hfix ho
      go_simp
      exact hK _ _ rfl hC (Below.refl _ _)
    · obtain ⟨v6, rfl, h6⟩ := hin 6 29 (by kernel_rfl) (by kernel_rfl)
      obtain rfl := Option.some.inj ho
      refine ⟨wanted_at (j := 6) (t := 29) rfl (by kernel_rfl) h6, fun K hK => ?_⟩
      clear hin hfix ho
      go_simp
      exact hK _ _ rfl hC (Below.refl _ _)
    · obtain ⟨v6, rfl, h6⟩ := hin 6 29 (by kernel_rfl) (by kernel_rfl)
      obtain rfl := Option.some.inj ho
      refine ⟨wanted_at (j := 6) (t := 29) rfl (by kernel_rfl) h6, fun K hK => ?_⟩
      clear hin hfix ho
      go_simp
      exact hK _ _ rfl hC (Below.refl _ _)
    · obtain ⟨v7, rfl, h7⟩ := hin 7 30 (by kernel_rfl) (by kernel_rfl)
      obtain ⟨v8, rfl, h8⟩ := hin 8 31 (by kernel_rfl) (by kernel_rfl)
      obtain ⟨v6, rfl, h6⟩ := hin 6 29 (by kernel_rfl) (by kernel_rfl)
      obtain rfl := Option.some.inj ho
      refine ⟨wanted_at (j := 6) (t := 29) rfl (by kernel_rfl) h6, fun K hK => ?_⟩
      clear hin hfix ho
      go_simp
      exact hK _ _ rfl hC (Below.refl _ _)
    · obtain ⟨v6, rfl, h6⟩ := hin 6 29 (by kernel_rfl) (by kernel_rfl)
      obtain ⟨v9, rfl, h9⟩ := hin 9 32 (by kernel_rfl) (by kernel_rfl)
      obtain rfl := Option.some.inj ho
      refine ⟨rfl, fun K hK => ?_⟩
      clear hin hfix ho
      go_simp
      exact hK _ _ rfl hC (Below.refl _ _)
    · obtain ⟨v10, rfl, h10⟩ := hin 10 33 (by kernel_rfl) (by kernel_rfl)
      obtain rfl := Option.some.inj ho
      refine ⟨rfl, fun K hK => ?_⟩
      clear hin hfix ho
      go_simp
      exact hK _ _ rfl hC (Below.refl _ _)
    · obtain ⟨v11, rfl, h11⟩ := hin 11 34 (by kernel_rfl) (by kernel_rfl)
      obtain rfl := Option.some.inj ho
      refine ⟨wanted_at (j := 11) (t := 34) rfl (by kernel_rfl) h11, fun K hK => ?_⟩
      clear hin hfix ho
      go_simp
      exact hK _ _ rfl hC (Below.refl _ _)
    · obtain ⟨v11, rfl, h11⟩ := hin 11 34 (by kernel_rfl) (by kernel_rfl)
      obtain rfl := Option.some.inj ho
      refine ⟨wanted_at (j := 11) (t := 34) rfl (by kernel_rfl) h11, fun K hK => ?_⟩
      clear hin hfix ho
      go_simp
      exact hK _ _ rfl hC (Below.refl _ _)
    · obtain ⟨v11, rfl, h11⟩ := hin 11 34 (by kernel_rfl) (by kernel_rfl)
      obtain rfl := Option.some.inj ho
      refine ⟨wanted_at (j := 11) (t := 34) rfl (by kernel_rfl) h11, fun K hK => ?_⟩
      clear hin hfix ho
      go_simp
      exact hK _ _ rfl hC (Below.refl _ _)
    · obtain ⟨v12, rfl, h12⟩ := hin 12 35 (by kernel_rfl) (by kernel_rfl)
      obtain ⟨v13, rfl, h13⟩ := hin 13 36 (by kernel_rfl) (by kernel_rfl)
      obtain ⟨v14, rfl, h14⟩ := hin 14 37 (by kernel_rfl) (by kernel_rfl)
      obtain ⟨v11, rfl, h11⟩ := hin 11 34 (by kernel_rfl) (by kernel_rfl)
      obtain rfl := Option.some.inj ho
      refine ⟨wanted_at (j := 11) (t := 34) rfl (by kernel_rfl) h11, fun K hK => ?_⟩
      clear hin hfix ho
      go_simp
      refine (H5.out _ (HTU.out.below hC (Nat.le_refl _))).mono ?_
      rintro e W2 ⟨rfl, hb⟩
      exact hK _ _ rfl (hC.trans (hb.mono hC.size)) hb
    · obtain ⟨v11, rfl, h11⟩ := hin 11 34 (by kernel_rfl) (by kernel_rfl)
      obtain rfl := Option.some.inj ho
      refine ⟨wanted_at (j := 11) (t := 34) rfl (by kernel_rfl) h11, fun K hK => ?_⟩
      clear hin hfix ho
      go_simp
      exact hK _ _ rfl hC (Below.refl _ _)
    · obtain ⟨v11, rfl, h11⟩ := hin 11 34 (by kernel_rfl) (by kernel_rfl)
      obtain rfl := Option.some.inj ho
      refine ⟨wanted_at (j := 11) (t := 34) rfl (by kernel_rfl) h11, fun K hK => ?_⟩
      clear hin hfix ho
      go_simp
      exact hK _ _ rfl hC (Below.refl _ _)
    · obtain ⟨v11, rfl, h11⟩ := hin 11 34 (by kernel_rfl) (by kernel_rfl)
      obtain rfl := Option.some.inj ho
      refine ⟨wanted_at (j := 11) (t := 34) rfl (by kernel_rfl) h11, fun K hK => ?_⟩
      clear hin hfix ho
      go_simp
      exact hK _ _ rfl hC (Below.refl _ _)
    · obtain ⟨v16, rfl, h16⟩ := hin 16 39 (by kernel_rfl) (by kernel_rfl)
      obtain ⟨v17, rfl, h17⟩ := hin 17 40 (by kernel_rfl) (by kernel_rfl)
      obtain ⟨v18, rfl, h18⟩ := hin 18 41 (by kernel_rfl) (by kernel_rfl)
      obtain ⟨v11, rfl, h11⟩ := hin 11 34 (by kernel_rfl) (by kernel_rfl)
      obtain rfl := Option.some.inj ho
      refine ⟨wanted_at (j := 11) (t := 34) rfl (by kernel_rfl) h11, fun K hK => ?_⟩
      clear hin hfix ho
      go_simp
      refine (H6.out _).mono ?_
      rintro e W2 ⟨rfl, hb⟩
      exact hK _ _ rfl (hC.trans (hb.mono hC.size)) hb
    · obtain ⟨v15, rfl, h15⟩ := hin 15 38 (by kernel_rfl) (by kernel_rfl)
      obtain ⟨v19, rfl, h19⟩ := hin 19 42 (by kernel_rfl) (by kernel_rfl)
      obtain ⟨v11, rfl, h11⟩ := hin 11 34 (by kernel_rfl) (by kernel_rfl)
      obtain rfl := Option.some.inj ho
      refine ⟨wanted_at (j := 11) (t := 34) rfl (by kernel_rfl) h11, fun K hK => ?_⟩
      clear hin hfix ho
      go_simp
      exact hK _ _ rfl hC (Below.refl _ _)
    · obtain ⟨v11, rfl, h11⟩ := hin 11 34 (by kernel_rfl) (by kernel_rfl)
      obtain ⟨v20, rfl, h20⟩ := hin 20 43 (by kernel_rfl) (by kernel_rfl)
      obtain rfl := Option.some.inj ho
      refine ⟨rfl, fun K hK => ?_⟩
      clear hin hfix ho
      go_simp
      exact hK _ _ rfl hC (Below.refl _ _)
    · obtain ⟨v21, rfl, h21⟩ := hin 21 44 (by kernel_rfl) (by kernel_rfl)
      obtain rfl := Option.some.inj ho
      refine ⟨rfl, fun K hK => ?_⟩
      clear hin hfix ho
      go_simp
      exact hK _ _ rfl hC (Below.refl _ _)
  case hend =>
  intro vals W hC hV
  have z0 := hV 0 (by decide)
  have z1 := hV 1 (by decide)
  have z2 := hV 2 (by decide)
  have z3 := hV 3 (by decide)
  have z4 := hV 4 (by decide)
  have z5 := hV 5 (by decide)
  have z6 := hV 6 (by decide)
  have z7 := hV 7 (by decide)
  have z8 := hV 8 (by decide)
  have z9 := hV 9 (by decide)
  have z10 := hV 10 (by decide)
  have z11 := hV 11 (by decide)
  have z12 := hV 12 (by decide)
  have z13 := hV 13 (by decide)
  have z14 := hV 14 (by decide)
  have z15 := hV 15 (by decide)
  have z16 := hV 16 (by decide)
  have z17 := hV 17 (by decide)
  have z18 := hV 18 (by decide)
  have z19 := hV 19 (by decide)
  have z20 := hV 20 (by decide)
  have z21 := hV 21 (by decide)
  have z22 := hV 22 (by decide)
  clear hV
  simp only at z0 z1 z2 z3 z4 z5 z6 z7 z8 z9 z10 z11 z12 z13 z14 z15 z16 z17 z18 z19 z20 z21 z22
  have hr : List.range 23 = [0, 1, 2, 3, 4, 5, 6, 7, 8, 9, 10, 11, 12, 13, 14, 15, 16, 17, 18, 19, 20, 21, 22] := rfl
  simp only [List.size_toArray, List.length_cons, List.length_nil, Nat.reduceAdd, List.drop_succ_cons, List.drop_zero, putA, hr, List.foldl_cons, List.foldl_nil, dstR, List.getElem?_toArray, List.getElem?_cons_succ, List.getElem?_cons_zero, Option.bind_some, Act.put, List.setIfInBounds_toArray, List.set_cons_succ, List.set_cons_zero, z0, z1, z2, z3, z4, z5, z6, z7, z8, z9, z10, z11, z12, z13, z14, z15, z16, z17, z18, z19, z20, z21, z22]
  clear hr z0 z1 z2 z3 z4 z5 z6 z7 z8 z9 z10 z11 z12 z13 z14 z15 z16 z17 z18 z19 z20 z21 z22
  have hB3 : Below w.heap.size w W := up hC hB2
  go_wp2_with fail
  go_ret
  exact ⟨rfl, hB3⟩
theorem fitsL_moved (f : Sol) (hf : Fit f) (x y z : Int) : ∃ r1 r2 e, Fit r1 ∧ eqS r1 r2 = true ∧ (∀ W : World, Calls Tryz.prog 44 #[sol f, .int .i64 x, .int .i64 y, .int .i64 z] W (RetB (.tuple #[sol r1, .int .i64 e]) W)) ∧
    (∀ W : World, Calls Tryz.prog 45 #[sol f, .int .i64 x, .int .i64 y, .int .i64 z] W (RetB (.tuple #[sol r2, .int .i64 e]) W)) := by
  cases he : emptyS f with
  | true => exact ⟨f, fun _ => 0, 0, hf, he, fun W => moved_empty f x y z W he, fun W => rMoved_empty f x y z W hf (by rw [cells_of_empty hf he]; rfl)⟩
  | false =>
    have hL := len_pos hf he
    cases ho : outB f x y z with
    | false => exact ⟨shiftS f x y z, shiftS f x y z, 0, shiftF_fit hf _ _ _ 8, eq_refl' _, fun W => moved_in f x y z W hf he ho, fun W => rmoved_in f hf he ho W⟩
    | true =>
      refine ⟨fun _ => 0, fun _ => 0, 20, fun _ => Nat.zero_lt_succ _, by decide, fun W => moved_out f x y z W hf he ho, fun W => ?_⟩
      cases hm : mvB x y z with
      | false => exact rMoved_short f x y z W hf hm hL
      | true =>
        rw [mvB_sh, Bool.and_eq_true, Bool.and_eq_true] at hm
        refine (rMoved_loop f x y z W hf hm.1 hm.2.1 hm.2.2 hL).mono fun e w' ⟨h, hb⟩ => ?_
        rcases h with ⟨_, hall⟩ | ⟨h, _⟩
        · have := (all_in hf he (x, y, z)).2 hall
          rw [show outB f (x, y, z).1 (x, y, z).2.1 (x, y, z).2.2 = true from ho] at this
          cases this
        · exact ⟨h, hb⟩
theorem fitsL_placed (f : Sol) (hf : Fit f) (t x y z : Int) : ∃ p e, Fit p ∧
    (∀ W : World, Tab64 W → Calls Tryz.prog 48 #[sol f, .agg #[.int .i64 (t), .int .i64 (x), .int .i64 (y), .int .i64 (z)]] W (RetB (.tuple #[sol p, .int .i64 e]) W)) ∧
    (∀ W : World, Calls Tryz.prog 49 #[sol f, .agg #[.int .i64 (t), .int .i64 (x), .int .i64 (y), .int .i64 (z)]] W (RetB (.tuple #[sol p, .int .i64 e]) W)) := by
  cases hm : motB t x y z with
  | false => exact ⟨fun _ => 0, 1, fun _ => Nat.zero_lt_succ _, fun W _ => Placed_no f t x y z W hm, fun W => rPlaced_no f t x y z W hm⟩
  | true =>
    unfold motB at hm
    rw [Bool.and_eq_true] at hm
    have ht := of_decide_eq_true hm.1
    obtain ⟨n, rfl⟩ := Int.eq_ofNat_of_zero_le ht.1
    obtain ⟨r1, r2, e, h0, h, h1, h2⟩ := fitsL_moved (turnedF f n) (turnedF_fit f n) x y z
    rw [sol_congr (eqS_at (eqS_symm h))] at h2
    exact ⟨r1, e, h0, fun W hT => Placed_of f r1 n x y z e W hf (by omega) hm.2 hT h1, fun W => rPlaced_of f r1 n x y z e W hf (by omega) hm.2 h2⟩
theorem fitslaw_of (f g : Sol) (hf : Fit f) (hg : Fit g) (t x y z : Int) (w : World) (hT : Tab64 w) :
    Calls Tryz.prog 7 #[sol f, sol g, .agg #[.int .i64 (t), .int .i64 (x), .int .i64 (y), .int .i64 (z)]] w (RetB (.bool true) w) := by
  have HC : Hid (∀ W, Tab64 W → Calls Tryz.prog 20 #[] W (RetB (.bool true) W)) := Lib.hid fun W hW => carved_of ev_cav W hW
  obtain ⟨A0, A1, A2, A3, hA⟩ := motE_form f g
  obtain ⟨p, e, hp, P1, P2⟩ := fitsL_placed g hg t x y z
  obtain ⟨r, hr⟩ : ∃ r, e = 0 ∧ r = inB p f ∨ e ≠ 0 ∧ r = false := by
    by_cases he : e = 0
    · exact ⟨_, .inl ⟨he, rfl⟩⟩
    · exact ⟨_, .inr ⟨he, rfl⟩⟩
  refine fits_core f g t x y z A0 A1 A2 A3 (fitB f g) r w hT (Lib.hid fun W hW => ?_) (Lib.hid fun W => ?_) HC (Lib.hid fun W hW => check_of f g p t x y z e r W hW (Lib.hid P1) (Lib.hid fun W => in_ok p f W hp hf) (Lib.hid hr)) (Lib.hid fun W => rcheck_of f g p t x y z e r W (Lib.hid P2) (Lib.hid fun W => ?_) (Lib.hid hr))
  · rw [← hA]
    exact fits_all f g W hf hg hW
  · rw [← hA]
    exact rfits_all f g W hf hg
  · have := rin_ok p f W hp hf
    rw [rin_is hp] at this
    exact this
end Go.Proofs.YtadkaplafaeebaaGreatDoor
