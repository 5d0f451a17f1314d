/-
  The walk of Bounds.
-/
import Derived.Test.YtadkaplafaeebaaGreatDoorPkDQ
import Derived.Test.YtadkaplafaeebaaGreatDoorPkCQ
set_option linter.unusedVariables false
set_option linter.unusedSimpArgs false
namespace Go.Proofs.YtadkaplafaeebaaGreatDoor
open Go Go.RowKit

theorem isEmpty_is {f : Sol} {b : Bool} (h : emptyS f = b) (w : World) : Calls Tryz.prog 96 #[sol f] w fun e w' => e = .returned (.bool b) ∧ Below w.heap.size w w' := by
  subst h
  exact isEmpty_ok f w
theorem blk_set {W : World} {B k : Nat} {cs : Array Value} {t : TypeId} {fr : Nat × Nat} (h : W.heap[B]? = some (.cells cs t fr)) (v : Value) : (W.setCell ⟨B, k, none⟩ v).heap[B]? = some (.cells (cs.setIfInBounds k v) t fr) := by
  obtain ⟨hlt, he⟩ := Array.getElem?_eq_some_iff.1 h
  show (W.heap.modify B _)[B]? = _
  rw [Array.getElem?_eq_getElem (by rw [Array.size_modify]; exact hlt), Array.getElem_modify_self, he]
  rfl
theorem blk_cell {W : World} {B k : Nat} {cs : Array Value} {t : TypeId} {fr : Nat × Nat} (h : W.heap[B]? = some (.cells cs t fr)) : W.cell? ⟨B, k, none⟩ = cs[k]? := by simp [World.cell?, h]
theorem blk_free {W : World} {B k : Nat} {cs : Array Value} {t : TypeId} (h : W.heap[B]? = some (.cells cs t (0, 0))) : W.frozen? ⟨B, k, none⟩ = false := by simp [World.frozen?, h]
theorem blk_new {W : World} {B : Nat} {o : Obj} (h : B = W.heap.size) : (W.alloc o).heap[B]? = some o := by
  subst h
  show (W.heap.push _)[W.heap.size]? = _
  rw [Array.getElem?_push, if_pos rfl]
theorem res_6e {fn : Func} {t s : Tmp} {tmps : Array Value} {W : World} {B : Nat} {x y z a b c : Value} (h : fn.results = #[.cell t 40, .tmp s]) (ht : tmps[t]?.getD undef = .pointer (some ⟨B, 0, none⟩)) (h0 : W.cell? ⟨B, 0, none⟩ = some x) (h1 : W.cell? ⟨B, 1, none⟩ = some y) (h2 : W.cell? ⟨B, 2, none⟩ = some z) (h3 : W.cell? ⟨B, 3, none⟩ = some a) (h4 : W.cell? ⟨B, 4, none⟩ = some b) (h5 : W.cell? ⟨B, 5, none⟩ = some c) :
    (results fn tmps).run Tryz.prog W = .ok (.tuple #[.agg #[x, y, z, a, b, c], tmps.getD s undef]) W := by
  simp [results, h, ht, go_sem, h0, h1, h2, h3, h4, h5]
set_option maxRecDepth 100000 in
set_option maxHeartbeats 4000000 in
theorem bounds_no (f : Sol) (w : World) (h : emptyS f = true) : Calls Tryz.prog 38 #[sol f] w fun e w' => e = .returned (.tuple #[.agg #[.int .i64 (0), .int .i64 (0), .int .i64 (0), .int .i64 (0), .int .i64 (0), .int .i64 (0)], .bool false]) ∧ Below w.heap.size w w' := by
  have H := Lib.hid h
  clear h
  go_enter Tryz.func38, Tryz.ntmps38
  go_wp2_with fail
  refine (isEmpty_is H.out _).mono ?_
  rintro e w1 ⟨rfl, hb1⟩
  obtain ⟨hc1, hf1⟩ := bcell hb1
  have hB1 : Below w.heap.size w w1 := up hb1 (by repeat' (first | (with_reducible exact Below.refl _ _) | (with_reducible assumption) | (with_reducible refine Below.alloc ?_ ?_ _) | (with_reducible refine Below.drew ?_) | (with_reducible refine below_drewN ?_ _) | (with_reducible refine Below.setCell ?_ ?_ _) | go_size))
  have l0 := hb1.size
  simp at l0
  have l1 : w.heap.size + 1 < w1.heap.size := by omega
  go_wp2
  refine bodyPost_ret (res_6e Tryz.results38 rfl (by go_cell) (by go_cell) (by go_cell) (by go_cell) (by go_cell) (by go_cell)) rfl ⟨rfl, ?_⟩
  repeat' (first | (with_reducible exact Below.refl _ _) | (with_reducible assumption) | (with_reducible refine Below.alloc ?_ ?_ _) | (with_reducible refine Below.drew ?_) | (with_reducible refine below_drewN ?_ _) | (with_reducible refine Below.setCell ?_ ?_ _) | go_size)
theorem wrap_pow8 {n : Nat} (h : n < 8) : IntKind.u8.wrap (2 ^ n) = ((2 ^ n : Nat) : Int) := by
  have h1 : 2 ^ n < 256 := Nat.pow_lt_pow_right (a := 2) (m := n) (n := 8) (by decide) h
  have h2 : ((2 ^ n : Nat) : Int) = 2 ^ n := by norm_cast
  rw [IntKind.wrap_u8', ← h2]
  exact Int.emod_eq_of_lt (Int.natCast_nonneg _) (Int.ofNat_lt.2 h1)
theorem levels_0 {f : Sol} {k : Nat} (h : f k = 0) : levels f (k + 1) = levels f k := by rw [levels, if_pos h]
theorem levels_1 {f : Sol} {k : Nat} (h : ¬ f k = 0) : levels f (k + 1) = levels f k ||| 2 ^ k := by rw [levels, if_neg h]
theorem rowsY_0 {s k : Nat} (h : rowAt s k = 0) : rowsY s (k + 1) = rowsY s k := by rw [rowsY, if_pos h]
theorem rowsY_1 {s k : Nat} (h : ¬ rowAt s k = 0) : rowsY s (k + 1) = rowsY s k ||| 2 ^ k := by rw [rowsY, if_neg h]
theorem BitsN.u8or {a b : Nat} (ha : a < 256) (hb : b < 256) : bits .or .u8 (a : Int) (b : Int) = ((a ||| b : Nat) : Int) := u8_or_nat a b ha hb
theorem top_fin : ∀ x : Fin 256, Lib.bitLen x.1 ≤ 8 := by decide +kernel
theorem top_le {x : Nat} (h : x < 256) : top x ≤ 8 := top_fin ⟨x, h⟩
def lowX (f : Sol) : Nat := low (rowX (shadow f 8) 8)
def lowY (f : Sol) : Nat := low (rowsY (shadow f 8) 8)
def lowZ (f : Sol) : Nat := low (levels f 8)
def highX (f : Sol) : Nat := top (rowX (shadow f 8) 8)
def highY (f : Sol) : Nat := top (rowsY (shadow f 8) 8)
def highZ (f : Sol) : Nat := top (levels f 8)
set_option maxRecDepth 100000 in
set_option maxHeartbeats 4000000 in
theorem bounds_yes (f : Sol) (w : World) (hf : Fit f) (h : emptyS f = false) : Calls Tryz.prog 38 #[sol f] w fun e w' => e = .returned (.tuple #[.agg #[.int .i64 (((lowX f : Nat) : Int)), .int .i64 (((lowY f : Nat) : Int)), .int .i64 (((lowZ f : Nat) : Int)), .int .i64 (((highX f : Nat) : Int) - 1), .int .i64 (((highY f : Nat) : Int) - 1), .int .i64 (((highZ f : Nat) : Int) - 1)], .bool true]) ∧ Below w.heap.size w w' := by
  have H := Lib.hid h
  have HF := Lib.hid hf
  clear h hf
  go_enter Tryz.func38, Tryz.ntmps38
  go_wp2_with fail
  refine (isEmpty_is H.out _).mono ?_
  rintro e w1 ⟨rfl, hb1⟩
  have bS : BoxS w1 w.heap.size f := ((BoxS.new w f).alloc _).below hb1 (by simp <;> omega)
  have hB1 : Below w.heap.size w w1 := up hb1 (by repeat' (first | (with_reducible exact Below.refl _ _) | (with_reducible assumption) | (with_reducible refine Below.alloc ?_ ?_ _) | (with_reducible refine Below.drew ?_) | (with_reducible refine below_drewN ?_ _) | (with_reducible refine Below.setCell ?_ ?_ _) | go_size))
  have bB : w1.heap[w.heap.size + 1]? = some (.cells #[.int .i64 0, .int .i64 0, .int .i64 0, .int .i64 0, .int .i64 0, .int .i64 0] 40 (0, 0)) := (hb1.block _ (by simp)).trans (blk_new (by simp))
  have r0 := blk_cell (k := 0) bB; have r1 := blk_cell (k := 1) bB; have r2 := blk_cell (k := 2) bB; have r3 := blk_cell (k := 3) bB; have r4 := blk_cell (k := 4) bB; have r5 := blk_cell (k := 5) bB
  have g0 := blk_free (k := 0) bB; have g1 := blk_free (k := 1) bB; have g2 := blk_free (k := 2) bB; have g3 := blk_free (k := 3) bB; have g4 := blk_free (k := 4) bB; have g5 := blk_free (k := 5) bB
  simp only [List.getElem?_toArray, List.getElem?_cons_zero, List.getElem?_cons_succ] at r0 r1 r2 r3 r4 r5
  have l0 := hb1.size
  simp at l0
  have l1 : w.heap.size + 1 < w1.heap.size := by omega
  have c0 := (bS).cell (k := 0) (by omega); have c1 := (bS).cell (k := 1) (by omega); have c2 := (bS).cell (k := 2) (by omega); have c3 := (bS).cell (k := 3) (by omega); have c4 := (bS).cell (k := 4) (by omega); have c5 := (bS).cell (k := 5) (by omega); have c6 := (bS).cell (k := 6) (by omega); have c7 := (bS).cell (k := 7) (by omega)
  go_wp2
  go_loopw [4, 5, 16] (fun l s c wr => ∃ k : Nat, k ≤ 8 ∧ c = .int .i64 k ∧ l = .int .u8 (levels f k) ∧ s = .int .u64 (shadow f k) ∧ w1 = wr) (fun _ _ c _ => 8 - (intOf c).toNat)
  case atStart => exact ⟨0, by omega, rfl, rfl, rfl, rfl⟩
  case round =>
    obtain ⟨k, hk, rfl, rfl, rfl, rfl⟩ := hrel
    by_cases hlt : k < 8
    · have hd : decide ((k : Int) < 8) = true := decide_eq_true (by omega)
      have hix := run_index_sol f k hlt
      have e1 := bits_or (shadow_lt HF.out k) (HF.out k)
      by_cases hp : f k = 0
      · have hp2 : ((f k : Int) != 0) = false := by simp [hp]
        have HP := Lib.hid hp
        clear hp
        go_wp2
        go_roundw
        case rel => exact ⟨k + 1, by omega, by go_num, by rw [levels_0 HP.out], rfl, trivial⟩
        case measure => simp [intOf]; omega
      · have hp2 : ((f k : Int) != 0) = true := by simp [hp]
        have e2 := wrap_pow8 hlt
        have e3 : bits .or .u8 ((levels f k : Nat) : Int) (2 ^ k) = ((levels f k ||| 2 ^ k : Nat) : Int) := by rw [← BitsN.u8or (levels_lt f k hk) (Nat.pow_lt_pow_right (a := 2) (m := k) (n := 8) (by decide) hlt)]; simp
        have HP := Lib.hid hp
        clear hp
        go_wp2
        go_roundw
        case rel => exact ⟨k + 1, by omega, by go_num, by rw [levels_1 HP.out], rfl, trivial⟩
        case measure => simp [intOf]; omega
    · obtain rfl : k = 8 := by omega
      have hd : decide ((8 : Int) < 8) = false := by decide
      go_wp2
      obtain ⟨S, hS⟩ : ∃ S, S = shadow f 8 := ⟨_, rfl⟩
      have hS2 := shadow_lt HF.out 8
      rw [← hS] at hS2 ⊢
      have HS := Lib.hid hS
      clear hS
      go_loopw [8, 9, 30] (fun r s c wr => ∃ k : Nat, k ≤ 8 ∧ c = .int .i64 k ∧ r = .int .u8 (rowX S k) ∧ s = .int .u8 (rowsY S k) ∧ w1 = wr) (fun _ _ c _ => 8 - (intOf c).toNat)
      case atStart => exact ⟨0, by omega, rfl, rfl, rfl, rfl⟩
      case round =>
        clear hd
        obtain ⟨k, hk, rfl, rfl, rfl, rfl⟩ := hrel
        by_cases hlt : k < 8
        · have hd : decide ((k : Int) < 8) = true := decide_eq_true (by omega)
          have eP : (S : Int) / 2 ^ (8 * k) % 256 = ((rowAt S k : Nat) : Int) := by unfold rowAt; simp
          have hr := Nat.mod_lt (S / 2 ^ (8 * k)) (show 256 > 0 by omega)
          have e1 : bits .or .u8 ((rowX S k : Nat) : Int) ((rowAt S k : Nat) : Int) = ((rowX S k ||| rowAt S k : Nat) : Int) := BitsN.u8or (rowX_lt S k) hr
          clear hr
          by_cases hp : rowAt S k = 0
          · have hp2 : (((rowAt S k : Nat) : Int) != 0) = false := by simp [hp]
            have HP := Lib.hid hp
            clear hp
            go_wp2
            go_roundw
            case rel => exact ⟨k + 1, by omega, by go_num, rfl, by rw [rowsY_0 HP.out], trivial⟩
            case measure => simp [intOf]; omega
          · have hp2 : (((rowAt S k : Nat) : Int) != 0) = true := by simp [hp]
            have e2 := wrap_pow8 hlt
            have e3 : bits .or .u8 ((rowsY S k : Nat) : Int) (2 ^ k) = ((rowsY S k ||| 2 ^ k : Nat) : Int) := by rw [← BitsN.u8or (rowsY_lt S k hk) (Nat.pow_lt_pow_right (a := 2) (m := k) (n := 8) (by decide) hlt)]; simp
            have HP := Lib.hid hp
            clear hp
            go_wp2
            go_roundw
            case rel => exact ⟨k + 1, by omega, by go_num, rfl, by rw [rowsY_1 HP.out], trivial⟩
            case measure => simp [intOf]; omega
        · obtain rfl : k = 8 := by omega
          have hd : decide ((8 : Int) < 8) = false := by decide
          obtain ⟨i, hi8, hi0⟩ : ∃ i, i < 8 ∧ f i ≠ 0 := by
            have h := H.out
            refine Classical.byContradiction fun hc => ?_
            rw [(empty_iff f).2 fun i hi => Classical.byContradiction fun h1 => hc ⟨i, hi, h1⟩] at h
            cases h
          have n0 : S ≠ 0 := by rw [HS.out]; exact shadow_ne f hi0 8 hi8
          obtain ⟨j, hj8, hj0⟩ := rowAt_ne n0 hS2
          have n1 := rowX_ne S hj0 8 hj8
          have n2 := rowsY_ne S hj0 8 hj8
          have n3 := levels_ne f hi0 8 hi8
          have q1 := rowX_lt S 8
          have q2 := rowsY_lt S 8 (by omega)
          have q3 := levels_lt f 8 (by omega)
          have t1 := top_le q1
          have t2 := top_le q2
          have t3 := top_le q3
          have Z1 := Lib.hid (tz8_ok _ · q1 n1)
          have Z2 := Lib.hid (tz8_ok _ · q2 n2)
          have Z3 := Lib.hid (tz8_ok _ · q3 n3)
          clear n0 n1 n2 n3 hi0 hj0
          go_wp2_with (first | (go_at_call 97; refine (Z1.out _).mono ?_; rintro e w' ⟨rfl, rfl⟩) | (go_at_call 97; refine (Z2.out _).mono ?_; rintro e w' ⟨rfl, rfl⟩) | (go_at_call 97; refine (Z3.out _).mono ?_; rintro e w' ⟨rfl, rfl⟩) | (go_at_call 98; refine (len8_ok _ _ (by assumption)).mono ?_; rintro e w' ⟨rfl, rfl⟩))
          have bE := blk_set (k := 5) (blk_set (k := 4) (blk_set (k := 3) (blk_set (k := 2) (blk_set (k := 1) (blk_set (k := 0) bB (.int .i64 ((low (rowX S 8) : Nat) : Int))) (.int .i64 ((low (rowsY S 8) : Nat) : Int))) (.int .i64 ((low (levels f 8) : Nat) : Int))) (.int .i64 (((top (rowX S 8) : Nat) : Int) - 1))) (.int .i64 (((top (rowsY S 8) : Nat) : Int) - 1))) (.int .i64 (((top (levels f 8) : Nat) : Int) - 1))
          refine bodyPost_ret (res_6e Tryz.results38 rfl (blk_cell (k := 0) bE) (blk_cell (k := 1) bE) (blk_cell (k := 2) bE) (blk_cell (k := 3) bE) (blk_cell (k := 4) bE) (blk_cell (k := 5) bE)) rfl ⟨?_, ?_⟩
          · unfold lowX lowY lowZ highX highY highZ
            rw [← HS.out]
            rfl
          · repeat' (first | (with_reducible exact Below.refl _ _) | (with_reducible assumption) | (with_reducible refine Below.alloc ?_ ?_ _) | (with_reducible refine Below.drew ?_) | (with_reducible refine below_drewN ?_ _) | (with_reducible refine Below.setCell ?_ ?_ _) | go_size)
end Go.Proofs.YtadkaplafaeebaaGreatDoor
/-
  Bounds and moves: plain mathematics.
-/
set_option linter.unusedVariables false
set_option linter.unusedSimpArgs false
namespace Go.Proofs.YtadkaplafaeebaaGreatDoor
open Go Go.RowKit

theorem levels_bit (f : Sol) (k : Nat) : ∀ n, (levels f n).testBit k = decide (k < n ∧ f k ≠ 0)
  | 0 => by simp [levels]
  | n + 1 => by
    have ih := levels_bit f k n
    by_cases h : f n = 0
    · rw [levels_0 h, ih]
      refine decide_eq_decide.2 ⟨fun ⟨a, b⟩ => ⟨by omega, b⟩, fun ⟨a, b⟩ => ⟨?_, b⟩⟩
      rcases Nat.lt_or_ge k n with h1 | h1
      · exact h1
      · obtain rfl : k = n := by omega
        exact absurd h b
    · rw [levels_1 h, Nat.testBit_or, ih, Nat.testBit_two_pow]
      rw [Bool.eq_iff_iff]
      simp
      constructor
      · rintro (⟨a, b⟩ | rfl)
        · exact ⟨by omega, b⟩
        · exact ⟨by omega, h⟩
      · rintro ⟨a, b⟩
        by_cases e : n = k
        · exact .inr e
        · exact .inl ⟨by omega, b⟩
theorem low_le {p k : Nat} (h : p.testBit k = true) : low p ≤ k := by
  have hp : p ≠ 0 := fun e => by rw [e] at h; simp at h
  rcases Nat.lt_or_ge k (low p) with h1 | h1
  · rw [(low_bit p hp).2 k h1] at h; cases h
  · exact h1
theorem top_gt_fin : ∀ x : Fin 256, ∀ k : Fin 8, x.1.testBit k.1 = true → k.1 < Lib.bitLen x.1 := by decide +kernel
theorem top_gt {x k : Nat} (hx : x < 256) (hk : k < 8) (h : x.testBit k = true) : k < top x := top_gt_fin ⟨x, hx⟩ ⟨k, hk⟩ h
theorem top_pos {x : Nat} (hx : x < 256) (h0 : x ≠ 0) : low x < top x := top_gt hx (low_lt x 8 h0 hx) (low_bit x h0).1
theorem plane_in {f : Sol} {k : Nat} (hk : k < 8) (h : f k ≠ 0) : lowZ f ≤ k ∧ k < highZ f := by
  have hb : (levels f 8).testBit k = true := by rw [levels_bit]; exact decide_eq_true ⟨hk, h⟩
  exact ⟨low_le hb, top_gt (levels_lt f 8 (by omega)) hk hb⟩
structure BoundN (f : Sol) : Prop where
  x0 : lowX f < highX f
  x1 : highX f ≤ 8
  y0 : lowY f < highY f
  y1 : highY f ≤ 8
  z0 : lowZ f < highZ f
  z1 : highZ f ≤ 8
theorem boundN {f : Sol} (hf : Fit f) (h : emptyS f = false) : BoundN f := by
  obtain ⟨i, hi8, hi0⟩ : ∃ i, i < 8 ∧ f i ≠ 0 := by
    refine Classical.byContradiction fun hc => ?_
    rw [(empty_iff f).2 fun i hi => Classical.byContradiction fun h1 => hc ⟨i, hi, h1⟩] at h
    cases h
  have n0 := shadow_ne f hi0 8 hi8
  obtain ⟨j, hj8, hj0⟩ := rowAt_ne n0 (shadow_lt hf 8)
  have n1 := rowX_ne (shadow f 8) hj0 8 hj8
  have n2 := rowsY_ne (shadow f 8) hj0 8 hj8
  have n3 := levels_ne f hi0 8 hi8
  have q1 := rowX_lt (shadow f 8) 8
  have q2 := rowsY_lt (shadow f 8) 8 (by omega)
  have q3 := levels_lt f 8 (by omega)
  exact ⟨top_pos q1 n1, top_le q1, top_pos q2 n2, top_le q2, top_pos q3 n3, top_le q3⟩
/-- The move is out of the room that there is. -/
def outB (f : Sol) (x y z : Int) : Bool := decide (x < -(lowX f : Int) ∨ y < -(lowY f : Int) ∨ z < -(lowZ f : Int) ∨ x > 7 - ((highX f : Int) - 1) ∨ y > 7 - ((highY f : Int) - 1) ∨ z > 7 - ((highZ f : Int) - 1))
def shiftS (f : Sol) (x y z : Int) : Sol := shiftF f x y z 8
end Go.Proofs.YtadkaplafaeebaaGreatDoor
