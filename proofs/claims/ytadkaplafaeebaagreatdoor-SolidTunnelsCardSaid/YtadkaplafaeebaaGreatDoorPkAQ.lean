/-
  Solids as functions of a plane's number: their value, a block that holds one, what a store makes of it; small lemmas of the walks.
-/
import Derived.Test.YtadkaplafaeebaaGreatDoorProg
import Derived.WalkKit
import Derived.ProofKit
import Derived.Below
import Derived.LoopTactic
import Derived.RegionTactic
import Derived.ChangeAlike
import Derived.Deep.QuietTactic
import Derived.BigQuiet
import Derived.Deep.RegionHeld3
import Derived.Outline
import Derived.Lib.Hide
import Derived.KernelRfl
import Derived.Handy
import Derived.OneCell
import Derived.Laws.BitsAllLaws
import Derived.Laws.Bits64b
import Derived.Lib.TrailingZeros
set_option linter.unusedVariables false
set_option linter.unusedSimpArgs false
namespace Go.Proofs.YtadkaplafaeebaaGreatDoor
open Go Go.RowKit

theorem bcell {W w1 : World} (hb : Below W.heap.size W w1) : (∀ b o, b < W.heap.size → w1.cell? ⟨b, o, none⟩ = W.cell? ⟨b, o, none⟩) ∧ (∀ b o, b < W.heap.size → w1.frozen? ⟨b, o, none⟩ = W.frozen? ⟨b, o, none⟩) :=
  ⟨fun b o h => hb.cell (p := ⟨b, o, none⟩) h, fun b o h => hb.frozen (p := ⟨b, o, none⟩) h⟩
theorem below_drewN {B : Nat} {a w : World} (h : Below B a w) (n : Nat) : Below B a (w.drewN n) := ⟨h.os, h.tape, h.output, h.size, h.block⟩
theorem up {w W w1 : World} (h : Below W.heap.size W w1) (k : Below w.heap.size w W) : Below w.heap.size w w1 := k.trans (h.mono k.size)
theorem below_undrew {W w1 : World} (h : Below W.drew.heap.size W.drew w1) : Below W.heap.size W w1 := ⟨h.os, h.tape, h.output, h.size, h.block⟩
theorem retI {k : IntKind} {a b : Int} (h : a = b) : Ending.returned (.int k a) = .returned (.int k b) := by rw [h]
theorem retB {a b : Bool} (h : a = b) : Ending.returned (.bool a) = .returned (.bool b) := by rw [h]

/-- A solid: its planes, as numbers. -/
abbrev Sol := Nat → Nat
/-- The planes are numbers of 64 bits. -/
def Fit (f : Sol) : Prop := ∀ i, f i < 18446744073709551616
abbrev solC (f : Sol) : Array Value := #[.int .u64 (f 0), .int .u64 (f 1), .int .u64 (f 2), .int .u64 (f 3), .int .u64 (f 4), .int .u64 (f 5), .int .u64 (f 6), .int .u64 (f 7)]
abbrev sol (f : Sol) : Value := .agg #[.int .u64 (f 0), .int .u64 (f 1), .int .u64 (f 2), .int .u64 (f 3), .int .u64 (f 4), .int .u64 (f 5), .int .u64 (f 6), .int .u64 (f 7)]
/-- A block that holds a solid. -/
def BoxS (W : World) (B : Nat) (f : Sol) : Prop := W.heap[B]? = some (.cells #[.int .u64 (f 0), .int .u64 (f 1), .int .u64 (f 2), .int .u64 (f 3), .int .u64 (f 4), .int .u64 (f 5), .int .u64 (f 6), .int .u64 (f 7)] 24 (0, 0))
def up8 (f : Sol) (k v : Nat) : Sol := fun i => if i = k then v else f i
section
variable {W : World} {B : Nat} {f : Sol}
theorem lt8 {k : Nat} (h : k < 8) : k = 0 ∨ k = 1 ∨ k = 2 ∨ k = 3 ∨ k = 4 ∨ k = 5 ∨ k = 6 ∨ k = 7 := by omega
theorem BoxS.lt (h : BoxS W B f) : B < W.heap.size := (Array.getElem?_eq_some_iff.1 h).1
theorem BoxS.cell (h : BoxS W B f) {k : Nat} (hk : k < 8) : W.cell? ⟨B, k, none⟩ = some (.int .u64 (f k)) := by
  simp only [World.cell?, show W.heap[B]? = _ from h]
  rcases lt8 hk with rfl | rfl | rfl | rfl | rfl | rfl | rfl | rfl <;> rfl
theorem BoxS.free (h : BoxS W B f) (k : Nat) : W.frozen? ⟨B, k, none⟩ = false := by simp [World.frozen?, show W.heap[B]? = _ from h]
theorem BoxS.new (W : World) (f : Sol) : BoxS (W.alloc (.cells (solC f) 24)) W.heap.size f := by
  show (W.heap.push _)[W.heap.size]? = _
  rw [Array.getElem?_push, if_pos rfl]
theorem BoxS.new' {n : Nat} (h : n = W.heap.size) : BoxS (W.alloc (.cells (solC f) 24)) n f := by subst h; exact BoxS.new W f
theorem BoxS.zero {n : Nat} (h : n = W.heap.size) : BoxS (W.alloc (.cells #[.int .u64 0, .int .u64 0, .int .u64 0, .int .u64 0, .int .u64 0, .int .u64 0, .int .u64 0, .int .u64 0] 24)) n (fun _ => 0) := by subst h; exact BoxS.new W (fun _ => 0)
theorem BoxS.alloc (h : BoxS W B f) (o : Obj) : BoxS (W.alloc o) B f := (Below.heap_alloc W o B h.lt).trans h
theorem BoxS.drew (h : BoxS W B f) : BoxS W.drew B f := h
theorem BoxS.drewN (h : BoxS W B f) (n : Nat) : BoxS (W.drewN n) B f := h
theorem BoxS.other (h : BoxS W B f) {b o : Nat} (hne : B ≠ b) (v : Value) : BoxS (W.setCell ⟨b, o, none⟩ v) B f := (Below.heap_setCell W ⟨b, o, none⟩ v B hne).trans h
theorem BoxS.below {W' : World} {n : Nat} (h : BoxS W B f) (hb : Below n W W') (hB : B < n) : BoxS W' B f := (hb.block B hB).trans h
theorem BoxS.set (h : BoxS W B f) {k : Nat} (hk : k < 8) (v : Nat) : BoxS (W.setCell ⟨B, k, none⟩ (.int .u64 (v : Int))) B (up8 f k v) := by
  obtain ⟨hlt, he⟩ := Array.getElem?_eq_some_iff.1 h
  show (W.heap.modify B _)[B]? = _
  rw [Array.getElem?_eq_getElem (by rw [Array.size_modify]; exact hlt), Array.getElem_modify_self, he]
  rcases lt8 hk with rfl | rfl | rfl | rfl | rfl | rfl | rfl | rfl <;> rfl
end
/-- The bits of the one and not of the other. -/
def andN (x y : Nat) : Nat := x ^^^ (x &&& y)
theorem andN_bit (x y i : Nat) : (andN x y).testBit i = (x.testBit i && !y.testBit i) := by
  unfold andN
  rw [Nat.testBit_xor, Nat.testBit_and]
  cases x.testBit i <;> cases y.testBit i <;> rfl
theorem andN_lt {x y : Nat} (hx : x < 18446744073709551616) : andN x y < 18446744073709551616 := Nat.xor_lt_two_pow (n := 64) hx (Nat.lt_of_le_of_lt Nat.and_le_left hx)
theorem bits_or {x y : Nat} (hx : x < 18446744073709551616) (hy : y < 18446744073709551616) : bits .or .u64 (x : Int) (y : Int) = ((x ||| y : Nat) : Int) := bits_or_u64_nat x y hx hy
theorem bits_and {x y : Nat} (hx : x < 18446744073709551616) (hy : y < 18446744073709551616) : bits .and .u64 (x : Int) (y : Int) = ((x &&& y : Nat) : Int) := bits_and_u64_nat x y hx hy
theorem bits_andNot {x y : Nat} (hx : x < 18446744073709551616) (hy : y < 18446744073709551616) : bits .andNot .u64 (x : Int) (y : Int) = ((andN x y : Nat) : Int) := by
  have hX : (BitVec.ofInt 64 (x : Int)).toNat = x := by rw [BitVec.ofInt_natCast, BitVec.toNat_ofNat]; exact Nat.mod_eq_of_lt hx
  have hl := andN_lt (y := y) hx
  have e : (BitVec.ofInt 64 (x : Int) &&& ~~~BitVec.ofInt 64 (y : Int)).toNat = andN x y := by
    apply Nat.eq_of_testBit_eq
    intro i
    rw [andN_bit, BitVec.ofInt_natCast, BitVec.ofInt_natCast, BitVec.testBit_toNat, BitVec.getLsbD_and, BitVec.getLsbD_not, BitVec.getLsbD_ofNat, BitVec.getLsbD_ofNat]
    by_cases h : i < 64
    · simp [h]
    · have : x.testBit i = false := Nat.testBit_lt_two_pow (Nat.lt_of_lt_of_le hx (Nat.pow_le_pow_right (n := 2) (by decide) (Nat.le_of_not_lt h)))
      simp [h, this]
  show IntKind.u64.wrap ((BitVec.ofInt 64 (x : Int) &&& ~~~BitVec.ofInt 64 (y : Int)).toNat : Int) = _
  rw [e, IntKind.wrap_u64]
  omega
theorem Fit.at {f : Sol} (h : Fit f) (i : Nat) : f i < 18446744073709551616 := h i
theorem Fit.or {f g : Sol} (hf : Fit f) (hg : Fit g) : Fit fun i => f i ||| g i := fun i => Nat.or_lt_two_pow (n := 64) (hf i) (hg i)
theorem Fit.and {f g : Sol} (hf : Fit f) : Fit fun i => f i &&& g i := fun i => Nat.lt_of_le_of_lt Nat.and_le_left (hf i)
/-- A solid stored cell by cell. -/
abbrev put8 (W : World) (B : Nat) (g : Sol) : World := (((((((W.setCell ⟨B, 0, none⟩ (.int .u64 (g 0))).setCell ⟨B, 1, none⟩ (.int .u64 (g 1))).setCell ⟨B, 2, none⟩ (.int .u64 (g 2))).setCell ⟨B, 3, none⟩ (.int .u64 (g 3))).setCell ⟨B, 4, none⟩ (.int .u64 (g 4))).setCell ⟨B, 5, none⟩ (.int .u64 (g 5))).setCell ⟨B, 6, none⟩ (.int .u64 (g 6))).setCell ⟨B, 7, none⟩ (.int .u64 (g 7))
theorem BoxS.congr {W : World} {B : Nat} {f g : Sol} (h : BoxS W B f) (e : ∀ k, k < 8 → f k = g k) : BoxS W B g := by
  unfold BoxS at *
  rw [h, e 0 (by omega), e 1 (by omega), e 2 (by omega), e 3 (by omega), e 4 (by omega), e 5 (by omega), e 6 (by omega), e 7 (by omega)]
theorem BoxS.put {W : World} {B : Nat} {f : Sol} (h : BoxS W B f) (g : Sol) : BoxS (put8 W B g) B g := by
  refine ((((((((h.set (k := 0) (by omega) (g 0)).set (k := 1) (by omega) (g 1)).set (k := 2) (by omega) (g 2)).set (k := 3) (by omega) (g 3)).set (k := 4) (by omega) (g 4)).set (k := 5) (by omega) (g 5)).set (k := 6) (by omega) (g 6)).set (k := 7) (by omega) (g 7)).congr fun k hk => ?_
  rcases lt8 hk with rfl | rfl | rfl | rfl | rfl | rfl | rfl | rfl <;> rfl
theorem sol_congr {f g : Sol} (e : ∀ k, k < 8 → f k = g k) : sol f = sol g := by
  unfold sol
  rw [e 0 (by omega), e 1 (by omega), e 2 (by omega), e 3 (by omega), e 4 (by omega), e 5 (by omega), e 6 (by omega), e 7 (by omega)]
theorem res_s {fn : Func} {t : Tmp} {tmps : Array Value} {W : World} {B : Nat} {f : Sol} (hB : BoxS W B f) (h : fn.results = #[.cell t 24]) (ht : tmps[t]?.getD undef = .pointer (some ⟨B, 0, none⟩)) :
    (results fn tmps).run Tryz.prog W = .ok (sol f) W := by
  have c0 := hB.cell (k := 0) (by omega)
  have c1 := hB.cell (k := 1) (by omega)
  have c2 := hB.cell (k := 2) (by omega)
  have c3 := hB.cell (k := 3) (by omega)
  have c4 := hB.cell (k := 4) (by omega)
  have c5 := hB.cell (k := 5) (by omega)
  have c6 := hB.cell (k := 6) (by omega)
  have c7 := hB.cell (k := 7) (by omega)
  simp [results, h, ht, go_sem, c0, c1, c2, c3, c4, c5, c6, c7]
theorem res_se {fn : Func} {t u : Tmp} {tmps : Array Value} {W : World} {B : Nat} {f : Sol} (hB : BoxS W B f) (h : fn.results = #[.cell t 24, .tmp u]) (ht : tmps[t]?.getD undef = .pointer (some ⟨B, 0, none⟩)) :
    (results fn tmps).run Tryz.prog W = .ok (.tuple #[sol f, tmps.getD u undef]) W := by
  have c0 := hB.cell (k := 0) (by omega)
  have c1 := hB.cell (k := 1) (by omega)
  have c2 := hB.cell (k := 2) (by omega)
  have c3 := hB.cell (k := 3) (by omega)
  have c4 := hB.cell (k := 4) (by omega)
  have c5 := hB.cell (k := 5) (by omega)
  have c6 := hB.cell (k := 6) (by omega)
  have c7 := hB.cell (k := 7) (by omega)
  simp [results, h, ht, go_sem, c0, c1, c2, c3, c4, c5, c6, c7]
end Go.Proofs.YtadkaplafaeebaaGreatDoor
/-
  Join, Meet and Less.
-/
set_option linter.unusedVariables false
set_option linter.unusedSimpArgs false
namespace Go.Proofs.YtadkaplafaeebaaGreatDoor
open Go Go.RowKit

def joinF (f g : Sol) : Sol := fun i => f i ||| g i
def meetF (f g : Sol) : Sol := fun i => f i &&& g i
def lessF (f g : Sol) : Sol := fun i => andN (f i) (g i)
def mix (k : Nat) (f g : Sol) : Sol := fun i => if i < k then f i else g i
theorem mix_succ (k : Nat) (f g : Sol) : up8 (mix k f g) k (f k) = mix (k + 1) f g := by
  funext i
  unfold up8 mix
  by_cases h : i = k
  · subst h; simp
  · rw [if_neg h]
    by_cases h1 : i < k
    · rw [if_pos h1, if_pos (by omega)]
    · rw [if_neg h1, if_neg (by omega)]

set_option maxHeartbeats 1000000 in
theorem join_ok (f g : Sol) (w : World) (hf : Fit f) (hg : Fit g) :
    Calls Tryz.prog 30 #[sol f, sol g] w fun e w' => e = .returned (sol (joinF f g)) ∧ Below w.heap.size w w' := by
  go_enter Tryz.func30, Tryz.ntmps30
  go_wp2
  go_loopw [5, 6] (fun z c wr => ∃ k : Nat, k ≤ 8 ∧ c = .int .i64 k ∧ BoxS wr w.heap.size (mix k (joinF f g) f) ∧ BoxS wr (w.heap.size + 1) g ∧ BoxS wr (w.heap.size + 1 + 1) (fun _ => 0) ∧ wr.heap.size = w.heap.size + 3 ∧ Below w.heap.size w wr) (fun _ c _ => 8 - (intOf c).toNat)
  case atStart => exact ⟨0, by omega, rfl, ((BoxS.new w f).alloc _).alloc _, (BoxS.new' (by simp)).alloc _, BoxS.zero (by simp), by simp, by go_grown⟩
  case round =>
    obtain ⟨k, hk, rfl, hA, hB, hR, hs, hw⟩ := hrel
    by_cases hlt : k < 8
    · have cA := hA.cell hlt
      have cB := hB.cell hlt
      have fA := hA.free k
      have b1 : f k < 18446744073709551616 := hf k
      have b2 : g k < 18446744073709551616 := hg k
      have e1 : mix k (joinF f g) f k = f k := by unfold mix; rw [if_neg (by omega)]
      have e2 : bits .or .u64 (f k : Int) (g k : Int) = ((joinF f g k : Nat) : Int) := bits_or b1 b2
      rw [e1] at cA
      have E2 := Lib.hid e2
      clear e1 e2
      go_wp2
      go_region
      rw [E2.out]
      have hA' : BoxS (wr.setCell ⟨w.heap.size, k, none⟩ (.int .u64 ((joinF f g k : Nat) : Int))).drew w.heap.size (mix (k + 1) (joinF f g) f) := by rw [← mix_succ]; exact hA.set hlt _
      have hB' : BoxS (wr.setCell ⟨w.heap.size, k, none⟩ (.int .u64 ((joinF f g k : Nat) : Int))).drew (w.heap.size + 1) g := hB.other (by omega) _
      have hR' : BoxS (wr.setCell ⟨w.heap.size, k, none⟩ (.int .u64 ((joinF f g k : Nat) : Int))).drew (w.heap.size + 1 + 1) (fun _ => 0) := hR.other (by omega) _
      have hw' : Below w.heap.size w (wr.setCell ⟨w.heap.size, k, none⟩ (.int .u64 ((joinF f g k : Nat) : Int))).drew := (hw.setCell (by simp) _).drew
      go_wp2
      go_roundw
      case rel => exact ⟨k + 1, by omega, by go_num, hA', hB', hR', by simp [hs], hw'⟩
      case measure => simp [intOf]; omega
    · obtain rfl : k = 8 := by omega
      have c0 := (hA).cell (k := 0) (by omega); have c1 := (hA).cell (k := 1) (by omega); have c2 := (hA).cell (k := 2) (by omega); have c3 := (hA).cell (k := 3) (by omega); have c4 := (hA).cell (k := 4) (by omega); have c5 := (hA).cell (k := 5) (by omega); have c6 := (hA).cell (k := 6) (by omega); have c7 := (hA).cell (k := 7) (by omega)
      have r0 := (hR).cell (k := 0) (by omega); have r1 := (hR).cell (k := 1) (by omega); have r2 := (hR).cell (k := 2) (by omega); have r3 := (hR).cell (k := 3) (by omega); have r4 := (hR).cell (k := 4) (by omega); have r5 := (hR).cell (k := 5) (by omega); have r6 := (hR).cell (k := 6) (by omega); have r7 := (hR).cell (k := 7) (by omega)
      have q0 := (hR).free 0; have q1 := (hR).free 1; have q2 := (hR).free 2; have q3 := (hR).free 3; have q4 := (hR).free 4; have q5 := (hR).free 5; have q6 := (hR).free 6; have q7 := (hR).free 7
      go_wp2
      refine bodyPost_ret (res_s ((hR.put (mix 8 (joinF f g) f)).congr fun i hi => ?_) Tryz.results30 rfl) rfl ⟨rfl, ?_⟩
      · unfold mix; rw [if_pos hi]
      · repeat' (first | (with_reducible exact Below.refl _ _) | (with_reducible assumption) | (with_reducible refine Below.alloc ?_ ?_ _) | (with_reducible refine Below.drew ?_) | (with_reducible refine below_drewN ?_ _) | (with_reducible refine Below.setCell ?_ ?_ _) | go_size)
set_option maxHeartbeats 1000000 in
theorem meet_ok (f g : Sol) (w : World) (hf : Fit f) (hg : Fit g) :
    Calls Tryz.prog 32 #[sol f, sol g] w fun e w' => e = .returned (sol (meetF f g)) ∧ Below w.heap.size w w' := by
  go_enter Tryz.func32, Tryz.ntmps32
  go_wp2
  go_loopw [5, 6] (fun z c wr => ∃ k : Nat, k ≤ 8 ∧ c = .int .i64 k ∧ BoxS wr w.heap.size (mix k (meetF f g) f) ∧ BoxS wr (w.heap.size + 1) g ∧ BoxS wr (w.heap.size + 1 + 1) (fun _ => 0) ∧ wr.heap.size = w.heap.size + 3 ∧ Below w.heap.size w wr) (fun _ c _ => 8 - (intOf c).toNat)
  case atStart => exact ⟨0, by omega, rfl, ((BoxS.new w f).alloc _).alloc _, (BoxS.new' (by simp)).alloc _, BoxS.zero (by simp), by simp, by go_grown⟩
  case round =>
    obtain ⟨k, hk, rfl, hA, hB, hR, hs, hw⟩ := hrel
    by_cases hlt : k < 8
    · have cA := hA.cell hlt
      have cB := hB.cell hlt
      have fA := hA.free k
      have b1 : f k < 18446744073709551616 := hf k
      have b2 : g k < 18446744073709551616 := hg k
      have e1 : mix k (meetF f g) f k = f k := by unfold mix; rw [if_neg (by omega)]
      have e2 : bits .and .u64 (f k : Int) (g k : Int) = ((meetF f g k : Nat) : Int) := bits_and b1 b2
      rw [e1] at cA
      have E2 := Lib.hid e2
      clear e1 e2
      go_wp2
      go_region
      rw [E2.out]
      have hA' : BoxS (wr.setCell ⟨w.heap.size, k, none⟩ (.int .u64 ((meetF f g k : Nat) : Int))).drew w.heap.size (mix (k + 1) (meetF f g) f) := by rw [← mix_succ]; exact hA.set hlt _
      have hB' : BoxS (wr.setCell ⟨w.heap.size, k, none⟩ (.int .u64 ((meetF f g k : Nat) : Int))).drew (w.heap.size + 1) g := hB.other (by omega) _
      have hR' : BoxS (wr.setCell ⟨w.heap.size, k, none⟩ (.int .u64 ((meetF f g k : Nat) : Int))).drew (w.heap.size + 1 + 1) (fun _ => 0) := hR.other (by omega) _
      have hw' : Below w.heap.size w (wr.setCell ⟨w.heap.size, k, none⟩ (.int .u64 ((meetF f g k : Nat) : Int))).drew := (hw.setCell (by simp) _).drew
      go_wp2
      go_roundw
      case rel => exact ⟨k + 1, by omega, by go_num, hA', hB', hR', by simp [hs], hw'⟩
      case measure => simp [intOf]; omega
    · obtain rfl : k = 8 := by omega
      have c0 := (hA).cell (k := 0) (by omega); have c1 := (hA).cell (k := 1) (by omega); have c2 := (hA).cell (k := 2) (by omega); have c3 := (hA).cell (k := 3) (by omega); have c4 := (hA).cell (k := 4) (by omega); have c5 := (hA).cell (k := 5) (by omega); have c6 := (hA).cell (k := 6) (by omega); have c7 := (hA).cell (k := 7) (by omega)
      have r0 := (hR).cell (k := 0) (by omega); have r1 := (hR).cell (k := 1) (by omega); have r2 := (hR).cell (k := 2) (by omega); have r3 := (hR).cell (k := 3) (by omega); have r4 := (hR).cell (k := 4) (by omega); have r5 := (hR).cell (k := 5) (by omega); have r6 := (hR).cell (k := 6) (by omega); have r7 := (hR).cell (k := 7) (by omega)
      have q0 := (hR).free 0; have q1 := (hR).free 1; have q2 := (hR).free 2; have q3 := (hR).free 3; have q4 := (hR).free 4; have q5 := (hR).free 5; have q6 := (hR).free 6; have q7 := (hR).free 7
      go_wp2
      refine bodyPost_ret (res_s ((hR.put (mix 8 (meetF f g) f)).congr fun i hi => ?_) Tryz.results32 rfl) rfl ⟨rfl, ?_⟩
      · unfold mix; rw [if_pos hi]
      · repeat' (first | (with_reducible exact Below.refl _ _) | (with_reducible assumption) | (with_reducible refine Below.alloc ?_ ?_ _) | (with_reducible refine Below.drew ?_) | (with_reducible refine below_drewN ?_ _) | (with_reducible refine Below.setCell ?_ ?_ _) | go_size)
end Go.Proofs.YtadkaplafaeebaaGreatDoor
/-
  Whether two solids are the same: the model's comparison of arrays, at eight planes.
-/
set_option linter.unusedVariables false
set_option linter.unusedSimpArgs false
namespace Go.Proofs.YtadkaplafaeebaaGreatDoor
open Go Go.RowKit

/-- Two solids have the same planes. -/
def eqS (f g : Sol) : Bool := decide (f 0 = g 0 ∧ f 1 = g 1 ∧ f 2 = g 2 ∧ f 3 = g 3 ∧ f 4 = g 4 ∧ f 5 = g 5 ∧ f 6 = g 6 ∧ f 7 = g 7)
theorem run_part (W : World) (xs : Array Value) (i : Nat) (v : Value) (h : xs[i]? = some v) : (part 22 xs i).run Tryz.prog W = .ok v W := by
  simp [part, go_sem, h]
/-- The comparison from a plane on. -/
def eqFrom (f g : Sol) : List Nat → Bool
  | [] => true
  | i :: l => (f i == g i) && eqFrom f g l
theorem at8 (f : Sol) {i : Nat} (h : i < 8) : (solC f)[i]? = some (.int .u64 (f i)) := by
  rcases lt8 h with rfl | rfl | rfl | rfl | rfl | rfl | rfl | rfl <;> rfl
theorem forIn_sol (f g : Sol) : ∀ (l : List Nat) (W : World), (∀ i ∈ l, i < 8) → (forIn (m := Sem) l ((none : Option Bool), ()) fun i __s => do
      let a ← part 22 (solC f) i
      let b ← part 22 (solC g) i
      let r ← Op.equalIn 9999 22 a b
      if (!r) = true then pure (ForInStep.done (some false, ())) else pure (ForInStep.yield (none, ()))).run Tryz.prog W = .ok (if eqFrom f g l then (none, ()) else (some false, ())) W := by
  intro l
  induction l with
  | nil => intro W _; simp [eqFrom, Sem.run_pure]
  | cons i l ih =>
    intro W h
    have hi := h i (by simp)
    have e : (Op.equalIn 9999 22 (.int .u64 (f i)) (.int .u64 (g i))).run Tryz.prog W = .ok (((f i : Int)) == (g i : Int)) W := run_equalIn_int W 9998 _ .u64 .u64 _ _ Tryz.underlying22
    rw [List.forIn_cons]
    simp only [Sem.run_bind, run_part W _ i _ (at8 f hi), run_part W _ i _ (at8 g hi), Result.andThen_ok, e]
    by_cases hc : f i = g i
    · have h1 : ((f i : Int) == (g i : Int)) = true := by simp [hc]
      rw [h1]
      simp only [Bool.not_true, Bool.false_eq_true, if_false, Sem.run_pure, Result.andThen_ok]
      rw [ih W fun j hj => h j (by simp [hj])]
      simp [eqFrom, hc]
    · have h1 : ((f i : Int) == (g i : Int)) = false := by simp; omega
      rw [h1]
      simp [eqFrom, hc, Sem.run_pure]
theorem eqFrom_iff (f g : Sol) : eqFrom f g (List.range' 0 8) = eqS f g := by
  unfold eqS
  rw [Bool.eq_iff_iff]
  simp [List.range', eqFrom]
theorem equalIn_sol (W : World) (f g : Sol) : (Op.equalIn 10000 24 (sol f) (sol g)).run Tryz.prog W = .ok (eqS f g) W := by
  have hs : (sizeOf 22).run Tryz.prog W = .ok 1 W := by simp [go_sem]
  have hf := forIn_sol f g (List.range' 0 8) W (fun i hi => by simpa using hi)
  show (Op.equalIn (9999 + 1) _ _ _).run _ W = _
  unfold Op.equalIn
  simp only [Sem.run_bind, run_underlying Tryz.underlying24, Result.andThen_ok, hs, Nat.mul_one]
  rw [Std.Legacy.Range.forIn_eq_forIn_range']
  have hr : List.range' [:8].start [:8].size [:8].step = List.range' 0 8 := rfl
  rw [hr]
  refine (congrArg (fun r => Result.andThen r _) hf).trans ?_
  rw [eqFrom_iff]
  cases eqS f g <;> rfl
@[go_sem] theorem run_eql_sol (w : World) (f g : Sol) : (Op.equalIn 10000 24 (.agg #[.int .u64 (f 0), .int .u64 (f 1), .int .u64 (f 2), .int .u64 (f 3), .int .u64 (f 4), .int .u64 (f 5), .int .u64 (f 6), .int .u64 (f 7)]) (.agg #[.int .u64 (g 0), .int .u64 (g 1), .int .u64 (g 2), .int .u64 (g 3), .int .u64 (g 4), .int .u64 (g 5), .int .u64 (g 6), .int .u64 (g 7)])).run Tryz.prog w = .ok (eqS f g) w := equalIn_sol w f g
/-- A solid without a cell. -/
def emptyS (f : Sol) : Bool := eqS f (fun _ => 0)
@[go_sem] theorem run_eql_sol_zero (w : World) (f : Sol) : (Op.equalIn 10000 24 (.agg #[.int .u64 (f 0), .int .u64 (f 1), .int .u64 (f 2), .int .u64 (f 3), .int .u64 (f 4), .int .u64 (f 5), .int .u64 (f 6), .int .u64 (f 7)]) (.agg #[.int .u64 0, .int .u64 0, .int .u64 0, .int .u64 0, .int .u64 0, .int .u64 0, .int .u64 0, .int .u64 0])).run Tryz.prog w = .ok (emptyS f) w := by
  have h := equalIn_sol w f (fun _ => 0)
  exact h
end Go.Proofs.YtadkaplafaeebaaGreatDoor
/-
  The small functions of cells and motions.
-/
set_option linter.unusedVariables false
set_option linter.unusedSimpArgs false
namespace Go.Proofs.YtadkaplafaeebaaGreatDoor
open Go Go.RowKit

def inG (x y z : Int) : Bool := decide (0 ≤ x ∧ x ≤ 7 ∧ 0 ≤ y ∧ y ≤ 7 ∧ 0 ≤ z ∧ z ≤ 7)
theorem inGrid_ok (x y z : Int) (w : World) : Calls Tryz.prog 90 #[.agg #[.int .i64 (x), .int .i64 (y), .int .i64 (z)]] w fun e w' => e = .returned (.bool (inG x y z)) ∧ Below w.heap.size w w' := by
  go_enter Tryz.func90, Tryz.ntmps90
  go_wp2
  all_goals
    go_ret
    exact ⟨retB (by unfold inG; rw [Bool.eq_iff_iff]; simp; omega), by go_grown⟩
theorem wrap_pow {n : Nat} (h : n < 64) : IntKind.u64.wrap (2 ^ n) = ((2 ^ n : Nat) : Int) := by
  have h1 : 2 ^ n < 18446744073709551616 := Nat.pow_lt_pow_right (a := 2) (m := n) (n := 64) (by decide) h
  have h2 : ((2 ^ n : Nat) : Int) = 2 ^ n := by norm_cast
  rw [IntKind.wrap_u64, ← h2]
  exact Int.emod_eq_of_lt (Int.natCast_nonneg _) (Int.ofNat_lt.2 h1)
/-- The bit of a cell in its plane. -/
def bitN (x y : Nat) : Nat := 2 ^ (8 * y + x)
theorem bit_ok (x y : Nat) (z : Int) (w : World) (hx : x ≤ 7) (hy : y ≤ 7) : Calls Tryz.prog 91 #[.agg #[.int .i64 (x), .int .i64 (y), .int .i64 (z)]] w fun e w' => e = .returned (.int .u64 ((bitN x y : Nat) : Int)) ∧ Below w.heap.size w w' := by
  go_enter Tryz.func91, Tryz.ntmps91
  go_wp2
  go_ret
  exact ⟨retI (wrap_pow (by omega)), by go_grown⟩
theorem isEmpty_ok (f : Sol) (w : World) : Calls Tryz.prog 96 #[sol f] w fun e w' => e = .returned (.bool (emptyS f)) ∧ Below w.heap.size w w' := by
  go_enter Tryz.func96, Tryz.ntmps96
  go_wp2
  go_ret
  exact ⟨rfl, by go_grown⟩
theorem isTurn_ok (t : Int) (w : World) : Calls Tryz.prog 99 #[.int .i64 t] w fun e w' => e = .returned (.bool (decide (0 ≤ t ∧ t < 24))) ∧ Below w.heap.size w w' := by
  go_enter Tryz.func99, Tryz.ntmps99
  go_wp2
  all_goals
    go_ret
    exact ⟨retB (by rw [Bool.eq_iff_iff]; simp; omega), by go_grown⟩
def mvB (x y z : Int) : Bool := decide (-7 ≤ x ∧ x ≤ 7 ∧ -7 ≤ y ∧ y ≤ 7 ∧ -7 ≤ z ∧ z ≤ 7)
theorem isMove_ok (x y z : Int) (w : World) : Calls Tryz.prog 109 #[.agg #[.int .i64 (x), .int .i64 (y), .int .i64 (z)]] w fun e w' => e = .returned (.bool (mvB x y z)) ∧ Below w.heap.size w w' := by
  go_enter Tryz.func109, Tryz.ntmps109
  go_wp2
  all_goals
    go_ret
    exact ⟨retB (by unfold mvB; rw [Bool.eq_iff_iff]; simp; omega), by go_grown⟩
theorem res_3 {fn : Func} {t : Tmp} {tmps : Array Value} {W : World} {B : Nat} {x y z : Value} (h : fn.results = #[.cell t 26]) (ht : tmps[t]?.getD undef = .pointer (some ⟨B, 0, none⟩)) (h0 : W.cell? ⟨B, 0, none⟩ = some x) (h1 : W.cell? ⟨B, 1, none⟩ = some y) (h2 : W.cell? ⟨B, 2, none⟩ = some z) :
    (results fn tmps).run Tryz.prog W = .ok (.agg #[x, y, z]) W := by
  simp [results, h, ht, go_sem, h0, h1, h2]
theorem res_4 {fn : Func} {t : Tmp} {tmps : Array Value} {W : World} {B : Nat} {x y z u : Value} (h : fn.results = #[.cell t 46]) (ht : tmps[t]?.getD undef = .pointer (some ⟨B, 0, none⟩)) (h0 : W.cell? ⟨B, 0, none⟩ = some x) (h1 : W.cell? ⟨B, 1, none⟩ = some y) (h2 : W.cell? ⟨B, 2, none⟩ = some z) (h3 : W.cell? ⟨B, 3, none⟩ = some u) :
    (results fn tmps).run Tryz.prog W = .ok (.agg #[x, y, z, u]) W := by
  simp [results, h, ht, go_sem, h0, h1, h2, h3]
theorem res_4e {fn : Func} {t s : Tmp} {tmps : Array Value} {W : World} {B : Nat} {x y z u : Value} (h : fn.results = #[.cell t 46, .tmp s]) (ht : tmps[t]?.getD undef = .pointer (some ⟨B, 0, none⟩)) (h0 : W.cell? ⟨B, 0, none⟩ = some x) (h1 : W.cell? ⟨B, 1, none⟩ = some y) (h2 : W.cell? ⟨B, 2, none⟩ = some z) (h3 : W.cell? ⟨B, 3, none⟩ = some u) :
    (results fn tmps).run Tryz.prog W = .ok (.tuple #[.agg #[x, y, z, u], tmps.getD s undef]) W := by
  simp [results, h, ht, go_sem, h0, h1, h2, h3]
theorem moveOf_ok (t x y z : Int) (w : World) : Calls Tryz.prog 108 #[.agg #[.int .i64 (t), .int .i64 (x), .int .i64 (y), .int .i64 (z)]] w fun e w' => e = .returned (.agg #[.int .i64 (x), .int .i64 (y), .int .i64 (z)]) ∧ Below w.heap.size w w' := by
  go_enter Tryz.func108, Tryz.ntmps108
  go_wp2
  refine bodyPost_ret (res_3 Tryz.results108 rfl (by go_cell) (by go_cell) (by go_cell)) rfl ⟨rfl, by go_grown⟩
theorem motionOf_ok (t x y z : Int) (w : World) : Calls Tryz.prog 111 #[.int .i64 t, .agg #[.int .i64 (x), .int .i64 (y), .int .i64 (z)]] w fun e w' => e = .returned (.agg #[.int .i64 (t), .int .i64 (x), .int .i64 (y), .int .i64 (z)]) ∧ Below w.heap.size w w' := by
  go_enter Tryz.func111, Tryz.ntmps111
  go_wp2
  refine bodyPost_ret (res_4 Tryz.results111 rfl (by go_cell) (by go_cell) (by go_cell) (by go_cell)) rfl ⟨rfl, by go_grown⟩
theorem lopsided_ok (w : World) : Calls Tryz.prog 110 #[] w fun e w' => e = .returned (.agg #[.int .i64 (1), .int .i64 (2), .int .i64 (3)]) ∧ Below w.heap.size w w' := by
  go_enter Tryz.func110, Tryz.ntmps110
  go_wp2
  refine bodyPost_ret (res_3 Tryz.results110 rfl (by go_cell) (by go_cell) (by go_cell)) rfl ⟨rfl, by go_grown⟩
/-- Numbers that coordinates have: small. -/
def Sm (x : Int) : Prop := -1000 ≤ x ∧ x ≤ 1000
theorem roll0_ok (f x y z : Int) (w : World) : Calls Tryz.prog 140 #[.int .i64 f, .agg #[.int .i64 (x), .int .i64 (y), .int .i64 (z)]] w fun e w' => e = .returned (.agg #[.int .i64 (x), .int .i64 (y), .int .i64 (z)]) ∧ Below w.heap.size w w' := by
  go_enter Tryz.func140, Tryz.ntmps140
  go_wp2
  refine bodyPost_ret (res_3 Tryz.results140 rfl (by go_cell) (by go_cell) (by go_cell)) rfl ⟨rfl, by go_grown⟩
theorem roll1_ok (f x y z : Int) (w : World) (hf : Sm f) (hx : Sm x) (hy : Sm y) (hz : Sm z) : Calls Tryz.prog 141 #[.int .i64 f, .agg #[.int .i64 (x), .int .i64 (y), .int .i64 (z)]] w fun e w' => e = .returned (.agg #[.int .i64 (x), .int .i64 (f - z), .int .i64 (y)]) ∧ Below w.heap.size w w' := by
  unfold Sm at hf hx hy hz
  go_enter Tryz.func141, Tryz.ntmps141
  go_wp2
  refine bodyPost_ret (res_3 Tryz.results141 rfl (by go_cell) (by go_cell) (by go_cell)) rfl ⟨rfl, by go_grown⟩
theorem roll2_ok (f x y z : Int) (w : World) (hf : Sm f) (hx : Sm x) (hy : Sm y) (hz : Sm z) : Calls Tryz.prog 142 #[.int .i64 f, .agg #[.int .i64 (x), .int .i64 (y), .int .i64 (z)]] w fun e w' => e = .returned (.agg #[.int .i64 (x), .int .i64 (f - y), .int .i64 (f - z)]) ∧ Below w.heap.size w w' := by
  unfold Sm at hf hx hy hz
  go_enter Tryz.func142, Tryz.ntmps142
  go_wp2
  refine bodyPost_ret (res_3 Tryz.results142 rfl (by go_cell) (by go_cell) (by go_cell)) rfl ⟨rfl, by go_grown⟩
theorem roll3_ok (f x y z : Int) (w : World) (hf : Sm f) (hx : Sm x) (hy : Sm y) (hz : Sm z) : Calls Tryz.prog 143 #[.int .i64 f, .agg #[.int .i64 (x), .int .i64 (y), .int .i64 (z)]] w fun e w' => e = .returned (.agg #[.int .i64 (x), .int .i64 (z), .int .i64 (f - y)]) ∧ Below w.heap.size w w' := by
  unfold Sm at hf hx hy hz
  go_enter Tryz.func143, Tryz.ntmps143
  go_wp2
  refine bodyPost_ret (res_3 Tryz.results143 rfl (by go_cell) (by go_cell) (by go_cell)) rfl ⟨rfl, by go_grown⟩
theorem roll4_ok (f x y z : Int) (w : World) (hf : Sm f) (hx : Sm x) (hy : Sm y) (hz : Sm z) : Calls Tryz.prog 144 #[.int .i64 f, .agg #[.int .i64 (x), .int .i64 (y), .int .i64 (z)]] w fun e w' => e = .returned (.agg #[.int .i64 (z), .int .i64 (y), .int .i64 (f - x)]) ∧ Below w.heap.size w w' := by
  unfold Sm at hf hx hy hz
  go_enter Tryz.func144, Tryz.ntmps144
  go_wp2
  refine bodyPost_ret (res_3 Tryz.results144 rfl (by go_cell) (by go_cell) (by go_cell)) rfl ⟨rfl, by go_grown⟩
theorem roll5_ok (f x y z : Int) (w : World) (hf : Sm f) (hx : Sm x) (hy : Sm y) (hz : Sm z) : Calls Tryz.prog 145 #[.int .i64 f, .agg #[.int .i64 (x), .int .i64 (y), .int .i64 (z)]] w fun e w' => e = .returned (.agg #[.int .i64 (f - z), .int .i64 (y), .int .i64 (x)]) ∧ Below w.heap.size w w' := by
  unfold Sm at hf hx hy hz
  go_enter Tryz.func145, Tryz.ntmps145
  go_wp2
  refine bodyPost_ret (res_3 Tryz.results145 rfl (by go_cell) (by go_cell) (by go_cell)) rfl ⟨rfl, by go_grown⟩
theorem upright_ok (f x y z : Int) (w : World) (hf : Sm f) (hx : Sm x) (hy : Sm y) (hz : Sm z) : Calls Tryz.prog 146 #[.int .i64 f, .agg #[.int .i64 (x), .int .i64 (y), .int .i64 (z)]] w fun e w' => e = .returned (.agg #[.int .i64 (f - y), .int .i64 (x), .int .i64 (z)]) ∧ Below w.heap.size w w' := by
  unfold Sm at hf hx hy hz
  go_enter Tryz.func146, Tryz.ntmps146
  go_wp2
  refine bodyPost_ret (res_3 Tryz.results146 rfl (by go_cell) (by go_cell) (by go_cell)) rfl ⟨rfl, by go_grown⟩
end Go.Proofs.YtadkaplafaeebaaGreatDoor
/-
  Plain mathematics of planes: their bits one after the other, the cells of a solid.
-/
set_option linter.unusedVariables false
set_option linter.unusedSimpArgs false
namespace Go.Proofs.YtadkaplafaeebaaGreatDoor
open Go Go.RowKit

/-- The lowest bit of a number above 0: its place. -/
def low (p : Nat) : Nat := if h : p = 0 then 0 else if p % 2 = 1 then 0 else low (p / 2) + 1
termination_by p
decreasing_by omega
theorem and_pred (p : Nat) (h : p ≠ 0) : ∀ i, (p &&& (p - 1)).testBit i = (p.testBit i && decide (i ≠ low p)) := by
  induction p using Nat.strongRecOn with
  | ind p ih =>
    intro i
    rw [low]
    rw [dif_neg h]
    by_cases h1 : p % 2 = 1
    · rw [if_pos h1, Nat.testBit_and]
      cases i with
      | zero => simp [Nat.testBit_zero]; omega
      | succ i =>
        rw [Nat.testBit_succ, Nat.testBit_succ, show (p - 1) / 2 = p / 2 by omega]
        simp
    · rw [if_neg h1, Nat.testBit_and]
      cases i with
      | zero => simp [Nat.testBit_zero]; omega
      | succ i =>
        have := ih (p / 2) (by omega) (by omega) i
        rw [Nat.testBit_and] at this
        rw [Nat.testBit_succ, Nat.testBit_succ, show (p - 1) / 2 = p / 2 - 1 by omega, this]
        simp
/-- The places of the bits of a number below 2^n, ascending. -/
def bitsOf (n p : Nat) : List Nat := (List.range n).filter fun i => p.testBit i
theorem low_bit (p : Nat) (h : p ≠ 0) : p.testBit (low p) = true ∧ ∀ i, i < low p → p.testBit i = false := by
  induction p using Nat.strongRecOn with
  | ind p ih =>
    rw [low, dif_neg h]
    by_cases h1 : p % 2 = 1
    · rw [if_pos h1]
      exact ⟨by simp [Nat.testBit_zero, h1], fun i hi => absurd hi (by omega)⟩
    · rw [if_neg h1]
      obtain ⟨a, b⟩ := ih (p / 2) (by omega) (by omega)
      refine ⟨by rw [Nat.testBit_succ]; exact a, fun i hi => ?_⟩
      cases i with
      | zero => simp [Nat.testBit_zero]; omega
      | succ i => rw [Nat.testBit_succ]; exact b i (by omega)
theorem low_lt (p n : Nat) (h : p ≠ 0) (hp : p < 2 ^ n) : low p < n := by
  have := (low_bit p h).1
  rcases Nat.lt_or_ge (low p) n with h1 | h1
  · exact h1
  · rw [Nat.testBit_lt_two_pow (Nat.lt_of_lt_of_le hp (Nat.pow_le_pow_right (by omega) h1))] at this
    cases this
theorem bitsOf_zero (n : Nat) : bitsOf n 0 = [] := by simp [bitsOf]
theorem filter_first {α} (l : List α) (f g : α → Bool) (a : α) : ∀ (k : Nat), l[k]? = some a → (∀ i b, i < k → l[i]? = some b → f b = false) → f a = true → (∀ i b, k < i → l[i]? = some b → g b = f b) → (∀ i b, i ≤ k → l[i]? = some b → g b = false) → l.filter f = a :: l.filter g := by
  induction l with
  | nil => intro k h; simp at h
  | cons x l ih =>
    intro k h0 h1 h2 h3 h4
    cases k with
    | zero =>
      simp at h0
      subst h0
      rw [List.filter_cons_of_pos h2, List.filter_cons_of_neg (by rw [h4 0 x (by omega) rfl]; simp)]
      congr 1
      refine List.filter_congr fun b hb => ?_
      obtain ⟨i, hi⟩ := List.mem_iff_getElem?.1 hb
      exact (h3 (i + 1) b (by omega) (by simpa using hi)).symm
    | succ k =>
      rw [List.filter_cons_of_neg (by rw [h1 0 x (by omega) rfl]; simp), List.filter_cons_of_neg (by rw [h4 0 x (by omega) rfl]; simp)]
      exact ih k (by simpa using h0) (fun i b hi hb => h1 (i + 1) b (by omega) (by simpa using hb)) h2 (fun i b hi hb => h3 (i + 1) b (by omega) (by simpa using hb)) (fun i b hi hb => h4 (i + 1) b (by omega) (by simpa using hb))
theorem bitsOf_pos (n p : Nat) (h : p ≠ 0) (hp : p < 2 ^ n) : bitsOf n p = low p :: bitsOf n (p &&& (p - 1)) := by
  have hl := low_lt p n h hp
  have hb := low_bit p h
  refine filter_first _ _ _ (low p) (low p) (by simp [hl]) (fun i b hi hx => ?_) hb.1 (fun i b hi hx => ?_) (fun i b hi hx => ?_)
  all_goals
    have hx' : i < n ∧ i = b := by
      obtain ⟨h1, h2⟩ := List.getElem?_eq_some_iff.1 hx
      exact ⟨by simpa using h1, by simpa using h2⟩
    obtain ⟨_, rfl⟩ := hx'
  · exact hb.2 i hi
  · rw [and_pred p h, decide_eq_true (by omega)]; simp
  · rw [and_pred p h]
    rcases Nat.lt_or_ge i (low p) with h | h
    · rw [hb.2 i h]; rfl
    · rw [decide_eq_false (by omega)]; simp

theorem ctzFrom_low : ∀ (n p : Nat), p ≠ 0 → p < 2 ^ n → Lib.ctzFrom n p = low p
  | 0, p, h, hp => by simp at hp; omega
  | n + 1, p, h, hp => by
    rw [low, dif_neg h]
    unfold Lib.ctzFrom
    by_cases h1 : p % 2 = 1
    · rw [if_pos h1, if_pos h1]
    · rw [if_neg h1, if_neg h1, ctzFrom_low n (p / 2) (by omega) (by rw [Nat.pow_succ] at hp; omega), Nat.add_comm]
theorem ctz_low {p : Nat} (h : p ≠ 0) (hp : p < 18446744073709551616) : Lib.ctz 64 p = low p := by
  unfold Lib.ctz
  rw [if_neg h]
  exact ctzFrom_low 64 p h hp
theorem pred_lt {p : Nat} (hp : p < 18446744073709551616) : p &&& (p - 1) < 18446744073709551616 := Nat.lt_of_le_of_lt Nat.and_le_left hp

/-- A cell by its number: 64 z + 8 y + x. -/
abbrev Cl := Fin 512
def cX (c : Cl) : Nat := c.1 % 8
def cY (c : Cl) : Nat := c.1 / 8 % 8
def cZ (c : Cl) : Nat := c.1 / 64
abbrev cell (c : Cl) : Value := .agg #[.int .i64 (((cX c : Nat) : Int)), .int .i64 (((cY c : Nat) : Int)), .int .i64 (((cZ c : Nat) : Int))]
def ci (k b : Nat) : Cl := ⟨(64 * k + b) % 512, Nat.mod_lt _ (by omega)⟩
def planeL (k p : Nat) : List Cl := (bitsOf 64 p).map (ci k)
/-- The cells of the planes from k on. -/
def restL (f : Sol) (k : Nat) : List Cl := (List.range' k (8 - k)).flatMap fun i => planeL i (f i)
def cellsL (f : Sol) : List Cl := restL f 0
theorem restL_succ (f : Sol) {k : Nat} (h : k < 8) : restL f k = planeL k (f k) ++ restL f (k + 1) := by
  unfold restL
  rw [show 8 - k = (8 - (k + 1)) + 1 by omega, List.range'_succ, List.flatMap_cons]
theorem restL_end (f : Sol) : restL f 8 = [] := rfl
theorem planeL_zero (k : Nat) : planeL k 0 = [] := by unfold planeL; rw [bitsOf_zero]; rfl
theorem planeL_pos (k : Nat) {p : Nat} (h : p ≠ 0) (hp : p < 18446744073709551616) : planeL k p = ci k (low p) :: planeL k (p &&& (p - 1)) := by
  unfold planeL
  rw [bitsOf_pos 64 p h hp]
  rfl
theorem low64 {p : Nat} (h : p ≠ 0) (hp : p < 18446744073709551616) : low p < 64 := low_lt p 64 h hp
theorem ci_val {k b : Nat} (hk : k < 8) (hb : b < 64) : (ci k b).1 = 64 * k + b := Nat.mod_eq_of_lt (by omega)
theorem ci_x {k b : Nat} (hk : k < 8) (hb : b < 64) : cX (ci k b) = b % 8 := by unfold cX; rw [ci_val hk hb]; omega
theorem ci_y {k b : Nat} (hk : k < 8) (hb : b < 64) : cY (ci k b) = b / 8 := by unfold cY; rw [ci_val hk hb]; omega
theorem ci_z {k b : Nat} (hk : k < 8) (hb : b < 64) : cZ (ci k b) = k := by unfold cZ; rw [ci_val hk hb]; omega
theorem cellsL_len (f : Sol) : (cellsL f).length ≤ 512 := by
  have h : ∀ k p, (planeL k p).length ≤ 64 := fun k p => by
    unfold planeL bitsOf
    rw [List.length_map]
    exact Nat.le_trans (List.length_filter_le _ _) (by simp)
  have h2 : ∀ n k, ((List.range' k n).flatMap fun i => planeL i (f i)).length ≤ 64 * n := by
    intro n
    induction n with
    | zero => intro k; simp
    | succ n ih =>
      intro k
      rw [List.range'_succ, List.flatMap_cons, List.length_append]
      have := h k (f k)
      have := ih (k + 1)
      omega
  exact h2 8 0
theorem X_le (c : Cl) : cX c ≤ 7 := by unfold cX; omega
theorem Y_le (c : Cl) : cY c ≤ 7 := by unfold cY; omega
theorem Z_le (c : Cl) : cZ c ≤ 7 := by unfold cZ; omega
end Go.Proofs.YtadkaplafaeebaaGreatDoor
