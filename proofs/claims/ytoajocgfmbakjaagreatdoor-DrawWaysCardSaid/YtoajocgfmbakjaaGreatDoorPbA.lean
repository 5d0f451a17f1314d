/-
  Solids as functions of a plane's number: their value, a block that holds one, what a store makes of it; small lemmas of the walks.
-/
import Derived.Test.YtoajocgfmbakjaaGreatDoorProg
import Derived.WalkKit
import Derived.ProofKit
import Derived.Below
import Derived.LoopTactic
import Derived.RegionTactic
import Derived.ChangeAlike
import Derived.Deep.QuietTactic
import Derived.BigQuiet
import Derived.Deep.RegionHeld3
import Derived.Outline
import Derived.Lib.Hide
import Derived.KernelRfl
import Derived.Handy
import Derived.OneCell
import Derived.Laws.BitsAllLaws
import Derived.Laws.Bits64b
set_option linter.unusedVariables false
set_option linter.unusedSimpArgs false
namespace Go.Proofs.YtoajocgfmbakjaaGreatDoor
open Go Go.RowKit

theorem bcell {W w1 : World} (hb : Below W.heap.size W w1) : (∀ b o, b < W.heap.size → w1.cell? ⟨b, o, none⟩ = W.cell? ⟨b, o, none⟩) ∧ (∀ b o, b < W.heap.size → w1.frozen? ⟨b, o, none⟩ = W.frozen? ⟨b, o, none⟩) :=
  ⟨fun b o h => hb.cell (p := ⟨b, o, none⟩) h, fun b o h => hb.frozen (p := ⟨b, o, none⟩) h⟩
theorem below_drewN {B : Nat} {a w : World} (h : Below B a w) (n : Nat) : Below B a (w.drewN n) := ⟨h.os, h.tape, h.output, h.size, h.block⟩
theorem up {w W w1 : World} (h : Below W.heap.size W w1) (k : Below w.heap.size w W) : Below w.heap.size w w1 := k.trans (h.mono k.size)
theorem below_undrew {W w1 : World} (h : Below W.drew.heap.size W.drew w1) : Below W.heap.size W w1 := ⟨h.os, h.tape, h.output, h.size, h.block⟩
theorem retI {k : IntKind} {a b : Int} (h : a = b) : Ending.returned (.int k a) = .returned (.int k b) := by rw [h]
theorem retB {a b : Bool} (h : a = b) : Ending.returned (.bool a) = .returned (.bool b) := by rw [h]

/-- A solid: its planes, as numbers. -/
abbrev Sol := Nat → Nat
/-- The planes are numbers of 64 bits. -/
def Fit (f : Sol) : Prop := ∀ i, f i < 18446744073709551616
abbrev solC (f : Sol) : Array Value := #[.int .u64 (f 0), .int .u64 (f 1), .int .u64 (f 2), .int .u64 (f 3), .int .u64 (f 4), .int .u64 (f 5), .int .u64 (f 6), .int .u64 (f 7)]
abbrev sol (f : Sol) : Value := .agg #[.int .u64 (f 0), .int .u64 (f 1), .int .u64 (f 2), .int .u64 (f 3), .int .u64 (f 4), .int .u64 (f 5), .int .u64 (f 6), .int .u64 (f 7)]
/-- A block that holds a solid. -/
def BoxK (T : TypeId) (W : World) (B : Nat) (f : Sol) : Prop := W.heap[B]? = some (.cells #[.int .u64 (f 0), .int .u64 (f 1), .int .u64 (f 2), .int .u64 (f 3), .int .u64 (f 4), .int .u64 (f 5), .int .u64 (f 6), .int .u64 (f 7)] T (0, 0))
/-- .. of type api.Solid, of type body. -/
abbrev BoxS := BoxK 25
abbrev BoxD := BoxK 88
def up8 (f : Sol) (k v : Nat) : Sol := fun i => if i = k then v else f i
section
variable {T : TypeId} {W : World} {B : Nat} {f : Sol}
theorem lt8 {k : Nat} (h : k < 8) : k = 0 ∨ k = 1 ∨ k = 2 ∨ k = 3 ∨ k = 4 ∨ k = 5 ∨ k = 6 ∨ k = 7 := by omega
theorem BoxK.lt (h : BoxK T W B f) : B < W.heap.size := (Array.getElem?_eq_some_iff.1 h).1
theorem BoxK.cell (h : BoxK T W B f) {k : Nat} (hk : k < 8) : W.cell? ⟨B, k, none⟩ = some (.int .u64 (f k)) := by
  simp only [World.cell?, show W.heap[B]? = _ from h]
  rcases lt8 hk with rfl | rfl | rfl | rfl | rfl | rfl | rfl | rfl <;> rfl
theorem BoxK.free (h : BoxK T W B f) (k : Nat) : W.frozen? ⟨B, k, none⟩ = false := by simp [World.frozen?, show W.heap[B]? = _ from h]
theorem BoxK.new (T : TypeId) (W : World) (f : Sol) : BoxK T (W.alloc (.cells (solC f) T)) W.heap.size f := by
  show (W.heap.push _)[W.heap.size]? = _
  rw [Array.getElem?_push, if_pos rfl]
theorem BoxK.new' {n : Nat} (h : n = W.heap.size) : BoxK T (W.alloc (.cells (solC f) T)) n f := by subst h; exact BoxK.new T W f
theorem BoxK.zero {n : Nat} (h : n = W.heap.size) : BoxK T (W.alloc (.cells #[.int .u64 0, .int .u64 0, .int .u64 0, .int .u64 0, .int .u64 0, .int .u64 0, .int .u64 0, .int .u64 0] T)) n (fun _ => 0) := by subst h; exact BoxK.new T W (fun _ => 0)
theorem BoxK.alloc (h : BoxK T W B f) (o : Obj) : BoxK T (W.alloc o) B f := (Below.heap_alloc W o B h.lt).trans h
theorem BoxK.drew (h : BoxK T W B f) : BoxK T W.drew B f := h
theorem BoxK.drewN (h : BoxK T W B f) (n : Nat) : BoxK T (W.drewN n) B f := h
theorem BoxK.other (h : BoxK T W B f) {b o : Nat} (hne : B ≠ b) (v : Value) : BoxK T (W.setCell ⟨b, o, none⟩ v) B f := (Below.heap_setCell W ⟨b, o, none⟩ v B hne).trans h
theorem BoxK.below {W' : World} {n : Nat} (h : BoxK T W B f) (hb : Below n W W') (hB : B < n) : BoxK T W' B f := (hb.block B hB).trans h
theorem BoxK.set (h : BoxK T W B f) {k : Nat} (hk : k < 8) (v : Nat) : BoxK T (W.setCell ⟨B, k, none⟩ (.int .u64 (v : Int))) B (up8 f k v) := by
  obtain ⟨hlt, he⟩ := Array.getElem?_eq_some_iff.1 h
  show (W.heap.modify B _)[B]? = _
  rw [Array.getElem?_eq_getElem (by rw [Array.size_modify]; exact hlt), Array.getElem_modify_self, he]
  rcases lt8 hk with rfl | rfl | rfl | rfl | rfl | rfl | rfl | rfl <;> rfl
end
/-- The bits of the one and not of the other. -/
def andN (x y : Nat) : Nat := x ^^^ (x &&& y)
theorem andN_bit (x y i : Nat) : (andN x y).testBit i = (x.testBit i && !y.testBit i) := by
  unfold andN
  rw [Nat.testBit_xor, Nat.testBit_and]
  cases x.testBit i <;> cases y.testBit i <;> rfl
theorem andN_lt {x y : Nat} (hx : x < 18446744073709551616) : andN x y < 18446744073709551616 := Nat.xor_lt_two_pow (n := 64) hx (Nat.lt_of_le_of_lt Nat.and_le_left hx)
theorem bits_or {x y : Nat} (hx : x < 18446744073709551616) (hy : y < 18446744073709551616) : bits .or .u64 (x : Int) (y : Int) = ((x ||| y : Nat) : Int) := bits_or_u64_nat x y hx hy
theorem bits_and {x y : Nat} (hx : x < 18446744073709551616) (hy : y < 18446744073709551616) : bits .and .u64 (x : Int) (y : Int) = ((x &&& y : Nat) : Int) := bits_and_u64_nat x y hx hy
theorem bits_andNot {x y : Nat} (hx : x < 18446744073709551616) (hy : y < 18446744073709551616) : bits .andNot .u64 (x : Int) (y : Int) = ((andN x y : Nat) : Int) := by
  have hX : (BitVec.ofInt 64 (x : Int)).toNat = x := by rw [BitVec.ofInt_natCast, BitVec.toNat_ofNat]; exact Nat.mod_eq_of_lt hx
  have hl := andN_lt (y := y) hx
  have e : (BitVec.ofInt 64 (x : Int) &&& ~~~BitVec.ofInt 64 (y : Int)).toNat = andN x y := by
    apply Nat.eq_of_testBit_eq
    intro i
    rw [andN_bit, BitVec.ofInt_natCast, BitVec.ofInt_natCast, BitVec.testBit_toNat, BitVec.getLsbD_and, BitVec.getLsbD_not, BitVec.getLsbD_ofNat, BitVec.getLsbD_ofNat]
    by_cases h : i < 64
    · simp [h]
    · have : x.testBit i = false := Nat.testBit_lt_two_pow (Nat.lt_of_lt_of_le hx (Nat.pow_le_pow_right (n := 2) (by decide) (Nat.le_of_not_lt h)))
      simp [h, this]
  show IntKind.u64.wrap ((BitVec.ofInt 64 (x : Int) &&& ~~~BitVec.ofInt 64 (y : Int)).toNat : Int) = _
  rw [e, IntKind.wrap_u64]
  omega
theorem Fit.at {f : Sol} (h : Fit f) (i : Nat) : f i < 18446744073709551616 := h i
theorem Fit.or {f g : Sol} (hf : Fit f) (hg : Fit g) : Fit fun i => f i ||| g i := fun i => Nat.or_lt_two_pow (n := 64) (hf i) (hg i)
theorem Fit.and {f g : Sol} (hf : Fit f) : Fit fun i => f i &&& g i := fun i => Nat.lt_of_le_of_lt Nat.and_le_left (hf i)
/-- A solid stored cell by cell. -/
abbrev put8 (W : World) (B : Nat) (g : Sol) : World := (((((((W.setCell ⟨B, 0, none⟩ (.int .u64 (g 0))).setCell ⟨B, 1, none⟩ (.int .u64 (g 1))).setCell ⟨B, 2, none⟩ (.int .u64 (g 2))).setCell ⟨B, 3, none⟩ (.int .u64 (g 3))).setCell ⟨B, 4, none⟩ (.int .u64 (g 4))).setCell ⟨B, 5, none⟩ (.int .u64 (g 5))).setCell ⟨B, 6, none⟩ (.int .u64 (g 6))).setCell ⟨B, 7, none⟩ (.int .u64 (g 7))
theorem BoxK.congr {T : TypeId} {W : World} {B : Nat} {f g : Sol} (h : BoxK T W B f) (e : ∀ k, k < 8 → f k = g k) : BoxK T W B g := by
  unfold BoxK at *
  rw [h, e 0 (by omega), e 1 (by omega), e 2 (by omega), e 3 (by omega), e 4 (by omega), e 5 (by omega), e 6 (by omega), e 7 (by omega)]
theorem BoxK.put {T : TypeId} {W : World} {B : Nat} {f : Sol} (h : BoxK T W B f) (g : Sol) : BoxK T (put8 W B g) B g := by
  refine ((((((((h.set (k := 0) (by omega) (g 0)).set (k := 1) (by omega) (g 1)).set (k := 2) (by omega) (g 2)).set (k := 3) (by omega) (g 3)).set (k := 4) (by omega) (g 4)).set (k := 5) (by omega) (g 5)).set (k := 6) (by omega) (g 6)).set (k := 7) (by omega) (g 7)).congr fun k hk => ?_
  rcases lt8 hk with rfl | rfl | rfl | rfl | rfl | rfl | rfl | rfl <;> rfl
theorem BoxK.putOther {T : TypeId} {W : World} {B b : Nat} {f : Sol} (h : BoxK T W B f) (hne : B ≠ b) (g : Sol) : BoxK T (put8 W b g) B f := (((((((h.other hne _).other hne _).other hne _).other hne _).other hne _).other hne _).other hne _).other hne _
theorem sol_congr {f g : Sol} (e : ∀ k, k < 8 → f k = g k) : sol f = sol g := by
  unfold sol
  rw [e 0 (by omega), e 1 (by omega), e 2 (by omega), e 3 (by omega), e 4 (by omega), e 5 (by omega), e 6 (by omega), e 7 (by omega)]
theorem res_s {fn : Func} {t : Tmp} {tmps : Array Value} {W : World} {B : Nat} {f : Sol} (hB : BoxS W B f) (h : fn.results = #[.cell t 25]) (ht : tmps[t]?.getD undef = .pointer (some ⟨B, 0, none⟩)) :
    (results fn tmps).run Tryz.prog W = .ok (sol f) W := by
  have c0 := hB.cell (k := 0) (by omega)
  have c1 := hB.cell (k := 1) (by omega)
  have c2 := hB.cell (k := 2) (by omega)
  have c3 := hB.cell (k := 3) (by omega)
  have c4 := hB.cell (k := 4) (by omega)
  have c5 := hB.cell (k := 5) (by omega)
  have c6 := hB.cell (k := 6) (by omega)
  have c7 := hB.cell (k := 7) (by omega)
  simp [results, h, ht, go_sem, c0, c1, c2, c3, c4, c5, c6, c7]
theorem res_se {fn : Func} {t u : Tmp} {tmps : Array Value} {W : World} {B : Nat} {f : Sol} (hB : BoxS W B f) (h : fn.results = #[.cell t 25, .tmp u]) (ht : tmps[t]?.getD undef = .pointer (some ⟨B, 0, none⟩)) :
    (results fn tmps).run Tryz.prog W = .ok (.tuple #[sol f, tmps.getD u undef]) W := by
  have c0 := hB.cell (k := 0) (by omega)
  have c1 := hB.cell (k := 1) (by omega)
  have c2 := hB.cell (k := 2) (by omega)
  have c3 := hB.cell (k := 3) (by omega)
  have c4 := hB.cell (k := 4) (by omega)
  have c5 := hB.cell (k := 5) (by omega)
  have c6 := hB.cell (k := 6) (by omega)
  have c7 := hB.cell (k := 7) (by omega)
  simp [results, h, ht, go_sem, c0, c1, c2, c3, c4, c5, c6, c7]
theorem res_d {fn : Func} {t : Tmp} {tmps : Array Value} {W : World} {B : Nat} {f : Sol} (hB : BoxD W B f) (h : fn.results = #[.cell t 88]) (ht : tmps[t]?.getD undef = .pointer (some ⟨B, 0, none⟩)) :
    (results fn tmps).run Tryz.prog W = .ok (sol f) W := by
  have c0 := hB.cell (k := 0) (by omega)
  have c1 := hB.cell (k := 1) (by omega)
  have c2 := hB.cell (k := 2) (by omega)
  have c3 := hB.cell (k := 3) (by omega)
  have c4 := hB.cell (k := 4) (by omega)
  have c5 := hB.cell (k := 5) (by omega)
  have c6 := hB.cell (k := 6) (by omega)
  have c7 := hB.cell (k := 7) (by omega)
  simp [results, h, ht, go_sem, c0, c1, c2, c3, c4, c5, c6, c7]
theorem res_de {fn : Func} {t u : Tmp} {tmps : Array Value} {W : World} {B : Nat} {f : Sol} (hB : BoxD W B f) (h : fn.results = #[.cell t 88, .tmp u]) (ht : tmps[t]?.getD undef = .pointer (some ⟨B, 0, none⟩)) :
    (results fn tmps).run Tryz.prog W = .ok (.tuple #[sol f, tmps.getD u undef]) W := by
  have c0 := hB.cell (k := 0) (by omega)
  have c1 := hB.cell (k := 1) (by omega)
  have c2 := hB.cell (k := 2) (by omega)
  have c3 := hB.cell (k := 3) (by omega)
  have c4 := hB.cell (k := 4) (by omega)
  have c5 := hB.cell (k := 5) (by omega)
  have c6 := hB.cell (k := 6) (by omega)
  have c7 := hB.cell (k := 7) (by omega)
  simp [results, h, ht, go_sem, c0, c1, c2, c3, c4, c5, c6, c7]
end Go.Proofs.YtoajocgfmbakjaaGreatDoor
