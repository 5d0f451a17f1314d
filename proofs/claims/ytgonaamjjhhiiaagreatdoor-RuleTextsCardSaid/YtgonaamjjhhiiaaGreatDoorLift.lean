/-
  From a walk of a statement's function to its row: the tables that lie as laid, fractions and rules among the arguments.
-/
import Derived.Test.YtgonaamjjhhiiaaGreatDoorRows
import Derived.Test.YtgonaamjjhhiiaaGreatDoorTie
import Derived.Test.YtgonaamjjhhiiaaGreatDoorWrite
import Derived.WalkKit
import Derived.ProofKit
import Derived.LaidMore
import Derived.OpenShut
import Derived.Stop.Joined
import Derived.Stop.LaidErr
import Derived.Lib.LaidTab
import Derived.Lib.SmallJoins
import Derived.Below
import Derived.Carry
import Derived.ChangeOld
import Derived.SevenTiedAt
set_option linter.unusedVariables false
set_option linter.unusedSimpArgs false
namespace Go.Proofs.YtgonaamjjhhiiaaGreatDoor
set_option maxRecDepth 100000
open Go Go.ChangeShapes Go.WideShapes Go.ChangeAt Go.RowKit

theorem own : ownKnob Tryz.prog.godebug = none := by kernel_rfl
theorem laidOut : laidOutB Tryz.prog = true := by kernel_rfl
theorem gPow : Tryz.prog.globalNamed "internal/strconv.uint64pow10" = some 3 := by kernel_rfl
theorem tPow : (Tryz.prog.globals[3]?).map (·.type) = some 125 := by kernel_rfl
theorem cPow : Tryz.prog.cellsOf 125 = 20 := by kernel_rfl
theorem cU64 : Tryz.prog.cellsOf 111 = 1 := by kernel_rfl
theorem cFrac : Tryz.prog.cellsOf 23 = 2 := by kernel_rfl
theorem cRule : Tryz.prog.cellsOf 43 = 4 := by kernel_rfl
theorem dPow : (Rows.laid_internal_strconv_uint64pow10 : DataW Unit) = Lib.tabData .u64 Lib.pow10Tab := by kernel_rfl

abbrev laid3 : List (String × DataW Unit) := [("math/bits.deBruijn32tab", Rows.laid_math_bits_deBruijn32tab), ("math/bits.deBruijn64tab", Rows.laid_math_bits_deBruijn64tab), ("internal/strconv.uint64pow10", Rows.laid_internal_strconv_uint64pow10)]
theorem pow_of_laid {W : World} (h : laidMetH Tryz.prog laid3 W) : Pow10 W := by
  rw [MakeChecks.laidMetH_plain _ _ _ (by kernel_rfl)] at h
  have h2 := h.tail.tail
  rw [dPow] at h2
  exact Lib.tabBelow_of_tabIs (Lib.tabIs_of_head gPow tPow Tryz.underlying125 Tryz.underlying111 cU64 cPow h2)
/-- The door's own heap meets the condition. -/
theorem door_met (os : Os) (args : Array Value) : laidMetH Tryz.prog laid3 ((World.doorLaid Tryz.prog 24 os).forCall (fun _ _ => 0) ⟨#[], args, []⟩).memory :=
  laidMetH_of_parts3 (fuel := 8) (laidMet_of_run' 8 (by kernel_rfl) (by kernel_rfl)) (by kernel_rfl) (by kernel_rfl)

theorem i64_of_wf {n : Int} (h : (Lit.int .i64 n).wf = true) : I64 n := bounds_i64 h

section
variable {H : Type} {enc : TypeId × Value → H} {W : World} {base : Nat} {v : Value} {d : DataW H} {p : List MemPlace}
theorem open_num (hv : Value.okWide Tryz.prog W .any base 3 v) (h : DataW.Trod enc Tryz.prog W 0 (fun _ => true) true 3 v d p) : ∃ n : Int, v = .int .i64 n ∧ I64 n := by
  obtain ⟨n, rfl, _, _, hw⟩ := open_int Tryz.underlying3 hv h
  exact ⟨n, rfl, i64_of_wf hw⟩
theorem open_frac (hv : Value.okWide Tryz.prog W .any base 23 v) (h : DataW.Trod enc Tryz.prog W 0 (fun _ => true) true 23 v d p) : ∃ n k : Int, v = .agg #[.int .i64 (n), .int .i64 (k)] ∧ W2 n k := by
  obtain ⟨v0, v1, y0, y1, m, rfl, _, _, h0, h1⟩ := Joins.open_agg2 Tryz.underlying23 (by kernel_rfl) cFrac hv h
  obtain ⟨a, ea, _, wa⟩ := DataW.trod_int Tryz.underlying3 h0
  obtain ⟨b, eb, _, wb⟩ := DataW.trod_int Tryz.underlying3 h1
  simp at ea eb
  subst ea eb
  exact ⟨a, b, rfl, i64_of_wf wa, i64_of_wf wb⟩
theorem trod_frac {fuel : Nat} {x y : Value} {z : DataW H × List MemPlace} (h : DataW.trod enc Tryz.prog W 0 (fun _ => true) true fuel 23 [x, y] = some z) : ∃ n k : Int, x = .int .i64 n ∧ y = .int .i64 k ∧ W2 n k := by
  obtain ⟨xs, m, _, _, _, hl, hg⟩ := DataW.trod_struct Tryz.underlying23 h
  have hl' : xs.length = 2 := hl
  match xs, hl' with
  | [z0, z1], _ =>
    have h0 := hg 0 _ rfl
    have h1 := hg 1 _ rfl
    obtain ⟨a, ea, _, wa⟩ := DataW.trod_int Tryz.underlying3 (show DataW.trod enc Tryz.prog W 0 (fun _ => true) true m 3 [x] = some z0 from h0)
    obtain ⟨b, eb, _, wb⟩ := DataW.trod_int Tryz.underlying3 (show DataW.trod enc Tryz.prog W 0 (fun _ => true) true m 3 [y] = some z1 from h1)
    simp at ea eb
    exact ⟨a, b, ea, eb, i64_of_wf wa, i64_of_wf wb⟩
theorem open_rule (hv : Value.okWide Tryz.prog W .any base 43 v) (h : DataW.Trod enc Tryz.prog W 0 (fun _ => true) true 43 v d p) : ∃ a b c k : Int, v = .agg #[.int .i64 (a), .int .i64 (b), .int .i64 (c), .int .i64 (k)] ∧ W2 a b ∧ W2 c k := by
  obtain ⟨cs, rfl, hsz⟩ := okWide_struct Tryz.underlying43 hv
  rw [cRule] at hsz
  obtain ⟨l⟩ := cs
  match l, hsz with
  | [c0, c1, c2, c3], _ =>
    obtain ⟨fuel, hf⟩ := h
    obtain ⟨xs, m, _, _, _, hl, hg⟩ := DataW.trod_struct Tryz.underlying43 hf
    have hl' : xs.length = 2 := hl
    match xs, hl' with
    | [z0, z1], _ =>
      have h0 := hg 0 _ rfl
      have h1 := hg 1 _ rfl
      obtain ⟨a, b, rfl, rfl, wa⟩ := trod_frac (show DataW.trod enc Tryz.prog W 0 (fun _ => true) true m 23 [c0, c1] = some z0 from h0)
      obtain ⟨c, k, rfl, rfl, wc⟩ := trod_frac (show DataW.trod enc Tryz.prog W 0 (fun _ => true) true m 23 [c2, c3] = some z1 from h1)
      exact ⟨a, b, c, k, rfl, wa, wc⟩
end
end Go.Proofs.YtgonaamjjhhiiaaGreatDoor
