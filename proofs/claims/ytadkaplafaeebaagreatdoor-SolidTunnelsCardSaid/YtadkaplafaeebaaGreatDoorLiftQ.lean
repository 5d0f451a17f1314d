/-
  From a walk of a statement's function to its row: the table that lies as laid, solids and numbers among the arguments.
-/
import Derived.Test.YtadkaplafaeebaaGreatDoorRows
import Derived.Test.YtadkaplafaeebaaGreatDoorTie
import Derived.Test.YtadkaplafaeebaaGreatDoorPkBQ
import Derived.Lay
import Derived.WalkKit
import Derived.ProofKit
import Derived.LaidMore
import Derived.OpenShut
import Derived.Stop.Joined
import Derived.Stop.LaidErr
import Derived.Lib.LaidTab
import Derived.Lib.SmallJoins
import Derived.Below
import Derived.Carry
import Derived.ChangeOld
import Derived.SevenTiedAt
set_option linter.unusedVariables false
set_option linter.unusedSimpArgs false
namespace Go.Proofs.YtadkaplafaeebaaGreatDoor
set_option maxRecDepth 100000
open Go Go.ChangeShapes Go.WideShapes Go.ChangeAt Go.RowKit

theorem own : ownKnob Tryz.prog.godebug = none := by kernel_rfl
theorem laidOut : laidOutB Tryz.prog = true := by kernel_rfl
theorem gTab : Tryz.prog.globalNamed "math/bits.deBruijn64tab" = some 0 := by kernel_rfl
theorem tTab : (Tryz.prog.globals[0]?).map (·.type) = some 144 := by kernel_rfl
theorem cTab : Tryz.prog.cellsOf 144 = 64 := by kernel_rfl
theorem cU8 : Tryz.prog.cellsOf 5 = 1 := by kernel_rfl
theorem cU64 : Tryz.prog.cellsOf 22 = 1 := by kernel_rfl
theorem cMot : Tryz.prog.cellsOf 46 = 4 := by kernel_rfl
abbrev N64 (n : Int) : Prop := -9223372036854775808 ≤ n ∧ n ≤ 9223372036854775807
theorem cSol : Tryz.prog.cellsOf 24 = 8 := by kernel_rfl
theorem dTab : (Rows.laid_math_bits_deBruijn64tab : DataW Unit) = Lib.tabData .u8 (Lib.deBruijn64tab.map Int.ofNat) := by kernel_rfl

theorem tab_int : ∀ j, j < 64 → (Lib.deBruijn64tab.map Int.ofNat).getD j 0 = ((Lib.deBruijn64tab.getD j 0 : Nat) : Int) := by decide +kernel
abbrev laid7 : List (String × DataW Unit) := [("math/bits.deBruijn32tab", Rows.laid_math_bits_deBruijn32tab), ("math/bits.deBruijn64tab", Rows.laid_math_bits_deBruijn64tab), ("internal/strconv.uint64pow10", Rows.laid_internal_strconv_uint64pow10), ("unicode/utf8.acceptRanges", Rows.laid_unicode_utf8_acceptRanges), ("strconv.ErrRange", Rows.laid_strconv_ErrRange), ("strconv.ErrSyntax", Rows.laid_strconv_ErrSyntax), ("unicode/utf8.first", Rows.laid_unicode_utf8_first)]
theorem tab_of_laid {W : World} (h : laidMetH Tryz.prog laid7 W) : Tab64 W := by
  rw [MakeChecks.laidMetH_plain _ _ _ (by kernel_rfl)] at h
  have h2 := h.tail
  rw [dTab] at h2
  have h3 := Lib.tabIs_of_head gTab tTab Tryz.underlying144 Tryz.underlying5 cU8 cTab h2
  intro j hj
  have h4 := h3.cell gTab j (Nat.lt_of_lt_of_eq hj (by rfl))
  rw [h4, tab_int j hj]
section
variable {H : Type} {enc : TypeId × Value → H} {W : World} {base : Nat} {v : Value} {d : DataW H} {p : List MemPlace}
theorem open_num (hv : Value.okWide Tryz.prog W .any base 3 v) (h : DataW.Trod enc Tryz.prog W 0 (fun _ => true) true 3 v d p) : ∃ n : Int, v = .int .i64 n ∧ N64 n := by
  obtain ⟨n, rfl, _, _, hw⟩ := open_int Tryz.underlying3 hv h
  exact ⟨n, rfl, bounds_i64 hw⟩
theorem int_of {x : DataW H × List MemPlace} {c : Value} {m : Nat} (h : DataW.trod enc Tryz.prog W 0 (fun _ => true) true m 3 [c] = some x) : ∃ n : Int, c = .int .i64 n ∧ N64 n := by
  obtain ⟨a, ea, _, wa⟩ := DataW.trod_int Tryz.underlying3 h
  have hb := bounds_i64 wa
  simp at ea
  subst ea
  exact ⟨a, rfl, hb⟩
theorem open_mot (hv : Value.okWide Tryz.prog W .any base 46 v) (h : DataW.Trod enc Tryz.prog W 0 (fun _ => true) true 46 v d p) : ∃ a b c k : Int, v = .agg #[.int .i64 (a), .int .i64 (b), .int .i64 (c), .int .i64 (k)] ∧ N64 a ∧ N64 b ∧ N64 c ∧ N64 k := by
  obtain ⟨cs, rfl, hsz⟩ := okWide_struct Tryz.underlying46 hv
  rw [cMot] at hsz
  obtain ⟨l⟩ := cs
  match l, hsz with
  | [c0, c1, c2, c3], _ =>
    obtain ⟨fuel, hf⟩ := h
    obtain ⟨xs, m, _, _, _, hl, hg⟩ := DataW.trod_struct Tryz.underlying46 hf
    have hl' : xs.length = 4 := hl
    match xs, hl' with
    | [z0, z1, z2, z3], _ =>
      obtain ⟨a, rfl, wa⟩ := int_of (show DataW.trod enc Tryz.prog W 0 (fun _ => true) true m 3 [c0] = some z0 from hg 0 _ rfl)
      obtain ⟨b, rfl, wb⟩ := int_of (show DataW.trod enc Tryz.prog W 0 (fun _ => true) true m 3 [c1] = some z1 from hg 1 _ rfl)
      obtain ⟨c, rfl, wc⟩ := int_of (show DataW.trod enc Tryz.prog W 0 (fun _ => true) true m 3 [c2] = some z2 from hg 2 _ rfl)
      obtain ⟨k, rfl, wk⟩ := int_of (show DataW.trod enc Tryz.prog W 0 (fun _ => true) true m 3 [c3] = some z3 from hg 3 _ rfl)
      exact ⟨a, b, c, k, rfl, wa, wb, wc, wk⟩
theorem word_of {x : DataW H × List MemPlace} {c : Value} {m : Nat} (h : DataW.trod enc Tryz.prog W 0 (fun _ => true) true m 22 [c] = some x) : ∃ n : Nat, c = .int .u64 n ∧ n < 18446744073709551616 := by
  obtain ⟨a, ea, _, wa⟩ := DataW.trod_int Tryz.underlying22 h
  have hb := bounds_u64 wa
  simp at ea
  subst ea
  exact ⟨a.toNat, by rw [Int.toNat_of_nonneg hb.1], by omega⟩
theorem open_sol (hv : Value.okWide Tryz.prog W .any base 24 v) (h : DataW.Trod enc Tryz.prog W 0 (fun _ => true) true 24 v d p) : ∃ f : Sol, v = sol f ∧ Fit f := by
  have hv' := hv
  simp only [Value.okWide, Tryz.underlying24] at hv'
  obtain ⟨cs, rfl, hsz, _⟩ := hv'
  rw [cSol] at hsz
  obtain ⟨l⟩ := cs
  match l, hsz with
  | [c0, c1, c2, c3, c4, c5, c6, c7], _ =>
    obtain ⟨fuel, hf⟩ := h
    obtain ⟨xs, m, _, _, _, hl, hg⟩ := DataW.trod_array Tryz.underlying24 hf
    have hl' : xs.length = 8 := hl
    match xs, hl' with
    | [z0, z1, z2, z3, z4, z5, z6, z7], _ =>
      rw [cU64] at hg
      obtain ⟨n0, rfl, b0⟩ := word_of (show DataW.trod enc Tryz.prog W 0 (fun _ => true) true m 22 [c0] = some z0 from hg 0 (by omega))
      obtain ⟨n1, rfl, b1⟩ := word_of (show DataW.trod enc Tryz.prog W 0 (fun _ => true) true m 22 [c1] = some z1 from hg 1 (by omega))
      obtain ⟨n2, rfl, b2⟩ := word_of (show DataW.trod enc Tryz.prog W 0 (fun _ => true) true m 22 [c2] = some z2 from hg 2 (by omega))
      obtain ⟨n3, rfl, b3⟩ := word_of (show DataW.trod enc Tryz.prog W 0 (fun _ => true) true m 22 [c3] = some z3 from hg 3 (by omega))
      obtain ⟨n4, rfl, b4⟩ := word_of (show DataW.trod enc Tryz.prog W 0 (fun _ => true) true m 22 [c4] = some z4 from hg 4 (by omega))
      obtain ⟨n5, rfl, b5⟩ := word_of (show DataW.trod enc Tryz.prog W 0 (fun _ => true) true m 22 [c5] = some z5 from hg 5 (by omega))
      obtain ⟨n6, rfl, b6⟩ := word_of (show DataW.trod enc Tryz.prog W 0 (fun _ => true) true m 22 [c6] = some z6 from hg 6 (by omega))
      obtain ⟨n7, rfl, b7⟩ := word_of (show DataW.trod enc Tryz.prog W 0 (fun _ => true) true m 22 [c7] = some z7 from hg 7 (by omega))
      refine ⟨fun k => match k with | 0 => n0 | 1 => n1 | 2 => n2 | 3 => n3 | 4 => n4 | 5 => n5 | 6 => n6 | 7 => n7 | _ => 0, rfl, fun k => ?_⟩
      match k with
      | 0 => exact b0 | 1 => exact b1 | 2 => exact b2 | 3 => exact b3 | 4 => exact b4 | 5 => exact b5 | 6 => exact b6 | 7 => exact b7
      | _ + 8 => show 0 < 18446744073709551616; omega
end
end Go.Proofs.YtadkaplafaeebaaGreatDoor
