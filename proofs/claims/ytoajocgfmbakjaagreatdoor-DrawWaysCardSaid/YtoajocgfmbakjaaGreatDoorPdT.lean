/-
  A move among the arguments, opened.
-/
import Derived.Test.YtoajocgfmbakjaaGreatDoorPdI
set_option linter.unusedVariables false
set_option linter.unusedSimpArgs false
namespace Go.Proofs.YtoajocgfmbakjaaGreatDoor
open Go Go.ChangeShapes Go.WideShapes Go.ChangeAt Go.RowKit

section
variable {H : Type} {enc : TypeId × Value → H} {W : World} {base : Nat} {v : Value} {d : DataW H} {p : List MemPlace}
set_option maxRecDepth 100000 in
theorem open_mov (hv : Value.okWide Tryz.prog W .any base 40 v) (h : DataW.Trod enc Tryz.prog W 0 (fun _ => true) true 40 v d p) : ∃ a b c : Int, v = .agg #[.int .i64 (a), .int .i64 (b), .int .i64 (c)] ∧ N64 a ∧ N64 b ∧ N64 c := by
  obtain ⟨cs, rfl, hsz⟩ := okWide_struct Tryz.underlying40 hv
  obtain ⟨l⟩ := cs
  obtain ⟨fuel, hf⟩ := h
  obtain ⟨y, hy, hc⟩ := mov_cells hf
  have hc : l = [.int .i64 y.1, .int .i64 y.2.1, .int .i64 y.2.2] := hc
  subst hc
  exact ⟨y.1, y.2.1, y.2.2, rfl, hy⟩
end
end Go.Proofs.YtoajocgfmbakjaaGreatDoor
