/-
  When a guarded operation is wanted.
-/
import Derived.Test.YtadkaplafaeebaaGreatDoorPkPQ
import Derived.BigQuiet
import Derived.Test.YtadkaplafaeebaaGreatDoorPkXQ
import Derived.Test.YtadkaplafaeebaaGreatDoorPkRBQ
set_option linter.unusedVariables false
set_option linter.unusedSimpArgs false
namespace Go.Proofs.YtadkaplafaeebaaGreatDoor
open Go Go.RowKit

theorem wanted_at {ops : Array Oper} {o : Oper} {tmps : Array Value} {j t : Nat} {b : Bool} (hg : o.guard = some (j, b)) (hd : dstR ops j = some t) (h : tmps[t]? = some (.bool b)) : Region.wanted o (yielded ops tmps) = true := by
  unfold Region.wanted
  rw [hg]
  have e : yielded ops tmps j = some b := by
    unfold yielded
    rw [show (ops[j]?).bind (·.dst) = some t from hd]
    simp [h]
  simp [e]
end Go.Proofs.YtadkaplafaeebaaGreatDoor
/-
  A drawn region walked once: operations that are passed over, all at once.
-/
set_option linter.unusedVariables false
set_option linter.unusedSimpArgs false
namespace Go.Proofs.YtadkaplafaeebaaGreatDoor
open Go Go.RowKit

section
variable {P : Program} {ops : Array Oper} {C : World → Prop} {Q : Act → Prop}
def offB (j : Nat) (b : Bool) (t : Nat) (l : List Oper) : Bool := l.all fun o => decide (o.guard = some (j, b)) && decide (o.dst ≠ some t)
def putU (l : List Oper) (a : Act) : Act := l.foldl (fun a o => a.put o.dst undef) a
theorem put_keep {a : Act} {d : Option Tmp} {t : Nat} (v : Value) (h : d ≠ some t) : (a.put d v).tmps[t]? = a.tmps[t]? := by
  cases d with
  | none => rfl
  | some d =>
    show (a.tmps.setIfInBounds d v)[t]? = a.tmps[t]?
    rw [Array.getElem?_setIfInBounds]
    rw [if_neg (fun e => h (by rw [e]))]
theorem wpQuiet_offs (j : Nat) (b : Bool) (t : Nat) (hd : dstR ops j = some t) : ∀ (l rest : List Oper) (a : Act), offB j b t l = true → a.tmps[t]? = some (.bool (!b)) → wpQuiet P ops C Q rest (putU l a) → wpQuiet P ops C Q (l ++ rest) a
  | [], rest, a, _, _, h => h
  | o :: l, rest, a, hl, ht, h => by
    unfold offB at hl
    rw [List.all_cons, Bool.and_eq_true, Bool.and_eq_true] at hl
    obtain ⟨⟨h1, h2⟩, h3⟩ := hl
    have h1 := of_decide_eq_true h1
    have h2 := of_decide_eq_true h2
    have e : yielded ops a.tmps j = some (!b) := by
      unfold yielded
      rw [show (ops[j]?).bind (·.dst) = some t from hd]
      simp [ht]
    refine BigFrame.wpQuiet_skip ?_ (wpQuiet_offs j b t hd l rest _ h3 (by rw [put_keep _ h2]; exact ht) h)
    unfold Region.wanted
    rw [h1]
    simp only [e]
    cases b <;> rfl
theorem wpQuiet_off (n j : Nat) (b : Bool) (t : Nat) {L : List Oper} {a : Act} (hd : dstR ops j = some t) (hl : offB j b t (L.take n) = true) (ht : a.tmps[t]? = some (.bool (!b))) (h : wpQuiet P ops C Q (L.drop n) (putU (L.take n) a)) : wpQuiet P ops C Q L a := by
  have := wpQuiet_offs (P := P) (C := C) (Q := Q) j b t hd (L.take n) (L.drop n) a hl ht h
  rwa [List.take_append_drop] at this
end
end Go.Proofs.YtadkaplafaeebaaGreatDoor
/-
  Motions as maps of places; the motion that is told by four points: mathematics.
-/
set_option linter.unusedVariables false
set_option linter.unusedSimpArgs false
namespace Go.Proofs.YtadkaplafaeebaaGreatDoor
open Go Go.RowKit

abbrev e0 : I3 := (0, 0, 0)
abbrev e1 : I3 := (1, 0, 0)
abbrev e2 : I3 := (0, 1, 0)
abbrev e3 : I3 := (0, 0, 1)
end Go.Proofs.YtadkaplafaeebaaGreatDoor
/-
  The reference's carried and corners.
-/
set_option linter.unusedVariables false
set_option linter.unusedSimpArgs false
namespace Go.Proofs.YtadkaplafaeebaaGreatDoor
open Go Go.RowKit

abbrev Box12 (W : World) (b : Nat) (a0 a1 a2 b0 b1 b2 c0 c1 c2 d0 d1 d2 : Int) : Prop := W.heap[b]? = some (.cells #[.int .i64 (a0), .int .i64 (a1), .int .i64 (a2), .int .i64 (b0), .int .i64 (b1), .int .i64 (b2), .int .i64 (c0), .int .i64 (c1), .int .i64 (c2), .int .i64 (d0), .int .i64 (d1), .int .i64 (d2)] 96 (0, 0))
end Go.Proofs.YtadkaplafaeebaaGreatDoor
/-
  The reference's corners and of.
-/
set_option linter.unusedVariables false
set_option linter.unusedSimpArgs false
namespace Go.Proofs.YtadkaplafaeebaaGreatDoor
open Go Go.RowKit

abbrev v12 (a : Nat → I3) : Value := .agg #[.int .i64 ((a 0).1), .int .i64 ((a 0).2.1), .int .i64 ((a 0).2.2), .int .i64 ((a 1).1), .int .i64 ((a 1).2.1), .int .i64 ((a 1).2.2), .int .i64 ((a 2).1), .int .i64 ((a 2).2.1), .int .i64 ((a 2).2.2), .int .i64 ((a 3).1), .int .i64 ((a 3).2.1), .int .i64 ((a 3).2.2)]
abbrev B12 (W : World) (b : Nat) (a : Nat → I3) : Prop := Box12 W b (a 0).1 (a 0).2.1 (a 0).2.2 (a 1).1 (a 1).2.1 (a 1).2.2 (a 2).1 (a 2).2.1 (a 2).2.2 (a 3).1 (a 3).2.1 (a 3).2.2
theorem B12.cells {W : World} {b : Nat} {a : Nat → I3} (h : B12 W b a) :
    ((W.cell? ⟨b, 0, none⟩ = some (.int .i64 (a 0).1) ∧ W.cell? ⟨b, 1, none⟩ = some (.int .i64 (a 0).2.1) ∧ W.cell? ⟨b, 2, none⟩ = some (.int .i64 (a 0).2.2)) ∧
    (W.cell? ⟨b, 3, none⟩ = some (.int .i64 (a 1).1) ∧ W.cell? ⟨b, 4, none⟩ = some (.int .i64 (a 1).2.1) ∧ W.cell? ⟨b, 5, none⟩ = some (.int .i64 (a 1).2.2))) ∧
    (W.cell? ⟨b, 6, none⟩ = some (.int .i64 (a 2).1) ∧ W.cell? ⟨b, 7, none⟩ = some (.int .i64 (a 2).2.1) ∧ W.cell? ⟨b, 8, none⟩ = some (.int .i64 (a 2).2.2)) ∧
    (W.cell? ⟨b, 9, none⟩ = some (.int .i64 (a 3).1) ∧ W.cell? ⟨b, 10, none⟩ = some (.int .i64 (a 3).2.1) ∧ W.cell? ⟨b, 11, none⟩ = some (.int .i64 (a 3).2.2)) := by
  have h0 := blk_cell (k := 0) h; have h1 := blk_cell (k := 1) h; have h2 := blk_cell (k := 2) h; have h3 := blk_cell (k := 3) h
  have h4 := blk_cell (k := 4) h; have h5 := blk_cell (k := 5) h; have h6 := blk_cell (k := 6) h; have h7 := blk_cell (k := 7) h
  have h8 := blk_cell (k := 8) h; have h9 := blk_cell (k := 9) h; have h10 := blk_cell (k := 10) h; have h11 := blk_cell (k := 11) h
  simp only [List.getElem?_toArray, List.getElem?_cons_zero, List.getElem?_cons_succ] at h0 h1 h2 h3 h4 h5 h6 h7 h8 h9 h10 h11
  exact ⟨⟨⟨h0, h1, h2⟩, h3, h4, h5⟩, ⟨h6, h7, h8⟩, h9, h10, h11⟩
end Go.Proofs.YtadkaplafaeebaaGreatDoor
