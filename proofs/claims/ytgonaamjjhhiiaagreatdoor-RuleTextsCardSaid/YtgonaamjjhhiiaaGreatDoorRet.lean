/-
  What a function returns whose first results are structs of two numbers that lie in cells.
-/
import Derived.Test.YtgonaamjjhhiiaaGreatDoorNum
set_option linter.unusedVariables false
set_option linter.unusedSimpArgs false
namespace Go.Proofs.YtgonaamjjhhiiaaGreatDoor
open Go Go.RowKit

theorem res_q {fn : Func} {t : Tmp} (h : fn.results = #[.cell t 23]) {tmps : Array Value} {w : World} {b : Nat} {x y : Value} (ht : tmps[t]?.getD undef = .pointer (some ⟨b, 0, none⟩)) (h0 : w.cell? ⟨b, 0, none⟩ = some x) (h1 : w.cell? ⟨b, 1, none⟩ = some y) :
    (results fn tmps).run Tryz.prog w = .ok (.agg #[x, y]) w := by
  simp [results, h, ht, go_sem, h0, h1]
theorem res_r {fn : Func} {t : Tmp} (h : fn.results = #[.cell t 62]) {tmps : Array Value} {w : World} {b : Nat} {x y : Value} (ht : tmps[t]?.getD undef = .pointer (some ⟨b, 0, none⟩)) (h0 : w.cell? ⟨b, 0, none⟩ = some x) (h1 : w.cell? ⟨b, 1, none⟩ = some y) :
    (results fn tmps).run Tryz.prog w = .ok (.agg #[x, y]) w := by
  simp [results, h, ht, go_sem, h0, h1]
theorem res_qe {fn : Func} {t u : Tmp} (h : fn.results = #[.cell t 23, .tmp u]) {tmps : Array Value} {w : World} {b : Nat} {x y : Value} (ht : tmps[t]?.getD undef = .pointer (some ⟨b, 0, none⟩)) (h0 : w.cell? ⟨b, 0, none⟩ = some x) (h1 : w.cell? ⟨b, 1, none⟩ = some y) :
    (results fn tmps).run Tryz.prog w = .ok (.tuple #[.agg #[x, y], tmps.getD u undef]) w := by
  simp [results, h, ht, go_sem, h0, h1]
theorem res_qqe {fn : Func} {t s u : Tmp} (h : fn.results = #[.cell t 23, .cell s 23, .tmp u]) {tmps : Array Value} {w : World} {b c : Nat} {x y z v : Value} (ht : tmps[t]?.getD undef = .pointer (some ⟨b, 0, none⟩)) (hs : tmps[s]?.getD undef = .pointer (some ⟨c, 0, none⟩)) (h0 : w.cell? ⟨b, 0, none⟩ = some x) (h1 : w.cell? ⟨b, 1, none⟩ = some y) (h2 : w.cell? ⟨c, 0, none⟩ = some z) (h3 : w.cell? ⟨c, 1, none⟩ = some v) :
    (results fn tmps).run Tryz.prog w = .ok (.tuple #[.agg #[x, y], .agg #[z, v], tmps.getD u undef]) w := by
  simp [results, h, ht, hs, go_sem, h0, h1, h2, h3]
theorem res_rr {fn : Func} {t s : Tmp} (h : fn.results = #[.cell t 62, .cell s 62]) {tmps : Array Value} {w : World} {b c : Nat} {x y z v : Value} (ht : tmps[t]?.getD undef = .pointer (some ⟨b, 0, none⟩)) (hs : tmps[s]?.getD undef = .pointer (some ⟨c, 0, none⟩)) (h0 : w.cell? ⟨b, 0, none⟩ = some x) (h1 : w.cell? ⟨b, 1, none⟩ = some y) (h2 : w.cell? ⟨c, 0, none⟩ = some z) (h3 : w.cell? ⟨c, 1, none⟩ = some v) :
    (results fn tmps).run Tryz.prog w = .ok (.tuple #[.agg #[x, y], .agg #[z, v]]) w := by
  simp [results, h, ht, hs, go_sem, h0, h1, h2, h3]
theorem res_qq {fn : Func} {t s : Tmp} (h : fn.results = #[.cell t 23, .cell s 23]) {tmps : Array Value} {w : World} {b c : Nat} {x y z v : Value} (ht : tmps[t]?.getD undef = .pointer (some ⟨b, 0, none⟩)) (hs : tmps[s]?.getD undef = .pointer (some ⟨c, 0, none⟩)) (h0 : w.cell? ⟨b, 0, none⟩ = some x) (h1 : w.cell? ⟨b, 1, none⟩ = some y) (h2 : w.cell? ⟨c, 0, none⟩ = some z) (h3 : w.cell? ⟨c, 1, none⟩ = some v) :
    (results fn tmps).run Tryz.prog w = .ok (.tuple #[.agg #[x, y], .agg #[z, v]]) w := by
  simp [results, h, ht, hs, go_sem, h0, h1, h2, h3]
/-- One cell of a block that has been written, read again. -/
theorem cell_set {w : World} {a : Addr} {u v : Value} (h : w.cell? a = some u) : (w.setCell a v).cell? a = some v := World.cell?_setCell_same w a v h
end Go.Proofs.YtgonaamjjhhiiaaGreatDoor
