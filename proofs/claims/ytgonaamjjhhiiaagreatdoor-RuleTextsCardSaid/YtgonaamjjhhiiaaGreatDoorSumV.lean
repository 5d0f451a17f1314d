/-
  What the four operations return for whatever fractions, by one name each; sums and products are the same in either order, and are taken back.
-/
import Derived.Test.YtgonaamjjhhiiaaGreatDoorDiv
import Derived.Test.YtgonaamjjhhiiaaGreatDoorMathD
import Derived.Test.YtgonaamjjhhiiaaGreatDoorField
set_option linter.unusedVariables false
set_option linter.unusedSimpArgs false
namespace Go.Proofs.YtgonaamjjhhiiaaGreatDoor
open Go Go.RowKit

def madeN (n d : Int) : Int := if lowOk n d = true then lowN n d else 0
def madeD (n d : Int) : Int := if lowOk n d = true then lowD n d else 0
def madeE (n d : Int) : Int := if lowOk n d = true then 0 else 10
def bothB (an ad bn bd : Int) : Bool := okQ an ad && okQ bn bd
def addN (an ad bn bd : Int) : Int := if bothB an ad bn bd = true then madeN (an * bd + bn * ad) (ad * bd) else 0
def addD (an ad bn bd : Int) : Int := if bothB an ad bn bd = true then madeD (an * bd + bn * ad) (ad * bd) else 0
def addE (an ad bn bd : Int) : Int := if bothB an ad bn bd = true then madeE (an * bd + bn * ad) (ad * bd) else 1
def subN (an ad bn bd : Int) : Int := if bothB an ad bn bd = true then madeN (an * bd - bn * ad) (ad * bd) else 0
def subD (an ad bn bd : Int) : Int := if bothB an ad bn bd = true then madeD (an * bd - bn * ad) (ad * bd) else 0
def subE (an ad bn bd : Int) : Int := if bothB an ad bn bd = true then madeE (an * bd - bn * ad) (ad * bd) else 1
def mulN (an ad bn bd : Int) : Int := if bothB an ad bn bd = true then madeN (an * bn) (ad * bd) else 0
def mulD (an ad bn bd : Int) : Int := if bothB an ad bn bd = true then madeD (an * bn) (ad * bd) else 0
def mulE (an ad bn bd : Int) : Int := if bothB an ad bn bd = true then madeE (an * bn) (ad * bd) else 1

theorem bothB_comm (an ad bn bd : Int) : bothB bn bd an ad = bothB an ad bn bd := Bool.and_comm _ _
theorem bothB_iff {an ad bn bd : Int} : bothB an ad bn bd = true ↔ okQ an ad = true ∧ okQ bn bd = true := by unfold bothB; rw [Bool.and_eq_true]
theorem add_comm3 (an ad bn bd : Int) : addN bn bd an ad = addN an ad bn bd ∧ addD bn bd an ad = addD an ad bn bd ∧ addE bn bd an ad = addE an ad bn bd := by
  unfold addN addD addE
  rw [bothB_comm, Int.add_comm (bn * ad), Int.mul_comm bd ad]
  exact ⟨rfl, rfl, rfl⟩
theorem mul_comm3 (an ad bn bd : Int) : mulN bn bd an ad = mulN an ad bn bd ∧ mulD bn bd an ad = mulD an ad bn bd ∧ mulE bn bd an ad = mulE an ad bn bd := by
  unfold mulN mulD mulE
  rw [bothB_comm, Int.mul_comm bn an, Int.mul_comm bd ad]
  exact ⟨rfl, rfl, rfl⟩

theorem Add_any (an ad bn bd : Int) (w : World) (h1 : W2 an ad) (h2 : W2 bn bd) :
    Calls Tryz.prog 19 #[.agg #[.int .i64 (an), .int .i64 (ad)], .agg #[.int .i64 (bn), .int .i64 (bd)]] w fun e w' => e = .returned (.tuple #[.agg #[.int .i64 (addN an ad bn bd), .int .i64 (addD an ad bn bd)], .int .i64 (addE an ad bn bd)]) ∧ Below w.heap.size w w' := by
  by_cases hb : bothB an ad bn bd = true
  · obtain ⟨ha, hb'⟩ := bothB_iff.1 hb
    by_cases hl : lowOk (an * bd + bn * ad) (ad * bd) = true
    · have h := Add_ok an ad bn bd w ha hb' hl
      rw [show lowN (an * bd + bn * ad) (ad * bd) = addN an ad bn bd by rw [addN, if_pos hb, madeN, if_pos hl], show lowD (an * bd + bn * ad) (ad * bd) = addD an ad bn bd by rw [addD, if_pos hb, madeD, if_pos hl]] at h
      rw [show addE an ad bn bd = 0 by rw [addE, if_pos hb, madeE, if_pos hl]]
      exact h
    · rw [addN, addD, addE, if_pos hb, if_pos hb, if_pos hb, madeN, madeD, madeE, if_neg hl, if_neg hl, if_neg hl]
      exact Add_bad an ad bn bd w ha hb' (by simpa using hl)
  · rw [addN, addD, addE, if_neg hb, if_neg hb, if_neg hb]
    exact Add_arg an ad bn bd w h1 h2 (by simpa [bothB] using hb)
end Go.Proofs.YtgonaamjjhhiiaaGreatDoor
