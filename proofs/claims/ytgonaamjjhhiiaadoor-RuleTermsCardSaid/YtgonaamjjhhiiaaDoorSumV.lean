/-
  What the four operations return for whatever fractions, by one name each; sums and products are the same in either order, and are taken back.
-/
import Derived.Test.YtgonaamjjhhiiaaDoorDiv
import Derived.Test.YtgonaamjjhhiiaaDoorMathD
import Derived.Test.YtgonaamjjhhiiaaDoorField
set_option linter.unusedVariables false
set_option linter.unusedSimpArgs false
namespace Go.Proofs.YtgonaamjjhhiiaaDoor
open Go Go.RowKit

def madeN (n d : Int) : Int := if lowOk n d = true then lowN n d else 0
def madeD (n d : Int) : Int := if lowOk n d = true then lowD n d else 0
def madeE (n d : Int) : Int := if lowOk n d = true then 0 else 10
def bothB (an ad bn bd : Int) : Bool := okQ an ad && okQ bn bd
def addN (an ad bn bd : Int) : Int := if bothB an ad bn bd = true then madeN (an * bd + bn * ad) (ad * bd) else 0
def addD (an ad bn bd : Int) : Int := if bothB an ad bn bd = true then madeD (an * bd + bn * ad) (ad * bd) else 0
def addE (an ad bn bd : Int) : Int := if bothB an ad bn bd = true then madeE (an * bd + bn * ad) (ad * bd) else 1
def subN (an ad bn bd : Int) : Int := if bothB an ad bn bd = true then madeN (an * bd - bn * ad) (ad * bd) else 0
def subD (an ad bn bd : Int) : Int := if bothB an ad bn bd = true then madeD (an * bd - bn * ad) (ad * bd) else 0
def subE (an ad bn bd : Int) : Int := if bothB an ad bn bd = true then madeE (an * bd - bn * ad) (ad * bd) else 1
def mulN (an ad bn bd : Int) : Int := if bothB an ad bn bd = true then madeN (an * bn) (ad * bd) else 0
def mulD (an ad bn bd : Int) : Int := if bothB an ad bn bd = true then madeD (an * bn) (ad * bd) else 0
def mulE (an ad bn bd : Int) : Int := if bothB an ad bn bd = true then madeE (an * bn) (ad * bd) else 1

theorem bothB_comm (an ad bn bd : Int) : bothB bn bd an ad = bothB an ad bn bd := Bool.and_comm _ _
theorem bothB_iff {an ad bn bd : Int} : bothB an ad bn bd = true ↔ okQ an ad = true ∧ okQ bn bd = true := by unfold bothB; rw [Bool.and_eq_true]
theorem add_comm3 (an ad bn bd : Int) : addN bn bd an ad = addN an ad bn bd ∧ addD bn bd an ad = addD an ad bn bd ∧ addE bn bd an ad = addE an ad bn bd := by
  unfold addN addD addE
  rw [bothB_comm, Int.add_comm (bn * ad), Int.mul_comm bd ad]
  exact ⟨rfl, rfl, rfl⟩
theorem mul_comm3 (an ad bn bd : Int) : mulN bn bd an ad = mulN an ad bn bd ∧ mulD bn bd an ad = mulD an ad bn bd ∧ mulE bn bd an ad = mulE an ad bn bd := by
  unfold mulN mulD mulE
  rw [bothB_comm, Int.mul_comm bn an, Int.mul_comm bd ad]
  exact ⟨rfl, rfl, rfl⟩

theorem Add_any (an ad bn bd : Int) (w : World) (h1 : W2 an ad) (h2 : W2 bn bd) :
    Calls Tryd.prog 29 #[.agg #[.int .i64 (an), .int .i64 (ad)], .agg #[.int .i64 (bn), .int .i64 (bd)]] w fun e w' => e = .returned (.tuple #[.agg #[.int .i64 (addN an ad bn bd), .int .i64 (addD an ad bn bd)], .int .i64 (addE an ad bn bd)]) ∧ Below w.heap.size w w' := by
  by_cases hb : bothB an ad bn bd = true
  · obtain ⟨ha, hb'⟩ := bothB_iff.1 hb
    by_cases hl : lowOk (an * bd + bn * ad) (ad * bd) = true
    · have h := Add_ok an ad bn bd w ha hb' hl
      rw [show lowN (an * bd + bn * ad) (ad * bd) = addN an ad bn bd by rw [addN, if_pos hb, madeN, if_pos hl], show lowD (an * bd + bn * ad) (ad * bd) = addD an ad bn bd by rw [addD, if_pos hb, madeD, if_pos hl]] at h
      rw [show addE an ad bn bd = 0 by rw [addE, if_pos hb, madeE, if_pos hl]]
      exact h
    · rw [addN, addD, addE, if_pos hb, if_pos hb, if_pos hb, madeN, madeD, madeE, if_neg hl, if_neg hl, if_neg hl]
      exact Add_bad an ad bn bd w ha hb' (by simpa using hl)
  · rw [addN, addD, addE, if_neg hb, if_neg hb, if_neg hb]
    exact Add_arg an ad bn bd w h1 h2 (by simpa [bothB] using hb)
theorem Sub_any (an ad bn bd : Int) (w : World) (h1 : W2 an ad) (h2 : W2 bn bd) :
    Calls Tryd.prog 18 #[.agg #[.int .i64 (an), .int .i64 (ad)], .agg #[.int .i64 (bn), .int .i64 (bd)]] w fun e w' => e = .returned (.tuple #[.agg #[.int .i64 (subN an ad bn bd), .int .i64 (subD an ad bn bd)], .int .i64 (subE an ad bn bd)]) ∧ Below w.heap.size w w' := by
  by_cases hb : bothB an ad bn bd = true
  · obtain ⟨ha, hb'⟩ := bothB_iff.1 hb
    by_cases hl : lowOk (an * bd - bn * ad) (ad * bd) = true
    · have h := Sub_ok an ad bn bd w ha hb' hl
      rw [show lowN (an * bd - bn * ad) (ad * bd) = subN an ad bn bd by rw [subN, if_pos hb, madeN, if_pos hl], show lowD (an * bd - bn * ad) (ad * bd) = subD an ad bn bd by rw [subD, if_pos hb, madeD, if_pos hl]] at h
      rw [show subE an ad bn bd = 0 by rw [subE, if_pos hb, madeE, if_pos hl]]
      exact h
    · rw [subN, subD, subE, if_pos hb, if_pos hb, if_pos hb, madeN, madeD, madeE, if_neg hl, if_neg hl, if_neg hl]
      exact Sub_bad an ad bn bd w ha hb' (by simpa using hl)
  · rw [subN, subD, subE, if_neg hb, if_neg hb, if_neg hb]
    exact Sub_arg an ad bn bd w h1 h2 (by simpa [bothB] using hb)
theorem Mul_any (an ad bn bd : Int) (w : World) (h1 : W2 an ad) (h2 : W2 bn bd) :
    Calls Tryd.prog 20 #[.agg #[.int .i64 (an), .int .i64 (ad)], .agg #[.int .i64 (bn), .int .i64 (bd)]] w fun e w' => e = .returned (.tuple #[.agg #[.int .i64 (mulN an ad bn bd), .int .i64 (mulD an ad bn bd)], .int .i64 (mulE an ad bn bd)]) ∧ Below w.heap.size w w' := by
  by_cases hb : bothB an ad bn bd = true
  · obtain ⟨ha, hb'⟩ := bothB_iff.1 hb
    by_cases hl : lowOk (an * bn) (ad * bd) = true
    · have h := Mul_ok an ad bn bd w ha hb' hl
      rw [show lowN (an * bn) (ad * bd) = mulN an ad bn bd by rw [mulN, if_pos hb, madeN, if_pos hl], show lowD (an * bn) (ad * bd) = mulD an ad bn bd by rw [mulD, if_pos hb, madeD, if_pos hl]] at h
      rw [show mulE an ad bn bd = 0 by rw [mulE, if_pos hb, madeE, if_pos hl]]
      exact h
    · rw [mulN, mulD, mulE, if_pos hb, if_pos hb, if_pos hb, madeN, madeD, madeE, if_neg hl, if_neg hl, if_neg hl]
      exact Mul_bad an ad bn bd w ha hb' (by simpa using hl)
  · rw [mulN, mulD, mulE, if_neg hb, if_neg hb, if_neg hb]
    exact Mul_arg an ad bn bd w h1 h2 (by simpa [bothB] using hb)

theorem add_back {an ad bn bd : Int} (he : addE an ad bn bd = 0) (w : World) :
    Calls Tryd.prog 18 #[.agg #[.int .i64 (addN an ad bn bd), .int .i64 (addD an ad bn bd)], .agg #[.int .i64 (bn), .int .i64 (bd)]] w fun e w' => e = .returned (.tuple #[.agg #[.int .i64 (an), .int .i64 (ad)], .int .i64 0]) ∧ Below w.heap.size w w' := by
  by_cases hb : bothB an ad bn bd = true
  · obtain ⟨ha, hb'⟩ := bothB_iff.1 hb
    by_cases hl : lowOk (an * bd + bn * ad) (ad * bd) = true
    · obtain ⟨s1, s2, s3⟩ := sub_add ha hb'
      obtain ⟨a1, _⟩ := okQ_iff.1 ha
      obtain ⟨b1, _⟩ := okQ_iff.1 hb'
      have hp : 1 ≤ ad * bd := Int.mul_pos (by omega) (by omega)
      rw [addN, addD, if_pos hb, if_pos hb, madeN, madeD, if_pos hl, if_pos hl]
      have h := Sub_ok (lowN (an * bd + bn * ad) (ad * bd)) (lowD (an * bd + bn * ad) (ad * bd)) bn bd w (by rw [okQ_low hp]; exact hl) hb' s3
      rw [s1, s2] at h
      exact h
    · rw [addE, if_pos hb, madeE, if_neg hl] at he; exact absurd he (by decide)
  · rw [addE, if_neg hb] at he; exact absurd he (by decide)
end Go.Proofs.YtgonaamjjhhiiaaDoor
