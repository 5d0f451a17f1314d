/-
  More plain facts on the tree of fractions: one step of the search, with the bounds of all that it reckons.
-/
import Derived.Test.YtgonaamjjhhiiaaGreatDoorMath
set_option linter.unusedSimpArgs false
set_option linter.unusedVariables false
namespace Go.Proofs.YtgonaamjjhhiiaaGreatDoor

/-- A range with what the search asks of it. -/
structure Rng (ln ld hn hd m F : Int) : Prop where
  ld1 : 1 ≤ ld
  ld2 : ld ≤ 1000000
  hd1 : 1 ≤ hd
  hd2 : hd ≤ 1000000
  ln1 : -1000000000 ≤ ln
  ln2 : ln ≤ 1000000000
  hn1 : -1000000000 ≤ hn
  hn2 : hn ≤ 1000000000
  m1 : 1 ≤ m
  m2 : m ≤ 1000000
  fl : F * ld < ln
  fh : hn < (F + 1) * hd
  fl' : ln < (F + 1) * ld
  fh' : F * hd < hn
  F1 : -1000000000 ≤ F
  F2 : F ≤ 1000000000
  le : ln * hd ≤ hn * ld

def Big (n : Int) : Prop := -4004000000000000 ≤ n ∧ n ≤ 4004000000000000

theorem Srch.start {ln ld hn hd m F : Int} (g : Rng ln ld hn hd m F) : Srch ln ld hn hd m F F 1 (F + 1) 1 :=
  ⟨by omega, by omega, g.m1, g.m1, by omega, by have := g.fl; omega, by have := g.fh; omega, by omega, by omega⟩

theorem Srch.mid_bds {ln ld hn hd m F a b c e : Int} (g : Rng ln ld hn hd m F) (h : Srch ln ld hn hd m F a b c e) :
    (Big ((a + c) * ld) ∧ Big (ln * (b + e))) ∧ (Big ((a + c) * hd) ∧ Big (hn * (b + e))) ∧ Big (a + c) ∧ Big (b + e) := by
  have h1 := h.mid
  have b1 := h.b1; have e1 := h.e1; have bm := h.bm; have em := h.em; have m2 := g.m2
  have x := bnd g.ld1 g.ld2 g.ln1 g.ln2 (by have := g.fl; omega) (by have := g.fl'; omega) (q := b + e) (by omega) (by omega) h1.1 h1.2
  have y := bnd g.hd1 g.hd2 g.hn1 g.hn2 (by have := g.fh'; omega) (by have := g.fh; omega) (q := b + e) (by omega) (by omega) h1.1 h1.2
  unfold Big
  omega

theorem Srch.pt_bds {ln ld hn hd m F a b c e : Int} (g : Rng ln ld hn hd m F) (h : Srch ln ld hn hd m F a b c e) :
    (Big (a * ld) ∧ Big (ln * b) ∧ Big (c * ld) ∧ Big (ln * e)) ∧ (Big (a * hd) ∧ Big (hn * b) ∧ Big (c * hd) ∧ Big (hn * e)) ∧ (-2002000000000000 ≤ a ∧ a ≤ 2002000000000000 ∧ -2002000000000000 ≤ c ∧ c ≤ 2002000000000000) := by
  have b1 := h.b1; have e1 := h.e1; have bm := h.bm; have em := h.em; have m2 := g.m2
  have x1 := bnd g.ld1 g.ld2 g.ln1 g.ln2 (by have := g.fl; omega) (by have := g.fl'; omega) (q := b) (by omega) (by omega) h.fb h.fb'
  have y1 := bnd g.hd1 g.hd2 g.hn1 g.hn2 (by have := g.fh'; omega) (by have := g.fh; omega) (q := b) (by omega) (by omega) h.fb h.fb'
  have x2 := bnd g.ld1 g.ld2 g.ln1 g.ln2 (by have := g.fl; omega) (by have := g.fl'; omega) (q := e) (by omega) (by omega) h.fe' h.fe
  have y2 := bnd g.hd1 g.hd2 g.hn1 g.hn2 (by have := g.fh'; omega) (by have := g.fh; omega) (q := e) (by omega) (by omega) h.fe' h.fe
  unfold Big
  omega

theorem Srch.far {ln ld hn hd m F a b c e : Int} (g : Rng ln ld hn hd m F) (h : Srch ln ld hn hd m F a b c e) : 1 ≤ c * ld - ln * e ∧ 1 ≤ hn * b - a * hd := by
  have l1 := g.ld1; have l2 := g.hd1; have e1 := h.e1; have b1 := h.b1
  have x := lt_of_le_lt l1 l2 e1 g.le h.hi
  have y := lt_of_lt_le b1 l1 l2 h.lo g.le
  omega

theorem Srch.lowStep {ln ld hn hd m F a b c e : Int} (g : Rng ln ld hn hd m F) (h : Srch ln ld hn hd m F a b c e) (hx : (a + c) * ld - ln * (b + e) < 0) (hy : b + e ≤ m) :
    ∃ far near s : Int, ln * b - a * ld = far ∧ c * ld - ln * e = near ∧ 1 ≤ far ∧ far ≤ 4000000000000000000 ∧ 1 ≤ near ∧ near ≤ 4000000000000000000 ∧ stepsTo far near m b e = s ∧
      Big (s * c) ∧ Big (s * e) ∧ Big (a + s * c) ∧ Srch ln ld hn hd m F (a + s * c) (b + s * e) c e ∧ b + e ≤ b + s * e := by
  have hf := h.far g
  have hb := h.pt_bds g
  have hlo := h.lo
  obtain ⟨t1, t2, t3, t4⟩ := towards_low (p0 := a) (p1 := c) (n := ln) (d := ld) (m := m) h.b1 h.e1 h.bm (by omega) hf.1
  have hS := h.low t1 t2 t3
  have hb' := hS.pt_bds g
  have hs := t4 (by omega) hy
  refine ⟨_, _, _, rfl, rfl, by omega, ?_, hf.1, ?_, rfl, ?_, ?_, ?_, hS, ?_⟩
  · unfold Big at hb; omega
  · unfold Big at hb; omega
  · unfold Big at hb hb' ⊢; omega
  · have := hS.b1; have := hS.bm; have := h.b1; have := h.bm; have := g.m2; unfold Big; omega
  · unfold Big at hb' ⊢; omega
  · have : 1 * e ≤ stepsTo (ln * b - a * ld) (c * ld - ln * e) m b e * e := Int.mul_le_mul_of_nonneg_right hs (by have := h.e1; omega)
    omega

theorem Srch.highStep {ln ld hn hd m F a b c e : Int} (g : Rng ln ld hn hd m F) (h : Srch ln ld hn hd m F a b c e) (hx : 0 < (a + c) * hd - hn * (b + e)) (hy : b + e ≤ m) :
    ∃ far near s : Int, hn * e - c * hd = -far ∧ a * hd - hn * b = -near ∧ 1 ≤ far ∧ far ≤ 4000000000000000000 ∧ 1 ≤ near ∧ near ≤ 4000000000000000000 ∧ stepsTo far near m e b = s ∧
      Big (s * a) ∧ Big (s * b) ∧ Big (c + s * a) ∧ Srch ln ld hn hd m F a b (c + s * a) (e + s * b) ∧ b + e ≤ e + s * b := by
  have hf := h.far g
  have hb := h.pt_bds g
  have hhi := h.hi
  obtain ⟨t1, t2, t3, t4⟩ := towards_high (p0 := c) (p1 := a) (n := hn) (d := hd) (m := m) h.e1 h.b1 h.em (by omega) hf.2
  have hS := h.high t1 t2 t3
  have hb' := hS.pt_bds g
  have hs := t4 (by rw [Int.add_comm e b, Int.add_comm c a]; omega) (by omega)
  refine ⟨c * hd - hn * e, hn * b - a * hd, _, by omega, by omega, by omega, ?_, hf.2, ?_, rfl, ?_, ?_, ?_, hS, ?_⟩
  · unfold Big at hb; omega
  · unfold Big at hb; omega
  · unfold Big at hb hb' ⊢; omega
  · have := hS.e1; have := hS.em; have := h.e1; have := h.em; have := g.m2; unfold Big; omega
  · unfold Big at hb' ⊢; omega
  · have : 1 * b ≤ stepsTo (c * hd - hn * e) (hn * b - a * hd) m e b * b := Int.mul_le_mul_of_nonneg_right hs (by have := h.b1; omega)
    omega
end Go.Proofs.YtgonaamjjhhiiaaGreatDoor
