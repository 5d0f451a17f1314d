/-
  The walk of the statement on terms and convergents, from what the functions that it calls return.
-/
import Derived.Test.YtgonaamjjhhiiaaDoorTermS
import Derived.Test.YtgonaamjjhhiiaaDoorConv
import Derived.Test.YtgonaamjjhhiiaaDoorField
import Derived.Deep.DeepCutAuto
import Derived.IntWalk
set_option linter.unusedVariables false
set_option linter.unusedSimpArgs false
namespace Go.Proofs.YtgonaamjjhhiiaaDoor
open Go Go.RowKit

theorem Row.on {W W' : World} {g : Nat} {l : List Int} (h : Row W g 0 l) (hg : g < W.heap.size) (hb : Below W.heap.size W W') : Row W' g 0 l := fun j hj => (hb.cell (p := ⟨g, 0 + j, none⟩) hg).trans (h j hj)
/-- Pairs in a row of cells. -/
def RowP (W : World) (g : Nat) (L : List (Int × Int)) : Prop := ∀ i P Q, L[i]? = some (P, Q) → W.cell? ⟨g, i * 2, none⟩ = some (.int .i64 P) ∧ W.cell? ⟨g, i * 2 + 1, none⟩ = some (.int .i64 Q)
theorem RowP.on {W W' : World} {g : Nat} {L : List (Int × Int)} (h : RowP W g L) (hg : g < W.heap.size) (hb : Below W.heap.size W W') : RowP W' g L := fun i P Q hi =>
  ⟨(hb.cell (p := ⟨g, i * 2, none⟩) hg).trans (h i P Q hi).1, (hb.cell (p := ⟨g, i * 2 + 1, none⟩) hg).trans (h i P Q hi).2⟩
theorem RowP.pre {W : World} {g i : Nat} {L : List (Int × Int)} {P Q : Int} (h : RowP W g L) (hi : L[i]? = some (P, Q)) : W.cell? ⟨g, i * 2, none⟩ = some (.int .i64 P) ∧ W.cell? ⟨g, i * 2 + 1, none⟩ = some (.int .i64 Q) := h i P Q hi

def TermsRow (p q : Int) (m : Nat) (w : World) (e : Ending) (w' : World) : Prop := ∃ g c : Nat, e = .returned (.tuple #[.slice (some ⟨g, 0, none⟩) (m + 1) c, .int .i64 0]) ∧ m + 1 ≤ c ∧ w.heap.size ≤ g ∧ g < w'.heap.size ∧ Row w' g 0 (tl p q) ∧ Below w.heap.size w w'
theorem Terms_row {p q : Int} {m : Nat} (ha : okQ p q = true) (hm : m + 1 = (tl p q).length) (w : World) : Calls Tryd.prog 7 #[.agg #[.int .i64 (p), .int .i64 (q)]] w (TermsRow p q m w) :=
  (Terms_ok p q w ha).mono fun e w' ⟨v, he, ho, hb⟩ => by
    have ho' := ho
    rcases ho.2 with ⟨_, h0⟩ | ⟨g, cap, cur, rfl, hg, hgb, hcap, _⟩
    · omega
    · have hl := (Array.getElem?_eq_some_iff.1 hgb).1
      refine ⟨g, cap, by rw [hm]; exact he, by omega, hg, hl, fun j hj => ?_, hb⟩
      have := World.ownsRow.cellAt ho' j (by simpa using hj)
      rw [Nat.zero_add, List.getD_eq_getElem?_getD, List.getElem?_eq_getElem hj]
      rw [this]
      simp [hj]
def ConvRow (p q : Int) (m : Nat) (w : World) (e : Ending) (w' : World) : Prop := ∃ g c : Nat, e = .returned (.tuple #[.slice (some ⟨g, 0, none⟩) (m + 1) c, .int .i64 0]) ∧ m + 1 ≤ c ∧ w.heap.size ≤ g ∧ g < w'.heap.size ∧ RowP w' g (cv p q) ∧ Below w.heap.size w w'
theorem Conv_row {p q : Int} {m : Nat} (ha : okQ p q = true) (hm : m + 1 = (tl p q).length) (w : World) : Calls Tryd.prog 11 #[.agg #[.int .i64 (p), .int .i64 (q)]] w (ConvRow p q m w) :=
  (Conv_ok p q w ha).mono fun e w' ⟨v, he, ho, hb⟩ => by
    have ho' := ho
    have hcl := cv_len p q
    rcases ho.2 with ⟨_, h0⟩ | ⟨g, cap, cur, rfl, hg, hgb, hcap, _⟩
    · omega
    · have hl := (Array.getElem?_eq_some_iff.1 hgb).1
      refine ⟨g, cap, by rw [hm, ← hcl]; exact he, by omega, hg, hl, fun i P Q hi => ?_, hb⟩
      obtain ⟨f1, f2⟩ := flat_at hi
      have l1 := (List.getElem?_eq_some_iff.1 f1).1
      have l2 := (List.getElem?_eq_some_iff.1 f2).1
      rw [flat_len] at l1 l2
      exact ⟨(World.ownsRow.cellAt ho' (i * 2) l1).trans f1, (World.ownsRow.cellAt ho' (i * 2 + 1) l2).trans f2⟩
set_option maxRecDepth 100000 in
set_option maxHeartbeats 4000000 in
theorem steps_err (xn xd e1 : Int) (w : World) (ht : Pow10 w) (hl : AliveOk) (he : (e1 != 0) = true)
    (hT : ∀ W, Calls Tryd.prog 7 #[.agg #[.int .i64 (xn), .int .i64 (xd)]] W fun e w' => e = .returned (.tuple #[.slice none 0 0, .int .i64 e1]) ∧ Below W.heap.size W w')
    (hC : ∀ W, Calls Tryd.prog 11 #[.agg #[.int .i64 (xn), .int .i64 (xd)]] W fun e w' => e = .returned (.tuple #[.slice none 0 0, .int .i64 e1]) ∧ Below W.heap.size W w') :
    Calls Tryd.prog 4 #[.agg #[.int .i64 (xn), .int .i64 (xd)]] w fun e w' => e = .returned (.bool true) ∧ Below w.heap.size w w' := by
  have HT := Lib.hid hT
  have HC := Lib.hid hC
  have HL := Lib.hid (hl.at ht)
  clear hT hC hl ht
  go_enter Tryd.func4, Tryd.ntmps4
  go_wp2_with fail
  (refine (HT.out _).mono ?_; rintro e w1 ⟨rfl, hb1⟩; obtain ⟨hc1, hf1⟩ := bcell hb1; have hB1 : Below w.heap.size w w1 := up hb1 (by go_grown); have hz1 := hb1.size; (try simp at hz1); (try have hz1_w_p1 : w.heap.size < w1.heap.size + 1 := (by omega)); (try have hz1_w_p2 : w.heap.size < w1.heap.size + 1 + 1 := (by omega)); (try have hz1_w_p3 : w.heap.size < w1.heap.size + 1 + 1 + 1 := (by omega)); (try have hz1_w_0 : w.heap.size < w1.heap.size := (by omega)); (try have hz1_w_1 : w.heap.size + 1 < w1.heap.size := (by omega)); (try have hz1_w_2 : w.heap.size + 1 + 1 < w1.heap.size := (by omega)); (try have hz1_w_3 : w.heap.size + 1 + 1 + 1 < w1.heap.size := (by omega)); (try have hz1_w_4 : w.heap.size + 1 + 1 + 1 + 1 < w1.heap.size := (by omega)); (try have hz1_w_5 : w.heap.size + 1 + 1 + 1 + 1 + 1 < w1.heap.size := (by omega)); (try have hz1_w_6 : w.heap.size + 1 + 1 + 1 + 1 + 1 + 1 < w1.heap.size := (by omega)))
  go_wp2_with fail
  (refine (HC.out _).mono ?_; rintro e w2 ⟨rfl, hb2⟩; obtain ⟨hc2, hf2⟩ := bcell hb2; have hB2 : Below w.heap.size w w2 := up hb2 (by go_grown); have hz2 := hb2.size; (try simp at hz2); (try have hz2_w_p1 : w.heap.size < w2.heap.size + 1 := (by omega)); (try have hz2_w_p2 : w.heap.size < w2.heap.size + 1 + 1 := (by omega)); (try have hz2_w_p3 : w.heap.size < w2.heap.size + 1 + 1 + 1 := (by omega)); (try have hz2_w1_p1 : w1.heap.size < w2.heap.size + 1 := (by omega)); (try have hz2_w1_p2 : w1.heap.size < w2.heap.size + 1 + 1 := (by omega)); (try have hz2_w1_p3 : w1.heap.size < w2.heap.size + 1 + 1 + 1 := (by omega)); (try have hz2_w_0 : w.heap.size < w2.heap.size := (by omega)); (try have hz2_w_1 : w.heap.size + 1 < w2.heap.size := (by omega)); (try have hz2_w_2 : w.heap.size + 1 + 1 < w2.heap.size := (by omega)); (try have hz2_w_3 : w.heap.size + 1 + 1 + 1 < w2.heap.size := (by omega)); (try have hz2_w_4 : w.heap.size + 1 + 1 + 1 + 1 < w2.heap.size := (by omega)); (try have hz2_w_5 : w.heap.size + 1 + 1 + 1 + 1 + 1 < w2.heap.size := (by omega)); (try have hz2_w_6 : w.heap.size + 1 + 1 + 1 + 1 + 1 + 1 < w2.heap.size := (by omega)); (try have hz2_w1_0 : w1.heap.size < w2.heap.size := (by omega)); (try have hz2_w1_1 : w1.heap.size + 1 < w2.heap.size := (by omega)); (try have hz2_w1_2 : w1.heap.size + 1 + 1 < w2.heap.size := (by omega)); (try have hz2_w1_3 : w1.heap.size + 1 + 1 + 1 < w2.heap.size := (by omega)))
  go_wp2_with fail
  (refine (HL.out _ (by go_grown)).mono ?_; rintro e w3 ⟨rfl, hb3⟩; obtain ⟨hc3, hf3⟩ := bcell hb3; have hB3 : Below w.heap.size w w3 := up hb3 (by go_grown); have hz3 := hb3.size; (try simp at hz3); (try have hz3_w_p1 : w.heap.size < w3.heap.size + 1 := (by omega)); (try have hz3_w_p2 : w.heap.size < w3.heap.size + 1 + 1 := (by omega)); (try have hz3_w_p3 : w.heap.size < w3.heap.size + 1 + 1 + 1 := (by omega)); (try have hz3_w1_p1 : w1.heap.size < w3.heap.size + 1 := (by omega)); (try have hz3_w1_p2 : w1.heap.size < w3.heap.size + 1 + 1 := (by omega)); (try have hz3_w1_p3 : w1.heap.size < w3.heap.size + 1 + 1 + 1 := (by omega)); (try have hz3_w2_p1 : w2.heap.size < w3.heap.size + 1 := (by omega)); (try have hz3_w2_p2 : w2.heap.size < w3.heap.size + 1 + 1 := (by omega)); (try have hz3_w2_p3 : w2.heap.size < w3.heap.size + 1 + 1 + 1 := (by omega)); (try have hz3_w_0 : w.heap.size < w3.heap.size := (by omega)); (try have hz3_w_1 : w.heap.size + 1 < w3.heap.size := (by omega)); (try have hz3_w_2 : w.heap.size + 1 + 1 < w3.heap.size := (by omega)); (try have hz3_w_3 : w.heap.size + 1 + 1 + 1 < w3.heap.size := (by omega)); (try have hz3_w_4 : w.heap.size + 1 + 1 + 1 + 1 < w3.heap.size := (by omega)); (try have hz3_w_5 : w.heap.size + 1 + 1 + 1 + 1 + 1 < w3.heap.size := (by omega)); (try have hz3_w_6 : w.heap.size + 1 + 1 + 1 + 1 + 1 + 1 < w3.heap.size := (by omega)); (try have hz3_w1_0 : w1.heap.size < w3.heap.size := (by omega)); (try have hz3_w1_1 : w1.heap.size + 1 < w3.heap.size := (by omega)); (try have hz3_w1_2 : w1.heap.size + 1 + 1 < w3.heap.size := (by omega)); (try have hz3_w1_3 : w1.heap.size + 1 + 1 + 1 < w3.heap.size := (by omega)); (try have hz3_w2_0 : w2.heap.size < w3.heap.size := (by omega)); (try have hz3_w2_1 : w2.heap.size + 1 < w3.heap.size := (by omega)); (try have hz3_w2_2 : w2.heap.size + 1 + 1 < w3.heap.size := (by omega)); (try have hz3_w2_3 : w2.heap.size + 1 + 1 + 1 < w3.heap.size := (by omega)))
  go_wp2
  go_returns
  exact ⟨rfl, by go_grown⟩
/-- What a call of Nearest gives that the statement asks. -/
def NrIs (p q Q : Int) (w : World) (e : Ending) (w' : World) : Prop := ∃ N D : Int, e = .returned (.tuple #[.agg #[.int .i64 (N), .int .i64 (D)], .int .i64 0]) ∧ okQ N D = true ∧ D ≤ Q ∧ -1000000 ≤ p * D - N * q ∧ p * D - N * q ≤ 1000000 ∧ Below w.heap.size w w'
theorem undrewS {a w : World} {n : Nat} (h : Below (a.drewN n).heap.size (a.drewN n) w) : Below a.heap.size a w := ⟨h.os, h.tape, h.output, h.size, h.block⟩
def StCut (W : World) (s71 : Value) (wx : World) : Prop := s71 = .bool false ∧ Below W.heap.size W wx

set_option maxRecDepth 100000 in
set_option maxHeartbeats 4000000 in
theorem steps_core (p q : Int) (m : Nat) (w : World) (ht : Pow10 w) (hl : AliveOk) (ha : okQ p q = true) (hm : m + 1 = (tl p q).length)
    (hN : ∀ Q W, 1 ≤ Q → Q ≤ 1000000 → Calls Tryd.prog 15 #[.agg #[.int .i64 (p), .int .i64 (q)], .int .i64 Q] W (NrIs p q Q W)) :
    Calls Tryd.prog 4 #[.agg #[.int .i64 (p), .int .i64 (q)]] w fun e w' => e = .returned (.bool true) ∧ Below w.heap.size w w' := by
  have HT := Lib.hid fun (W : World) => Terms_row ha hm W
  have HC := Lib.hid fun (W : World) => Conv_row ha hm W
  have HF := Lib.hid fun (b c : Nat) (W : World) (hR : Row W b 0 (tl p q)) (hb : b < W.heap.size) => FromTerms_any b 0 c (tl p q) W (by omega) (by have := tl_len40 (p := p) (q := q) (by have := (okQ_iff.1 ha).1; omega) (okQ_iff.1 ha).2.1; omega) hR hb
  obtain ⟨f1, f2, f3⟩ := ft_tl ha
  rw [f1, f2, f3, ← hm] at HF
  have HLast := Lib.hid (cv_last ha)
  rw [← hm, Nat.add_sub_cancel] at HLast
  have HN := Lib.hid hN
  have HL := Lib.hid (hl.at ht)
  have HA := Lib.hid (okQ_iff.1 ha)
  have hlen := tl_len40 (p := p) (q := q) (by have := (okQ_iff.1 ha).1; omega) (okQ_iff.1 ha).2.1
  rw [← hm] at hlen
  have HM := Lib.hid hm
  clear f1 f2 f3 hN hl ht ha hm
  go_enter Tryd.func4, Tryd.ntmps4
  go_wp2_with fail
  refine (HT.out _).mono ?_
  rintro e w1 ⟨g, c, rfl, hc, hg1, hg2, hR, hb1⟩
  have HR := Lib.hid hR
  obtain ⟨hc1, hf1⟩ := bcell hb1
  have hB1 : Below w.heap.size w w1 := up hb1 (by go_grown)
  have hz1 := hb1.size
  simp at hz1
  have z1 : w.heap.size < w1.heap.size := by omega
  clear hR
  go_wp2_with fail
  refine (HC.out _).mono ?_
  rintro e w2 ⟨g', c', rfl, hc', hg1', hg2', hR', hb2⟩
  have HR' := Lib.hid hR'
  obtain ⟨hc2, hf2⟩ := bcell hb2
  have hB2 : Below w.heap.size w w2 := up hb2 (by go_grown)
  have hz2 := hb2.size
  have z2 : w.heap.size < w2.heap.size := by omega
  have z2' : g < w2.heap.size := by omega
  clear hR'
  go_wp2_with fail
  refine (HF.out _ _ _ (HR.out.on hg2 hb2) z2').mono ?_
  rintro e w3 ⟨rfl, hb3⟩
  obtain ⟨hc3, hf3⟩ := bcell hb3
  have hB3 : Below w.heap.size w w3 := up hb3 (by go_grown)
  have hz3 := hb3.size
  have z3 : w.heap.size < w3.heap.size := by omega
  have z3' : g' < w3.heap.size := by omega
  have hL := (HR'.out.pre HLast.out)
  obtain ⟨l1, l2⟩ := hL
  have n1 : ((m : Int) + 1 == 0) = false := by simp; omega
  have n2 : (((m + 1 : Nat) : Int) == 0) = false := by simp; omega
  go_upto_region 6 with fail
  go_cut [71] (StCut w3)
  case first =>
    as_aux_lemma =>
    clear HT HC HF HN HL HR HR' HM HA
    go_quiet (fail)
    go_wp2
    go_meet
    exact ⟨rfl, by repeat' (first | (with_reducible exact Below.refl _ _) | (with_reducible assumption) | (with_reducible refine Below.alloc ?_ ?_ _) | (with_reducible refine Below.drew ?_) | (with_reducible refine below_drewN ?_ _) | (with_reducible refine Below.setCell ?_ ?_ _) | go_size)⟩
  case rest =>
    obtain ⟨rfl, hBc⟩ := hcut
    have x0 : w3.cell? ⟨w.heap.size, 0, none⟩ = some (.int .i64 p) := by go_cell
    have x1 : w3.cell? ⟨w.heap.size, 1, none⟩ = some (.int .i64 q) := by go_cell
    have y0 := (hBc.cell (p := ⟨w.heap.size, 0, none⟩) z3).trans x0
    have y1 := (hBc.cell (p := ⟨w.heap.size, 1, none⟩) z3).trans x1
    have HRc := Lib.hid ((HR'.out.on hg2' hb3).on z3' hBc)
    have hBw : Below w.heap.size w wc := up hBc hB3
    have zc : w.heap.size < wc.heap.size := by have := hBc.size; omega
    have zc' : g' < wc.heap.size := by have := hBc.size; omega
    clear x0 x1 hc1 hf1 hc2 hf2 hc3 hf3 l1 l2 HLast HR HR' HT HC HF hBc hB1 hB2 hB3 hb1 hb2 hb3 hz1 hz2 hz3 z1 z2 z2' z3 z3' hg1 hg2 hg1' hg2' n1 n2
    have s1 : ((m : Int) + 1) - 1 = m := by omega
    have s2 : m ≤ c' := by omega
    obtain ⟨a1, a2, a3, a4, _⟩ := HA.out
    go_wp2
    clear s1
    go_loopw [78] (fun i wr => ∃ k : Nat, k ≤ m ∧ i = .int .i64 k ∧ Below wc.heap.size wc wr) (fun i _ => m - (intOf i).toNat)
    case atStart => exact ⟨0, Nat.zero_le _, rfl, Below.refl _ _⟩
    case round =>
      obtain ⟨k, hk, rfl, hBr⟩ := hrel
      by_cases hlt : k < m
      · obtain ⟨P, Q, r, b, P1, Q1, e0, e1, e2, e3, e4, e5, e6, e7, e8, e9, e10, e11, e12⟩ := cv_at a1 k (by rw [← HM.out]; omega)
        obtain ⟨c0, c1⟩ := (HRc.out.on zc' hBr).pre e0
        have v0 := (hBr.cell (p := ⟨w.heap.size, 0, none⟩) zc).trans y0
        have v1 := (hBr.cell (p := ⟨w.heap.size, 1, none⟩) zc).trans y1
        have mb := mul_bd (a := p) (b := Q) (A := 1000000000) (B := 1000000) (by omega) (by omega) (by omega) (by omega)
        have zr : w.heap.size < wr.heap.size := by have := hBr.size; omega
        have zr' : g' < wr.heap.size := by have := hBr.size; omega
        have hzr : wc.heap.size ≤ wr.heap.size := hBr.size
        have h0r : 0 < r := by omega
        have dr : decide (0 < r) = true := decide_eq_true h0r
        have dr1 : decide (r < 0) = false := decide_eq_false (by omega)
        have dr2 : decide (0 < -r) = false := decide_eq_false (by omega)
        have H1 := Lib.hid e1
        have H11 := Lib.hid (And.intro e10 (And.intro e11 e12))
        have hs := sg_or k
        have hpar : (k % 2 = 0 ∧ sg k = 1) ∨ (k % 2 = 1 ∧ sg k = -1) := by
          unfold sg
          rcases Nat.mod_two_eq_zero_or_one k with h | h
          · left; exact ⟨h, if_pos h⟩
          · right; exact ⟨h, if_neg (by omega)⟩
        obtain ⟨mb1, mb2⟩ := mb
        rcases hpar with ⟨hp2, hsg⟩ | ⟨hp2, hsg⟩
        · have mp1 : -1000001000000000 ≤ P * q := by rw [hsg] at e2; omega
          have mp2 : P * q ≤ 1000001000000000 := by rw [hsg] at e2; omega
          clear e0 e1 e10 e11 e12
          have E2 : p * Q - P * q = r := by rw [hsg] at e2; omega
          have par : ((k : Int) % 2 == 0) = true := by simp; omega
          have par' : ((k : Int).tmod 2 == 0) = true := by rw [Int.tmod_eq_emod_of_nonneg (by omega)]; exact par
          by_cases k0 : k = 0
          · subst k0
            simp only [Nat.zero_mul, Nat.zero_add] at c0 c1
            clear H1 H11 hs hsg e2 par par'
            go_wp2_with fail
            all_goals first | (exfalso; omega) | exact ⟨⟨1, by omega, rfl, by repeat' (first | (with_reducible exact Below.refl _ _) | (with_reducible assumption) | (with_reducible refine Below.alloc ?_ ?_ _) | (with_reducible refine Below.drew ?_) | (with_reducible refine below_drewN ?_ _) | (with_reducible refine Below.setCell ?_ ?_ _) | go_size)⟩, by simp [intOf] <;> omega⟩
          · obtain ⟨w1', w2', w3'⟩ := H1.out (by omega)
            obtain ⟨c2, c3⟩ := (HRc.out.on zc' hBr).pre w1'
            obtain ⟨g1, g2, g3⟩ := H11.out
            have W2' : p * Q1 - P1 * q = -b := by rw [hsg] at w3'; omega
            have k1 : ((k : Int) == 0) = false := by simp; omega
            obtain ⟨j, rfl⟩ : ∃ j, k = j + 1 := ⟨k - 1, by omega⟩
            rw [Nat.add_sub_cancel] at c2 c3
            have parj : (((j : Int) + 1) % 2 == 0) = ((((j + 1 : Nat) : Int)) % 2 == 0) := by rw [show ((j + 1 : Nat) : Int) = (j : Int) + 1 by omega]
            rw [par] at parj
            have hj : ((j + 1 : Nat) : Int) - 1 = j := by omega
            have hj' : ((j : Int) + 1) - 1 = j := by omega
            have mq := mul_bd (a := p) (b := Q1) (A := 1000000000) (B := 1000000) (by omega) (by omega) (by omega) (by omega)
            obtain ⟨mq1, mq2⟩ := mq
            have mw1 : -1000001000000000 ≤ P1 * q := by omega
            have mw2 : P1 * q ≤ 1000001000000000 := by omega
            have q1 : r * Q1 ≤ r * Q := Int.mul_le_mul_of_nonneg_left e7 (by omega)
            have q2 : (r + 1) * Q ≤ b * Q := Int.mul_le_mul_of_nonneg_right (by omega) (by omega)
            have q3 := mul_bd (a := b) (b := Q) (A := 1000000) (B := 1000000) (by omega) (by omega) (by omega) (by omega)
            have q4 : 0 ≤ r * Q1 := Int.mul_nonneg (by omega) (by omega)
            rw [Int.add_mul] at q2
            obtain ⟨q5, q6⟩ := q3
            have hmo : max (r) (-(r)) = r := by omega
            have hmo' : max (-r) r = r := by omega
            have hmb : max (-b) (-(-b)) = b := by omega
            have hmb' : max (-b) b = b := by omega
            have HG := Lib.hid (And.intro g1 (And.intro g2 g3))
            have HS := Lib.hid hs
            have HNk := Lib.hid fun (W : World) => HN.out Q W e5 (by omega)
            clear H1 H11 hsg e2 w1' w3' hs k0 g1 g2 g3
            go_wp2_with fail
            all_goals first | (exfalso; omega) | skip
            have u1 : IntKind.i64.wrap (j : Int) = j := IntWalk.i64_in _ (by omega)
            have u2 : IntKind.i64.wrap ((j : Int) + 1 - 1) = j := by rw [hj']; exact u1
            have u3 : IntKind.i64.wrap (p * Q1) = p * Q1 := IntWalk.i64_in _ (by omega)
            have u4 : IntKind.i64.wrap (P1 * q) = P1 * q := IntWalk.i64_in _ (by omega)
            have u5 : IntKind.i64.wrap (-b) = -b := IntWalk.i64_in _ (by omega)
            have u6 : IntKind.i64.wrap b = b := IntWalk.i64_in _ (by omega)
            have u7 : IntKind.i64.wrap (-r) = -r := IntWalk.i64_in _ (by omega)
            have u8 : IntKind.i64.wrap r = r := IntWalk.i64_in _ (by omega)
            have u9 : IntKind.i64.wrap (r * Q1) = r * Q1 := IntWalk.i64_in _ (by omega)
            have u10 : IntKind.i64.wrap (b * Q) = b * Q := IntWalk.i64_in _ (by omega)
            have u11 : decide (b * Q ≤ r * Q1) = false := decide_eq_false (by omega)
            go_quiet (fail)
            go_wp2_with fail
            go_quiet (fail)
            go_wp2_with fail
            refine (HNk.out _).mono ?_
            rintro e w5 ⟨N, D, rfl, o1, o2, o3, o4, hb5⟩
            replace hb5 := undrewS hb5
            obtain ⟨d1, d2, d3, d4, _⟩ := okQ_iff.1 o1
            obtain ⟨g1, g2, g3⟩ := HG.out
            have best := cv_best (N := N) HS.out g1 g2 g3 e3 e4 e5 w2' e7 d1 o2
            clear u1 u2 u3 u4 u5 u6 u7 u8 u9 u10 u11 g1 g2 g3 q1 q2 q4 q5 q6 W2' mq1 mq2 mw1 mw2 o1 c0 c1 c2 c3 par par' parj
            obtain ⟨hc5, hf5⟩ := bcell hb5
            have hB5 : Below wc.heap.size wc w5 := up hb5 (by repeat' (first | (with_reducible exact Below.refl _ _) | (with_reducible assumption) | (with_reducible refine Below.alloc ?_ ?_ _) | (with_reducible refine Below.drew ?_) | (with_reducible refine below_drewN ?_ _) | (with_reducible refine Below.setCell ?_ ?_ _) | go_size))
            have hz5 := hb5.size
            simp at hz5
            have z5 : w.heap.size < w5.heap.size := by omega
            have z5' : wr.heap.size < w5.heap.size := by omega
            have z5c : wc.heap.size ≤ w5.heap.size := by omega
            have t1 := mul_bd (a := p) (b := D) (A := 1000000000) (B := 1000000) (by omega) (by omega) (by omega) (by omega)
            have t2 := mul_bd (a := N) (b := q) (A := 1000000000) (B := 1000000) (by omega) (by omega) (by omega) (by omega)
            obtain ⟨t1, t1'⟩ := t1
            obtain ⟨t2, t2'⟩ := t2
            obtain ⟨u, hu⟩ : ∃ u, max (p * D - N * q) (-(p * D - N * q)) = u := ⟨_, rfl⟩
            have hu1 : r ≤ u := by omega
            have hu2 : u ≤ 1000000 := by omega
            clear best
            have t3 : r * D ≤ r * Q := Int.mul_le_mul_of_nonneg_left o2 (by omega)
            have t4 : r * Q ≤ u * Q := Int.mul_le_mul_of_nonneg_right hu1 (by omega)
            have t5 := mul_bd (a := u) (b := Q) (A := 1000000) (B := 1000000) (by omega) (by omega) (by omega) (by omega)
            have t6 : 0 ≤ r * D := Int.mul_nonneg (by omega) (by omega)
            obtain ⟨t5, t5'⟩ := t5
            have t7 : decide (u * Q < r * D) = false := decide_eq_false (by omega)
            have t8 : r * D ≤ u * Q := by omega
            clear t3 t4
            go_wp2_with fail
            exact ⟨⟨j + 1 + 1, by omega, by rw [show ((j + 1 + 1 : Nat) : Int) = (j : Int) + 1 + 1 by omega], hB5.alloc z5c _⟩, by simp [intOf]; omega⟩
        · have mp1 : -1000001000000000 ≤ P * q := by rw [hsg] at e2; omega
          have mp2 : P * q ≤ 1000001000000000 := by rw [hsg] at e2; omega
          clear e0 e1 e10 e11 e12
          have E2 : p * Q - P * q = -r := by rw [hsg] at e2; omega
          have par : ((k : Int) % 2 == 0) = false := by simp; omega
          have par' : ((k : Int).tmod 2 == 0) = false := by rw [Int.tmod_eq_emod_of_nonneg (by omega)]; exact par
          by_cases k0 : k = 0
          · subst k0
            exact absurd hp2 (by decide)
          · obtain ⟨w1', w2', w3'⟩ := H1.out (by omega)
            obtain ⟨c2, c3⟩ := (HRc.out.on zc' hBr).pre w1'
            obtain ⟨g1, g2, g3⟩ := H11.out
            have W2' : p * Q1 - P1 * q = b := by rw [hsg] at w3'; omega
            have k1 : ((k : Int) == 0) = false := by simp; omega
            obtain ⟨j, rfl⟩ : ∃ j, k = j + 1 := ⟨k - 1, by omega⟩
            rw [Nat.add_sub_cancel] at c2 c3
            have parj : (((j : Int) + 1) % 2 == 0) = ((((j + 1 : Nat) : Int)) % 2 == 0) := by rw [show ((j + 1 : Nat) : Int) = (j : Int) + 1 by omega]
            rw [par] at parj
            have hj : ((j + 1 : Nat) : Int) - 1 = j := by omega
            have hj' : ((j : Int) + 1) - 1 = j := by omega
            have mq := mul_bd (a := p) (b := Q1) (A := 1000000000) (B := 1000000) (by omega) (by omega) (by omega) (by omega)
            obtain ⟨mq1, mq2⟩ := mq
            have mw1 : -1000001000000000 ≤ P1 * q := by omega
            have mw2 : P1 * q ≤ 1000001000000000 := by omega
            have q1 : r * Q1 ≤ r * Q := Int.mul_le_mul_of_nonneg_left e7 (by omega)
            have q2 : (r + 1) * Q ≤ b * Q := Int.mul_le_mul_of_nonneg_right (by omega) (by omega)
            have q3 := mul_bd (a := b) (b := Q) (A := 1000000) (B := 1000000) (by omega) (by omega) (by omega) (by omega)
            have q4 : 0 ≤ r * Q1 := Int.mul_nonneg (by omega) (by omega)
            rw [Int.add_mul] at q2
            obtain ⟨q5, q6⟩ := q3
            have hmo : max (-r) (-(-r)) = r := by omega
            have hmo' : max (-r) r = r := by omega
            have hmb : max (b) (-(b)) = b := by omega
            have hmb' : max (-b) b = b := by omega
            have HG := Lib.hid (And.intro g1 (And.intro g2 g3))
            have HS := Lib.hid hs
            have HNk := Lib.hid fun (W : World) => HN.out Q W e5 (by omega)
            clear H1 H11 hsg e2 w1' w3' hs k0 g1 g2 g3
            go_wp2_with fail
            all_goals first | (exfalso; omega) | skip
            have u1 : IntKind.i64.wrap (j : Int) = j := IntWalk.i64_in _ (by omega)
            have u2 : IntKind.i64.wrap ((j : Int) + 1 - 1) = j := by rw [hj']; exact u1
            have u3 : IntKind.i64.wrap (p * Q1) = p * Q1 := IntWalk.i64_in _ (by omega)
            have u4 : IntKind.i64.wrap (P1 * q) = P1 * q := IntWalk.i64_in _ (by omega)
            have u5 : IntKind.i64.wrap (-b) = -b := IntWalk.i64_in _ (by omega)
            have u6 : IntKind.i64.wrap b = b := IntWalk.i64_in _ (by omega)
            have u7 : IntKind.i64.wrap (-r) = -r := IntWalk.i64_in _ (by omega)
            have u8 : IntKind.i64.wrap r = r := IntWalk.i64_in _ (by omega)
            have u9 : IntKind.i64.wrap (r * Q1) = r * Q1 := IntWalk.i64_in _ (by omega)
            have u10 : IntKind.i64.wrap (b * Q) = b * Q := IntWalk.i64_in _ (by omega)
            have u11 : decide (b * Q ≤ r * Q1) = false := decide_eq_false (by omega)
            go_quiet (fail)
            go_wp2_with fail
            go_quiet (fail)
            go_wp2_with fail
            refine (HNk.out _).mono ?_
            rintro e w5 ⟨N, D, rfl, o1, o2, o3, o4, hb5⟩
            replace hb5 := undrewS hb5
            obtain ⟨d1, d2, d3, d4, _⟩ := okQ_iff.1 o1
            obtain ⟨g1, g2, g3⟩ := HG.out
            have best := cv_best (N := N) HS.out g1 g2 g3 e3 e4 e5 w2' e7 d1 o2
            clear u1 u2 u3 u4 u5 u6 u7 u8 u9 u10 u11 g1 g2 g3 q1 q2 q4 q5 q6 W2' mq1 mq2 mw1 mw2 o1 c0 c1 c2 c3 par par' parj
            obtain ⟨hc5, hf5⟩ := bcell hb5
            have hB5 : Below wc.heap.size wc w5 := up hb5 (by repeat' (first | (with_reducible exact Below.refl _ _) | (with_reducible assumption) | (with_reducible refine Below.alloc ?_ ?_ _) | (with_reducible refine Below.drew ?_) | (with_reducible refine below_drewN ?_ _) | (with_reducible refine Below.setCell ?_ ?_ _) | go_size))
            have hz5 := hb5.size
            simp at hz5
            have z5 : w.heap.size < w5.heap.size := by omega
            have z5' : wr.heap.size < w5.heap.size := by omega
            have z5c : wc.heap.size ≤ w5.heap.size := by omega
            have t1 := mul_bd (a := p) (b := D) (A := 1000000000) (B := 1000000) (by omega) (by omega) (by omega) (by omega)
            have t2 := mul_bd (a := N) (b := q) (A := 1000000000) (B := 1000000) (by omega) (by omega) (by omega) (by omega)
            obtain ⟨t1, t1'⟩ := t1
            obtain ⟨t2, t2'⟩ := t2
            obtain ⟨u, hu⟩ : ∃ u, max (p * D - N * q) (-(p * D - N * q)) = u := ⟨_, rfl⟩
            have hu1 : r ≤ u := by omega
            have hu2 : u ≤ 1000000 := by omega
            clear best
            have t3 : r * D ≤ r * Q := Int.mul_le_mul_of_nonneg_left o2 (by omega)
            have t4 : r * Q ≤ u * Q := Int.mul_le_mul_of_nonneg_right hu1 (by omega)
            have t5 := mul_bd (a := u) (b := Q) (A := 1000000) (B := 1000000) (by omega) (by omega) (by omega) (by omega)
            have t6 : 0 ≤ r * D := Int.mul_nonneg (by omega) (by omega)
            obtain ⟨t5, t5'⟩ := t5
            have t7 : decide (u * Q < r * D) = false := decide_eq_false (by omega)
            have t8 : r * D ≤ u * Q := by omega
            clear t3 t4
            go_wp2_with fail
            exact ⟨⟨j + 1 + 1, by omega, by rw [show ((j + 1 + 1 : Nat) : Int) = (j : Int) + 1 + 1 by omega], hB5.alloc z5c _⟩, by simp [intOf]; omega⟩
      · obtain rfl : k = m := by omega
        clear hlt
        go_wp2_with fail
        (refine (HL.out _ (up hBr hBw)).mono ?_; rintro e w9 ⟨rfl, hb9⟩; obtain ⟨hc9, hf9⟩ := bcell hb9; have hB9 : Below wc.heap.size wc w9 := up hb9 (by go_grown); have hz9 := hb9.size; (try simp at hz9); (try have hz9_wc_p1 : wc.heap.size < w9.heap.size + 1 := (by omega)); (try have hz9_wc_p2 : wc.heap.size < w9.heap.size + 1 + 1 := (by omega)); (try have hz9_wc_p3 : wc.heap.size < w9.heap.size + 1 + 1 + 1 := (by omega)); (try have hz9_w1_p1 : w1.heap.size < w9.heap.size + 1 := (by omega)); (try have hz9_w1_p2 : w1.heap.size < w9.heap.size + 1 + 1 := (by omega)); (try have hz9_w1_p3 : w1.heap.size < w9.heap.size + 1 + 1 + 1 := (by omega)); (try have hz9_w2_p1 : w2.heap.size < w9.heap.size + 1 := (by omega)); (try have hz9_w2_p2 : w2.heap.size < w9.heap.size + 1 + 1 := (by omega)); (try have hz9_w2_p3 : w2.heap.size < w9.heap.size + 1 + 1 + 1 := (by omega)); (try have hz9_w3_p1 : w3.heap.size < w9.heap.size + 1 := (by omega)); (try have hz9_w3_p2 : w3.heap.size < w9.heap.size + 1 + 1 := (by omega)); (try have hz9_w3_p3 : w3.heap.size < w9.heap.size + 1 + 1 + 1 := (by omega)); (try have hz9_w4_p1 : w4.heap.size < w9.heap.size + 1 := (by omega)); (try have hz9_w4_p2 : w4.heap.size < w9.heap.size + 1 + 1 := (by omega)); (try have hz9_w4_p3 : w4.heap.size < w9.heap.size + 1 + 1 + 1 := (by omega)); (try have hz9_w5_p1 : w5.heap.size < w9.heap.size + 1 := (by omega)); (try have hz9_w5_p2 : w5.heap.size < w9.heap.size + 1 + 1 := (by omega)); (try have hz9_w5_p3 : w5.heap.size < w9.heap.size + 1 + 1 + 1 := (by omega)); (try have hz9_w6_p1 : w6.heap.size < w9.heap.size + 1 := (by omega)); (try have hz9_w6_p2 : w6.heap.size < w9.heap.size + 1 + 1 := (by omega)); (try have hz9_w6_p3 : w6.heap.size < w9.heap.size + 1 + 1 + 1 := (by omega)); (try have hz9_w7_p1 : w7.heap.size < w9.heap.size + 1 := (by omega)); (try have hz9_w7_p2 : w7.heap.size < w9.heap.size + 1 + 1 := (by omega)); (try have hz9_w7_p3 : w7.heap.size < w9.heap.size + 1 + 1 + 1 := (by omega)); (try have hz9_w8_p1 : w8.heap.size < w9.heap.size + 1 := (by omega)); (try have hz9_w8_p2 : w8.heap.size < w9.heap.size + 1 + 1 := (by omega)); (try have hz9_w8_p3 : w8.heap.size < w9.heap.size + 1 + 1 + 1 := (by omega)); (try have hz9_wc_0 : wc.heap.size < w9.heap.size := (by omega)); (try have hz9_wc_1 : wc.heap.size + 1 < w9.heap.size := (by omega)); (try have hz9_wc_2 : wc.heap.size + 1 + 1 < w9.heap.size := (by omega)); (try have hz9_wc_3 : wc.heap.size + 1 + 1 + 1 < w9.heap.size := (by omega)); (try have hz9_wc_4 : wc.heap.size + 1 + 1 + 1 + 1 < w9.heap.size := (by omega)); (try have hz9_wc_5 : wc.heap.size + 1 + 1 + 1 + 1 + 1 < w9.heap.size := (by omega)); (try have hz9_wc_6 : wc.heap.size + 1 + 1 + 1 + 1 + 1 + 1 < w9.heap.size := (by omega)); (try have hz9_w1_0 : w1.heap.size < w9.heap.size := (by omega)); (try have hz9_w1_1 : w1.heap.size + 1 < w9.heap.size := (by omega)); (try have hz9_w1_2 : w1.heap.size + 1 + 1 < w9.heap.size := (by omega)); (try have hz9_w1_3 : w1.heap.size + 1 + 1 + 1 < w9.heap.size := (by omega)); (try have hz9_w2_0 : w2.heap.size < w9.heap.size := (by omega)); (try have hz9_w2_1 : w2.heap.size + 1 < w9.heap.size := (by omega)); (try have hz9_w2_2 : w2.heap.size + 1 + 1 < w9.heap.size := (by omega)); (try have hz9_w2_3 : w2.heap.size + 1 + 1 + 1 < w9.heap.size := (by omega)); (try have hz9_w3_0 : w3.heap.size < w9.heap.size := (by omega)); (try have hz9_w3_1 : w3.heap.size + 1 < w9.heap.size := (by omega)); (try have hz9_w3_2 : w3.heap.size + 1 + 1 < w9.heap.size := (by omega)); (try have hz9_w3_3 : w3.heap.size + 1 + 1 + 1 < w9.heap.size := (by omega)); (try have hz9_w4_0 : w4.heap.size < w9.heap.size := (by omega)); (try have hz9_w4_1 : w4.heap.size + 1 < w9.heap.size := (by omega)); (try have hz9_w4_2 : w4.heap.size + 1 + 1 < w9.heap.size := (by omega)); (try have hz9_w4_3 : w4.heap.size + 1 + 1 + 1 < w9.heap.size := (by omega)); (try have hz9_w5_0 : w5.heap.size < w9.heap.size := (by omega)); (try have hz9_w5_1 : w5.heap.size + 1 < w9.heap.size := (by omega)); (try have hz9_w5_2 : w5.heap.size + 1 + 1 < w9.heap.size := (by omega)); (try have hz9_w5_3 : w5.heap.size + 1 + 1 + 1 < w9.heap.size := (by omega)); (try have hz9_w6_0 : w6.heap.size < w9.heap.size := (by omega)); (try have hz9_w6_1 : w6.heap.size + 1 < w9.heap.size := (by omega)); (try have hz9_w6_2 : w6.heap.size + 1 + 1 < w9.heap.size := (by omega)); (try have hz9_w6_3 : w6.heap.size + 1 + 1 + 1 < w9.heap.size := (by omega)); (try have hz9_w7_0 : w7.heap.size < w9.heap.size := (by omega)); (try have hz9_w7_1 : w7.heap.size + 1 < w9.heap.size := (by omega)); (try have hz9_w7_2 : w7.heap.size + 1 + 1 < w9.heap.size := (by omega)); (try have hz9_w7_3 : w7.heap.size + 1 + 1 + 1 < w9.heap.size := (by omega)); (try have hz9_w8_0 : w8.heap.size < w9.heap.size := (by omega)); (try have hz9_w8_1 : w8.heap.size + 1 < w9.heap.size := (by omega)); (try have hz9_w8_2 : w8.heap.size + 1 + 1 < w9.heap.size := (by omega)); (try have hz9_w8_3 : w8.heap.size + 1 + 1 + 1 < w9.heap.size := (by omega)))
        go_wp2
        go_returns
        exact ⟨rfl, up hB9 hBw⟩
end Go.Proofs.YtgonaamjjhhiiaaDoor
