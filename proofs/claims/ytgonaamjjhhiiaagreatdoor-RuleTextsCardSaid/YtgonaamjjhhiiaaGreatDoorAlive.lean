/-
  The function of the chapter's examples, which each statement calls, returns true.
-/
import Derived.Test.YtgonaamjjhhiiaaGreatDoorEx
import Derived.Test.YtgonaamjjhhiiaaGreatDoorTerms
import Derived.Test.YtgonaamjjhhiiaaGreatDoorField
import Derived.Deep.DeepCutAuto
set_option linter.unusedVariables false
set_option linter.unusedSimpArgs false
namespace Go.Proofs.YtgonaamjjhhiiaaGreatDoor
open Go Go.RowKit

def TermsEx (w : World) (e : Ending) (w' : World) : Prop := ∃ g c : Nat, e = .returned (.tuple #[.slice (some ⟨g, 0, none⟩) 3 c, .int .i64 0]) ∧ w.heap.size ≤ g ∧ g < w'.heap.size ∧ w'.cell? ⟨g, 0, none⟩ = some (.int .i64 3) ∧ w'.cell? ⟨g, 1, none⟩ = some (.int .i64 7) ∧ w'.cell? ⟨g, 2, none⟩ = some (.int .i64 16) ∧ Below w.heap.size w w'
theorem Terms_ex (w : World) : Calls Tryz.prog 14 #[.agg #[.int .i64 (355), .int .i64 (113)]] w (TermsEx w) :=
  (Terms_ok 355 113 w (by decide +kernel)).mono fun e w' ⟨v, he, ho, hb⟩ => by
    rw [tl_ex] at ho
    have ho' := ho
    rcases ho.2 with ⟨_, h0⟩ | ⟨g, cap, cur, rfl, hg, hgb, _⟩
    · exact absurd h0 (by decide)
    · have hl := (Array.getElem?_eq_some_iff.1 hgb).1
      exact ⟨g, cap, he, hg, hl, (World.ownsRow.cellAt ho' 0 (by decide)).trans rfl, (World.ownsRow.cellAt ho' 1 (by decide)).trans rfl, (World.ownsRow.cellAt ho' 2 (by decide)).trans rfl, hb⟩

theorem equal_ex (g c h : Nat) (W : World) (c0 : W.cell? ⟨g, 0, none⟩ = some (.int .i64 3)) (c1 : W.cell? ⟨g, 1, none⟩ = some (.int .i64 7)) (c2 : W.cell? ⟨g, 2, none⟩ = some (.int .i64 16))
    (d0 : W.cell? ⟨h, 0, none⟩ = some (.int .i64 3)) (d1 : W.cell? ⟨h, 1, none⟩ = some (.int .i64 7)) (d2 : W.cell? ⟨h, 2, none⟩ = some (.int .i64 16)) :
    Calls Tryz.prog 20 #[.slice (some ⟨g, 0, none⟩) 3 c, .slice (some ⟨h, 0, none⟩) 3 3] W fun e w' => e = .returned (.bool true) ∧ Below W.heap.size W w' :=
  (Tryz.slices_Equal_int g 0 3 c h 0 3 3 [3, 7, 16] [3, 7, 16] W (by decide) (by decide) (by decide) (by decide)
    (fun j hj => by match j, hj with | 0, _ => exact c0 | 1, _ => exact c1 | 2, _ => exact c2)
    (fun j hj => by match j, hj with | 0, _ => exact d0 | 1, _ => exact d1 | 2, _ => exact d2)).mono fun e w' ⟨he, q, hw⟩ => by
      subst hw; exact ⟨he, below_drewN (Below.refl _ _) _⟩

/-- A fraction in a block of its own. -/
def BoxF (w wx : World) (g : Nat) (n d : Int) : Prop := w.heap.size ≤ g ∧ g < wx.heap.size ∧ wx.cell? ⟨g, 0, none⟩ = some (.int .i64 n) ∧ wx.cell? ⟨g, 1, none⟩ = some (.int .i64 d)
theorem BoxF.on {w wx wy : World} {g : Nat} {n d : Int} (h : BoxF w wx g n d) (hb : Below wx.heap.size wx wy) : BoxF w wy g n d :=
  ⟨h.1, Nat.lt_of_lt_of_le h.2.1 hb.size, (hb.cell (p := ⟨g, 0, none⟩) h.2.1).trans h.2.2.1, (hb.cell (p := ⟨g, 1, none⟩) h.2.1).trans h.2.2.2⟩
def BoxD (w wx : World) (g : Nat) : Prop := w.heap.size ≤ g ∧ g < wx.heap.size ∧ wx.cell? ⟨g, 0, none⟩ = some (.int .i64 3) ∧ wx.cell? ⟨g, 1, none⟩ = some (.int .i64 7) ∧ wx.cell? ⟨g, 2, none⟩ = some (.int .i64 16)
theorem BoxD.on {w wx wy : World} {g : Nat} (h : BoxD w wx g) (hb : Below wx.heap.size wx wy) : BoxD w wy g :=
  ⟨h.1, Nat.lt_of_lt_of_le h.2.1 hb.size, (hb.cell (p := ⟨g, 0, none⟩) h.2.1).trans h.2.2.1, (hb.cell (p := ⟨g, 1, none⟩) h.2.1).trans h.2.2.2.1, (hb.cell (p := ⟨g, 2, none⟩) h.2.1).trans h.2.2.2.2⟩
def BoxR (w wx : World) (g : Nat) : Prop := w.heap.size ≤ g ∧ g < wx.heap.size ∧ wx.cell? ⟨g, 0, none⟩ = some (.int .i64 109) ∧ wx.cell? ⟨g, 1, none⟩ = some (.int .i64 1000) ∧ wx.cell? ⟨g, 2, none⟩ = some (.int .i64 59) ∧ wx.cell? ⟨g, 3, none⟩ = some (.int .i64 500)
theorem BoxR.on {w wx wy : World} {g : Nat} (h : BoxR w wx g) (hb : Below wx.heap.size wx wy) : BoxR w wy g :=
  ⟨h.1, Nat.lt_of_lt_of_le h.2.1 hb.size, (hb.cell (p := ⟨g, 0, none⟩) h.2.1).trans h.2.2.1, (hb.cell (p := ⟨g, 1, none⟩) h.2.1).trans h.2.2.2.1, (hb.cell (p := ⟨g, 2, none⟩) h.2.1).trans h.2.2.2.2.1, (hb.cell (p := ⟨g, 3, none⟩) h.2.1).trans h.2.2.2.2.2⟩

/-- What a statement with one fraction leaves. -/
def R1 (w W : World) (n d : Int) (s1 s2 : Value) (wx : World) : Prop := ∃ g : Nat, s1 = .pointer (some ⟨g, 0, none⟩) ∧ s2 = .int .i64 0 ∧ BoxF w wx g n d ∧ Below W.heap.size W wx
def R2 (w W : World) (n d m k : Int) (s1 s2 s3 : Value) (wx : World) : Prop := ∃ g h : Nat, s1 = .pointer (some ⟨g, 0, none⟩) ∧ s2 = .pointer (some ⟨h, 0, none⟩) ∧ s3 = .int .i64 0 ∧ BoxF w wx g n d ∧ BoxF w wx h m k ∧ Below W.heap.size W wx
def RT (w W : World) (s1 s2 : Value) (wx : World) : Prop := ∃ g c : Nat, s1 = .slice (some ⟨g, 0, none⟩) 3 c ∧ s2 = .int .i64 0 ∧ BoxD w wx g ∧ Below W.heap.size W wx
def RW (w W : World) (s1 s2 : Value) (wx : World) : Prop := ∃ g : Nat, s1 = .pointer (some ⟨g, 0, none⟩) ∧ s2 = .int .i64 0 ∧ BoxR w wx g ∧ Below W.heap.size W wx
def RS (W : World) (s1 s2 s3 s4 : Value) (wx : World) : Prop := s1 = .int .i64 995 ∧ s2 = .int .i64 1010 ∧ s3 = .bool true ∧ s4 = .int .i64 0 ∧ Below W.heap.size W wx
def RB (W : World) (s1 s2 : Value) (wx : World) : Prop := s1 = .int .i64 1015 ∧ s2 = .int .i64 0 ∧ Below W.heap.size W wx
def RX (W : World) (s1 s2 : Value) (wx : World) : Prop := s1 = .string ⟨#[45, 51, 47, 50]⟩ ∧ s2 = .int .i64 0 ∧ Below W.heap.size W wx
def RZ (W : World) (s1 : Value) (wx : World) : Prop := s1 = .bool true ∧ Below W.heap.size W wx

abbrev AlS (w : World) (g1 g3 g5 g6 g8 gd : Nat) (w' : World) : Prop := w'.cell? ⟨g1, 0, none⟩ = some (.int .i64 (-3)) ∧ w'.cell? ⟨g1, 1, none⟩ = some (.int .i64 2) ∧ w'.cell? ⟨g3, 0, none⟩ = some (.int .i64 5) ∧ w'.cell? ⟨g3, 1, none⟩ = some (.int .i64 16) ∧ w'.cell? ⟨g5, 0, none⟩ = some (.int .i64 4) ∧ w'.cell? ⟨g5, 1, none⟩ = some (.int .i64 13) ∧ w'.cell? ⟨g6, 0, none⟩ = some (.int .i64 1) ∧ w'.cell? ⟨g6, 1, none⟩ = some (.int .i64 3) ∧ w'.cell? ⟨g8, 0, none⟩ = some (.int .i64 355) ∧ w'.cell? ⟨g8, 1, none⟩ = some (.int .i64 113) ∧ w'.cell? ⟨gd, 0, none⟩ = some (.int .i64 3) ∧ w'.cell? ⟨gd, 1, none⟩ = some (.int .i64 7) ∧ w'.cell? ⟨gd, 2, none⟩ = some (.int .i64 16) ∧ g1 < w'.heap.size ∧ g3 < w'.heap.size ∧ g5 < w'.heap.size ∧ g6 < w'.heap.size ∧ g8 < w'.heap.size ∧ gd < w'.heap.size ∧ Below w.heap.size w w'
theorem AlS_on {w W W' : World} {g1 g3 g5 g6 g8 gd : Nat} (h : AlS w g1 g3 g5 g6 g8 gd W) (hb : Below W.heap.size W W') : AlS w g1 g3 g5 g6 g8 gd W' := by
  obtain ⟨c0, c1, c2, c3, c4, c5, c6, c7, c8, c9, c10, c11, c12, z0, z1, z2, z3, z4, z5, hB⟩ := h
  exact ⟨(hb.cell (p := ⟨g1, 0, none⟩) z0).trans c0, (hb.cell (p := ⟨g1, 1, none⟩) z0).trans c1, (hb.cell (p := ⟨g3, 0, none⟩) z1).trans c2, (hb.cell (p := ⟨g3, 1, none⟩) z1).trans c3, (hb.cell (p := ⟨g5, 0, none⟩) z2).trans c4, (hb.cell (p := ⟨g5, 1, none⟩) z2).trans c5, (hb.cell (p := ⟨g6, 0, none⟩) z3).trans c6, (hb.cell (p := ⟨g6, 1, none⟩) z3).trans c7, (hb.cell (p := ⟨g8, 0, none⟩) z4).trans c8, (hb.cell (p := ⟨g8, 1, none⟩) z4).trans c9, (hb.cell (p := ⟨gd, 0, none⟩) z5).trans c10, (hb.cell (p := ⟨gd, 1, none⟩) z5).trans c11, (hb.cell (p := ⟨gd, 2, none⟩) z5).trans c12, Nat.lt_of_lt_of_le z0 hb.size, Nat.lt_of_lt_of_le z1 hb.size, Nat.lt_of_lt_of_le z2 hb.size, Nat.lt_of_lt_of_le z3 hb.size, Nat.lt_of_lt_of_le z4 hb.size, Nat.lt_of_lt_of_le z5 hb.size, up hb hB⟩
theorem AlS_drew {w W : World} {g1 g3 g5 g6 g8 gd : Nat} (h : AlS w g1 g3 g5 g6 g8 gd W) : AlS w g1 g3 g5 g6 g8 gd W.drew := AlS_on h (Below.drew (Below.refl _ _))
theorem AlS_alloc {w W : World} {g1 g3 g5 g6 g8 gd : Nat} (o : Obj) (h : AlS w g1 g3 g5 g6 g8 gd W) : AlS w g1 g3 g5 g6 g8 gd (W.alloc o) := AlS_on h ((Below.refl _ _).alloc (Nat.le_refl _) _)
abbrev AlT (w : World) (g18 g22 : Nat) (w' : World) : Prop := w'.cell? ⟨g18, 0, none⟩ = some (.int .i64 109) ∧ w'.cell? ⟨g18, 1, none⟩ = some (.int .i64 1000) ∧ w'.cell? ⟨g18, 2, none⟩ = some (.int .i64 59) ∧ w'.cell? ⟨g18, 3, none⟩ = some (.int .i64 500) ∧ w'.cell? ⟨g22, 0, none⟩ = some (.int .i64 1) ∧ w'.cell? ⟨g22, 1, none⟩ = some (.int .i64 2) ∧ g18 < w'.heap.size ∧ g22 < w'.heap.size ∧ Below w.heap.size w w'
theorem AlT_on {w W W' : World} {g18 g22 : Nat} (h : AlT w g18 g22 W) (hb : Below W.heap.size W W') : AlT w g18 g22 W' := by
  obtain ⟨c0, c1, c2, c3, c4, c5, z0, z1, hB⟩ := h
  exact ⟨(hb.cell (p := ⟨g18, 0, none⟩) z0).trans c0, (hb.cell (p := ⟨g18, 1, none⟩) z0).trans c1, (hb.cell (p := ⟨g18, 2, none⟩) z0).trans c2, (hb.cell (p := ⟨g18, 3, none⟩) z0).trans c3, (hb.cell (p := ⟨g22, 0, none⟩) z1).trans c4, (hb.cell (p := ⟨g22, 1, none⟩) z1).trans c5, Nat.lt_of_lt_of_le z0 hb.size, Nat.lt_of_lt_of_le z1 hb.size, up hb hB⟩
theorem AlT_drew {w W : World} {g18 g22 : Nat} (h : AlT w g18 g22 W) : AlT w g18 g22 W.drew := AlT_on h (Below.drew (Below.refl _ _))
theorem AlT_alloc {w W : World} {g18 g22 : Nat} (o : Obj) (h : AlT w g18 g22 W) : AlT w g18 g22 (W.alloc o) := AlT_on h ((Below.refl _ _).alloc (Nat.le_refl _) _)

theorem AlS_b {w W : World} (g1 g3 g5 g6 g8 gd : Nat) (h : AlS w g1 g3 g5 g6 g8 gd W) : Below w.heap.size w W := by
  obtain ⟨_, _, _, _, _, _, _, _, _, _, _, _, _, _, _, _, _, _, _, hB⟩ := h
  exact hB
theorem AlT_b {w W : World} (g18 g22 : Nat) (h : AlT w g18 g22 W) : Below w.heap.size w W := by
  obtain ⟨_, _, _, _, _, _, _, _, hB⟩ := h
  exact hB
theorem equal_al {w W : World} {g1 g3 g5 g6 g8 gd c h : Nat} (hs : AlS w g1 g3 g5 g6 g8 gd W) 
    (d0 : W.cell? ⟨h, 0, none⟩ = some (.int .i64 3)) (d1 : W.cell? ⟨h, 1, none⟩ = some (.int .i64 7)) (d2 : W.cell? ⟨h, 2, none⟩ = some (.int .i64 16)) :
    Calls Tryz.prog 20 #[.slice (some ⟨gd, 0, none⟩) 3 c, .slice (some ⟨h, 0, none⟩) 3 3] W fun e w' => e = .returned (.bool true) ∧ Below W.heap.size W w' := by
  obtain ⟨_, _, _, _, _, _, _, _, _, _, c0, c1, c2, _⟩ := hs
  exact equal_ex gd c h W c0 c1 c2 d0 d1 d2


set_option maxRecDepth 100000 in
set_option maxHeartbeats 20000000 in
theorem alive_core (w : World) (ht : Pow10 w) (hT : ∀ W : World, Calls Tryz.prog 18 #[.agg #[.int .i64 (1), .int .i64 (100), .int .i64 (1), .int .i64 (50)], .agg #[.int .i64 (1), .int .i64 (10), .int .i64 (1), .int .i64 (10)]] W fun e w' => e = .returned (.tuple #[.agg #[.int .i64 (109), .int .i64 (1000), .int .i64 (59), .int .i64 (500)], .int .i64 0]) ∧ Below W.heap.size W w') :
    Calls Tryz.prog 4 #[] w fun e w' => e = .returned (.bool true) ∧ Below w.heap.size w w' := by
  have hx := fun (W : World) (hb : Below w.heap.size w W) => Write_ex W (ht.below hb)
  have HX := Lib.hid hx
  have HT := Lib.hid hT
  clear hx hT ht
  have hBw : Below w.heap.size w w := Below.refl _ _
  go_enter Tryz.func4, Tryz.ntmps4
  go_upto_region 1 with fail
  go_cut [1, 2] (R1 w w (-3) 2)
  case first =>
    as_aux_lemma =>
      go_wp2_with fail
      (refine (Of_ex _).mono ?_; rintro e w1 ⟨rfl, hb1⟩; obtain ⟨hc1, hf1⟩ := bcell hb1; have hB1 : Below w.heap.size w w1 := up hb1 (by go_grown); have hz1 := hb1.size; (try simp at hz1); (try have hz1_w_p1 : w.heap.size < w1.heap.size + 1 := (by omega)); (try have hz1_w_p2 : w.heap.size < w1.heap.size + 1 + 1 := (by omega)); (try have hz1_w_p3 : w.heap.size < w1.heap.size + 1 + 1 + 1 := (by omega)); (try have hz1_w_0 : w.heap.size < w1.heap.size := (by omega)); (try have hz1_w_1 : w.heap.size + 1 < w1.heap.size := (by omega)); (try have hz1_w_2 : w.heap.size + 1 + 1 < w1.heap.size := (by omega)); (try have hz1_w_3 : w.heap.size + 1 + 1 + 1 < w1.heap.size := (by omega)); (try have hz1_w_4 : w.heap.size + 1 + 1 + 1 + 1 < w1.heap.size := (by omega)); (try have hz1_w_5 : w.heap.size + 1 + 1 + 1 + 1 + 1 < w1.heap.size := (by omega)); (try have hz1_w_6 : w.heap.size + 1 + 1 + 1 + 1 + 1 + 1 < w1.heap.size := (by omega)))
      go_wp2
      go_meet
      case rel => exact ⟨w1.heap.size, rfl, rfl, ⟨by omega, by simp, by go_cell, by go_cell⟩, by go_grown⟩
  obtain ⟨g1, rfl, rfl, b1, hB⟩ := hcut
  replace hBw := up hB hBw
  clear hB
  go_upto_region 2 with fail
  go_cut [3, 4] (R1 w wc 5 16)
  case first =>
    as_aux_lemma =>
      clear b1
      go_wp2_with fail
      (refine (f_any 31 100 _).mono ?_; rintro e w1 ⟨rfl, hb1⟩; obtain ⟨hc1, hf1⟩ := bcell hb1; have hB1 : Below wc.heap.size wc w1 := up hb1 (by go_grown); have hz1 := hb1.size; (try simp at hz1); (try have hz1_wc_p1 : wc.heap.size < w1.heap.size + 1 := (by omega)); (try have hz1_wc_p2 : wc.heap.size < w1.heap.size + 1 + 1 := (by omega)); (try have hz1_wc_p3 : wc.heap.size < w1.heap.size + 1 + 1 + 1 := (by omega)); (try have hz1_wc_0 : wc.heap.size < w1.heap.size := (by omega)); (try have hz1_wc_1 : wc.heap.size + 1 < w1.heap.size := (by omega)); (try have hz1_wc_2 : wc.heap.size + 1 + 1 < w1.heap.size := (by omega)); (try have hz1_wc_3 : wc.heap.size + 1 + 1 + 1 < w1.heap.size := (by omega)); (try have hz1_wc_4 : wc.heap.size + 1 + 1 + 1 + 1 < w1.heap.size := (by omega)); (try have hz1_wc_5 : wc.heap.size + 1 + 1 + 1 + 1 + 1 < w1.heap.size := (by omega)); (try have hz1_wc_6 : wc.heap.size + 1 + 1 + 1 + 1 + 1 + 1 < w1.heap.size := (by omega)))
      go_wp2_with fail
      (refine (f_any 8 25 _).mono ?_; rintro e w2 ⟨rfl, hb2⟩; obtain ⟨hc2, hf2⟩ := bcell hb2; have hB2 : Below wc.heap.size wc w2 := up hb2 (by go_grown); have hz2 := hb2.size; (try simp at hz2); (try have hz2_wc_p1 : wc.heap.size < w2.heap.size + 1 := (by omega)); (try have hz2_wc_p2 : wc.heap.size < w2.heap.size + 1 + 1 := (by omega)); (try have hz2_wc_p3 : wc.heap.size < w2.heap.size + 1 + 1 + 1 := (by omega)); (try have hz2_w1_p1 : w1.heap.size < w2.heap.size + 1 := (by omega)); (try have hz2_w1_p2 : w1.heap.size < w2.heap.size + 1 + 1 := (by omega)); (try have hz2_w1_p3 : w1.heap.size < w2.heap.size + 1 + 1 + 1 := (by omega)); (try have hz2_wc_0 : wc.heap.size < w2.heap.size := (by omega)); (try have hz2_wc_1 : wc.heap.size + 1 < w2.heap.size := (by omega)); (try have hz2_wc_2 : wc.heap.size + 1 + 1 < w2.heap.size := (by omega)); (try have hz2_wc_3 : wc.heap.size + 1 + 1 + 1 < w2.heap.size := (by omega)); (try have hz2_wc_4 : wc.heap.size + 1 + 1 + 1 + 1 < w2.heap.size := (by omega)); (try have hz2_wc_5 : wc.heap.size + 1 + 1 + 1 + 1 + 1 < w2.heap.size := (by omega)); (try have hz2_wc_6 : wc.heap.size + 1 + 1 + 1 + 1 + 1 + 1 < w2.heap.size := (by omega)); (try have hz2_w1_0 : w1.heap.size < w2.heap.size := (by omega)); (try have hz2_w1_1 : w1.heap.size + 1 < w2.heap.size := (by omega)); (try have hz2_w1_2 : w1.heap.size + 1 + 1 < w2.heap.size := (by omega)); (try have hz2_w1_3 : w1.heap.size + 1 + 1 + 1 < w2.heap.size := (by omega)))
      go_wp2_with fail
      (refine (Simplest_ex _).mono ?_; rintro e w3 ⟨rfl, hb3⟩; obtain ⟨hc3, hf3⟩ := bcell hb3; have hB3 : Below wc.heap.size wc w3 := up hb3 (by go_grown); have hz3 := hb3.size; (try simp at hz3); (try have hz3_wc_p1 : wc.heap.size < w3.heap.size + 1 := (by omega)); (try have hz3_wc_p2 : wc.heap.size < w3.heap.size + 1 + 1 := (by omega)); (try have hz3_wc_p3 : wc.heap.size < w3.heap.size + 1 + 1 + 1 := (by omega)); (try have hz3_w1_p1 : w1.heap.size < w3.heap.size + 1 := (by omega)); (try have hz3_w1_p2 : w1.heap.size < w3.heap.size + 1 + 1 := (by omega)); (try have hz3_w1_p3 : w1.heap.size < w3.heap.size + 1 + 1 + 1 := (by omega)); (try have hz3_w2_p1 : w2.heap.size < w3.heap.size + 1 := (by omega)); (try have hz3_w2_p2 : w2.heap.size < w3.heap.size + 1 + 1 := (by omega)); (try have hz3_w2_p3 : w2.heap.size < w3.heap.size + 1 + 1 + 1 := (by omega)); (try have hz3_wc_0 : wc.heap.size < w3.heap.size := (by omega)); (try have hz3_wc_1 : wc.heap.size + 1 < w3.heap.size := (by omega)); (try have hz3_wc_2 : wc.heap.size + 1 + 1 < w3.heap.size := (by omega)); (try have hz3_wc_3 : wc.heap.size + 1 + 1 + 1 < w3.heap.size := (by omega)); (try have hz3_wc_4 : wc.heap.size + 1 + 1 + 1 + 1 < w3.heap.size := (by omega)); (try have hz3_wc_5 : wc.heap.size + 1 + 1 + 1 + 1 + 1 < w3.heap.size := (by omega)); (try have hz3_wc_6 : wc.heap.size + 1 + 1 + 1 + 1 + 1 + 1 < w3.heap.size := (by omega)); (try have hz3_w1_0 : w1.heap.size < w3.heap.size := (by omega)); (try have hz3_w1_1 : w1.heap.size + 1 < w3.heap.size := (by omega)); (try have hz3_w1_2 : w1.heap.size + 1 + 1 < w3.heap.size := (by omega)); (try have hz3_w1_3 : w1.heap.size + 1 + 1 + 1 < w3.heap.size := (by omega)); (try have hz3_w2_0 : w2.heap.size < w3.heap.size := (by omega)); (try have hz3_w2_1 : w2.heap.size + 1 < w3.heap.size := (by omega)); (try have hz3_w2_2 : w2.heap.size + 1 + 1 < w3.heap.size := (by omega)); (try have hz3_w2_3 : w2.heap.size + 1 + 1 + 1 < w3.heap.size := (by omega)))
      go_wp2
      go_meet
      case rel => exact ⟨w3.heap.size, rfl, rfl, ⟨by have := hBw.size; omega, by simp, by go_cell, by go_cell⟩, by go_grown⟩
  obtain ⟨g3, rfl, rfl, b3, hB⟩ := hcut
  replace hBw := up hB hBw
  replace b1 := b1.on hB
  clear hB
  go_upto_region 3 with fail
  go_cut [5, 6, 7] (R2 w wc 4 13 1 3)
  case first =>
    as_aux_lemma =>
      obtain ⟨_, l3, x3, y3⟩ := b3
      clear b1
      go_wp2_with fail
      (refine (Neighbours_ex _).mono ?_; rintro e w1 ⟨rfl, hb1⟩; obtain ⟨hc1, hf1⟩ := bcell hb1; have hB1 : Below wc.heap.size wc w1 := up hb1 (by go_grown); have hz1 := hb1.size; (try simp at hz1); (try have hz1_wc_p1 : wc.heap.size < w1.heap.size + 1 := (by omega)); (try have hz1_wc_p2 : wc.heap.size < w1.heap.size + 1 + 1 := (by omega)); (try have hz1_wc_p3 : wc.heap.size < w1.heap.size + 1 + 1 + 1 := (by omega)); (try have hz1_wc_0 : wc.heap.size < w1.heap.size := (by omega)); (try have hz1_wc_1 : wc.heap.size + 1 < w1.heap.size := (by omega)); (try have hz1_wc_2 : wc.heap.size + 1 + 1 < w1.heap.size := (by omega)); (try have hz1_wc_3 : wc.heap.size + 1 + 1 + 1 < w1.heap.size := (by omega)); (try have hz1_wc_4 : wc.heap.size + 1 + 1 + 1 + 1 < w1.heap.size := (by omega)); (try have hz1_wc_5 : wc.heap.size + 1 + 1 + 1 + 1 + 1 < w1.heap.size := (by omega)); (try have hz1_wc_6 : wc.heap.size + 1 + 1 + 1 + 1 + 1 + 1 < w1.heap.size := (by omega)))
      go_wp2
      go_meet
      case rel => exact ⟨w1.heap.size, w1.heap.size + 1, rfl, rfl, rfl, ⟨by have := hBw.size; omega, by simp; omega, by go_cell, by go_cell⟩, ⟨by have := hBw.size; omega, by simp, by go_cell, by go_cell⟩, by go_grown⟩
  obtain ⟨g5, g6, rfl, rfl, rfl, b5, b6, hB⟩ := hcut
  replace hBw := up hB hBw
  replace b1 := b1.on hB
  replace b3 := b3.on hB
  clear hB
  go_upto_region 4 with fail
  go_cut [8, 9] (R1 w wc 355 113)
  case first =>
    as_aux_lemma =>
      clear b1 b3 b5 b6
      go_wp2_with fail
      (refine (f_any 314159 100000 _).mono ?_; rintro e w1 ⟨rfl, hb1⟩; obtain ⟨hc1, hf1⟩ := bcell hb1; have hB1 : Below wc.heap.size wc w1 := up hb1 (by go_grown); have hz1 := hb1.size; (try simp at hz1); (try have hz1_wc_p1 : wc.heap.size < w1.heap.size + 1 := (by omega)); (try have hz1_wc_p2 : wc.heap.size < w1.heap.size + 1 + 1 := (by omega)); (try have hz1_wc_p3 : wc.heap.size < w1.heap.size + 1 + 1 + 1 := (by omega)); (try have hz1_wc_0 : wc.heap.size < w1.heap.size := (by omega)); (try have hz1_wc_1 : wc.heap.size + 1 < w1.heap.size := (by omega)); (try have hz1_wc_2 : wc.heap.size + 1 + 1 < w1.heap.size := (by omega)); (try have hz1_wc_3 : wc.heap.size + 1 + 1 + 1 < w1.heap.size := (by omega)); (try have hz1_wc_4 : wc.heap.size + 1 + 1 + 1 + 1 < w1.heap.size := (by omega)); (try have hz1_wc_5 : wc.heap.size + 1 + 1 + 1 + 1 + 1 < w1.heap.size := (by omega)); (try have hz1_wc_6 : wc.heap.size + 1 + 1 + 1 + 1 + 1 + 1 < w1.heap.size := (by omega)))
      go_wp2_with fail
      (refine (Nearest_ex _).mono ?_; rintro e w2 ⟨rfl, hb2⟩; obtain ⟨hc2, hf2⟩ := bcell hb2; have hB2 : Below wc.heap.size wc w2 := up hb2 (by go_grown); have hz2 := hb2.size; (try simp at hz2); (try have hz2_wc_p1 : wc.heap.size < w2.heap.size + 1 := (by omega)); (try have hz2_wc_p2 : wc.heap.size < w2.heap.size + 1 + 1 := (by omega)); (try have hz2_wc_p3 : wc.heap.size < w2.heap.size + 1 + 1 + 1 := (by omega)); (try have hz2_w1_p1 : w1.heap.size < w2.heap.size + 1 := (by omega)); (try have hz2_w1_p2 : w1.heap.size < w2.heap.size + 1 + 1 := (by omega)); (try have hz2_w1_p3 : w1.heap.size < w2.heap.size + 1 + 1 + 1 := (by omega)); (try have hz2_wc_0 : wc.heap.size < w2.heap.size := (by omega)); (try have hz2_wc_1 : wc.heap.size + 1 < w2.heap.size := (by omega)); (try have hz2_wc_2 : wc.heap.size + 1 + 1 < w2.heap.size := (by omega)); (try have hz2_wc_3 : wc.heap.size + 1 + 1 + 1 < w2.heap.size := (by omega)); (try have hz2_wc_4 : wc.heap.size + 1 + 1 + 1 + 1 < w2.heap.size := (by omega)); (try have hz2_wc_5 : wc.heap.size + 1 + 1 + 1 + 1 + 1 < w2.heap.size := (by omega)); (try have hz2_wc_6 : wc.heap.size + 1 + 1 + 1 + 1 + 1 + 1 < w2.heap.size := (by omega)); (try have hz2_w1_0 : w1.heap.size < w2.heap.size := (by omega)); (try have hz2_w1_1 : w1.heap.size + 1 < w2.heap.size := (by omega)); (try have hz2_w1_2 : w1.heap.size + 1 + 1 < w2.heap.size := (by omega)); (try have hz2_w1_3 : w1.heap.size + 1 + 1 + 1 < w2.heap.size := (by omega)))
      go_wp2
      go_meet
      case rel => exact ⟨w2.heap.size, rfl, rfl, ⟨by have := hBw.size; omega, by simp, by go_cell, by go_cell⟩, by go_grown⟩
  obtain ⟨g8, rfl, rfl, b8, hB⟩ := hcut
  replace hBw := up hB hBw
  replace b1 := b1.on hB
  replace b3 := b3.on hB
  replace b5 := b5.on hB
  replace b6 := b6.on hB
  clear hB
  go_upto_region 5 with fail
  go_cut [10, 11] (RT w wc)
  case first =>
    as_aux_lemma =>
      clear b1 b3 b5 b6 b8
      go_wp2_with fail
      (refine (f_any 355 113 _).mono ?_; rintro e w1 ⟨rfl, hb1⟩; obtain ⟨hc1, hf1⟩ := bcell hb1; have hB1 : Below wc.heap.size wc w1 := up hb1 (by go_grown); have hz1 := hb1.size; (try simp at hz1); (try have hz1_wc_p1 : wc.heap.size < w1.heap.size + 1 := (by omega)); (try have hz1_wc_p2 : wc.heap.size < w1.heap.size + 1 + 1 := (by omega)); (try have hz1_wc_p3 : wc.heap.size < w1.heap.size + 1 + 1 + 1 := (by omega)); (try have hz1_wc_0 : wc.heap.size < w1.heap.size := (by omega)); (try have hz1_wc_1 : wc.heap.size + 1 < w1.heap.size := (by omega)); (try have hz1_wc_2 : wc.heap.size + 1 + 1 < w1.heap.size := (by omega)); (try have hz1_wc_3 : wc.heap.size + 1 + 1 + 1 < w1.heap.size := (by omega)); (try have hz1_wc_4 : wc.heap.size + 1 + 1 + 1 + 1 < w1.heap.size := (by omega)); (try have hz1_wc_5 : wc.heap.size + 1 + 1 + 1 + 1 + 1 < w1.heap.size := (by omega)); (try have hz1_wc_6 : wc.heap.size + 1 + 1 + 1 + 1 + 1 + 1 < w1.heap.size := (by omega)))
      go_wp2_with fail
      refine (Terms_ex _).mono ?_
      rintro e w2 ⟨gd, c, rfl, d0, d1, d2, d3, d4, hb2⟩
      have hB2 : Below wc.heap.size wc w2 := up hb2 (by go_grown)
      go_wp2
      go_meet
      case rel => exact ⟨gd, c, rfl, rfl, ⟨by have := hBw.size; omega, d1, d2, d3, d4⟩, hB2⟩
  obtain ⟨gd, c, rfl, rfl, bd, hB⟩ := hcut
  replace hBw := up hB hBw
  replace b1 := b1.on hB
  replace b3 := b3.on hB
  replace b5 := b5.on hB
  replace b6 := b6.on hB
  replace b8 := b8.on hB
  clear hB
  go_upto_region 6 with fail
  go_cut [12, 13, 14, 15] (RS wc)
  case first =>
    as_aux_lemma =>
      clear b1 b3 b5 b6 b8 bd
      go_wp2_with fail
      (refine (tin_any _).mono ?_; rintro e w1 ⟨rfl, hb1⟩; obtain ⟨hc1, hf1⟩ := bcell hb1; have hB1 : Below wc.heap.size wc w1 := up hb1 (by go_grown); have hz1 := hb1.size; (try simp at hz1); (try have hz1_wc_p1 : wc.heap.size < w1.heap.size + 1 := (by omega)); (try have hz1_wc_p2 : wc.heap.size < w1.heap.size + 1 + 1 := (by omega)); (try have hz1_wc_p3 : wc.heap.size < w1.heap.size + 1 + 1 + 1 := (by omega)); (try have hz1_wc_0 : wc.heap.size < w1.heap.size := (by omega)); (try have hz1_wc_1 : wc.heap.size + 1 < w1.heap.size := (by omega)); (try have hz1_wc_2 : wc.heap.size + 1 + 1 < w1.heap.size := (by omega)); (try have hz1_wc_3 : wc.heap.size + 1 + 1 + 1 < w1.heap.size := (by omega)); (try have hz1_wc_4 : wc.heap.size + 1 + 1 + 1 + 1 < w1.heap.size := (by omega)); (try have hz1_wc_5 : wc.heap.size + 1 + 1 + 1 + 1 + 1 < w1.heap.size := (by omega)); (try have hz1_wc_6 : wc.heap.size + 1 + 1 + 1 + 1 + 1 + 1 < w1.heap.size := (by omega)))
      go_wp2_with fail
      (refine (Sizes_ex _).mono ?_; rintro e w2 ⟨rfl, hb2⟩; obtain ⟨hc2, hf2⟩ := bcell hb2; have hB2 : Below wc.heap.size wc w2 := up hb2 (by go_grown); have hz2 := hb2.size; (try simp at hz2); (try have hz2_wc_p1 : wc.heap.size < w2.heap.size + 1 := (by omega)); (try have hz2_wc_p2 : wc.heap.size < w2.heap.size + 1 + 1 := (by omega)); (try have hz2_wc_p3 : wc.heap.size < w2.heap.size + 1 + 1 + 1 := (by omega)); (try have hz2_w1_p1 : w1.heap.size < w2.heap.size + 1 := (by omega)); (try have hz2_w1_p2 : w1.heap.size < w2.heap.size + 1 + 1 := (by omega)); (try have hz2_w1_p3 : w1.heap.size < w2.heap.size + 1 + 1 + 1 := (by omega)); (try have hz2_wc_0 : wc.heap.size < w2.heap.size := (by omega)); (try have hz2_wc_1 : wc.heap.size + 1 < w2.heap.size := (by omega)); (try have hz2_wc_2 : wc.heap.size + 1 + 1 < w2.heap.size := (by omega)); (try have hz2_wc_3 : wc.heap.size + 1 + 1 + 1 < w2.heap.size := (by omega)); (try have hz2_wc_4 : wc.heap.size + 1 + 1 + 1 + 1 < w2.heap.size := (by omega)); (try have hz2_wc_5 : wc.heap.size + 1 + 1 + 1 + 1 + 1 < w2.heap.size := (by omega)); (try have hz2_wc_6 : wc.heap.size + 1 + 1 + 1 + 1 + 1 + 1 < w2.heap.size := (by omega)); (try have hz2_w1_0 : w1.heap.size < w2.heap.size := (by omega)); (try have hz2_w1_1 : w1.heap.size + 1 < w2.heap.size := (by omega)); (try have hz2_w1_2 : w1.heap.size + 1 + 1 < w2.heap.size := (by omega)); (try have hz2_w1_3 : w1.heap.size + 1 + 1 + 1 < w2.heap.size := (by omega)))
      go_wp2
      go_meet
      case rel => exact ⟨rfl, rfl, rfl, rfl, by go_grown⟩
  obtain ⟨rfl, rfl, rfl, rfl, hB⟩ := hcut
  replace hBw := up hB hBw
  replace b1 := b1.on hB
  replace b3 := b3.on hB
  replace b5 := b5.on hB
  replace b6 := b6.on hB
  replace b8 := b8.on hB
  replace bd := bd.on hB
  clear hB
  go_upto_region 7 with fail
  go_cut [16, 17] (RB wc)
  case first =>
    as_aux_lemma =>
      clear b1 b3 b5 b6 b8 bd
      go_wp2_with fail
      (refine (tin_any _).mono ?_; rintro e w1 ⟨rfl, hb1⟩; obtain ⟨hc1, hf1⟩ := bcell hb1; have hB1 : Below wc.heap.size wc w1 := up hb1 (by go_grown); have hz1 := hb1.size; (try simp at hz1); (try have hz1_wc_p1 : wc.heap.size < w1.heap.size + 1 := (by omega)); (try have hz1_wc_p2 : wc.heap.size < w1.heap.size + 1 + 1 := (by omega)); (try have hz1_wc_p3 : wc.heap.size < w1.heap.size + 1 + 1 + 1 := (by omega)); (try have hz1_wc_0 : wc.heap.size < w1.heap.size := (by omega)); (try have hz1_wc_1 : wc.heap.size + 1 < w1.heap.size := (by omega)); (try have hz1_wc_2 : wc.heap.size + 1 + 1 < w1.heap.size := (by omega)); (try have hz1_wc_3 : wc.heap.size + 1 + 1 + 1 < w1.heap.size := (by omega)); (try have hz1_wc_4 : wc.heap.size + 1 + 1 + 1 + 1 < w1.heap.size := (by omega)); (try have hz1_wc_5 : wc.heap.size + 1 + 1 + 1 + 1 + 1 < w1.heap.size := (by omega)); (try have hz1_wc_6 : wc.heap.size + 1 + 1 + 1 + 1 + 1 + 1 < w1.heap.size := (by omega)))
      go_wp2_with fail
      (refine (Best_ex _).mono ?_; rintro e w2 ⟨rfl, hb2⟩; obtain ⟨hc2, hf2⟩ := bcell hb2; have hB2 : Below wc.heap.size wc w2 := up hb2 (by go_grown); have hz2 := hb2.size; (try simp at hz2); (try have hz2_wc_p1 : wc.heap.size < w2.heap.size + 1 := (by omega)); (try have hz2_wc_p2 : wc.heap.size < w2.heap.size + 1 + 1 := (by omega)); (try have hz2_wc_p3 : wc.heap.size < w2.heap.size + 1 + 1 + 1 := (by omega)); (try have hz2_w1_p1 : w1.heap.size < w2.heap.size + 1 := (by omega)); (try have hz2_w1_p2 : w1.heap.size < w2.heap.size + 1 + 1 := (by omega)); (try have hz2_w1_p3 : w1.heap.size < w2.heap.size + 1 + 1 + 1 := (by omega)); (try have hz2_wc_0 : wc.heap.size < w2.heap.size := (by omega)); (try have hz2_wc_1 : wc.heap.size + 1 < w2.heap.size := (by omega)); (try have hz2_wc_2 : wc.heap.size + 1 + 1 < w2.heap.size := (by omega)); (try have hz2_wc_3 : wc.heap.size + 1 + 1 + 1 < w2.heap.size := (by omega)); (try have hz2_wc_4 : wc.heap.size + 1 + 1 + 1 + 1 < w2.heap.size := (by omega)); (try have hz2_wc_5 : wc.heap.size + 1 + 1 + 1 + 1 + 1 < w2.heap.size := (by omega)); (try have hz2_wc_6 : wc.heap.size + 1 + 1 + 1 + 1 + 1 + 1 < w2.heap.size := (by omega)); (try have hz2_w1_0 : w1.heap.size < w2.heap.size := (by omega)); (try have hz2_w1_1 : w1.heap.size + 1 < w2.heap.size := (by omega)); (try have hz2_w1_2 : w1.heap.size + 1 + 1 < w2.heap.size := (by omega)); (try have hz2_w1_3 : w1.heap.size + 1 + 1 + 1 < w2.heap.size := (by omega)))
      go_wp2
      go_meet
      case rel => exact ⟨rfl, rfl, by go_grown⟩
  obtain ⟨rfl, rfl, hB⟩ := hcut
  replace hBw := up hB hBw
  replace b1 := b1.on hB
  replace b3 := b3.on hB
  replace b5 := b5.on hB
  replace b6 := b6.on hB
  replace b8 := b8.on hB
  replace bd := bd.on hB
  clear hB
  go_upto_region 8 with fail
  go_cut [18, 19] (RW w wc)
  case first =>
    as_aux_lemma =>
      clear b1 b3 b5 b6 b8 bd
      go_wp2_with fail
      (refine (tin_any _).mono ?_; rintro e w1 ⟨rfl, hb1⟩; obtain ⟨hc1, hf1⟩ := bcell hb1; have hB1 : Below wc.heap.size wc w1 := up hb1 (by go_grown); have hz1 := hb1.size; (try simp at hz1); (try have hz1_wc_p1 : wc.heap.size < w1.heap.size + 1 := (by omega)); (try have hz1_wc_p2 : wc.heap.size < w1.heap.size + 1 + 1 := (by omega)); (try have hz1_wc_p3 : wc.heap.size < w1.heap.size + 1 + 1 + 1 := (by omega)); (try have hz1_wc_0 : wc.heap.size < w1.heap.size := (by omega)); (try have hz1_wc_1 : wc.heap.size + 1 < w1.heap.size := (by omega)); (try have hz1_wc_2 : wc.heap.size + 1 + 1 < w1.heap.size := (by omega)); (try have hz1_wc_3 : wc.heap.size + 1 + 1 + 1 < w1.heap.size := (by omega)); (try have hz1_wc_4 : wc.heap.size + 1 + 1 + 1 + 1 < w1.heap.size := (by omega)); (try have hz1_wc_5 : wc.heap.size + 1 + 1 + 1 + 1 + 1 < w1.heap.size := (by omega)); (try have hz1_wc_6 : wc.heap.size + 1 + 1 + 1 + 1 + 1 + 1 < w1.heap.size := (by omega)))
      go_wp2_with fail
      (refine (f_any 1 10 _).mono ?_; rintro e w2 ⟨rfl, hb2⟩; obtain ⟨hc2, hf2⟩ := bcell hb2; have hB2 : Below wc.heap.size wc w2 := up hb2 (by go_grown); have hz2 := hb2.size; (try simp at hz2); (try have hz2_wc_p1 : wc.heap.size < w2.heap.size + 1 := (by omega)); (try have hz2_wc_p2 : wc.heap.size < w2.heap.size + 1 + 1 := (by omega)); (try have hz2_wc_p3 : wc.heap.size < w2.heap.size + 1 + 1 + 1 := (by omega)); (try have hz2_w1_p1 : w1.heap.size < w2.heap.size + 1 := (by omega)); (try have hz2_w1_p2 : w1.heap.size < w2.heap.size + 1 + 1 := (by omega)); (try have hz2_w1_p3 : w1.heap.size < w2.heap.size + 1 + 1 + 1 := (by omega)); (try have hz2_wc_0 : wc.heap.size < w2.heap.size := (by omega)); (try have hz2_wc_1 : wc.heap.size + 1 < w2.heap.size := (by omega)); (try have hz2_wc_2 : wc.heap.size + 1 + 1 < w2.heap.size := (by omega)); (try have hz2_wc_3 : wc.heap.size + 1 + 1 + 1 < w2.heap.size := (by omega)); (try have hz2_wc_4 : wc.heap.size + 1 + 1 + 1 + 1 < w2.heap.size := (by omega)); (try have hz2_wc_5 : wc.heap.size + 1 + 1 + 1 + 1 + 1 < w2.heap.size := (by omega)); (try have hz2_wc_6 : wc.heap.size + 1 + 1 + 1 + 1 + 1 + 1 < w2.heap.size := (by omega)); (try have hz2_w1_0 : w1.heap.size < w2.heap.size := (by omega)); (try have hz2_w1_1 : w1.heap.size + 1 < w2.heap.size := (by omega)); (try have hz2_w1_2 : w1.heap.size + 1 + 1 < w2.heap.size := (by omega)); (try have hz2_w1_3 : w1.heap.size + 1 + 1 + 1 < w2.heap.size := (by omega)))
      go_wp2_with fail
      (refine (f_any 1 10 _).mono ?_; rintro e w3 ⟨rfl, hb3⟩; obtain ⟨hc3, hf3⟩ := bcell hb3; have hB3 : Below wc.heap.size wc w3 := up hb3 (by go_grown); have hz3 := hb3.size; (try simp at hz3); (try have hz3_wc_p1 : wc.heap.size < w3.heap.size + 1 := (by omega)); (try have hz3_wc_p2 : wc.heap.size < w3.heap.size + 1 + 1 := (by omega)); (try have hz3_wc_p3 : wc.heap.size < w3.heap.size + 1 + 1 + 1 := (by omega)); (try have hz3_w1_p1 : w1.heap.size < w3.heap.size + 1 := (by omega)); (try have hz3_w1_p2 : w1.heap.size < w3.heap.size + 1 + 1 := (by omega)); (try have hz3_w1_p3 : w1.heap.size < w3.heap.size + 1 + 1 + 1 := (by omega)); (try have hz3_w2_p1 : w2.heap.size < w3.heap.size + 1 := (by omega)); (try have hz3_w2_p2 : w2.heap.size < w3.heap.size + 1 + 1 := (by omega)); (try have hz3_w2_p3 : w2.heap.size < w3.heap.size + 1 + 1 + 1 := (by omega)); (try have hz3_wc_0 : wc.heap.size < w3.heap.size := (by omega)); (try have hz3_wc_1 : wc.heap.size + 1 < w3.heap.size := (by omega)); (try have hz3_wc_2 : wc.heap.size + 1 + 1 < w3.heap.size := (by omega)); (try have hz3_wc_3 : wc.heap.size + 1 + 1 + 1 < w3.heap.size := (by omega)); (try have hz3_wc_4 : wc.heap.size + 1 + 1 + 1 + 1 < w3.heap.size := (by omega)); (try have hz3_wc_5 : wc.heap.size + 1 + 1 + 1 + 1 + 1 < w3.heap.size := (by omega)); (try have hz3_wc_6 : wc.heap.size + 1 + 1 + 1 + 1 + 1 + 1 < w3.heap.size := (by omega)); (try have hz3_w1_0 : w1.heap.size < w3.heap.size := (by omega)); (try have hz3_w1_1 : w1.heap.size + 1 < w3.heap.size := (by omega)); (try have hz3_w1_2 : w1.heap.size + 1 + 1 < w3.heap.size := (by omega)); (try have hz3_w1_3 : w1.heap.size + 1 + 1 + 1 < w3.heap.size := (by omega)); (try have hz3_w2_0 : w2.heap.size < w3.heap.size := (by omega)); (try have hz3_w2_1 : w2.heap.size + 1 < w3.heap.size := (by omega)); (try have hz3_w2_2 : w2.heap.size + 1 + 1 < w3.heap.size := (by omega)); (try have hz3_w2_3 : w2.heap.size + 1 + 1 + 1 < w3.heap.size := (by omega)))
      go_wp2_with fail
      (refine (HT.out _).mono ?_; rintro e w4 ⟨rfl, hb4⟩; obtain ⟨hc4, hf4⟩ := bcell hb4; have hB4 : Below wc.heap.size wc w4 := up hb4 (by go_grown); have hz4 := hb4.size; (try simp at hz4); (try have hz4_wc_p1 : wc.heap.size < w4.heap.size + 1 := (by omega)); (try have hz4_wc_p2 : wc.heap.size < w4.heap.size + 1 + 1 := (by omega)); (try have hz4_wc_p3 : wc.heap.size < w4.heap.size + 1 + 1 + 1 := (by omega)); (try have hz4_w1_p1 : w1.heap.size < w4.heap.size + 1 := (by omega)); (try have hz4_w1_p2 : w1.heap.size < w4.heap.size + 1 + 1 := (by omega)); (try have hz4_w1_p3 : w1.heap.size < w4.heap.size + 1 + 1 + 1 := (by omega)); (try have hz4_w2_p1 : w2.heap.size < w4.heap.size + 1 := (by omega)); (try have hz4_w2_p2 : w2.heap.size < w4.heap.size + 1 + 1 := (by omega)); (try have hz4_w2_p3 : w2.heap.size < w4.heap.size + 1 + 1 + 1 := (by omega)); (try have hz4_w3_p1 : w3.heap.size < w4.heap.size + 1 := (by omega)); (try have hz4_w3_p2 : w3.heap.size < w4.heap.size + 1 + 1 := (by omega)); (try have hz4_w3_p3 : w3.heap.size < w4.heap.size + 1 + 1 + 1 := (by omega)); (try have hz4_wc_0 : wc.heap.size < w4.heap.size := (by omega)); (try have hz4_wc_1 : wc.heap.size + 1 < w4.heap.size := (by omega)); (try have hz4_wc_2 : wc.heap.size + 1 + 1 < w4.heap.size := (by omega)); (try have hz4_wc_3 : wc.heap.size + 1 + 1 + 1 < w4.heap.size := (by omega)); (try have hz4_wc_4 : wc.heap.size + 1 + 1 + 1 + 1 < w4.heap.size := (by omega)); (try have hz4_wc_5 : wc.heap.size + 1 + 1 + 1 + 1 + 1 < w4.heap.size := (by omega)); (try have hz4_wc_6 : wc.heap.size + 1 + 1 + 1 + 1 + 1 + 1 < w4.heap.size := (by omega)); (try have hz4_w1_0 : w1.heap.size < w4.heap.size := (by omega)); (try have hz4_w1_1 : w1.heap.size + 1 < w4.heap.size := (by omega)); (try have hz4_w1_2 : w1.heap.size + 1 + 1 < w4.heap.size := (by omega)); (try have hz4_w1_3 : w1.heap.size + 1 + 1 + 1 < w4.heap.size := (by omega)); (try have hz4_w2_0 : w2.heap.size < w4.heap.size := (by omega)); (try have hz4_w2_1 : w2.heap.size + 1 < w4.heap.size := (by omega)); (try have hz4_w2_2 : w2.heap.size + 1 + 1 < w4.heap.size := (by omega)); (try have hz4_w2_3 : w2.heap.size + 1 + 1 + 1 < w4.heap.size := (by omega)); (try have hz4_w3_0 : w3.heap.size < w4.heap.size := (by omega)); (try have hz4_w3_1 : w3.heap.size + 1 < w4.heap.size := (by omega)); (try have hz4_w3_2 : w3.heap.size + 1 + 1 < w4.heap.size := (by omega)); (try have hz4_w3_3 : w3.heap.size + 1 + 1 + 1 < w4.heap.size := (by omega)))
      go_wp2
      go_meet
      case rel => exact ⟨w4.heap.size, rfl, rfl, ⟨by have := hBw.size; omega, by simp, by go_cell, by go_cell, by go_cell, by go_cell⟩, by go_grown⟩
  obtain ⟨g18, rfl, rfl, bw, hB⟩ := hcut
  replace hBw := up hB hBw
  replace b1 := b1.on hB
  replace b3 := b3.on hB
  replace b5 := b5.on hB
  replace b6 := b6.on hB
  replace b8 := b8.on hB
  replace bd := bd.on hB
  clear hB
  go_upto_region 9 with fail
  go_cut [20, 21] (RX wc)
  case first =>
    as_aux_lemma =>
      obtain ⟨_, l1, x1, y1⟩ := b1
      clear b3 b5 b6 b8 bd bw
      go_wp2_with fail
      (refine (HX.out _ hBw).mono ?_; rintro e w1 ⟨rfl, hb1⟩; obtain ⟨hc1, hf1⟩ := bcell hb1; have hB1 : Below wc.heap.size wc w1 := up hb1 (by go_grown); have hz1 := hb1.size; (try simp at hz1); (try have hz1_wc_p1 : wc.heap.size < w1.heap.size + 1 := (by omega)); (try have hz1_wc_p2 : wc.heap.size < w1.heap.size + 1 + 1 := (by omega)); (try have hz1_wc_p3 : wc.heap.size < w1.heap.size + 1 + 1 + 1 := (by omega)); (try have hz1_wc_0 : wc.heap.size < w1.heap.size := (by omega)); (try have hz1_wc_1 : wc.heap.size + 1 < w1.heap.size := (by omega)); (try have hz1_wc_2 : wc.heap.size + 1 + 1 < w1.heap.size := (by omega)); (try have hz1_wc_3 : wc.heap.size + 1 + 1 + 1 < w1.heap.size := (by omega)); (try have hz1_wc_4 : wc.heap.size + 1 + 1 + 1 + 1 < w1.heap.size := (by omega)); (try have hz1_wc_5 : wc.heap.size + 1 + 1 + 1 + 1 + 1 < w1.heap.size := (by omega)); (try have hz1_wc_6 : wc.heap.size + 1 + 1 + 1 + 1 + 1 + 1 < w1.heap.size := (by omega)))
      go_wp2
      go_meet
      case rel => exact ⟨rfl, rfl, by go_grown⟩
  obtain ⟨rfl, rfl, hB⟩ := hcut
  replace hBw := up hB hBw
  replace b1 := b1.on hB
  replace b3 := b3.on hB
  replace b5 := b5.on hB
  replace b6 := b6.on hB
  replace b8 := b8.on hB
  replace bd := bd.on hB
  replace bw := bw.on hB
  clear hB
  go_upto_region 10 with fail
  go_cut [22, 23] (R1 w wc 1 2)
  case first =>
    as_aux_lemma =>
      clear b1 b3 b5 b6 b8 bd bw
      go_wp2_with fail
      (refine (f_any 1 6 _).mono ?_; rintro e w1 ⟨rfl, hb1⟩; obtain ⟨hc1, hf1⟩ := bcell hb1; have hB1 : Below wc.heap.size wc w1 := up hb1 (by go_grown); have hz1 := hb1.size; (try simp at hz1); (try have hz1_wc_p1 : wc.heap.size < w1.heap.size + 1 := (by omega)); (try have hz1_wc_p2 : wc.heap.size < w1.heap.size + 1 + 1 := (by omega)); (try have hz1_wc_p3 : wc.heap.size < w1.heap.size + 1 + 1 + 1 := (by omega)); (try have hz1_wc_0 : wc.heap.size < w1.heap.size := (by omega)); (try have hz1_wc_1 : wc.heap.size + 1 < w1.heap.size := (by omega)); (try have hz1_wc_2 : wc.heap.size + 1 + 1 < w1.heap.size := (by omega)); (try have hz1_wc_3 : wc.heap.size + 1 + 1 + 1 < w1.heap.size := (by omega)); (try have hz1_wc_4 : wc.heap.size + 1 + 1 + 1 + 1 < w1.heap.size := (by omega)); (try have hz1_wc_5 : wc.heap.size + 1 + 1 + 1 + 1 + 1 < w1.heap.size := (by omega)); (try have hz1_wc_6 : wc.heap.size + 1 + 1 + 1 + 1 + 1 + 1 < w1.heap.size := (by omega)))
      go_wp2_with fail
      (refine (f_any 1 3 _).mono ?_; rintro e w2 ⟨rfl, hb2⟩; obtain ⟨hc2, hf2⟩ := bcell hb2; have hB2 : Below wc.heap.size wc w2 := up hb2 (by go_grown); have hz2 := hb2.size; (try simp at hz2); (try have hz2_wc_p1 : wc.heap.size < w2.heap.size + 1 := (by omega)); (try have hz2_wc_p2 : wc.heap.size < w2.heap.size + 1 + 1 := (by omega)); (try have hz2_wc_p3 : wc.heap.size < w2.heap.size + 1 + 1 + 1 := (by omega)); (try have hz2_w1_p1 : w1.heap.size < w2.heap.size + 1 := (by omega)); (try have hz2_w1_p2 : w1.heap.size < w2.heap.size + 1 + 1 := (by omega)); (try have hz2_w1_p3 : w1.heap.size < w2.heap.size + 1 + 1 + 1 := (by omega)); (try have hz2_wc_0 : wc.heap.size < w2.heap.size := (by omega)); (try have hz2_wc_1 : wc.heap.size + 1 < w2.heap.size := (by omega)); (try have hz2_wc_2 : wc.heap.size + 1 + 1 < w2.heap.size := (by omega)); (try have hz2_wc_3 : wc.heap.size + 1 + 1 + 1 < w2.heap.size := (by omega)); (try have hz2_wc_4 : wc.heap.size + 1 + 1 + 1 + 1 < w2.heap.size := (by omega)); (try have hz2_wc_5 : wc.heap.size + 1 + 1 + 1 + 1 + 1 < w2.heap.size := (by omega)); (try have hz2_wc_6 : wc.heap.size + 1 + 1 + 1 + 1 + 1 + 1 < w2.heap.size := (by omega)); (try have hz2_w1_0 : w1.heap.size < w2.heap.size := (by omega)); (try have hz2_w1_1 : w1.heap.size + 1 < w2.heap.size := (by omega)); (try have hz2_w1_2 : w1.heap.size + 1 + 1 < w2.heap.size := (by omega)); (try have hz2_w1_3 : w1.heap.size + 1 + 1 + 1 < w2.heap.size := (by omega)))
      go_wp2_with fail
      (refine (Add_ex _).mono ?_; rintro e w3 ⟨rfl, hb3⟩; obtain ⟨hc3, hf3⟩ := bcell hb3; have hB3 : Below wc.heap.size wc w3 := up hb3 (by go_grown); have hz3 := hb3.size; (try simp at hz3); (try have hz3_wc_p1 : wc.heap.size < w3.heap.size + 1 := (by omega)); (try have hz3_wc_p2 : wc.heap.size < w3.heap.size + 1 + 1 := (by omega)); (try have hz3_wc_p3 : wc.heap.size < w3.heap.size + 1 + 1 + 1 := (by omega)); (try have hz3_w1_p1 : w1.heap.size < w3.heap.size + 1 := (by omega)); (try have hz3_w1_p2 : w1.heap.size < w3.heap.size + 1 + 1 := (by omega)); (try have hz3_w1_p3 : w1.heap.size < w3.heap.size + 1 + 1 + 1 := (by omega)); (try have hz3_w2_p1 : w2.heap.size < w3.heap.size + 1 := (by omega)); (try have hz3_w2_p2 : w2.heap.size < w3.heap.size + 1 + 1 := (by omega)); (try have hz3_w2_p3 : w2.heap.size < w3.heap.size + 1 + 1 + 1 := (by omega)); (try have hz3_wc_0 : wc.heap.size < w3.heap.size := (by omega)); (try have hz3_wc_1 : wc.heap.size + 1 < w3.heap.size := (by omega)); (try have hz3_wc_2 : wc.heap.size + 1 + 1 < w3.heap.size := (by omega)); (try have hz3_wc_3 : wc.heap.size + 1 + 1 + 1 < w3.heap.size := (by omega)); (try have hz3_wc_4 : wc.heap.size + 1 + 1 + 1 + 1 < w3.heap.size := (by omega)); (try have hz3_wc_5 : wc.heap.size + 1 + 1 + 1 + 1 + 1 < w3.heap.size := (by omega)); (try have hz3_wc_6 : wc.heap.size + 1 + 1 + 1 + 1 + 1 + 1 < w3.heap.size := (by omega)); (try have hz3_w1_0 : w1.heap.size < w3.heap.size := (by omega)); (try have hz3_w1_1 : w1.heap.size + 1 < w3.heap.size := (by omega)); (try have hz3_w1_2 : w1.heap.size + 1 + 1 < w3.heap.size := (by omega)); (try have hz3_w1_3 : w1.heap.size + 1 + 1 + 1 < w3.heap.size := (by omega)); (try have hz3_w2_0 : w2.heap.size < w3.heap.size := (by omega)); (try have hz3_w2_1 : w2.heap.size + 1 < w3.heap.size := (by omega)); (try have hz3_w2_2 : w2.heap.size + 1 + 1 < w3.heap.size := (by omega)); (try have hz3_w2_3 : w2.heap.size + 1 + 1 + 1 < w3.heap.size := (by omega)))
      go_wp2
      go_meet
      case rel => exact ⟨w3.heap.size, rfl, rfl, ⟨by have := hBw.size; omega, by simp, by go_cell, by go_cell⟩, by go_grown⟩
  obtain ⟨g22, rfl, rfl, b22, hB⟩ := hcut
  replace hBw := up hB hBw
  replace b1 := b1.on hB
  replace b3 := b3.on hB
  replace b5 := b5.on hB
  replace b6 := b6.on hB
  replace b8 := b8.on hB
  replace bd := bd.on hB
  replace bw := bw.on hB
  clear hB
  clear HX HT
  go_upto_region 13 with fail
  go_cut [24] (RZ wc)
  case first =>
    as_aux_lemma =>
      obtain ⟨_, l1, x1, y1⟩ := b1
      obtain ⟨_, l3, x3, y3⟩ := b3
      obtain ⟨_, l5, x5, y5⟩ := b5
      obtain ⟨_, l6, x6, y6⟩ := b6
      obtain ⟨_, l8, x8, y8⟩ := b8
      obtain ⟨_, ld, xd, yd, zd⟩ := bd
      clear bw b22
      have hS : AlS wc g1 g3 g5 g6 g8 gd wc := ⟨x1, y1, x3, y3, x5, y5, x6, y6, x8, y8, xd, yd, zd, l1, l3, l5, l6, l8, ld, Below.refl _ _⟩
      clear x1 y1 x3 y3 x5 y5 x6 y6 x8 y8 xd yd zd
      go_region_held3 (fun w' => w'.cell? ⟨g1, 0, none⟩ = some (.int .i64 (-3)) ∧ w'.cell? ⟨g1, 1, none⟩ = some (.int .i64 2) ∧ w'.cell? ⟨g3, 0, none⟩ = some (.int .i64 5) ∧ w'.cell? ⟨g3, 1, none⟩ = some (.int .i64 16) ∧ w'.cell? ⟨g5, 0, none⟩ = some (.int .i64 4) ∧ w'.cell? ⟨g5, 1, none⟩ = some (.int .i64 13) ∧ w'.cell? ⟨g6, 0, none⟩ = some (.int .i64 1) ∧ w'.cell? ⟨g6, 1, none⟩ = some (.int .i64 3) ∧ w'.cell? ⟨g8, 0, none⟩ = some (.int .i64 355) ∧ w'.cell? ⟨g8, 1, none⟩ = some (.int .i64 113) ∧ w'.cell? ⟨gd, 0, none⟩ = some (.int .i64 3) ∧ w'.cell? ⟨gd, 1, none⟩ = some (.int .i64 7) ∧ w'.cell? ⟨gd, 2, none⟩ = some (.int .i64 16) ∧ g1 < w'.heap.size ∧ g3 < w'.heap.size ∧ g5 < w'.heap.size ∧ g6 < w'.heap.size ∧ g8 < w'.heap.size ∧ gd < w'.heap.size ∧ Below wc.heap.size wc w')
        (first | assumption | exact AlS_on (by first | assumption | exact AlS_drew (by assumption)) hbc | exact AlS_drew (by assumption) | exact AlS_alloc _ (by assumption) | exact AlS_drew (AlS_alloc _ (by assumption)) | exact AlS_alloc _ (AlS_drew (by assumption)))
        (first | (go_at_call 11; (with_reducible refine (f_any _ _ _).mono ?_); rintro e wn ⟨rfl, hbc⟩) | (go_at_call 20; (with_reducible refine Calls.mono (equal_al (w := wc) (g1 := g1) (g3 := g3) (g5 := g5) (g6 := g6) (g8 := g8) ?_ ?_ ?_ ?_) ?_); (focus (first | assumption | exact AlS_on (by first | assumption | exact AlS_drew (by assumption)) hbc | exact AlS_drew (by assumption) | exact AlS_alloc _ (by assumption) | exact AlS_drew (AlS_alloc _ (by assumption)) | exact AlS_alloc _ (AlS_drew (by assumption)))); (focus (first | (simp; done) | go_cell)); (focus (first | (simp; done) | go_cell)); (focus (first | (simp; done) | go_cell)); rintro e wn ⟨rfl, hbc⟩))
      all_goals go_wp2_with fail
      go_meet
      case rel => exact ⟨rfl, AlS_b g1 g3 g5 g6 g8 gd (by assumption)⟩
  obtain ⟨rfl, hB⟩ := hcut
  replace hBw := up hB hBw
  replace bw := bw.on hB
  replace b22 := b22.on hB
  clear hB
  obtain ⟨_, lw, xw, yw, zw, vw⟩ := bw
  obtain ⟨_, l2, x2, y2⟩ := b22
  have hS : AlT wc g18 g22 wc := ⟨xw, yw, zw, vw, x2, y2, lw, l2, Below.refl _ _⟩
  clear xw yw zw vw x2 y2 b1 b3 b5 b6 b8 bd
  as_aux_lemma =>
    go_wp2_with fail
    go_region_held3 (fun w' => w'.cell? ⟨g18, 0, none⟩ = some (.int .i64 109) ∧ w'.cell? ⟨g18, 1, none⟩ = some (.int .i64 1000) ∧ w'.cell? ⟨g18, 2, none⟩ = some (.int .i64 59) ∧ w'.cell? ⟨g18, 3, none⟩ = some (.int .i64 500) ∧ w'.cell? ⟨g22, 0, none⟩ = some (.int .i64 1) ∧ w'.cell? ⟨g22, 1, none⟩ = some (.int .i64 2) ∧ g18 < w'.heap.size ∧ g22 < w'.heap.size ∧ Below wc.heap.size wc w')
      (first | assumption | exact AlT_on (by first | assumption | exact AlT_drew (by assumption)) hbc | exact AlT_drew (by assumption) | exact AlT_alloc _ (by assumption) | exact AlT_drew (AlT_alloc _ (by assumption)) | exact AlT_alloc _ (AlT_drew (by assumption)))
      (first | (go_at_call 11; (with_reducible refine (f_any _ _ _).mono ?_); rintro e wn ⟨rfl, hbc⟩))
    all_goals go_wp2
    all_goals go_ret
    all_goals exact ⟨rfl, up (AlT_b g18 g22 (by assumption)) hBw⟩
end Go.Proofs.YtgonaamjjhhiiaaGreatDoor
