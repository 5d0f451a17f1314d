/-
  The law of order: its walk, the contracts of its callees given.
-/
import Derived.Test.YtadkaplafaeebaaGreatDoorPkW
import Derived.Test.YtadkaplafaeebaaGreatDoorThen
import Derived.Test.YtadkaplafaeebaaGreatDoorRelS
set_option linter.unusedVariables false
set_option linter.unusedSimpArgs false
namespace Go.Proofs.YtadkaplafaeebaaGreatDoor
open Go Go.RowKit

/-- A motion's variable. -/
def IsM (W : World) (g : Nat) : Prop := ∃ a b c d : Int, Q4 W g a b c d
def NewM (B : Nat) (v : Value) (W : World) : Prop := ∃ g, v = .pointer (some ⟨g, 0, none⟩) ∧ B ≤ g ∧ IsM W g
/-- Motions' variables stay such. -/
def KeepM (W W' : World) : Prop := ∀ g, IsM W g → IsM W' g
theorem KeepM.refl (W : World) : KeepM W W := fun g h => h
theorem KeepM.below {W W' : World} (hb : Below W.heap.size W W') : KeepM W W' := fun g ⟨a, b, c, d, h⟩ => ⟨a, b, c, d, blk_below h hb (blk_lt h)⟩
theorem KeepM.alloc (W : World) (o : Obj) : KeepM W (W.alloc o) := fun g ⟨a, b, c, d, h⟩ => ⟨a, b, c, d, blk_alloc h o⟩
theorem KeepM.set4 {W : World} {g : Nat} (h : IsM W g) (a b c d : Int) : KeepM W ((((W.setCell ⟨g, 0, none⟩ (.int .i64 a)).setCell ⟨g, 1, none⟩ (.int .i64 b)).setCell ⟨g, 2, none⟩ (.int .i64 c)).setCell ⟨g, 3, none⟩ (.int .i64 d)) := fun k hk => by
  by_cases e : k = g
  · subst e
    obtain ⟨a', b', c', d', h⟩ := h
    exact ⟨a, b, c, d, blk_set (k := 3) (blk_set (k := 2) (blk_set (k := 1) (blk_set (k := 0) h (.int .i64 a)) (.int .i64 b)) (.int .i64 c)) (.int .i64 d)⟩
  · obtain ⟨a', b', c', d', hk⟩ := hk
    exact ⟨a', b', c', d', blk_other (blk_other (blk_other (blk_other hk e _) e _) e _) e _⟩
theorem NewM.keep {B : Nat} {v : Value} {W W' : World} (h : NewM B v W) (hk : KeepM W W') : NewM B v W' := by
  obtain ⟨g, e, h1, h2⟩ := h
  exact ⟨g, e, h1, hk g h2⟩
def VO (B : Nat) (p q r s : Value) (a b c d : Int) (x : Bool) (i : Nat) (v : Value) (W : World) : Prop := match i with
  | 0 => v = p | 1 => v = q | 2 => v = r | 3 => v = s | 4 => v = .tuple #[.agg #[.int .i64 (a), .int .i64 (b), .int .i64 (c), .int .i64 (d)], .bool x] | 5 => v = .tuple #[.agg #[.int .i64 (a), .int .i64 (b), .int .i64 (c), .int .i64 (d)], .bool x] | 6 => v = .agg #[.int .i64 (a), .int .i64 (b), .int .i64 (c), .int .i64 (d)] | 7 => v = .bool x | 8 => NewM B v W | _ => True
set_option maxRecDepth 100000 in
set_option maxHeartbeats 4000000 in
theorem order_core (f g h m l j : Sol) (a0 b0 c0' d0' a1 b1' c1' d1' a2 b2' c2' d2' a3 b3' c3' d3' a4 b4 c4 d4 a5 b5 c5 d5 : Int) (x y z u v : Bool) (nf ng : Nat) (w : World) (hT : Tab64 w)
    (HO : Hid (∀ W, Tab64 W → Calls Tryz.prog 54 #[sol f, sol f] W (RetB (.tuple #[.agg #[.int .i64 (a0), .int .i64 (b0), .int .i64 (c0'), .int .i64 (d0')], .bool true]) W)))
    (HA : Hid (∀ W, Tab64 W → Calls Tryz.prog 54 #[sol f, sol g] W (RetB (.tuple #[.agg #[.int .i64 (a1), .int .i64 (b1'), .int .i64 (c1'), .int .i64 (d1')], .bool x]) W)))
    (HB : Hid (∀ W, Tab64 W → Calls Tryz.prog 54 #[sol g, sol h] W (RetB (.tuple #[.agg #[.int .i64 (a2), .int .i64 (b2'), .int .i64 (c2'), .int .i64 (d2')], .bool y]) W)))
    (HD : Hid (∀ W, Tab64 W → Calls Tryz.prog 54 #[sol f, sol h] W (RetB (.tuple #[.agg #[.int .i64 (a3), .int .i64 (b3'), .int .i64 (c3'), .int .i64 (d3')], .bool z]) W)))
    (HL : Hid (∀ W, Calls Tryz.prog 34 #[sol g, sol m] W (RetB (sol l) W)))
    (HE : Hid (∀ W, Tab64 W → Calls Tryz.prog 54 #[sol f, sol l] W (RetB (.tuple #[.agg #[.int .i64 (a4), .int .i64 (b4), .int .i64 (c4), .int .i64 (d4)], .bool u]) W)))
    (HJ : Hid (∀ W, Calls Tryz.prog 30 #[sol f, sol m] W (RetB (sol j) W)))
    (HW : Hid (∀ W, Tab64 W → Calls Tryz.prog 54 #[sol j, sol g] W (RetB (.tuple #[.agg #[.int .i64 (a5), .int .i64 (b5), .int .i64 (c5), .int .i64 (d5)], .bool v]) W)))
    (HNg : Hid (∀ W, Calls Tryz.prog 28 #[sol g] W (RetB (.int .i64 ng) W)))
    (HNf : Hid (∀ W, Calls Tryz.prog 28 #[sol f] W (RetB (.int .i64 nf) W)))
    (HC : Hid (∀ W, Tab64 W → Calls Tryz.prog 20 #[] W (RetB (.bool true) W)))
    (h1 : x = false ∨ (x = true ∧ (y = false ∨ y = true ∧ z = true) ∧ ng ≤ nf ∧ u = true ∧ v = true)) :
    Calls Tryz.prog 12 #[sol f, sol g, sol h, sol m] w (RetB (.bool true) w) := by
  have HT := Lib.hid hT
  have H1 := Lib.hid h1
  clear hT h1
  have F0 : BoxS ((((w.alloc (.cells (solC f) 24)).alloc (.cells (solC g) 24)).alloc (.cells (solC h) 24)).alloc (.cells (solC m) 24)) w.heap.size f := (((BoxS.new w f).alloc _).alloc _).alloc _
  have G0 : BoxS ((((w.alloc (.cells (solC f) 24)).alloc (.cells (solC g) 24)).alloc (.cells (solC h) 24)).alloc (.cells (solC m) 24)) (w.heap.size + 1) g := ((BoxS.new' (by simp)).alloc _).alloc _
  have K0 : BoxS ((((w.alloc (.cells (solC f) 24)).alloc (.cells (solC g) 24)).alloc (.cells (solC h) 24)).alloc (.cells (solC m) 24)) (w.heap.size + 1 + 1) h := (BoxS.new' (by simp)).alloc _
  have M0 : BoxS ((((w.alloc (.cells (solC f) 24)).alloc (.cells (solC g) 24)).alloc (.cells (solC h) 24)).alloc (.cells (solC m) 24)) (w.heap.size + 1 + 1 + 1) m := BoxS.new' (by simp)
  have hB0 : Below w.heap.size w ((((w.alloc (.cells (solC f) 24)).alloc (.cells (solC g) 24)).alloc (.cells (solC h) 24)).alloc (.cells (solC m) 24)) := by repeat' (first | (with_reducible exact Below.refl _ _) | (with_reducible assumption) | (with_reducible refine Below.alloc ?_ ?_ _) | (with_reducible refine Below.drew ?_) | (with_reducible refine below_drewN ?_ _) | (with_reducible refine Below.setCell ?_ ?_ _) | go_size)
  go_enter Tryz.func12, Tryz.ntmps12
  go_wp2_with fail
  refine (HO.out _ (HT.out.below hB0 (Nat.le_refl _))).mono ?_
  rintro e w1 ⟨rfl, b1⟩
  have F1 := (F0.below b1 F0.lt).alloc (.cells #[.int .i64 (a0), .int .i64 (b0), .int .i64 (c0'), .int .i64 (d0')] 46)
  have G1 := (G0.below b1 G0.lt).alloc (.cells #[.int .i64 (a0), .int .i64 (b0), .int .i64 (c0'), .int .i64 (d0')] 46)
  have K1 := (K0.below b1 K0.lt).alloc (.cells #[.int .i64 (a0), .int .i64 (b0), .int .i64 (c0'), .int .i64 (d0')] 46)
  have M1 := (M0.below b1 M0.lt).alloc (.cells #[.int .i64 (a0), .int .i64 (b0), .int .i64 (c0'), .int .i64 (d0')] 46)
  have hB1 : Below w.heap.size w w1 := up b1 hB0
  have hB1' := hB1.alloc hB1.size (.cells #[.int .i64 (a0), .int .i64 (b0), .int .i64 (c0'), .int .i64 (d0')] 46)
  clear F0 G0 K0 M0 hB0 b1 hB1
  have p0 := (F1).cell (k := 0) (by omega); have p1 := (F1).cell (k := 1) (by omega); have p2 := (F1).cell (k := 2) (by omega); have p3 := (F1).cell (k := 3) (by omega); have p4 := (F1).cell (k := 4) (by omega); have p5 := (F1).cell (k := 5) (by omega); have p6 := (F1).cell (k := 6) (by omega); have p7 := (F1).cell (k := 7) (by omega)
  have q0 := (G1).cell (k := 0) (by omega); have q1 := (G1).cell (k := 1) (by omega); have q2 := (G1).cell (k := 2) (by omega); have q3 := (G1).cell (k := 3) (by omega); have q4 := (G1).cell (k := 4) (by omega); have q5 := (G1).cell (k := 5) (by omega); have q6 := (G1).cell (k := 6) (by omega); have q7 := (G1).cell (k := 7) (by omega)
  have r0 := (K1).cell (k := 0) (by omega); have r1 := (K1).cell (k := 1) (by omega); have r2 := (K1).cell (k := 2) (by omega); have r3 := (K1).cell (k := 3) (by omega); have r4 := (K1).cell (k := 4) (by omega); have r5 := (K1).cell (k := 5) (by omega); have r6 := (K1).cell (k := 6) (by omega); have r7 := (K1).cell (k := 7) (by omega)
  go_wp2_with fail
  refine (HA.out _ (HT.out.below hB1' (Nat.le_refl _))).mono ?_
  rintro e w2 ⟨rfl, b2⟩
  have F2 := (F1.below b2 F1.lt).alloc (.cells #[.int .i64 (a1), .int .i64 (b1'), .int .i64 (c1'), .int .i64 (d1')] 46)
  have G2 := (G1.below b2 G1.lt).alloc (.cells #[.int .i64 (a1), .int .i64 (b1'), .int .i64 (c1'), .int .i64 (d1')] 46)
  have K2 := (K1.below b2 K1.lt).alloc (.cells #[.int .i64 (a1), .int .i64 (b1'), .int .i64 (c1'), .int .i64 (d1')] 46)
  have M2 := (M1.below b2 M1.lt).alloc (.cells #[.int .i64 (a1), .int .i64 (b1'), .int .i64 (c1'), .int .i64 (d1')] 46)
  have hB2 : Below w.heap.size w w2 := up b2 hB1'
  have hB2' := hB2.alloc hB2.size (.cells #[.int .i64 (a1), .int .i64 (b1'), .int .i64 (c1'), .int .i64 (d1')] 46)
  clear F1 G1 K1 M1 hB1' b2 hB2 p0 p1 p2 p3 p4 p5 p6 p7 q0 q1 q2 q3 q4 q5 q6 q7 r0 r1 r2 r3 r4 r5 r6 r7
  have p0 := (F2).cell (k := 0) (by omega); have p1 := (F2).cell (k := 1) (by omega); have p2 := (F2).cell (k := 2) (by omega); have p3 := (F2).cell (k := 3) (by omega); have p4 := (F2).cell (k := 4) (by omega); have p5 := (F2).cell (k := 5) (by omega); have p6 := (F2).cell (k := 6) (by omega); have p7 := (F2).cell (k := 7) (by omega)
  have q0 := (G2).cell (k := 0) (by omega); have q1 := (G2).cell (k := 1) (by omega); have q2 := (G2).cell (k := 2) (by omega); have q3 := (G2).cell (k := 3) (by omega); have q4 := (G2).cell (k := 4) (by omega); have q5 := (G2).cell (k := 5) (by omega); have q6 := (G2).cell (k := 6) (by omega); have q7 := (G2).cell (k := 7) (by omega)
  have r0 := (K2).cell (k := 0) (by omega); have r1 := (K2).cell (k := 1) (by omega); have r2 := (K2).cell (k := 2) (by omega); have r3 := (K2).cell (k := 3) (by omega); have r4 := (K2).cell (k := 4) (by omega); have r5 := (K2).cell (k := 5) (by omega); have r6 := (K2).cell (k := 6) (by omega); have r7 := (K2).cell (k := 7) (by omega)
  go_wp2_with fail
  refine (HB.out _ (HT.out.below hB2' (Nat.le_refl _))).mono ?_
  rintro e w3 ⟨rfl, b3⟩
  have F3 := (F2.below b3 F2.lt).alloc (.cells #[.int .i64 (a2), .int .i64 (b2'), .int .i64 (c2'), .int .i64 (d2')] 46)
  have G3 := (G2.below b3 G2.lt).alloc (.cells #[.int .i64 (a2), .int .i64 (b2'), .int .i64 (c2'), .int .i64 (d2')] 46)
  have K3 := (K2.below b3 K2.lt).alloc (.cells #[.int .i64 (a2), .int .i64 (b2'), .int .i64 (c2'), .int .i64 (d2')] 46)
  have M3 := (M2.below b3 M2.lt).alloc (.cells #[.int .i64 (a2), .int .i64 (b2'), .int .i64 (c2'), .int .i64 (d2')] 46)
  have hB3 : Below w.heap.size w w3 := up b3 hB2'
  have hB3' := hB3.alloc hB3.size (.cells #[.int .i64 (a2), .int .i64 (b2'), .int .i64 (c2'), .int .i64 (d2')] 46)
  clear F2 G2 K2 M2 hB2' b3 hB3 p0 p1 p2 p3 p4 p5 p6 p7 q0 q1 q2 q3 q4 q5 q6 q7 r0 r1 r2 r3 r4 r5 r6 r7
  have p0 := (F3).cell (k := 0) (by omega); have p1 := (F3).cell (k := 1) (by omega); have p2 := (F3).cell (k := 2) (by omega); have p3 := (F3).cell (k := 3) (by omega); have p4 := (F3).cell (k := 4) (by omega); have p5 := (F3).cell (k := 5) (by omega); have p6 := (F3).cell (k := 6) (by omega); have p7 := (F3).cell (k := 7) (by omega)
  have q0 := (G3).cell (k := 0) (by omega); have q1 := (G3).cell (k := 1) (by omega); have q2 := (G3).cell (k := 2) (by omega); have q3 := (G3).cell (k := 3) (by omega); have q4 := (G3).cell (k := 4) (by omega); have q5 := (G3).cell (k := 5) (by omega); have q6 := (G3).cell (k := 6) (by omega); have q7 := (G3).cell (k := 7) (by omega)
  have r0 := (K3).cell (k := 0) (by omega); have r1 := (K3).cell (k := 1) (by omega); have r2 := (K3).cell (k := 2) (by omega); have r3 := (K3).cell (k := 3) (by omega); have r4 := (K3).cell (k := 4) (by omega); have r5 := (K3).cell (k := 5) (by omega); have r6 := (K3).cell (k := 6) (by omega); have r7 := (K3).cell (k := 7) (by omega)
  go_wp2_with fail
  refine (HD.out _ (HT.out.below hB3' (Nat.le_refl _))).mono ?_
  rintro e w4 ⟨rfl, b4⟩
  have F4 := (F3.below b4 F3.lt).alloc (.cells #[.int .i64 (a3), .int .i64 (b3'), .int .i64 (c3'), .int .i64 (d3')] 46)
  have G4 := (G3.below b4 G3.lt).alloc (.cells #[.int .i64 (a3), .int .i64 (b3'), .int .i64 (c3'), .int .i64 (d3')] 46)
  have K4 := (K3.below b4 K3.lt).alloc (.cells #[.int .i64 (a3), .int .i64 (b3'), .int .i64 (c3'), .int .i64 (d3')] 46)
  have M4 := (M3.below b4 M3.lt).alloc (.cells #[.int .i64 (a3), .int .i64 (b3'), .int .i64 (c3'), .int .i64 (d3')] 46)
  have hB4 : Below w.heap.size w w4 := up b4 hB3'
  have hB4' := hB4.alloc hB4.size (.cells #[.int .i64 (a3), .int .i64 (b3'), .int .i64 (c3'), .int .i64 (d3')] 46)
  clear F3 G3 K3 M3 hB3' b4 hB4 p0 p1 p2 p3 p4 p5 p6 p7 q0 q1 q2 q3 q4 q5 q6 q7 r0 r1 r2 r3 r4 r5 r6 r7
  go_wp2_with fail
  obtain ⟨W4, hW4⟩ : ∃ W4, W4 = w4.alloc (.cells #[.int .i64 (a3), .int .i64 (b3'), .int .i64 (c3'), .int .i64 (d3')] 46) := ⟨_, rfl⟩
  rw [← hW4] at F4 G4 K4 M4 hB4' ⊢
  clear hW4
  have lF4 := F4.lt
  have lG4 := G4.lt
  have lM4 := M4.lt
  have HT4 := Lib.hid (HT.out.below hB4' (Nat.le_refl _))
  have hC4 : Below W4.heap.size W4 W4.drew := Below.drew (Below.refl _ _)
  refine wp_region_relS 10 (VO W4.heap.size (sol f) (sol g) (sol m) (sol l) a4 b4 c4 d4 u) KeepM (fun W => Below W4.heap.size W4 W) (by kernel_rfl) (by kernel_rfl) (by kernel_rfl) (by kernel_rfl) (by kernel_rfl) (by kernel_rfl) (by kernel_rfl) (by kernel_rfl) hC4 ?hst ?hop ?hend
  case hst =>
    intro j v W W' hb hv
    rcases j with _ | _ | _ | _ | _ | _ | _ | _ | _ | _ | j
    all_goals first | exact hv | exact NewM.keep hv hb
  case hop =>
    intro i o hi ho a' W hC hin hfix K hK
    have Fx := F4.below hC lF4
    have Gx := G4.below hC lG4
    have Mx := M4.below hC lM4
    have hTx := Lib.hid (HT4.out.below hC (Nat.le_refl _))
    have q4 : a'.tmps[4]? = some (.pointer (some ⟨w.heap.size, 0, none⟩)) := hfix 4 (by kernel_rfl)
    have q5 : a'.tmps[5]? = some (.pointer (some ⟨w.heap.size + 1, 0, none⟩)) := hfix 5 (by kernel_rfl)
    have q7 : a'.tmps[7]? = some (.pointer (some ⟨w.heap.size + 1 + 1 + 1, 0, none⟩)) := hfix 7 (by kernel_rfl)
    have xa0 := (Fx).cell (k := 0) (by omega); have xa1 := (Fx).cell (k := 1) (by omega); have xa2 := (Fx).cell (k := 2) (by omega); have xa3 := (Fx).cell (k := 3) (by omega); have xa4 := (Fx).cell (k := 4) (by omega); have xa5 := (Fx).cell (k := 5) (by omega); have xa6 := (Fx).cell (k := 6) (by omega); have xa7 := (Fx).cell (k := 7) (by omega)
    have xb0 := (Gx).cell (k := 0) (by omega); have xb1 := (Gx).cell (k := 1) (by omega); have xb2 := (Gx).cell (k := 2) (by omega); have xb3 := (Gx).cell (k := 3) (by omega); have xb4 := (Gx).cell (k := 4) (by omega); have xb5 := (Gx).cell (k := 5) (by omega); have xb6 := (Gx).cell (k := 6) (by omega); have xb7 := (Gx).cell (k := 7) (by omega)
    have xd0 := (Mx).cell (k := 0) (by omega); have xd1 := (Mx).cell (k := 1) (by omega); have xd2 := (Mx).cell (k := 2) (by omega); have xd3 := (Mx).cell (k := 3) (by omega); have xd4 := (Mx).cell (k := 4) (by omega); have xd5 := (Mx).cell (k := 5) (by omega); have xd6 := (Mx).cell (k := 6) (by omega); have xd7 := (Mx).cell (k := 7) (by omega)
    rcases (show i = 0 ∨ i = 1 ∨ i = 2 ∨ i = 3 ∨ i = 4 ∨ i = 5 ∨ i = 6 ∨ i = 7 ∨ i = 8 ∨ i = 9 by omega) with rfl | rfl | rfl | rfl | rfl | rfl | rfl | rfl | rfl | rfl
    · obtain rfl := Option.some.inj ho
      clear hin hfix ho
      go_simp
      exact hK _ _ rfl hC (KeepM.refl _)
    · obtain rfl := Option.some.inj ho
      clear hin hfix ho
      go_simp
      exact hK _ _ rfl hC (KeepM.refl _)
    · obtain rfl := Option.some.inj ho
      clear hin hfix ho
      go_simp
      exact hK _ _ rfl hC (KeepM.refl _)
    · obtain ⟨v1, rfl, h1⟩ := hin 1 47 (by kernel_rfl) (by kernel_rfl)
      obtain ⟨v2, rfl, h2⟩ := hin 2 48 (by kernel_rfl) (by kernel_rfl)
      obtain rfl := Option.some.inj ho
      clear hin hfix ho
      go_simp
      refine (HL.out W).mono ?_
      rintro e W2 ⟨rfl, hb⟩
      exact hK _ _ rfl (hC.trans (hb.mono hC.size)) (KeepM.below hb)
    · obtain ⟨v0, rfl, h0⟩ := hin 0 46 (by kernel_rfl) (by kernel_rfl)
      obtain ⟨v3, rfl, h3⟩ := hin 3 49 (by kernel_rfl) (by kernel_rfl)
      obtain rfl := Option.some.inj ho
      clear hin hfix ho
      go_simp
      refine (HE.out W hTx.out).mono ?_
      rintro e W2 ⟨rfl, hb⟩
      exact hK _ _ rfl (hC.trans (hb.mono hC.size)) (KeepM.below hb)
    · obtain ⟨v4, rfl, h4⟩ := hin 4 50 (by kernel_rfl) (by kernel_rfl)
      obtain rfl := Option.some.inj ho
      clear hin hfix ho
      go_simp
      exact hK _ _ rfl hC (KeepM.refl _)
    · obtain ⟨v5, rfl, h5⟩ := hin 5 45 (by kernel_rfl) (by kernel_rfl)
      obtain rfl := Option.some.inj ho
      clear hin hfix ho
      go_simp
      exact hK _ _ rfl hC (KeepM.refl _)
    · obtain ⟨v5, rfl, h5⟩ := hin 5 45 (by kernel_rfl) (by kernel_rfl)
      obtain rfl := Option.some.inj ho
      clear hin hfix ho
      go_simp
      exact hK _ _ rfl hC (KeepM.refl _)
    · obtain rfl := Option.some.inj ho
      clear hin hfix ho
      go_simp
      exact hK _ _ ⟨W.heap.size, rfl, hC.size, 0, 0, 0, 0, World.alloc_heap_new W _⟩ (hC.alloc hC.size _) (KeepM.alloc _ _)
    · obtain ⟨v8, ⟨g8, rfl, hg8, hM8⟩, h8⟩ := hin 8 17 (by kernel_rfl) (by kernel_rfl)
      obtain ⟨v6, rfl, h6⟩ := hin 6 51 (by kernel_rfl) (by kernel_rfl)
      obtain rfl := Option.some.inj ho
      clear hin hfix ho
      obtain ⟨a', b', c', d', hQ⟩ := hM8
      obtain ⟨t0, t1, t2, t3⟩ := Q4.cells hQ
      have f0 := blk_free (k := 0) hQ; have f1 := blk_free (k := 1) hQ; have f2 := blk_free (k := 2) hQ; have f3 := blk_free (k := 3) hQ
      go_simp
      exact hK undef _ trivial ((((hC.setCell (p := ⟨g8, 0, none⟩) (by simp; omega) (.int .i64 a4)).setCell (p := ⟨g8, 1, none⟩) (by simp; omega) (.int .i64 b4)).setCell (p := ⟨g8, 2, none⟩) (by simp; omega) (.int .i64 c4)).setCell (p := ⟨g8, 3, none⟩) (by simp; omega) (.int .i64 d4)) (KeepM.set4 ⟨a', b', c', d', hQ⟩ a4 b4 c4 d4)
  case hend =>
    intro vals W5 hC hV
    have z7 := hV 7 (by decide)
    clear hV
    simp only [VO] at z7
    have hr : List.range 10 = [0, 1, 2, 3, 4, 5, 6, 7, 8, 9] := rfl
    simp only [List.drop_succ_cons, List.drop_zero, putA, hr, List.foldl_cons, List.foldl_nil, dstR, List.getElem?_toArray, List.getElem?_cons_succ, List.getElem?_cons_zero, Option.bind_some, Act.put, List.setIfInBounds_toArray, List.set_cons_succ, List.set_cons_zero, z7]
    generalize vals 0 = y0
    generalize vals 1 = y1
    generalize vals 2 = y2
    generalize vals 3 = y3
    generalize vals 4 = y4
    generalize vals 5 = y5
    generalize vals 6 = y6
    generalize vals 8 = y8
    clear hr z7 vals
    have F5 := F4.below hC lF4
    have G5 := G4.below hC lG4
    have M5 := M4.below hC lM4
    have hB5' : Below w.heap.size w W5 := up hC hB4'
    clear F4 G4 M4 hB4' hC lF4 lG4 lM4 hC4
    have lF5 := F5.lt
    have lG5 := G5.lt
    have lM5 := M5.lt
    have HT5 := Lib.hid (HT.out.below hB5' (Nat.le_refl _))
    go_wp2_with fail
    have hC5 : Below W5.heap.size W5 W5.drew := Below.drew (Below.refl _ _)
    refine wp_region_relS 10 (VO W5.heap.size (sol f) (sol m) (sol j) (sol g) a5 b5 c5 d5 v) KeepM (fun W => Below W5.heap.size W5 W) (by kernel_rfl) (by kernel_rfl) (by kernel_rfl) (by kernel_rfl) (by kernel_rfl) (by kernel_rfl) (by kernel_rfl) (by kernel_rfl) hC5 ?hst ?hop ?hend
    case hst =>
      intro j v W W' hb hv
      rcases j with _ | _ | _ | _ | _ | _ | _ | _ | _ | _ | j
      all_goals first | exact hv | exact NewM.keep hv hb
    case hop =>
      intro i o hi ho a' W hC hin hfix K hK
      have Fx := F5.below hC lF5
      have Gx := G5.below hC lG5
      have Mx := M5.below hC lM5
      have hTx := Lib.hid (HT5.out.below hC (Nat.le_refl _))
      have q4 : a'.tmps[4]? = some (.pointer (some ⟨w.heap.size, 0, none⟩)) := hfix 4 (by kernel_rfl)
      have q5 : a'.tmps[5]? = some (.pointer (some ⟨w.heap.size + 1, 0, none⟩)) := hfix 5 (by kernel_rfl)
      have q7 : a'.tmps[7]? = some (.pointer (some ⟨w.heap.size + 1 + 1 + 1, 0, none⟩)) := hfix 7 (by kernel_rfl)
      have xa0 := (Fx).cell (k := 0) (by omega); have xa1 := (Fx).cell (k := 1) (by omega); have xa2 := (Fx).cell (k := 2) (by omega); have xa3 := (Fx).cell (k := 3) (by omega); have xa4 := (Fx).cell (k := 4) (by omega); have xa5 := (Fx).cell (k := 5) (by omega); have xa6 := (Fx).cell (k := 6) (by omega); have xa7 := (Fx).cell (k := 7) (by omega)
      have xb0 := (Gx).cell (k := 0) (by omega); have xb1 := (Gx).cell (k := 1) (by omega); have xb2 := (Gx).cell (k := 2) (by omega); have xb3 := (Gx).cell (k := 3) (by omega); have xb4 := (Gx).cell (k := 4) (by omega); have xb5 := (Gx).cell (k := 5) (by omega); have xb6 := (Gx).cell (k := 6) (by omega); have xb7 := (Gx).cell (k := 7) (by omega)
      have xd0 := (Mx).cell (k := 0) (by omega); have xd1 := (Mx).cell (k := 1) (by omega); have xd2 := (Mx).cell (k := 2) (by omega); have xd3 := (Mx).cell (k := 3) (by omega); have xd4 := (Mx).cell (k := 4) (by omega); have xd5 := (Mx).cell (k := 5) (by omega); have xd6 := (Mx).cell (k := 6) (by omega); have xd7 := (Mx).cell (k := 7) (by omega)
      rcases (show i = 0 ∨ i = 1 ∨ i = 2 ∨ i = 3 ∨ i = 4 ∨ i = 5 ∨ i = 6 ∨ i = 7 ∨ i = 8 ∨ i = 9 by omega) with rfl | rfl | rfl | rfl | rfl | rfl | rfl | rfl | rfl | rfl
      · obtain rfl := Option.some.inj ho
        clear hin hfix ho
        go_simp
        exact hK _ _ rfl hC (KeepM.refl _)
      · obtain rfl := Option.some.inj ho
        clear hin hfix ho
        go_simp
        exact hK _ _ rfl hC (KeepM.refl _)
      · obtain ⟨v0, rfl, h0⟩ := hin 0 54 (by kernel_rfl) (by kernel_rfl)
        obtain ⟨v1, rfl, h1⟩ := hin 1 55 (by kernel_rfl) (by kernel_rfl)
        obtain rfl := Option.some.inj ho
        clear hin hfix ho
        go_simp
        refine (HJ.out W).mono ?_
        rintro e W2 ⟨rfl, hb⟩
        exact hK _ _ rfl (hC.trans (hb.mono hC.size)) (KeepM.below hb)
      · obtain rfl := Option.some.inj ho
        clear hin hfix ho
        go_simp
        exact hK _ _ rfl hC (KeepM.refl _)
      · obtain ⟨v2, rfl, h2⟩ := hin 2 56 (by kernel_rfl) (by kernel_rfl)
        obtain ⟨v3, rfl, h3⟩ := hin 3 57 (by kernel_rfl) (by kernel_rfl)
        obtain rfl := Option.some.inj ho
        clear hin hfix ho
        go_simp
        refine (HW.out W hTx.out).mono ?_
        rintro e W2 ⟨rfl, hb⟩
        exact hK _ _ rfl (hC.trans (hb.mono hC.size)) (KeepM.below hb)
      · obtain ⟨v4, rfl, h4⟩ := hin 4 58 (by kernel_rfl) (by kernel_rfl)
        obtain rfl := Option.some.inj ho
        clear hin hfix ho
        go_simp
        exact hK _ _ rfl hC (KeepM.refl _)
      · obtain ⟨v5, rfl, h5⟩ := hin 5 53 (by kernel_rfl) (by kernel_rfl)
        obtain rfl := Option.some.inj ho
        clear hin hfix ho
        go_simp
        exact hK _ _ rfl hC (KeepM.refl _)
      · obtain ⟨v5, rfl, h5⟩ := hin 5 53 (by kernel_rfl) (by kernel_rfl)
        obtain rfl := Option.some.inj ho
        clear hin hfix ho
        go_simp
        exact hK _ _ rfl hC (KeepM.refl _)
      · obtain rfl := Option.some.inj ho
        clear hin hfix ho
        go_simp
        exact hK _ _ ⟨W.heap.size, rfl, hC.size, 0, 0, 0, 0, World.alloc_heap_new W _⟩ (hC.alloc hC.size _) (KeepM.alloc _ _)
      · obtain ⟨v8, ⟨g8, rfl, hg8, hM8⟩, h8⟩ := hin 8 19 (by kernel_rfl) (by kernel_rfl)
        obtain ⟨v6, rfl, h6⟩ := hin 6 59 (by kernel_rfl) (by kernel_rfl)
        obtain rfl := Option.some.inj ho
        clear hin hfix ho
        obtain ⟨a', b', c', d', hQ⟩ := hM8
        obtain ⟨t0, t1, t2, t3⟩ := Q4.cells hQ
        have f0 := blk_free (k := 0) hQ; have f1 := blk_free (k := 1) hQ; have f2 := blk_free (k := 2) hQ; have f3 := blk_free (k := 3) hQ
        go_simp
        exact hK undef _ trivial ((((hC.setCell (p := ⟨g8, 0, none⟩) (by simp; omega) (.int .i64 a5)).setCell (p := ⟨g8, 1, none⟩) (by simp; omega) (.int .i64 b5)).setCell (p := ⟨g8, 2, none⟩) (by simp; omega) (.int .i64 c5)).setCell (p := ⟨g8, 3, none⟩) (by simp; omega) (.int .i64 d5)) (KeepM.set4 ⟨a', b', c', d', hQ⟩ a5 b5 c5 d5)
    case hend =>
      intro vals W6 hC hV
      have z7 := hV 7 (by decide)
      clear hV
      simp only [VO] at z7
      have hr : List.range 10 = [0, 1, 2, 3, 4, 5, 6, 7, 8, 9] := rfl
      simp only [List.drop_succ_cons, List.drop_zero, putA, hr, List.foldl_cons, List.foldl_nil, dstR, List.getElem?_toArray, List.getElem?_cons_succ, List.getElem?_cons_zero, Option.bind_some, Act.put, List.setIfInBounds_toArray, List.set_cons_succ, List.set_cons_zero, z7]
      generalize vals 0 = y0
      generalize vals 1 = y1
      generalize vals 2 = y2
      generalize vals 3 = y3
      generalize vals 4 = y4
      generalize vals 5 = y5
      generalize vals 6 = y6
      generalize vals 8 = y8
      clear hr z7 vals
      have F6 := F5.below hC lF5
      have G6 := G5.below hC lG5
      have M6 := M5.below hC lM5
      have hB6' : Below w.heap.size w W6 := up hC hB5'
      clear F5 G5 M5 hB5' hC lF5 lG5 lM5 hC5
      have lF6 := F6.lt
      have lG6 := G6.lt
      have lM6 := M6.lt
      have HT6 := Lib.hid (HT.out.below hB6' (Nat.le_refl _))
      go_wp2_with fail
      have p0 := (F6).cell (k := 0) (by omega); have p1 := (F6).cell (k := 1) (by omega); have p2 := (F6).cell (k := 2) (by omega); have p3 := (F6).cell (k := 3) (by omega); have p4 := (F6).cell (k := 4) (by omega); have p5 := (F6).cell (k := 5) (by omega); have p6 := (F6).cell (k := 6) (by omega); have p7 := (F6).cell (k := 7) (by omega)
      have q0 := (G6).cell (k := 0) (by omega); have q1 := (G6).cell (k := 1) (by omega); have q2 := (G6).cell (k := 2) (by omega); have q3 := (G6).cell (k := 3) (by omega); have q4 := (G6).cell (k := 4) (by omega); have q5 := (G6).cell (k := 5) (by omega); have q6 := (G6).cell (k := 6) (by omega); have q7 := (G6).cell (k := 7) (by omega)
      rcases H1.out with rfl | ⟨rfl, hyz, hnn, rfl, rfl⟩
      · (refine wp_region_quiet (C := fun w' => Below W6.heap.size W6 w') (by kernel_rfl) (by kernel_rfl) (Below.drew (Below.refl _ _)) ?_; (iterate 22 (refine wpQuiet_step (fun K hK => ?_); go_simp; first | (refine hK _ ?_; clear hK K) | (apply Exists.intro; refine ⟨fun W' hW' => ?_, hK _ ?_⟩; (focus (first | (with_reducible exact rfl) | (with_reducible exact ⟨rfl, rfl⟩) | (obtain ⟨hcq, hfq⟩ := bcell hW'; have hzq := hW'.size; (try go_simp); first | (with_reducible exact rfl) | (with_reducible exact ⟨rfl, rfl⟩) | (first | ((with_reducible refine Calls.mono (HNg.out _) ?_); rintro e w9 ⟨rfl, hb9⟩; exact ⟨rfl, hW'.trans (hb9.mono hW'.size)⟩) | ((with_reducible refine Calls.mono (HNf.out _) ?_); rintro e w9 ⟨rfl, hb9⟩; exact ⟨rfl, hW'.trans (hb9.mono hW'.size)⟩))))); clear hK K))); refine wpQuiet_nil ?_; intro w1q hb1q)
        have hB7 : Below w.heap.size w w1q := hB6'.trans (hb1q.mono hB6'.size)
        have HT7 := Lib.hid (HT.out.below hB7 (Nat.le_refl _))
        go_wp2_with fail
        refine (HC.out _ HT7.out).mono ?_
        rintro e w8 ⟨rfl, b8⟩
        go_wp2_with fail
        go_ret
        exact ⟨rfl, hB7.trans (b8.mono hB7.size)⟩
      · have hd : decide ((nf : Int) < (ng : Int)) = false := decide_eq_false (by omega)
        rcases hyz with rfl | ⟨rfl, rfl⟩
        all_goals
          (refine wp_region_quiet (C := fun w' => Below W6.heap.size W6 w') (by kernel_rfl) (by kernel_rfl) (Below.drew (Below.refl _ _)) ?_; (iterate 22 (refine wpQuiet_step (fun K hK => ?_); go_simp; first | (refine hK _ ?_; clear hK K) | (apply Exists.intro; refine ⟨fun W' hW' => ?_, hK _ ?_⟩; (focus (first | (with_reducible exact rfl) | (with_reducible exact ⟨rfl, rfl⟩) | (obtain ⟨hcq, hfq⟩ := bcell hW'; have hzq := hW'.size; (try go_simp); first | (with_reducible exact rfl) | (with_reducible exact ⟨rfl, rfl⟩) | (first | ((with_reducible refine Calls.mono (HNg.out _) ?_); rintro e w9 ⟨rfl, hb9⟩; exact ⟨rfl, hW'.trans (hb9.mono hW'.size)⟩) | ((with_reducible refine Calls.mono (HNf.out _) ?_); rintro e w9 ⟨rfl, hb9⟩; exact ⟨rfl, hW'.trans (hb9.mono hW'.size)⟩))))); clear hK K))); refine wpQuiet_nil ?_; intro w1q hb1q)
          have hB7 : Below w.heap.size w w1q := hB6'.trans (hb1q.mono hB6'.size)
          have HT7 := Lib.hid (HT.out.below hB7 (Nat.le_refl _))
          go_wp2_with fail
          refine (HC.out _ HT7.out).mono ?_
          rintro e w8 ⟨rfl, b8⟩
          go_wp2_with fail
          go_ret
          exact ⟨rfl, hB7.trans (b8.mono hB7.size)⟩
end Go.Proofs.YtadkaplafaeebaaGreatDoor
