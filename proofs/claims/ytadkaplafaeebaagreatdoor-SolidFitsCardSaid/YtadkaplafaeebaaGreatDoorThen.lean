/-
  Then.
-/
import Derived.Test.YtadkaplafaeebaaGreatDoorPkG
import Derived.Test.YtadkaplafaeebaaGreatDoorPkP
set_option linter.unusedVariables false
set_option linter.unusedSimpArgs false
namespace Go.Proofs.YtadkaplafaeebaaGreatDoor
open Go Go.RowKit

/-- A variable that has just been made. -/
def NewC (B : Nat) (v : Value) (W : World) : Prop := ∃ g, v = .pointer (some ⟨g, 0, none⟩) ∧ B ≤ g ∧ BoxC W g 0 0 0
theorem NewC.below {B : Nat} {v : Value} {W W' : World} (h : NewC B v W) (hb : Below W.heap.size W W') : NewC B v W' := by
  obtain ⟨g, e, h1, h2⟩ := h
  exact ⟨g, e, h1, h2.below hb h2.lt⟩
def V7 (B A : Nat) (t1 : Nat) (a b c : Int) (i : Nat) (v : Value) (W : World) : Prop := match i with
  | 0 => v = .agg #[.int .i64 (1), .int .i64 (2), .int .i64 (3)] | 1 => v = .pointer (some ⟨A, 0, none⟩) | 2 => v = .int .i64 t1 | 3 => v = .agg #[.int .i64 (a), .int .i64 (b), .int .i64 (c)] | 4 => NewC B v W | _ => True
def V3 (B A : Nat) (t1 t2 : Nat) (x y z a b c : Int) (i : Nat) (v : Value) (W : World) : Prop := match i with
  | 0 => v = .agg #[.int .i64 (t1), .int .i64 (x), .int .i64 (y), .int .i64 (z)] | 1 => v = .agg #[.int .i64 (x), .int .i64 (y), .int .i64 (z)] | 2 => v = .pointer (some ⟨A, 0, none⟩) | 3 => v = .int .i64 t2 | 4 => v = .agg #[.int .i64 (a), .int .i64 (b), .int .i64 (c)] | 5 => NewC B v W | _ => True
set_option maxRecDepth 100000 in
set_option maxHeartbeats 4000000 in
theorem then_in (t1 t2 : Nat) (x1 y1 z1 x2 y2 z2 a b c X Y Z : Int) (T : Nat) (w : World) (h1 : t1 < 24) (h2 : t2 < 24) (m1 : mvB x1 y1 z1 = true) (m2 : mvB x2 y2 z2 = true) (hT : T < 24)
    (ha : turnI 0 t2 (x1, y1, z1) = (a, b, c)) (hX : X = a + x2) (hY : Y = b + y2) (hZ : Z = c + z2) (hm : mvB X Y Z = true) (hto : toTurn (1, 2, 3) (turnI 0 t2 (turnI 0 t1 (1, 2, 3))) T) :
    Calls Tryz.prog 50 #[.agg #[.int .i64 (t1), .int .i64 (x1), .int .i64 (y1), .int .i64 (z1)], .agg #[.int .i64 (t2), .int .i64 (x2), .int .i64 (y2), .int .i64 (z2)]] w fun e w' => e = .returned (.tuple #[.agg #[.int .i64 (T), .int .i64 (X), .int .i64 (Y), .int .i64 (Z)], .int .i64 0]) ∧ Below w.heap.size w w' := by
  have H1 := Lib.hid (show motB t1 x1 y1 z1 = true by unfold motB; rw [decide_eq_true (by omega), m1]; rfl)
  have H2 := Lib.hid (show motB t2 x2 y2 z2 = true by unfold motB; rw [decide_eq_true (by omega), m2]; rfl)
  have s1 : Sm3 30 (x1, y1, z1) := by have := of_decide_eq_true m1; unfold Sm3; simp only; omega
  have HX := Lib.hid hX
  have HY := Lib.hid hY
  have HZ := Lib.hid hZ
  have HA := Lib.hid ha
  have HM := Lib.hid hm
  have HTH := fun W => turn_ok 0 t2 x1 y1 z1 W h2 (by omega) (by omega) s1
  rw [ha] at HTH
  have HTU := Lib.hid HTH
  clear HTH
  have s0 : Sm3 30 (1, 2, 3) := by unfold Sm3; simp only; omega
  have sp : Sm3 30 (turnI 0 t1 (1, 2, 3)) := turnI0_sm s0 t1
  obtain ⟨p, hp⟩ : ∃ p, p = turnI 0 t1 (1, 2, 3) := ⟨_, rfl⟩
  have HT1 := fun W => turn_ok 0 t1 1 2 3 W h1 (by omega) (by omega) s0
  rw [← hp] at hto sp HT1
  obtain ⟨p1, p2, p3⟩ := p
  have sr : Sm3 30 (turnI 0 t2 (p1, p2, p3)) := turnI0_sm sp t2
  obtain ⟨r, hr⟩ : ∃ r, r = turnI 0 t2 (p1, p2, p3) := ⟨_, rfl⟩
  have HT2 := fun W => turn_ok 0 t2 p1 p2 p3 W h2 (by omega) (by omega) sp
  rw [← hr] at hto sr HT2
  obtain ⟨r1, r2, r3⟩ := r
  have HTA := Lib.hid HT1
  have HTB := Lib.hid HT2
  have HTO := Lib.hid hto
  clear HT1 HT2 hp hr sp sr
  have b2 := of_decide_eq_true m2
  have bX := of_decide_eq_true hm
  have ba : -30 ≤ a ∧ a ≤ 30 ∧ -30 ≤ b ∧ b ≤ 30 ∧ -30 ≤ c ∧ c ≤ 30 := by omega
  clear hX hY hZ ha hm hto m1 m2
  go_enter Tryz.func50, Tryz.ntmps50
  go_wp2_with fail
  refine (isMotion_is H1.out _).mono ?_
  rintro e w1 ⟨rfl, hb1⟩
  have M1 : Q4 w1 w.heap.size t1 x1 y1 z1 := blk_below (blk_alloc (blk_alloc (blk_new rfl) _) _) hb1 (by simp <;> omega)
  have N1 : Q4 w1 (w.heap.size + 1) t2 x2 y2 z2 := blk_below (blk_alloc (blk_new (by simp)) _) hb1 (by simp <;> omega)
  have R1 : Q4 w1 (w.heap.size + 1 + 1) 0 0 0 0 := blk_below (blk_new (by simp)) hb1 (by simp <;> omega)
  have hB1 : Below w.heap.size w w1 := up hb1 (by repeat' (first | (with_reducible exact Below.refl _ _) | (with_reducible assumption) | (with_reducible refine Below.alloc ?_ ?_ _) | (with_reducible refine Below.drew ?_) | (with_reducible refine below_drewN ?_ _) | (with_reducible refine Below.setCell ?_ ?_ _) | go_size))
  obtain ⟨n0, n1, n2, n3⟩ := N1.cells
  have lM := blk_lt M1
  have lN := blk_lt N1
  have lR := blk_lt R1
  go_wp2_with fail
  refine (isMotion_is H2.out _).mono ?_
  rintro e w2 ⟨rfl, hb2⟩
  have M2 := blk_below M1 hb2 lM
  have N2 := blk_below N1 hb2 lN
  have R2 := blk_below R1 hb2 lR
  have hB2 : Below w.heap.size w w2 := up hb2 hB1
  clear M1 N1 R1 n0 n1 n2 n3 lM lN lR hb1
  obtain ⟨m0', m1', m2', m3'⟩ := Q4.cells M2
  obtain ⟨n0, n1, n2, n3⟩ := Q4.cells N2
  have lM := blk_lt M2
  have lN := blk_lt N2
  have lR := blk_lt R2
  go_wp2_with fail
  have hC2 : Below w2.heap.size w2 w2.drew := Below.drew (Below.refl _ _)
  refine wp_region_relT 6 (V3 w2.heap.size (w.heap.size + 1) t1 t2 x1 y1 z1 a b c) (fun W => Below w2.heap.size w2 W) (by kernel_rfl) (by kernel_rfl) (by kernel_rfl) (by kernel_rfl) (by kernel_rfl) (by kernel_rfl) (by kernel_rfl) (by kernel_rfl) hC2 ?hst ?hop ?hend
  case hst =>
    intro j v W W' hb hv
    rcases j with _ | _ | _ | _ | _ | _ | j
    all_goals first | exact hv | exact NewC.below hv hb
  case hop =>
    intro i o hi ho a' W hC hin hfix K hK
    have M3 := blk_below M2 hC lM
    have N3 := blk_below N2 hC lN
    obtain ⟨m0', m1', m2', m3'⟩ := Q4.cells M3
    obtain ⟨n0, n1, n2, n3⟩ := Q4.cells N3
    have q2 : a'.tmps[2]? = some (.pointer (some ⟨w.heap.size, 0, none⟩)) := hfix 2 (by kernel_rfl)
    have q3 : a'.tmps[3]? = some (.pointer (some ⟨w.heap.size + 1, 0, none⟩)) := hfix 3 (by kernel_rfl)
    rcases (show i = 0 ∨ i = 1 ∨ i = 2 ∨ i = 3 ∨ i = 4 ∨ i = 5 by omega) with rfl | rfl | rfl | rfl | rfl | rfl
    · obtain rfl := Option.some.inj ho
      clear hin hfix ho
      go_simp
      exact hK _ _ rfl hC (Below.refl _ _)
    · obtain ⟨v0, rfl, h0⟩ := hin 0 18 (by kernel_rfl) (by kernel_rfl)
      obtain rfl := Option.some.inj ho
      clear hin hfix ho
      go_simp
      refine (moveOf_ok t1 x1 y1 z1 _).mono ?_
      rintro e W2 ⟨rfl, hb⟩
      exact hK _ _ rfl (hC.trans (hb.mono hC.size)) hb
    · obtain rfl := Option.some.inj ho
      clear hin hfix ho
      go_simp
      exact hK _ _ rfl hC (Below.refl _ _)
    · obtain ⟨v0, rfl, h0⟩ := hin 2 20 (by kernel_rfl) (by kernel_rfl)
      obtain rfl := Option.some.inj ho
      clear hin hfix ho
      go_simp
      exact hK _ _ rfl hC (Below.refl _ _)
    · obtain ⟨v1, rfl, h1⟩ := hin 1 19 (by kernel_rfl) (by kernel_rfl)
      obtain ⟨v3, rfl, h3⟩ := hin 3 21 (by kernel_rfl) (by kernel_rfl)
      obtain rfl := Option.some.inj ho
      clear hin hfix ho
      go_simp
      refine (HTU.out _).mono ?_
      rintro e W2 ⟨rfl, hb⟩
      exact hK _ _ rfl (hC.trans (hb.mono hC.size)) hb
    · obtain rfl := Option.some.inj ho
      clear hin hfix ho
      go_simp
      exact hK _ _ ⟨W.heap.size, rfl, hC.size, World.alloc_heap_new W _⟩ (hC.alloc hC.size _) ((Below.refl _ W).alloc (Nat.le_refl _) _)
  case hend =>
    intro vals W hC hV
    have z0 := hV 0 (by decide)
    have z1 := hV 1 (by decide)
    have z2 := hV 2 (by decide)
    have z3 := hV 3 (by decide)
    have z4 := hV 4 (by decide)
    obtain ⟨g, z5, hg, bG⟩ := hV 5 (by decide)
    clear hV
    simp only [V3] at z0 z1 z2 z3 z4
    have hr : List.range 6 = [0, 1, 2, 3, 4, 5] := rfl
    simp only [List.drop_succ_cons, List.drop_zero, putA, hr, List.foldl_cons, List.foldl_nil, dstR, List.getElem?_toArray, List.getElem?_cons_succ, List.getElem?_cons_zero, Option.bind_some, Act.put, List.setIfInBounds_toArray, List.set_cons_succ, List.set_cons_zero, z0, z1, z2, z3, z4, z5]
    clear hr z0 z1 z2 z3 z4 z5 vals
    have M3 := blk_below M2 hC lM
    have N3 := blk_below N2 hC lN
    have R3 := blk_below R2 hC lR
    have hB3 : Below w.heap.size w W := up hC hB2
    have g0 := bG.c0
    have g1 := bG.c1
    have g2 := bG.c2
    have gl := bG.lt
    have f0 := blk_free (k := 0) bG; have f1 := blk_free (k := 1) bG; have f2 := blk_free (k := 2) bG
    have s2 := hC.size
    have hlN : w.heap.size + 1 < w2.heap.size := lN
    have hlM : w.heap.size < w2.heap.size := lM
    have hlR : w.heap.size + 1 + 1 < w2.heap.size := lR
    have bG3 : BoxC (((W.setCell ⟨g, 0, none⟩ (.int .i64 a)).setCell ⟨g, 1, none⟩ (.int .i64 b)).setCell ⟨g, 2, none⟩ (.int .i64 c)) g a b c := blk_set (k := 2) (blk_set (k := 1) (blk_set (k := 0) bG (.int .i64 a)) (.int .i64 b)) (.int .i64 c)
    have o3 : ∀ {B : Nat} {o : Obj}, W.heap[B]? = some o → B < w2.heap.size → (((W.setCell ⟨g, 0, none⟩ (.int .i64 a)).setCell ⟨g, 1, none⟩ (.int .i64 b)).setCell ⟨g, 2, none⟩ (.int .i64 c)).heap[B]? = some o := fun h hl => blk_other (blk_other (blk_other h (by omega) _) (by omega) _) (by omega) _
    have N4 := o3 N3 hlN
    have M4 := o3 M3 hlM
    have R4 := o3 R3 hlR
    have HO3 := Lib.hid hC
    clear o3
    obtain ⟨n0, n1, n2, n3⟩ := Q4.cells N4
    have k0 := bG3.c0
    have k1 := bG3.c1
    have k2 := bG3.c2
    have e0 := blk_free (k := 0) bG3; have e1 := blk_free (k := 1) bG3; have e2 := blk_free (k := 2) bG3
    have hB4 : Below w.heap.size w (((W.setCell ⟨g, 0, none⟩ (.int .i64 a)).setCell ⟨g, 1, none⟩ (.int .i64 b)).setCell ⟨g, 2, none⟩ (.int .i64 c)) := ((hB3.setCell (p := ⟨g, 0, none⟩) (by simp; omega) _).setCell (p := ⟨g, 1, none⟩) (by simp; omega) _).setCell (p := ⟨g, 2, none⟩) (by simp; omega) _
    go_wp2_with fail
    clear n0 n1 n2 n3 k0 k1 k2 e0 e1 e2 g0 g1 g2 f0 f1 f2
    have bG5 : BoxC ((((((W.setCell ⟨g, 0, none⟩ (.int .i64 a)).setCell ⟨g, 1, none⟩ (.int .i64 b)).setCell ⟨g, 2, none⟩ (.int .i64 c)).setCell ⟨g, 0, none⟩ (.int .i64 (a + x2))).setCell ⟨g, 1, none⟩ (.int .i64 (b + y2))).setCell ⟨g, 2, none⟩ (.int .i64 (c + z2))) g (a + x2) (b + y2) (c + z2) := blk_set (k := 2) (blk_set (k := 1) (blk_set (k := 0) bG3 (.int .i64 (a + x2))) (.int .i64 (b + y2))) (.int .i64 (c + z2))
    have o5 : ∀ {B : Nat} {o : Obj}, (((W.setCell ⟨g, 0, none⟩ (.int .i64 a)).setCell ⟨g, 1, none⟩ (.int .i64 b)).setCell ⟨g, 2, none⟩ (.int .i64 c)).heap[B]? = some o → B < w2.heap.size → ((((((W.setCell ⟨g, 0, none⟩ (.int .i64 a)).setCell ⟨g, 1, none⟩ (.int .i64 b)).setCell ⟨g, 2, none⟩ (.int .i64 c)).setCell ⟨g, 0, none⟩ (.int .i64 (a + x2))).setCell ⟨g, 1, none⟩ (.int .i64 (b + y2))).setCell ⟨g, 2, none⟩ (.int .i64 (c + z2))).heap[B]? = some o := fun h hl => blk_other (blk_other (blk_other h (by omega) _) (by omega) _) (by omega) _
    have N5 := o5 N4 hlN
    have M5 := o5 M4 hlM
    have R5 := o5 R4 hlR
    have hB5 : Below w.heap.size w ((((((W.setCell ⟨g, 0, none⟩ (.int .i64 a)).setCell ⟨g, 1, none⟩ (.int .i64 b)).setCell ⟨g, 2, none⟩ (.int .i64 c)).setCell ⟨g, 0, none⟩ (.int .i64 (a + x2))).setCell ⟨g, 1, none⟩ (.int .i64 (b + y2))).setCell ⟨g, 2, none⟩ (.int .i64 (c + z2))) := ((hB4.setCell (p := ⟨g, 0, none⟩) (by simp; omega) _).setCell (p := ⟨g, 1, none⟩) (by simp; omega) _).setCell (p := ⟨g, 2, none⟩) (by simp; omega) _
    have hs5 : ((((((W.setCell ⟨g, 0, none⟩ (.int .i64 a)).setCell ⟨g, 1, none⟩ (.int .i64 b)).setCell ⟨g, 2, none⟩ (.int .i64 c)).setCell ⟨g, 0, none⟩ (.int .i64 (a + x2))).setCell ⟨g, 1, none⟩ (.int .i64 (b + y2))).setCell ⟨g, 2, none⟩ (.int .i64 (c + z2))).heap.size = W.heap.size := by simp
    obtain ⟨U, hU⟩ : ∃ U, U = ((((((W.setCell ⟨g, 0, none⟩ (.int .i64 a)).setCell ⟨g, 1, none⟩ (.int .i64 b)).setCell ⟨g, 2, none⟩ (.int .i64 c)).setCell ⟨g, 0, none⟩ (.int .i64 (a + x2))).setCell ⟨g, 1, none⟩ (.int .i64 (b + y2))).setCell ⟨g, 2, none⟩ (.int .i64 (c + z2))) := ⟨_, rfl⟩
    rw [← hU] at bG5 N5 M5 R5 hB5 hs5 ⊢
    rw [← HX.out, ← HY.out, ← HZ.out] at bG5 ⊢
    clear o5 hU N4 M4 R4 N3 M3 R3 hB3 hB4 bG3 bG M2 N2 R2 hB2 HO3 hC s2
    have hmv := isMove_ok X Y Z U
    rw [HM.out] at hmv
    refine hmv.mono ?_
    clear hmv
    rintro e w6 ⟨rfl, hb6⟩
    have N6 := blk_below N5 hb6 (blk_lt N5)
    have M6 := blk_below M5 hb6 (blk_lt M5)
    have R6 := blk_below R5 hb6 (blk_lt R5)
    have bG6 : BoxC w6 g X Y Z := blk_below bG5 hb6 (blk_lt bG5)
    have hB6 : Below w.heap.size w w6 := up hb6 hB5
    clear N5 M5 R5 bG5 hB5 hs5 hb6 gl
    have lM6 := blk_lt M6
    have lN6 := blk_lt N6
    have lR6 := blk_lt R6
    have lG6 := blk_lt bG6
    go_wp2_with fail
    have hC6 : Below w6.heap.size w6 w6.drew := Below.drew (Below.refl _ _)
    refine wp_region_relT 5 (V7 w6.heap.size w.heap.size t1 p1 p2 p3) (fun W => Below w6.heap.size w6 W) (by kernel_rfl) (by kernel_rfl) (by kernel_rfl) (by kernel_rfl) (by kernel_rfl) (by kernel_rfl) (by kernel_rfl) (by kernel_rfl) hC6 ?hst2 ?hop2 ?hend2
    case hst2 =>
      intro j v W W' hb hv
      rcases j with _ | _ | _ | _ | _ | j
      all_goals first | exact hv | exact NewC.below hv hb
    case hop2 =>
      intro i o hi ho a' W hC hin hfix K hK
      have M7 := blk_below M6 hC lM6
      obtain ⟨m0', m1', m2', m3'⟩ := Q4.cells M7
      have q2 : a'.tmps[2]? = some (.pointer (some ⟨w.heap.size, 0, none⟩)) := hfix 2 (by kernel_rfl)
      rcases (show i = 0 ∨ i = 1 ∨ i = 2 ∨ i = 3 ∨ i = 4 by omega) with rfl | rfl | rfl | rfl | rfl
      · obtain rfl := Option.some.inj ho
        clear hin hfix ho
        go_simp
        refine (lopsided_ok _).mono ?_
        rintro e W2 ⟨rfl, hb⟩
        exact hK _ _ rfl (hC.trans (hb.mono hC.size)) hb
      · obtain rfl := Option.some.inj ho
        clear hin hfix ho
        go_simp
        exact hK _ _ rfl hC (Below.refl _ _)
      · obtain ⟨v0, rfl, h0⟩ := hin 1 44 (by kernel_rfl) (by kernel_rfl)
        obtain rfl := Option.some.inj ho
        clear hin hfix ho
        go_simp
        exact hK _ _ rfl hC (Below.refl _ _)
      · obtain ⟨v1, rfl, h1⟩ := hin 0 43 (by kernel_rfl) (by kernel_rfl)
        obtain ⟨v3, rfl, h3⟩ := hin 2 45 (by kernel_rfl) (by kernel_rfl)
        obtain rfl := Option.some.inj ho
        clear hin hfix ho
        go_simp
        refine (HTA.out _).mono ?_
        rintro e W2 ⟨rfl, hb⟩
        exact hK _ _ rfl (hC.trans (hb.mono hC.size)) hb
      · obtain rfl := Option.some.inj ho
        clear hin hfix ho
        go_simp
        exact hK _ _ ⟨W.heap.size, rfl, hC.size, World.alloc_heap_new W _⟩ (hC.alloc hC.size _) ((Below.refl _ W).alloc (Nat.le_refl _) _)
    case hend2 =>
      intro vals W hC hV
      have z0 := hV 0 (by decide)
      have z1 := hV 1 (by decide)
      have z2 := hV 2 (by decide)
      have z3 := hV 3 (by decide)
      obtain ⟨h, z4, hg7, bH⟩ := hV 4 (by decide)
      clear hV
      simp only [V7] at z0 z1 z2 z3
      have hr : List.range 5 = [0, 1, 2, 3, 4] := rfl
      simp only [List.drop_succ_cons, List.drop_zero, putA, hr, List.foldl_cons, List.foldl_nil, dstR, List.getElem?_toArray, List.getElem?_cons_succ, List.getElem?_cons_zero, Option.bind_some, Act.put, List.setIfInBounds_toArray, List.set_cons_succ, List.set_cons_zero, z0, z1, z2, z3, z4]
      clear hr z0 z1 z2 z3 z4 vals
      have N7 := blk_below N6 hC lN6
      have R7 := blk_below R6 hC lR6
      have bG7 : BoxC W g X Y Z := blk_below bG6 hC lG6
      have hB7 : Below w.heap.size w W := up hC hB6
      clear N6 R6 bG6 M6 hB6
      have g0 := bH.c0
      have g1 := bH.c1
      have g2 := bH.c2
      have f0 := blk_free (k := 0) bH; have f1 := blk_free (k := 1) bH; have f2 := blk_free (k := 2) bH
      have hgh : g < h := by omega
      have bH3 : BoxC (((W.setCell ⟨h, 0, none⟩ (.int .i64 p1)).setCell ⟨h, 1, none⟩ (.int .i64 p2)).setCell ⟨h, 2, none⟩ (.int .i64 p3)) h p1 p2 p3 := blk_set (k := 2) (blk_set (k := 1) (blk_set (k := 0) bH (.int .i64 p1)) (.int .i64 p2)) (.int .i64 p3)
      have o7 : ∀ {B : Nat} {o : Obj}, W.heap[B]? = some o → B < w6.heap.size → (((W.setCell ⟨h, 0, none⟩ (.int .i64 p1)).setCell ⟨h, 1, none⟩ (.int .i64 p2)).setCell ⟨h, 2, none⟩ (.int .i64 p3)).heap[B]? = some o := fun h hl => blk_other (blk_other (blk_other h (by omega) _) (by omega) _) (by omega) _
      have N8 := o7 N7 lN6
      have R8 := o7 R7 lR6
      have bG8 : BoxC _ g X Y Z := o7 bG7 lG6
      have hB8 : Below w.heap.size w (((W.setCell ⟨h, 0, none⟩ (.int .i64 p1)).setCell ⟨h, 1, none⟩ (.int .i64 p2)).setCell ⟨h, 2, none⟩ (.int .i64 p3)) := ((hB7.setCell (p := ⟨h, 0, none⟩) (by simp; omega) _).setCell (p := ⟨h, 1, none⟩) (by simp; omega) _).setCell (p := ⟨h, 2, none⟩) (by simp; omega) _
      obtain ⟨n0, n1, n2, n3⟩ := Q4.cells N8
      have k0 := bH3.c0
      have k1 := bH3.c1
      have k2 := bH3.c2
      clear o7
      go_wp2_with fail
      clear n0 n1 n2 n3 k0 k1 k2 g0 g1 g2 f0 f1 f2
      have lR8 := blk_lt R8
      have lG8 := blk_lt bG8
      refine (HTB.out _).mono ?_
      rintro e w9 ⟨rfl, hb9⟩
      have R9 := blk_below R8 hb9 lR8
      have bG9 : BoxC w9 g X Y Z := blk_below bG8 hb9 lG8
      have hB9 : Below w.heap.size w w9 := up hb9 hB8
      clear R8 bG8 hB8 N8 bH3 bH N7 R7 bG7 hB7 hb9 lR8 lG8 hC
      have hB10 : Below w.heap.size w (w9.alloc (.cells #[.int .i64 (r1), .int .i64 (r2), .int .i64 (r3)] 26)) := hB9.alloc hB9.size _
      have bN : BoxC (w9.alloc (.cells #[.int .i64 (r1), .int .i64 (r2), .int .i64 (r3)] 26)) w9.heap.size r1 r2 r3 := World.alloc_heap_new w9 _
      have R10 := blk_alloc R9 (.cells #[.int .i64 (r1), .int .i64 (r2), .int .i64 (r3)] 26)
      have bG10 : BoxC (w9.alloc (.cells #[.int .i64 (r1), .int .i64 (r2), .int .i64 (r3)] 26)) g X Y Z := blk_alloc bG9 _
      go_wp2_with fail
      obtain ⟨U, hU⟩ : ∃ U, U = w9.alloc (.cells #[.int .i64 (r1), .int .i64 (r2), .int .i64 (r3)] 26) := ⟨_, rfl⟩
      rw [← hU] at hB10 bN R10 bG10 ⊢
      clear hU hB9 R9 bG9
      have lN10 := blk_lt bN
      have lR10 := blk_lt R10
      have lG10 := blk_lt bG10
      have k0 := bN.c0
      have k1 := bN.c1
      have k2 := bN.c2
      have g0 := bG10.c0
      have g1 := bG10.c1
      have g2 := bG10.c2
      (refine wp_region_quiet_tail 5 (fun w' => Below U.heap.size U w') (by kernel_rfl) (by kernel_rfl) (Below.drew (Below.refl _ _)) ?_; simp only [List.take_succ_cons, List.take_zero, List.drop_succ_cons, List.drop_zero]; (iterate 5 (refine wpQuiet_step (fun K hK => ?_); go_simp; first | (refine hK _ ?_; clear hK K) | (apply Exists.intro; refine ⟨fun W' hW' => ?_, hK _ ?_⟩; (focus (first | (with_reducible exact rfl) | (with_reducible exact ⟨rfl, rfl⟩) | (obtain ⟨hcq, hfq⟩ := bcell hW'; have hzq := hW'.size; (try go_simp); first | (with_reducible exact rfl) | (with_reducible exact ⟨rfl, rfl⟩) | (first | (refine (lopsided_ok _).mono ?_; rintro e w9 ⟨rfl, hb9⟩; exact ⟨rfl, hW'.trans (hb9.mono hW'.size)⟩) | (refine (turnTo_ok 1 2 3 r1 r2 r3 T _ hT HTO.out s0).mono ?_; rintro e w9 ⟨rfl, hb9⟩; exact ⟨rfl, hW'.trans (hb9.mono hW'.size)⟩) | (refine (motionOf_ok (T : Int) X Y Z _).mono ?_; rintro e w9 ⟨rfl, hb9⟩; exact ⟨rfl, hW'.trans (hb9.mono hW'.size)⟩))))); clear hK K))); refine wpQuiet_nil ?_; intro w1q hb1q)
      have R4 := blk_below R10 hb1q lR10
      have hB4 : Below w.heap.size w w1q := up hb1q hB10
      have lR4 := blk_lt R4
      obtain ⟨n0, n1, n2, n3⟩ := Q4.cells R4
      have f0 := blk_free (k := 0) R4; have f1 := blk_free (k := 1) R4; have f2 := blk_free (k := 2) R4; have f3 := blk_free (k := 3) R4
      go_wp2_with fail
      have bE := blk_set (k := 3) (blk_set (k := 2) (blk_set (k := 1) (blk_set (k := 0) R4 (.int .i64 T)) (.int .i64 X)) (.int .i64 Y)) (.int .i64 Z)
      refine bodyPost_ret (res_4e Tryz.results50 rfl (blk_cell (k := 0) bE) (blk_cell (k := 1) bE) (blk_cell (k := 2) bE) (blk_cell (k := 3) bE)) rfl ⟨rfl, ?_⟩
      repeat' (first | (with_reducible exact Below.refl _ _) | (with_reducible assumption) | (with_reducible refine Below.alloc ?_ ?_ _) | (with_reducible refine Below.drew ?_) | (with_reducible refine below_drewN ?_ _) | (with_reducible refine Below.setCell ?_ ?_ _) | go_size)
end Go.Proofs.YtadkaplafaeebaaGreatDoor
