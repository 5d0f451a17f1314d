/-
  The law of what is placed: its walk, the contracts of its callees given; the law for every two solids and a motion.
-/
import Derived.Test.YtadkaplafaeebaaGreatDoorPlcQQ
import Derived.Test.YtadkaplafaeebaaGreatDoorPlacLQ
import Derived.Test.YtadkaplafaeebaaGreatDoorPkTJQ
import Derived.Test.YtadkaplafaeebaaGreatDoorCountQ
import Derived.Test.YtadkaplafaeebaaGreatDoorSkip2Q
set_option linter.unusedVariables false
set_option linter.unusedSimpArgs false
set_option maxRecDepth 100000
namespace Go.Proofs.YtadkaplafaeebaaGreatDoor
open Go Go.RowKit Go.Shelf

theorem any_take {L : List Sol} {p m : Sol} {i : Nat} (hm : L[i]? = some m) : (L.take (i + 1)).any (fun x => eqS x p) = ((L.take i).any (fun x => eqS x p) || eqS m p) := by
  rw [List.take_add_one, hm, List.any_append]
  simp
theorem three {fd b0 qe fe : Bool} {qq : Bool} (hfe : fe = (b0 && (fd || qq))) (h : b0 = false → fd = false) (hq : qe = qq) : (fd = true ∧ fe = true) ∨ (fd = false ∧ b0 = false ∧ fe = false) ∨ (fd = false ∧ b0 = true ∧ qe = fe) := by
  subst hfe hq
  cases b0 <;> cases fd <;> simp at h ⊢
theorem strict_next {L : List Sol} (h : Strict L) {k : Nat} {a b : Sol} (ha : L[k]? = some a) (hb : L[k + 1]? = some b) : cmpS a b < 0 := by
  obtain ⟨h1, h2⟩ := List.getElem?_eq_some_iff.1 hb
  have := strict_get h (i := k) (j := k + 1) (by omega) h1
  rw [← get_solAt ha, ← get_solAt hb] at this
  exact this
set_option maxHeartbeats 16000000 in
theorem plaq_core (f g p : Sol) (L : List Sol) (n : Nat) (A0 A1 A2 A3 t x y z e : Int) (r fb b0 hv : Bool) (w : World) (hT : Tab64 w) (hf : Fit f)
    (HN : Hid (∀ W : World, Calls Tryz.prog 29 #[sol g] W (RetB (.int .i64 ((n : Nat) : Int)) W)))
    (HH : Hid (∀ W : World, Calls Tryz.prog 58 #[sol f, sol g] W (RetB (.bool hv) W)))
    (H1 : Hid (∀ W : World, Tab64 W → Calls Tryz.prog 54 #[sol f, sol g] W (RetB (.tuple #[.agg #[.int .i64 (A0), .int .i64 (A1), .int .i64 (A2), .int .i64 (A3)], .bool fb]) W)))
    (H2 : Hid (∀ W : World, Tab64 W → Calls Tryz.prog 59 #[sol f, sol g] W fun e w' => ∃ v, e = .returned (.tuple #[v, .int .i64 0]) ∧ (∃ b, w'.ownsRow b 24 8 v L.length (flatS L)) ∧ Below W.heap.size W w'))
    (H3 : Hid (∀ W : World, Tab64 W → Calls Tryz.prog 56 #[sol f, sol g, .agg #[.int .i64 (t), .int .i64 (x), .int .i64 (y), .int .i64 (z)]] W (RetB (.bool r) W)))
    (H4 : Hid (∀ W : World, Tab64 W → Calls Tryz.prog 48 #[sol g, .agg #[.int .i64 (t), .int .i64 (x), .int .i64 (y), .int .i64 (z)]] W (RetB (.tuple #[sol p, .int .i64 e]) W)))
    (H5 : Hid (fb = true → ∀ W : World, Tab64 W → Calls Tryz.prog 56 #[sol f, sol g, .agg #[.int .i64 (A0), .int .i64 (A1), .int .i64 (A2), .int .i64 (A3)]] W (RetB (.bool true) W)))
    (HL : Hid (∀ m ∈ L, Fit m ∧ inB m f = true ∧ numF m = n)) (HS : Hid (Strict L)) (hlen : L.length ≤ 20000)
    (HR : Hid ((b0 && L.any fun x => eqS x p) = r)) (hfb : decide (0 < L.length) = fb) (he0 : (e == 0) = b0)
    (HC : Hid (∀ W, Tab64 W → Calls Tryz.prog 20 #[] W (RetB (.bool true) W))) :
    Calls Tryz.prog 18 #[sol f, sol g, .agg #[.int .i64 (t), .int .i64 (x), .int .i64 (y), .int .i64 (z)]] w (RetB (.bool true) w) := by
  have HT := Lib.hid hT
  have HF := Lib.hid hf
  have HFB := Lib.hid hfb
  have kn : (((n : Nat) : Int) != ((n : Nat) : Int)) = false := by simp
  clear hT hf hfb
  have A_0 : BoxS (((w.alloc (.cells (solC f) 24)).alloc (.cells (solC g) 24)).alloc (.cells #[.int .i64 (t), .int .i64 (x), .int .i64 (y), .int .i64 (z)] 46)) w.heap.size f := (((BoxS.new _ _).alloc _).alloc _)
  have B_0 : BoxS (((w.alloc (.cells (solC f) 24)).alloc (.cells (solC g) 24)).alloc (.cells #[.int .i64 (t), .int .i64 (x), .int .i64 (y), .int .i64 (z)] 46)) (w.heap.size + 1) g := ((BoxS.new' (by simp)).alloc _)
  have M_0 : Q4 (((w.alloc (.cells (solC f) 24)).alloc (.cells (solC g) 24)).alloc (.cells #[.int .i64 (t), .int .i64 (x), .int .i64 (y), .int .i64 (z)] 46)) (w.heap.size + 1 + 1) (t) (x) (y) (z) := (blk_new (by simp))
  have hB0 : Below w.heap.size w (((w.alloc (.cells (solC f) 24)).alloc (.cells (solC g) 24)).alloc (.cells #[.int .i64 (t), .int .i64 (x), .int .i64 (y), .int .i64 (z)] 46)) := by repeat' (first | (with_reducible exact Below.refl _ _) | (with_reducible assumption) | (with_reducible refine Below.alloc ?_ ?_ _) | (with_reducible refine Below.drew ?_) | (with_reducible refine below_drewN ?_ _) | (with_reducible refine Below.setCell ?_ ?_ _) | go_size)
  go_enter Tryz.func18, Tryz.ntmps18
  have cB0 := (B_0).cell (k := 0) (by omega); have cB1 := (B_0).cell (k := 1) (by omega); have cB2 := (B_0).cell (k := 2) (by omega); have cB3 := (B_0).cell (k := 3) (by omega); have cB4 := (B_0).cell (k := 4) (by omega); have cB5 := (B_0).cell (k := 5) (by omega); have cB6 := (B_0).cell (k := 6) (by omega); have cB7 := (B_0).cell (k := 7) (by omega)
  go_wp2_with fail
  clear cB0 cB1 cB2 cB3 cB4 cB5 cB6 cB7
  refine (HN.out _).mono ?_
  rintro e w1 ⟨rfl, b1⟩
  have A_1 := A_0.below b1 A_0.lt
  have B_1 := B_0.below b1 B_0.lt
  have M_1 := blk_below M_0 b1 (blk_lt M_0)
  have hB1 : Below w.heap.size w w1 := up b1 hB0
  clear A_0 B_0 M_0 hB0 b1
  have cA0 := (A_1).cell (k := 0) (by omega); have cA1 := (A_1).cell (k := 1) (by omega); have cA2 := (A_1).cell (k := 2) (by omega); have cA3 := (A_1).cell (k := 3) (by omega); have cA4 := (A_1).cell (k := 4) (by omega); have cA5 := (A_1).cell (k := 5) (by omega); have cA6 := (A_1).cell (k := 6) (by omega); have cA7 := (A_1).cell (k := 7) (by omega)
  have cB0 := (B_1).cell (k := 0) (by omega); have cB1 := (B_1).cell (k := 1) (by omega); have cB2 := (B_1).cell (k := 2) (by omega); have cB3 := (B_1).cell (k := 3) (by omega); have cB4 := (B_1).cell (k := 4) (by omega); have cB5 := (B_1).cell (k := 5) (by omega); have cB6 := (B_1).cell (k := 6) (by omega); have cB7 := (B_1).cell (k := 7) (by omega)
  go_wp2_with fail
  clear cA0 cA1 cA2 cA3 cA4 cA5 cA6 cA7 cB0 cB1 cB2 cB3 cB4 cB5 cB6 cB7
  refine (HH.out _).mono ?_
  rintro e w2 ⟨rfl, b2⟩
  have A_2 := A_1.below b2 A_1.lt
  have B_2 := B_1.below b2 B_1.lt
  have M_2 := blk_below M_1 b2 (blk_lt M_1)
  have hB2 : Below w.heap.size w w2 := up b2 hB1
  clear A_1 B_1 M_1 hB1 b2
  cases hv with
  | true =>
    go_wp2_with fail
    refine (HC.out _ (HT.out.below hB2 (Nat.le_refl _))).mono ?_
    rintro e w9 ⟨rfl, b9⟩
    go_wp2_with fail
    go_ret
    exact ⟨rfl, up b9 hB2⟩
  | false =>
    have cA0 := (A_2).cell (k := 0) (by omega); have cA1 := (A_2).cell (k := 1) (by omega); have cA2 := (A_2).cell (k := 2) (by omega); have cA3 := (A_2).cell (k := 3) (by omega); have cA4 := (A_2).cell (k := 4) (by omega); have cA5 := (A_2).cell (k := 5) (by omega); have cA6 := (A_2).cell (k := 6) (by omega); have cA7 := (A_2).cell (k := 7) (by omega)
    have cB0 := (B_2).cell (k := 0) (by omega); have cB1 := (B_2).cell (k := 1) (by omega); have cB2 := (B_2).cell (k := 2) (by omega); have cB3 := (B_2).cell (k := 3) (by omega); have cB4 := (B_2).cell (k := 4) (by omega); have cB5 := (B_2).cell (k := 5) (by omega); have cB6 := (B_2).cell (k := 6) (by omega); have cB7 := (B_2).cell (k := 7) (by omega)
    go_wp2_with fail
    clear cA0 cA1 cA2 cA3 cA4 cA5 cA6 cA7 cB0 cB1 cB2 cB3 cB4 cB5 cB6 cB7
    refine (H1.out _ (HT.out.below hB2 (Nat.le_refl _))).mono ?_
    rintro e w3 ⟨rfl, b3⟩
    have A_3 := (A_2.below b3 A_2.lt).alloc (.cells #[.int .i64 (A0), .int .i64 (A1), .int .i64 (A2), .int .i64 (A3)] 46)
    have B_3 := (B_2.below b3 B_2.lt).alloc (.cells #[.int .i64 (A0), .int .i64 (A1), .int .i64 (A2), .int .i64 (A3)] 46)
    have M_3 := blk_alloc (blk_below M_2 b3 (blk_lt M_2)) (.cells #[.int .i64 (A0), .int .i64 (A1), .int .i64 (A2), .int .i64 (A3)] 46)
    have hB3q : Below w.heap.size w w3 := up b3 hB2
    have hB3 := hB3q.alloc hB3q.size (.cells #[.int .i64 (A0), .int .i64 (A1), .int .i64 (A2), .int .i64 (A3)] 46)
    clear A_2 B_2 M_2 hB2 b3 hB3q
    have X_3 : Q4 (w3.alloc (.cells #[.int .i64 (A0), .int .i64 (A1), .int .i64 (A2), .int .i64 (A3)] 46)) w3.heap.size (A0) (A1) (A2) (A3) := blk_new rfl
    have cA0 := (A_3).cell (k := 0) (by omega); have cA1 := (A_3).cell (k := 1) (by omega); have cA2 := (A_3).cell (k := 2) (by omega); have cA3 := (A_3).cell (k := 3) (by omega); have cA4 := (A_3).cell (k := 4) (by omega); have cA5 := (A_3).cell (k := 5) (by omega); have cA6 := (A_3).cell (k := 6) (by omega); have cA7 := (A_3).cell (k := 7) (by omega)
    have cB0 := (B_3).cell (k := 0) (by omega); have cB1 := (B_3).cell (k := 1) (by omega); have cB2 := (B_3).cell (k := 2) (by omega); have cB3 := (B_3).cell (k := 3) (by omega); have cB4 := (B_3).cell (k := 4) (by omega); have cB5 := (B_3).cell (k := 5) (by omega); have cB6 := (B_3).cell (k := 6) (by omega); have cB7 := (B_3).cell (k := 7) (by omega)
    go_wp2_with fail
    clear cA0 cA1 cA2 cA3 cA4 cA5 cA6 cA7 cB0 cB1 cB2 cB3 cB4 cB5 cB6 cB7
    refine (H2.out _ (HT.out.below hB3 (Nat.le_refl _))).mono ?_
    rintro e w4 ⟨v, rfl, ⟨rb, ho⟩, b4⟩
    have A_4 := A_3.below b4 A_3.lt
    have B_4 := B_3.below b4 B_3.lt
    have M_4 := blk_below M_3 b4 (blk_lt M_3)
    have X_4 := blk_below X_3 b4 (blk_lt X_3)
    have hB4 : Below w.heap.size w w4 := up b4 hB3
    clear A_3 B_3 M_3 X_3 hB3 b4
    obtain ⟨pt, cap, rfl⟩ := own_len ho
    have cA0 := (A_4).cell (k := 0) (by omega); have cA1 := (A_4).cell (k := 1) (by omega); have cA2 := (A_4).cell (k := 2) (by omega); have cA3 := (A_4).cell (k := 3) (by omega); have cA4 := (A_4).cell (k := 4) (by omega); have cA5 := (A_4).cell (k := 5) (by omega); have cA6 := (A_4).cell (k := 6) (by omega); have cA7 := (A_4).cell (k := 7) (by omega)
    have cB0 := (B_4).cell (k := 0) (by omega); have cB1 := (B_4).cell (k := 1) (by omega); have cB2 := (B_4).cell (k := 2) (by omega); have cB3 := (B_4).cell (k := 3) (by omega); have cB4 := (B_4).cell (k := 4) (by omega); have cB5 := (B_4).cell (k := 5) (by omega); have cB6 := (B_4).cell (k := 6) (by omega); have cB7 := (B_4).cell (k := 7) (by omega)
    have cM0 := blk_cell (k := 0) M_4
    have cM1 := blk_cell (k := 1) M_4
    have cM2 := blk_cell (k := 2) M_4
    have cM3 := blk_cell (k := 3) M_4
    simp only [List.getElem?_toArray, List.getElem?_cons_zero, List.getElem?_cons_succ] at cM0 cM1 cM2 cM3
    go_wp2_with fail
    clear cA0 cA1 cA2 cA3 cA4 cA5 cA6 cA7 cB0 cB1 cB2 cB3 cB4 cB5 cB6 cB7 cM0 cM1 cM2 cM3
    refine (H3.out _ (HT.out.below hB4 (Nat.le_refl _))).mono ?_
    rintro e w5 ⟨rfl, b5⟩
    have ho2 := row_below ho b5
    clear ho
    have A_5 := A_4.below b5 A_4.lt
    have B_5 := B_4.below b5 B_4.lt
    have M_5 := blk_below M_4 b5 (blk_lt M_4)
    have X_5 := blk_below X_4 b5 (blk_lt X_4)
    have hB5 : Below w.heap.size w w5 := up b5 hB4
    clear A_4 B_4 M_4 X_4 hB4 b5
    have cB0 := (B_5).cell (k := 0) (by omega); have cB1 := (B_5).cell (k := 1) (by omega); have cB2 := (B_5).cell (k := 2) (by omega); have cB3 := (B_5).cell (k := 3) (by omega); have cB4 := (B_5).cell (k := 4) (by omega); have cB5 := (B_5).cell (k := 5) (by omega); have cB6 := (B_5).cell (k := 6) (by omega); have cB7 := (B_5).cell (k := 7) (by omega)
    have cM0 := blk_cell (k := 0) M_5
    have cM1 := blk_cell (k := 1) M_5
    have cM2 := blk_cell (k := 2) M_5
    have cM3 := blk_cell (k := 3) M_5
    simp only [List.getElem?_toArray, List.getElem?_cons_zero, List.getElem?_cons_succ] at cM0 cM1 cM2 cM3
    go_wp2_with fail
    clear cB0 cB1 cB2 cB3 cB4 cB5 cB6 cB7 cM0 cM1 cM2 cM3
    refine (H4.out _ (HT.out.below hB5 (Nat.le_refl _))).mono ?_
    rintro e2 w6 ⟨rfl, b6⟩
    have ho := (row_below ho2 b6).alloc (.cells (solC p) 24)
    clear ho2
    have A_6 := (A_5.below b6 A_5.lt).alloc (.cells (solC p) 24)
    have B_6 := (B_5.below b6 B_5.lt).alloc (.cells (solC p) 24)
    have X_6 := blk_alloc (blk_below X_5 b6 (blk_lt X_5)) (.cells (solC p) 24)
    have hB6q : Below w.heap.size w w6 := up b6 hB5
    have hB6 := hB6q.alloc hB6q.size (.cells (solC p) 24)
    clear A_5 B_5 X_5 M_5 hB5 b6 hB6q
    have P_6 : BoxS (w6.alloc (.cells (solC p) 24)) w6.heap.size p := BoxS.new _ _
    go_wp2_with fail
    obtain ⟨W5, hW5⟩ : ∃ X, X = (w6.alloc (.cells (solC p) 24)) := ⟨_, rfl⟩
    rw [← hW5] at A_6 B_6 X_6 P_6 hB6 ho ⊢
    clear hW5
    obtain ⟨zx, hzx⟩ : ∃ z, z = w3.heap.size := ⟨_, rfl⟩
    rw [← hzx] at X_6 ⊢
    clear hzx
    obtain ⟨zp, hzp⟩ : ∃ z, z = w6.heap.size := ⟨_, rfl⟩
    rw [← hzp] at P_6 ⊢
    clear hzp
    have HOW := Lib.hid ho
    clear ho
    go_loopw [15, 16] (fun fv c wr => ∃ (i : Nat) (fd : Bool), i ≤ L.length ∧ c = .int .i64 (i : Int) ∧ fv = .bool fd ∧ fd = (b0 && (L.take i).any fun x => eqS x p) ∧ BoxS wr w.heap.size f ∧ BoxS wr (w.heap.size + 1) g ∧ Q4 wr zx A0 A1 A2 A3 ∧ BoxS wr zp p ∧ Below W5.heap.size W5 wr) (fun _ c _ => L.length - (intOf c).toNat)
    case atStart => exact ⟨0, false, by omega, rfl, rfl, by simp, A_6, B_6, X_6, P_6, Below.refl _ _⟩
    case round =>
      clear A_6 B_6 X_6 P_6
      obtain ⟨i, fd, hi, rfl, rfl, hfd, A, B, X, P, hB⟩ := hrel
      have HFD := Lib.hid hfd
      clear hfd
      have lA := A.lt; have lB := B.lt; have lX := blk_lt X; have lP := P.lt
      by_cases hlt : i < L.length
      · have hd : decide ((i : Int) < (L.length : Int)) = true := decide_eq_true (by omega)
        have hib : (i : Int) < (L.length : Int) := by omega
        obtain ⟨gI, rfl, hgI, hcI⟩ := rowS_pos HOW.out (by omega)
        have HCI := Lib.hid hcI
        clear hcI
        have hci : L[i]? = some L[i] := List.getElem?_eq_getElem hlt
        obtain ⟨m, hm⟩ : ∃ m, m = L[i] := ⟨_, rfl⟩
        rw [← hm] at hci
        clear hm
        obtain ⟨hmf, hmi, hmn⟩ := HL.out m (List.mem_of_getElem? hci)
        have HMI := Lib.hid (fun (X : World) => in_ok m f X hmf HF.out)
        rw [hmi] at HMI
        have HMC := Lib.hid (fun (X : World) => count_ok m X hmf)
        rw [hmn] at HMC
        have HFS := Lib.hid (any_take (p := p) hci)
        have HSX := Lib.hid hci
        clear hmf hmi hmn hci
        go_wp2_with fail
        obtain ⟨U, hU⟩ : ∃ U, U = wr := ⟨_, rfl⟩
        subst hU
        have lg : gI < U.heap.size := Nat.lt_of_lt_of_le hgI hB.size
        have x := fun j hj => (hB.cell (p := ⟨gI, i * 8 + j, none⟩) hgI).trans (HCI.out i m HSX.out j hj)
        have x0 := x 0 (by omega); have x1 := x 1 (by omega); have x2 := x 2 (by omega); have x3 := x 3 (by omega); have x4 := x 4 (by omega); have x5 := x 5 (by omega); have x6 := x 6 (by omega); have x7 := x 7 (by omega)
        rw [Nat.add_zero] at x0
        clear x
        have p0 := (P).cell (k := 0) (by omega); have p1 := (P).cell (k := 1) (by omega); have p2 := (P).cell (k := 2) (by omega); have p3 := (P).cell (k := 3) (by omega); have p4 := (P).cell (k := 4) (by omega); have p5 := (P).cell (k := 5) (by omega); have p6 := (P).cell (k := 6) (by omega); have p7 := (P).cell (k := 7) (by omega)
        obtain ⟨fe, hfe⟩ : ∃ fe, fe = (b0 && (fd || eqS m p)) := ⟨_, rfl⟩
        have HFE := Lib.hid (show fe = (b0 && (L.take (i + 1)).any fun x => eqS x p) by rw [hfe, HFS.out, HFD.out]; cases b0 <;> simp)
        obtain ⟨qe, hqe⟩ : ∃ qe, qe = eqS m p := ⟨_, rfl⟩
        have hqs := hqe.symm
        have HFV : Hid ((b0 = false → fd = false)) := Lib.hid (fun h => by rw [HFD.out, h]; rfl)
        have key : ∀ (K : World → Prop), True := fun _ => trivial
        clear key
        refine wp_region_quiet (C := fun w' => Below U.heap.size U w') (by kernel_rfl) (by kernel_rfl) (Below.drew (Below.refl _ _)) ?_
        rcases three hfe HFV.out hqe with ⟨rfl, hfe1⟩ | ⟨rfl, rfl, hfe1⟩ | ⟨rfl, rfl, hfe1⟩
        · clear hfe hqe HFV
          iterate 1 (refine wpQuiet_step (fun K hK => ?_); go_simp; first | (refine hK _ ?_; clear hK K) | (apply Exists.intro; refine ⟨fun W' hW' => ?_, hK _ ?_⟩; (focus (first | (with_reducible exact rfl) | (with_reducible exact ⟨rfl, rfl⟩) | (obtain ⟨hcq, hfq⟩ := bcell hW'; have hzq := hW'.size; (try go_simp); first | (with_reducible exact rfl) | (with_reducible exact ⟨rfl, rfl⟩) | (fail)))); clear hK K))
          refine wpQuiet_step (fun K hK => ?_)
          go_simp
          first | (generalize hA : (Act.mk _ _ : Act) = A; refine hK A ?_; clear hK K) | (refine ⟨.bool true, fun W' hW' => rfl, ?_⟩; generalize hA : (Act.mk _ _ : Act) = A; refine hK A ?_; clear hK K)
          have hAt : A.tmps[67]? = some (.bool true) := by rw [← hA]; rfl
          refine wpQuiet_offD 10 1 false 67 (by kernel_rfl) (by kernel_rfl) hAt ?_
          clear hAt
          subst hA
          simp only [putU, List.take_succ_cons, List.take_zero, List.foldl_cons, List.foldl_nil, Act.put, List.setIfInBounds_toArray, List.set_cons_succ, List.set_cons_zero, List.drop_succ_cons, List.drop_zero]
          iterate 2 (refine wpQuiet_step (fun K hK => ?_); go_simp; first | (refine hK _ ?_; clear hK K) | (apply Exists.intro; refine ⟨fun W' hW' => ?_, hK _ ?_⟩; (focus (first | (with_reducible exact rfl) | (with_reducible exact ⟨rfl, rfl⟩) | (obtain ⟨hcq, hfq⟩ := bcell hW'; have hzq := hW'.size; (try go_simp); first | (with_reducible exact rfl) | (with_reducible exact ⟨rfl, rfl⟩) | (fail)))); clear hK K))
          refine wpQuiet_nil ?_
          intro w1q hb1q
          have A1 := A.below hb1q lA; have B1 := B.below hb1q lB; have X1 := blk_below X hb1q lX; have P1 := P.below hb1q lP
          have hB1 : Below W5.heap.size W5 w1q := up hb1q hB
          clear x0 x1 x2 x3 x4 x5 x6 x7 p0 p1 p2 p3 p4 p5 p6 p7
          go_wp2_with fail
          obtain ⟨V, hV⟩ : ∃ V, V = w1q := ⟨_, rfl⟩
          subst hV
          have lA1 := A1.lt; have lB1 := B1.lt; have lX1 := blk_lt X1; have lP1 := P1.lt
          have lg1 : gI < V.heap.size := Nat.lt_of_lt_of_le hgI hB1.size
          have x := fun j hj => (hB1.cell (p := ⟨gI, i * 8 + j, none⟩) hgI).trans (HCI.out (i) m HSX.out j hj)
          have x0 := x 0 (by omega); have x1 := x 1 (by omega); have x2 := x 2 (by omega); have x3 := x 3 (by omega); have x4 := x 4 (by omega); have x5 := x 5 (by omega); have x6 := x 6 (by omega); have x7 := x 7 (by omega)
          rw [Nat.add_zero] at x0
          clear x
          have a0 := (A1).cell (k := 0) (by omega); have a1 := (A1).cell (k := 1) (by omega); have a2 := (A1).cell (k := 2) (by omega); have a3 := (A1).cell (k := 3) (by omega); have a4 := (A1).cell (k := 4) (by omega); have a5 := (A1).cell (k := 5) (by omega); have a6 := (A1).cell (k := 6) (by omega); have a7 := (A1).cell (k := 7) (by omega)
          by_cases h0 : i = 0
          · have d0 : decide (0 < i) = false := decide_eq_false (by omega)
            clear h0
            refine wp_region_quiet (C := fun w' => Below V.heap.size V w') (by kernel_rfl) (by kernel_rfl) (Below.drew (Below.refl _ _)) ?_
            iterate 19 (refine wpQuiet_step (fun K hK => ?_); go_simp; first | (refine hK _ ?_; clear hK K) | (apply Exists.intro; refine ⟨fun W' hW' => ?_, hK _ ?_⟩; (focus (first | (with_reducible exact rfl) | (with_reducible exact ⟨rfl, rfl⟩) | (obtain ⟨hcq, hfq⟩ := bcell hW'; have hzq := hW'.size; (try go_simp); first | (with_reducible exact rfl) | (with_reducible exact ⟨rfl, rfl⟩) | (first | ((with_reducible refine Calls.mono (HMI.out _) ?_); rintro e w9 ⟨rfl, hb9⟩; exact ⟨rfl, hW'.trans (hb9.mono hW'.size)⟩) | ((with_reducible refine Calls.mono (HMC.out _) ?_); rintro e w9 ⟨rfl, hb9⟩; exact ⟨rfl, hW'.trans (hb9.mono hW'.size)⟩))))); clear hK K))
            refine wpQuiet_step (fun K hK => ?_)
            go_simp
            first | (generalize hA : (Act.mk _ _ : Act) = A; refine hK A ?_; clear hK K) | (refine ⟨.bool false, fun W' hW' => rfl, ?_⟩; generalize hA : (Act.mk _ _ : Act) = A; refine hK A ?_; clear hK K)
            have hAt : A.tmps[98]? = some (.bool false) := by rw [← hA]; rfl
            refine wpQuiet_offD 11 19 true 98 (by kernel_rfl) (by kernel_rfl) hAt ?_
            clear hAt
            subst hA
            simp only [putU, List.take_succ_cons, List.take_zero, List.foldl_cons, List.foldl_nil, Act.put, List.setIfInBounds_toArray, List.set_cons_succ, List.set_cons_zero, List.drop_succ_cons, List.drop_zero]
            iterate 2 (refine wpQuiet_step (fun K hK => ?_); go_simp; first | (refine hK _ ?_; clear hK K) | (apply Exists.intro; refine ⟨fun W' hW' => ?_, hK _ ?_⟩; (focus (first | (with_reducible exact rfl) | (with_reducible exact ⟨rfl, rfl⟩) | (obtain ⟨hcq, hfq⟩ := bcell hW'; have hzq := hW'.size; (try go_simp); first | (with_reducible exact rfl) | (with_reducible exact ⟨rfl, rfl⟩) | (fail)))); clear hK K))
            refine wpQuiet_nil ?_
            intro w1q hb1q
            have A2 := A1.below hb1q lA1; have B2 := B1.below hb1q lB1; have X2 := blk_below X1 hb1q lX1; have P2 := P1.below hb1q lP1
            have hB2 : Below W5.heap.size W5 w1q := up hb1q hB1
            go_wp2_with fail
            exact ⟨⟨i + 1, true, by omega, by go_num, rfl, (by rw [← HFE.out]; exact hfe1.symm), A2, B2, X2, P2, hB2⟩, by simp [intOf]; omega⟩
          · have d0 : 0 < i := by omega
            obtain ⟨k, hk⟩ : ∃ k, i = k + 1 := ⟨i - 1, by omega⟩
            have hky : L[k]? = some L[k] := List.getElem?_eq_getElem (by omega)
            obtain ⟨mk, hmk⟩ : ∃ mk, mk = L[k] := ⟨_, rfl⟩
            rw [← hmk] at hky
            clear hmk
            have hneg := strict_next HS.out hky (by rw [← hk]; exact HSX.out)
            obtain ⟨cc, hcc⟩ : ∃ cc, cc = cmpS mk m := ⟨_, rfl⟩
            have HMK := Lib.hid (fun (X : World) => rcompare_ok mk m X)
            rw [← hcc] at HMK hneg
            have dc : decide ((0 : Int) ≤ cc) = false := decide_eq_false (by omega)
            have HKY := Lib.hid hky
            clear hcc hky
            have hik : ((i : Int) - 1) = (k : Int) := by omega
            have hkl : (k : Int) < (L.length : Int) := by omega
            have hkn : k < L.length := by omega
            have hkw : IntKind.i64.wrap (k : Int) = (k : Int) := IntWalk.i64_in _ (by omega)
            have x := fun j hj => (hB1.cell (p := ⟨gI, k * 8 + j, none⟩) hgI).trans (HCI.out (k) mk HKY.out j hj)
            have y0 := x 0 (by omega); have y1 := x 1 (by omega); have y2 := x 2 (by omega); have y3 := x 3 (by omega); have y4 := x 4 (by omega); have y5 := x 5 (by omega); have y6 := x 6 (by omega); have y7 := x 7 (by omega)
            rw [Nat.add_zero] at y0
            clear x
            clear h0 hk
            refine wp_region_quiet (C := fun w' => Below V.heap.size V w') (by kernel_rfl) (by kernel_rfl) (Below.drew (Below.refl _ _)) ?_
            iterate 33 (refine wpQuiet_step (fun K hK => ?_); go_simp; first | (refine hK _ ?_; clear hK K) | (apply Exists.intro; refine ⟨fun W' hW' => ?_, hK _ ?_⟩; (focus (first | (with_reducible exact rfl) | (with_reducible exact ⟨rfl, rfl⟩) | (obtain ⟨hcq, hfq⟩ := bcell hW'; have hzq := hW'.size; (try go_simp); first | (with_reducible exact rfl) | (with_reducible exact ⟨rfl, rfl⟩) | (first | ((with_reducible refine Calls.mono (HMI.out _) ?_); rintro e w9 ⟨rfl, hb9⟩; exact ⟨rfl, hW'.trans (hb9.mono hW'.size)⟩) | ((with_reducible refine Calls.mono (HMC.out _) ?_); rintro e w9 ⟨rfl, hb9⟩; exact ⟨rfl, hW'.trans (hb9.mono hW'.size)⟩) | ((with_reducible refine Calls.mono (HMK.out _) ?_); rintro e w9 ⟨rfl, hb9⟩; exact ⟨rfl, hW'.trans (hb9.mono hW'.size)⟩))))); clear hK K))
            refine wpQuiet_nil ?_
            intro w1q hb1q
            have A2 := A1.below hb1q lA1; have B2 := B1.below hb1q lB1; have X2 := blk_below X1 hb1q lX1; have P2 := P1.below hb1q lP1
            have hB2 : Below W5.heap.size W5 w1q := up hb1q hB1
            go_wp2_with fail
            exact ⟨⟨i + 1, true, by omega, by go_num, rfl, (by rw [← HFE.out]; exact hfe1.symm), A2, B2, X2, P2, hB2⟩, by simp [intOf]; omega⟩
        · clear hfe hqe HFV
          iterate 4 (refine wpQuiet_step (fun K hK => ?_); go_simp; first | (refine hK _ ?_; clear hK K) | (apply Exists.intro; refine ⟨fun W' hW' => ?_, hK _ ?_⟩; (focus (first | (with_reducible exact rfl) | (with_reducible exact ⟨rfl, rfl⟩) | (obtain ⟨hcq, hfq⟩ := bcell hW'; have hzq := hW'.size; (try go_simp); first | (with_reducible exact rfl) | (with_reducible exact ⟨rfl, rfl⟩) | (fail)))); clear hK K))
          refine wpQuiet_step (fun K hK => ?_)
          go_simp
          first | (generalize hA : (Act.mk _ _ : Act) = A; refine hK A ?_; clear hK K) | (refine ⟨.bool false, fun W' hW' => rfl, ?_⟩; generalize hA : (Act.mk _ _ : Act) = A; refine hK A ?_; clear hK K)
          have hAt : A.tmps[70]? = some (.bool false) := by rw [← hA]; rfl
          refine wpQuiet_offD 6 4 true 70 (by kernel_rfl) (by kernel_rfl) hAt ?_
          clear hAt
          subst hA
          simp only [putU, List.take_succ_cons, List.take_zero, List.foldl_cons, List.foldl_nil, Act.put, List.setIfInBounds_toArray, List.set_cons_succ, List.set_cons_zero, List.drop_succ_cons, List.drop_zero]
          iterate 3 (refine wpQuiet_step (fun K hK => ?_); go_simp; first | (refine hK _ ?_; clear hK K) | (apply Exists.intro; refine ⟨fun W' hW' => ?_, hK _ ?_⟩; (focus (first | (with_reducible exact rfl) | (with_reducible exact ⟨rfl, rfl⟩) | (obtain ⟨hcq, hfq⟩ := bcell hW'; have hzq := hW'.size; (try go_simp); first | (with_reducible exact rfl) | (with_reducible exact ⟨rfl, rfl⟩) | (fail)))); clear hK K))
          refine wpQuiet_nil ?_
          intro w1q hb1q
          have A1 := A.below hb1q lA; have B1 := B.below hb1q lB; have X1 := blk_below X hb1q lX; have P1 := P.below hb1q lP
          have hB1 : Below W5.heap.size W5 w1q := up hb1q hB
          clear x0 x1 x2 x3 x4 x5 x6 x7 p0 p1 p2 p3 p4 p5 p6 p7
          go_wp2_with fail
          obtain ⟨V, hV⟩ : ∃ V, V = w1q := ⟨_, rfl⟩
          subst hV
          have lA1 := A1.lt; have lB1 := B1.lt; have lX1 := blk_lt X1; have lP1 := P1.lt
          have lg1 : gI < V.heap.size := Nat.lt_of_lt_of_le hgI hB1.size
          have x := fun j hj => (hB1.cell (p := ⟨gI, i * 8 + j, none⟩) hgI).trans (HCI.out (i) m HSX.out j hj)
          have x0 := x 0 (by omega); have x1 := x 1 (by omega); have x2 := x 2 (by omega); have x3 := x 3 (by omega); have x4 := x 4 (by omega); have x5 := x 5 (by omega); have x6 := x 6 (by omega); have x7 := x 7 (by omega)
          rw [Nat.add_zero] at x0
          clear x
          have a0 := (A1).cell (k := 0) (by omega); have a1 := (A1).cell (k := 1) (by omega); have a2 := (A1).cell (k := 2) (by omega); have a3 := (A1).cell (k := 3) (by omega); have a4 := (A1).cell (k := 4) (by omega); have a5 := (A1).cell (k := 5) (by omega); have a6 := (A1).cell (k := 6) (by omega); have a7 := (A1).cell (k := 7) (by omega)
          by_cases h0 : i = 0
          · have d0 : decide (0 < i) = false := decide_eq_false (by omega)
            clear h0
            refine wp_region_quiet (C := fun w' => Below V.heap.size V w') (by kernel_rfl) (by kernel_rfl) (Below.drew (Below.refl _ _)) ?_
            iterate 19 (refine wpQuiet_step (fun K hK => ?_); go_simp; first | (refine hK _ ?_; clear hK K) | (apply Exists.intro; refine ⟨fun W' hW' => ?_, hK _ ?_⟩; (focus (first | (with_reducible exact rfl) | (with_reducible exact ⟨rfl, rfl⟩) | (obtain ⟨hcq, hfq⟩ := bcell hW'; have hzq := hW'.size; (try go_simp); first | (with_reducible exact rfl) | (with_reducible exact ⟨rfl, rfl⟩) | (first | ((with_reducible refine Calls.mono (HMI.out _) ?_); rintro e w9 ⟨rfl, hb9⟩; exact ⟨rfl, hW'.trans (hb9.mono hW'.size)⟩) | ((with_reducible refine Calls.mono (HMC.out _) ?_); rintro e w9 ⟨rfl, hb9⟩; exact ⟨rfl, hW'.trans (hb9.mono hW'.size)⟩))))); clear hK K))
            refine wpQuiet_step (fun K hK => ?_)
            go_simp
            first | (generalize hA : (Act.mk _ _ : Act) = A; refine hK A ?_; clear hK K) | (refine ⟨.bool false, fun W' hW' => rfl, ?_⟩; generalize hA : (Act.mk _ _ : Act) = A; refine hK A ?_; clear hK K)
            have hAt : A.tmps[98]? = some (.bool false) := by rw [← hA]; rfl
            refine wpQuiet_offD 11 19 true 98 (by kernel_rfl) (by kernel_rfl) hAt ?_
            clear hAt
            subst hA
            simp only [putU, List.take_succ_cons, List.take_zero, List.foldl_cons, List.foldl_nil, Act.put, List.setIfInBounds_toArray, List.set_cons_succ, List.set_cons_zero, List.drop_succ_cons, List.drop_zero]
            iterate 2 (refine wpQuiet_step (fun K hK => ?_); go_simp; first | (refine hK _ ?_; clear hK K) | (apply Exists.intro; refine ⟨fun W' hW' => ?_, hK _ ?_⟩; (focus (first | (with_reducible exact rfl) | (with_reducible exact ⟨rfl, rfl⟩) | (obtain ⟨hcq, hfq⟩ := bcell hW'; have hzq := hW'.size; (try go_simp); first | (with_reducible exact rfl) | (with_reducible exact ⟨rfl, rfl⟩) | (fail)))); clear hK K))
            refine wpQuiet_nil ?_
            intro w1q hb1q
            have A2 := A1.below hb1q lA1; have B2 := B1.below hb1q lB1; have X2 := blk_below X1 hb1q lX1; have P2 := P1.below hb1q lP1
            have hB2 : Below W5.heap.size W5 w1q := up hb1q hB1
            go_wp2_with fail
            exact ⟨⟨i + 1, false, by omega, by go_num, rfl, (by rw [← HFE.out]; exact hfe1.symm), A2, B2, X2, P2, hB2⟩, by simp [intOf]; omega⟩
          · have d0 : 0 < i := by omega
            obtain ⟨k, hk⟩ : ∃ k, i = k + 1 := ⟨i - 1, by omega⟩
            have hky : L[k]? = some L[k] := List.getElem?_eq_getElem (by omega)
            obtain ⟨mk, hmk⟩ : ∃ mk, mk = L[k] := ⟨_, rfl⟩
            rw [← hmk] at hky
            clear hmk
            have hneg := strict_next HS.out hky (by rw [← hk]; exact HSX.out)
            obtain ⟨cc, hcc⟩ : ∃ cc, cc = cmpS mk m := ⟨_, rfl⟩
            have HMK := Lib.hid (fun (X : World) => rcompare_ok mk m X)
            rw [← hcc] at HMK hneg
            have dc : decide ((0 : Int) ≤ cc) = false := decide_eq_false (by omega)
            have HKY := Lib.hid hky
            clear hcc hky
            have hik : ((i : Int) - 1) = (k : Int) := by omega
            have hkl : (k : Int) < (L.length : Int) := by omega
            have hkn : k < L.length := by omega
            have hkw : IntKind.i64.wrap (k : Int) = (k : Int) := IntWalk.i64_in _ (by omega)
            have x := fun j hj => (hB1.cell (p := ⟨gI, k * 8 + j, none⟩) hgI).trans (HCI.out (k) mk HKY.out j hj)
            have y0 := x 0 (by omega); have y1 := x 1 (by omega); have y2 := x 2 (by omega); have y3 := x 3 (by omega); have y4 := x 4 (by omega); have y5 := x 5 (by omega); have y6 := x 6 (by omega); have y7 := x 7 (by omega)
            rw [Nat.add_zero] at y0
            clear x
            clear h0 hk
            refine wp_region_quiet (C := fun w' => Below V.heap.size V w') (by kernel_rfl) (by kernel_rfl) (Below.drew (Below.refl _ _)) ?_
            iterate 33 (refine wpQuiet_step (fun K hK => ?_); go_simp; first | (refine hK _ ?_; clear hK K) | (apply Exists.intro; refine ⟨fun W' hW' => ?_, hK _ ?_⟩; (focus (first | (with_reducible exact rfl) | (with_reducible exact ⟨rfl, rfl⟩) | (obtain ⟨hcq, hfq⟩ := bcell hW'; have hzq := hW'.size; (try go_simp); first | (with_reducible exact rfl) | (with_reducible exact ⟨rfl, rfl⟩) | (first | ((with_reducible refine Calls.mono (HMI.out _) ?_); rintro e w9 ⟨rfl, hb9⟩; exact ⟨rfl, hW'.trans (hb9.mono hW'.size)⟩) | ((with_reducible refine Calls.mono (HMC.out _) ?_); rintro e w9 ⟨rfl, hb9⟩; exact ⟨rfl, hW'.trans (hb9.mono hW'.size)⟩) | ((with_reducible refine Calls.mono (HMK.out _) ?_); rintro e w9 ⟨rfl, hb9⟩; exact ⟨rfl, hW'.trans (hb9.mono hW'.size)⟩))))); clear hK K))
            refine wpQuiet_nil ?_
            intro w1q hb1q
            have A2 := A1.below hb1q lA1; have B2 := B1.below hb1q lB1; have X2 := blk_below X1 hb1q lX1; have P2 := P1.below hb1q lP1
            have hB2 : Below W5.heap.size W5 w1q := up hb1q hB1
            go_wp2_with fail
            exact ⟨⟨i + 1, false, by omega, by go_num, rfl, (by rw [← HFE.out]; exact hfe1.symm), A2, B2, X2, P2, hB2⟩, by simp [intOf]; omega⟩
        · clear hfe hqe HFV
          rw [hfe1] at hqs
          clear hfe1
          iterate 14 (refine wpQuiet_step (fun K hK => ?_); go_simp; first | (refine hK _ ?_; clear hK K) | (apply Exists.intro; refine ⟨fun W' hW' => ?_, hK _ ?_⟩; (focus (first | (with_reducible exact rfl) | (with_reducible exact ⟨rfl, rfl⟩) | (obtain ⟨hcq, hfq⟩ := bcell hW'; have hzq := hW'.size; (try go_simp); first | (with_reducible exact rfl) | (with_reducible exact ⟨rfl, rfl⟩) | (fail)))); clear hK K))
          refine wpQuiet_nil ?_
          intro w1q hb1q
          have A1 := A.below hb1q lA; have B1 := B.below hb1q lB; have X1 := blk_below X hb1q lX; have P1 := P.below hb1q lP
          have hB1 : Below W5.heap.size W5 w1q := up hb1q hB
          clear x0 x1 x2 x3 x4 x5 x6 x7 p0 p1 p2 p3 p4 p5 p6 p7
          go_wp2_with fail
          obtain ⟨V, hV⟩ : ∃ V, V = w1q := ⟨_, rfl⟩
          subst hV
          have lA1 := A1.lt; have lB1 := B1.lt; have lX1 := blk_lt X1; have lP1 := P1.lt
          have lg1 : gI < V.heap.size := Nat.lt_of_lt_of_le hgI hB1.size
          have x := fun j hj => (hB1.cell (p := ⟨gI, i * 8 + j, none⟩) hgI).trans (HCI.out (i) m HSX.out j hj)
          have x0 := x 0 (by omega); have x1 := x 1 (by omega); have x2 := x 2 (by omega); have x3 := x 3 (by omega); have x4 := x 4 (by omega); have x5 := x 5 (by omega); have x6 := x 6 (by omega); have x7 := x 7 (by omega)
          rw [Nat.add_zero] at x0
          clear x
          have a0 := (A1).cell (k := 0) (by omega); have a1 := (A1).cell (k := 1) (by omega); have a2 := (A1).cell (k := 2) (by omega); have a3 := (A1).cell (k := 3) (by omega); have a4 := (A1).cell (k := 4) (by omega); have a5 := (A1).cell (k := 5) (by omega); have a6 := (A1).cell (k := 6) (by omega); have a7 := (A1).cell (k := 7) (by omega)
          by_cases h0 : i = 0
          · have d0 : decide (0 < i) = false := decide_eq_false (by omega)
            clear h0
            refine wp_region_quiet (C := fun w' => Below V.heap.size V w') (by kernel_rfl) (by kernel_rfl) (Below.drew (Below.refl _ _)) ?_
            iterate 19 (refine wpQuiet_step (fun K hK => ?_); go_simp; first | (refine hK _ ?_; clear hK K) | (apply Exists.intro; refine ⟨fun W' hW' => ?_, hK _ ?_⟩; (focus (first | (with_reducible exact rfl) | (with_reducible exact ⟨rfl, rfl⟩) | (obtain ⟨hcq, hfq⟩ := bcell hW'; have hzq := hW'.size; (try go_simp); first | (with_reducible exact rfl) | (with_reducible exact ⟨rfl, rfl⟩) | (first | ((with_reducible refine Calls.mono (HMI.out _) ?_); rintro e w9 ⟨rfl, hb9⟩; exact ⟨rfl, hW'.trans (hb9.mono hW'.size)⟩) | ((with_reducible refine Calls.mono (HMC.out _) ?_); rintro e w9 ⟨rfl, hb9⟩; exact ⟨rfl, hW'.trans (hb9.mono hW'.size)⟩))))); clear hK K))
            refine wpQuiet_step (fun K hK => ?_)
            go_simp
            first | (generalize hA : (Act.mk _ _ : Act) = A; refine hK A ?_; clear hK K) | (refine ⟨.bool false, fun W' hW' => rfl, ?_⟩; generalize hA : (Act.mk _ _ : Act) = A; refine hK A ?_; clear hK K)
            have hAt : A.tmps[98]? = some (.bool false) := by rw [← hA]; rfl
            refine wpQuiet_offD 11 19 true 98 (by kernel_rfl) (by kernel_rfl) hAt ?_
            clear hAt
            subst hA
            simp only [putU, List.take_succ_cons, List.take_zero, List.foldl_cons, List.foldl_nil, Act.put, List.setIfInBounds_toArray, List.set_cons_succ, List.set_cons_zero, List.drop_succ_cons, List.drop_zero]
            iterate 2 (refine wpQuiet_step (fun K hK => ?_); go_simp; first | (refine hK _ ?_; clear hK K) | (apply Exists.intro; refine ⟨fun W' hW' => ?_, hK _ ?_⟩; (focus (first | (with_reducible exact rfl) | (with_reducible exact ⟨rfl, rfl⟩) | (obtain ⟨hcq, hfq⟩ := bcell hW'; have hzq := hW'.size; (try go_simp); first | (with_reducible exact rfl) | (with_reducible exact ⟨rfl, rfl⟩) | (fail)))); clear hK K))
            refine wpQuiet_nil ?_
            intro w1q hb1q
            have A2 := A1.below hb1q lA1; have B2 := B1.below hb1q lB1; have X2 := blk_below X1 hb1q lX1; have P2 := P1.below hb1q lP1
            have hB2 : Below W5.heap.size W5 w1q := up hb1q hB1
            go_wp2_with fail
            exact ⟨⟨i + 1, fe, by omega, by go_num, rfl, HFE.out, A2, B2, X2, P2, hB2⟩, by simp [intOf]; omega⟩
          · have d0 : 0 < i := by omega
            obtain ⟨k, hk⟩ : ∃ k, i = k + 1 := ⟨i - 1, by omega⟩
            have hky : L[k]? = some L[k] := List.getElem?_eq_getElem (by omega)
            obtain ⟨mk, hmk⟩ : ∃ mk, mk = L[k] := ⟨_, rfl⟩
            rw [← hmk] at hky
            clear hmk
            have hneg := strict_next HS.out hky (by rw [← hk]; exact HSX.out)
            obtain ⟨cc, hcc⟩ : ∃ cc, cc = cmpS mk m := ⟨_, rfl⟩
            have HMK := Lib.hid (fun (X : World) => rcompare_ok mk m X)
            rw [← hcc] at HMK hneg
            have dc : decide ((0 : Int) ≤ cc) = false := decide_eq_false (by omega)
            have HKY := Lib.hid hky
            clear hcc hky
            have hik : ((i : Int) - 1) = (k : Int) := by omega
            have hkl : (k : Int) < (L.length : Int) := by omega
            have hkn : k < L.length := by omega
            have hkw : IntKind.i64.wrap (k : Int) = (k : Int) := IntWalk.i64_in _ (by omega)
            have x := fun j hj => (hB1.cell (p := ⟨gI, k * 8 + j, none⟩) hgI).trans (HCI.out (k) mk HKY.out j hj)
            have y0 := x 0 (by omega); have y1 := x 1 (by omega); have y2 := x 2 (by omega); have y3 := x 3 (by omega); have y4 := x 4 (by omega); have y5 := x 5 (by omega); have y6 := x 6 (by omega); have y7 := x 7 (by omega)
            rw [Nat.add_zero] at y0
            clear x
            clear h0 hk
            refine wp_region_quiet (C := fun w' => Below V.heap.size V w') (by kernel_rfl) (by kernel_rfl) (Below.drew (Below.refl _ _)) ?_
            iterate 33 (refine wpQuiet_step (fun K hK => ?_); go_simp; first | (refine hK _ ?_; clear hK K) | (apply Exists.intro; refine ⟨fun W' hW' => ?_, hK _ ?_⟩; (focus (first | (with_reducible exact rfl) | (with_reducible exact ⟨rfl, rfl⟩) | (obtain ⟨hcq, hfq⟩ := bcell hW'; have hzq := hW'.size; (try go_simp); first | (with_reducible exact rfl) | (with_reducible exact ⟨rfl, rfl⟩) | (first | ((with_reducible refine Calls.mono (HMI.out _) ?_); rintro e w9 ⟨rfl, hb9⟩; exact ⟨rfl, hW'.trans (hb9.mono hW'.size)⟩) | ((with_reducible refine Calls.mono (HMC.out _) ?_); rintro e w9 ⟨rfl, hb9⟩; exact ⟨rfl, hW'.trans (hb9.mono hW'.size)⟩) | ((with_reducible refine Calls.mono (HMK.out _) ?_); rintro e w9 ⟨rfl, hb9⟩; exact ⟨rfl, hW'.trans (hb9.mono hW'.size)⟩))))); clear hK K))
            refine wpQuiet_nil ?_
            intro w1q hb1q
            have A2 := A1.below hb1q lA1; have B2 := B1.below hb1q lB1; have X2 := blk_below X1 hb1q lX1; have P2 := P1.below hb1q lP1
            have hB2 : Below W5.heap.size W5 w1q := up hb1q hB1
            go_wp2_with fail
            exact ⟨⟨i + 1, fe, by omega, by go_num, rfl, HFE.out, A2, B2, X2, P2, hB2⟩, by simp [intOf]; omega⟩
      · obtain rfl : i = L.length := by omega
        have hd : decide ((L.length : Int) < (L.length : Int)) = false := decide_eq_false (by omega)
        have hfr : fd = r := by rw [HFD.out, List.take_length]; exact HR.out
        have hBe : Below w.heap.size w wr := up hB hB6
        have kr : (r == r) = true := by simp
        subst hfr
        cases fb with
        | true =>
          have hl2 : 0 < L.length := of_decide_eq_true HFB.out
          have hl3 : decide ((0 : Int) < (L.length : Int)) = true := decide_eq_true (by omega)
          go_wp2_with fail
          refine (HC.out _ (HT.out.below hBe (Nat.le_refl _))).mono ?_
          rintro e w9 ⟨rfl, b9⟩
          have A9 := A.below b9 lA; have B9 := B.below b9 lB; have X9 := blk_below X b9 lX
          have hB9 : Below w.heap.size w w9 := up b9 hBe
          have a0 := (A9).cell (k := 0) (by omega); have a1 := (A9).cell (k := 1) (by omega); have a2 := (A9).cell (k := 2) (by omega); have a3 := (A9).cell (k := 3) (by omega); have a4 := (A9).cell (k := 4) (by omega); have a5 := (A9).cell (k := 5) (by omega); have a6 := (A9).cell (k := 6) (by omega); have a7 := (A9).cell (k := 7) (by omega)
          have b0 := (B9).cell (k := 0) (by omega); have b1 := (B9).cell (k := 1) (by omega); have b2 := (B9).cell (k := 2) (by omega); have b3 := (B9).cell (k := 3) (by omega); have b4 := (B9).cell (k := 4) (by omega); have b5 := (B9).cell (k := 5) (by omega); have b6 := (B9).cell (k := 6) (by omega); have b7 := (B9).cell (k := 7) (by omega)
          have x0 := blk_cell (k := 0) X9
          have x1 := blk_cell (k := 1) X9
          have x2 := blk_cell (k := 2) X9
          have x3 := blk_cell (k := 3) X9
          simp only [List.getElem?_toArray, List.getElem?_cons_zero, List.getElem?_cons_succ] at x0 x1 x2 x3
          go_wp2_with fail
          refine (H5.out (by first | trivial | rfl) _ (HT.out.below hB9 (Nat.le_refl _))).mono ?_
          rintro e wa ⟨rfl, ba⟩
          go_wp2_with fail
          go_ret
          exact ⟨rfl, up ba hB9⟩
        | false =>
          have hl2 : ¬ 0 < L.length := of_decide_eq_false HFB.out
          have hl0 : L.length = 0 := by omega
          have hl3 : decide ((0 : Int) < (L.length : Int)) = false := decide_eq_false (by omega)
          have hl4 : decide (0 < L.length) = false := HFB.out
          clear hl2 hl0
          go_wp2_with fail
          refine (HC.out _ (HT.out.below hBe (Nat.le_refl _))).mono ?_
          rintro e w9 ⟨rfl, b9⟩
          go_wp2_with fail
          go_ret
          exact ⟨rfl, up b9 hBe⟩

set_option maxHeartbeats 16000000 in
theorem plaq_empty (f g : Sol) (n : Nat) (A0 A1 A2 A3 t x y z : Int) (hv : Bool) (w : World) (hT : Tab64 w) (hge : emptyS g = true)
    (HN : Hid (∀ W : World, Calls Tryz.prog 29 #[sol g] W (RetB (.int .i64 ((n : Nat) : Int)) W)))
    (HH : Hid (∀ W : World, Calls Tryz.prog 58 #[sol f, sol g] W (RetB (.bool hv) W)))
    (H1 : Hid (∀ W : World, Tab64 W → Calls Tryz.prog 54 #[sol f, sol g] W (RetB (.tuple #[.agg #[.int .i64 (A0), .int .i64 (A1), .int .i64 (A2), .int .i64 (A3)], .bool true]) W)))
    (H2 : Hid (∀ W : World, Calls Tryz.prog 59 #[sol f, sol g] W (RetB (.tuple #[.slice none 0 0, .int .i64 1]) W)))
    (HC : Hid (∀ W, Tab64 W → Calls Tryz.prog 20 #[] W (RetB (.bool true) W))) :
    Calls Tryz.prog 18 #[sol f, sol g, .agg #[.int .i64 (t), .int .i64 (x), .int .i64 (y), .int .i64 (z)]] w (RetB (.bool true) w) := by
  have HT := Lib.hid hT
  have kg : eqS g (fun _ => 0) = true := hge
  clear hT hge
  have A_0 : BoxS (((w.alloc (.cells (solC f) 24)).alloc (.cells (solC g) 24)).alloc (.cells #[.int .i64 (t), .int .i64 (x), .int .i64 (y), .int .i64 (z)] 46)) w.heap.size f := (((BoxS.new _ _).alloc _).alloc _)
  have B_0 : BoxS (((w.alloc (.cells (solC f) 24)).alloc (.cells (solC g) 24)).alloc (.cells #[.int .i64 (t), .int .i64 (x), .int .i64 (y), .int .i64 (z)] 46)) (w.heap.size + 1) g := ((BoxS.new' (by simp)).alloc _)
  have M_0 : Q4 (((w.alloc (.cells (solC f) 24)).alloc (.cells (solC g) 24)).alloc (.cells #[.int .i64 (t), .int .i64 (x), .int .i64 (y), .int .i64 (z)] 46)) (w.heap.size + 1 + 1) (t) (x) (y) (z) := (blk_new (by simp))
  have hB0 : Below w.heap.size w (((w.alloc (.cells (solC f) 24)).alloc (.cells (solC g) 24)).alloc (.cells #[.int .i64 (t), .int .i64 (x), .int .i64 (y), .int .i64 (z)] 46)) := by repeat' (first | (with_reducible exact Below.refl _ _) | (with_reducible assumption) | (with_reducible refine Below.alloc ?_ ?_ _) | (with_reducible refine Below.drew ?_) | (with_reducible refine below_drewN ?_ _) | (with_reducible refine Below.setCell ?_ ?_ _) | go_size)
  go_enter Tryz.func18, Tryz.ntmps18
  have cB0 := (B_0).cell (k := 0) (by omega); have cB1 := (B_0).cell (k := 1) (by omega); have cB2 := (B_0).cell (k := 2) (by omega); have cB3 := (B_0).cell (k := 3) (by omega); have cB4 := (B_0).cell (k := 4) (by omega); have cB5 := (B_0).cell (k := 5) (by omega); have cB6 := (B_0).cell (k := 6) (by omega); have cB7 := (B_0).cell (k := 7) (by omega)
  go_wp2_with fail
  clear cB0 cB1 cB2 cB3 cB4 cB5 cB6 cB7
  refine (HN.out _).mono ?_
  rintro e w1 ⟨rfl, b1⟩
  have A_1 := A_0.below b1 A_0.lt
  have B_1 := B_0.below b1 B_0.lt
  have M_1 := blk_below M_0 b1 (blk_lt M_0)
  have hB1 : Below w.heap.size w w1 := up b1 hB0
  clear A_0 B_0 M_0 hB0 b1
  have cA0 := (A_1).cell (k := 0) (by omega); have cA1 := (A_1).cell (k := 1) (by omega); have cA2 := (A_1).cell (k := 2) (by omega); have cA3 := (A_1).cell (k := 3) (by omega); have cA4 := (A_1).cell (k := 4) (by omega); have cA5 := (A_1).cell (k := 5) (by omega); have cA6 := (A_1).cell (k := 6) (by omega); have cA7 := (A_1).cell (k := 7) (by omega)
  have cB0 := (B_1).cell (k := 0) (by omega); have cB1 := (B_1).cell (k := 1) (by omega); have cB2 := (B_1).cell (k := 2) (by omega); have cB3 := (B_1).cell (k := 3) (by omega); have cB4 := (B_1).cell (k := 4) (by omega); have cB5 := (B_1).cell (k := 5) (by omega); have cB6 := (B_1).cell (k := 6) (by omega); have cB7 := (B_1).cell (k := 7) (by omega)
  go_wp2_with fail
  clear cA0 cA1 cA2 cA3 cA4 cA5 cA6 cA7 cB0 cB1 cB2 cB3 cB4 cB5 cB6 cB7
  refine (HH.out _).mono ?_
  rintro e w2 ⟨rfl, b2⟩
  have A_2 := A_1.below b2 A_1.lt
  have B_2 := B_1.below b2 B_1.lt
  have M_2 := blk_below M_1 b2 (blk_lt M_1)
  have hB2 : Below w.heap.size w w2 := up b2 hB1
  clear A_1 B_1 M_1 hB1 b2
  cases hv with
  | true =>
    go_wp2_with fail
    refine (HC.out _ (HT.out.below hB2 (Nat.le_refl _))).mono ?_
    rintro e w9 ⟨rfl, b9⟩
    go_wp2_with fail
    go_ret
    exact ⟨rfl, up b9 hB2⟩
  | false =>
    have cA0 := (A_2).cell (k := 0) (by omega); have cA1 := (A_2).cell (k := 1) (by omega); have cA2 := (A_2).cell (k := 2) (by omega); have cA3 := (A_2).cell (k := 3) (by omega); have cA4 := (A_2).cell (k := 4) (by omega); have cA5 := (A_2).cell (k := 5) (by omega); have cA6 := (A_2).cell (k := 6) (by omega); have cA7 := (A_2).cell (k := 7) (by omega)
    have cB0 := (B_2).cell (k := 0) (by omega); have cB1 := (B_2).cell (k := 1) (by omega); have cB2 := (B_2).cell (k := 2) (by omega); have cB3 := (B_2).cell (k := 3) (by omega); have cB4 := (B_2).cell (k := 4) (by omega); have cB5 := (B_2).cell (k := 5) (by omega); have cB6 := (B_2).cell (k := 6) (by omega); have cB7 := (B_2).cell (k := 7) (by omega)
    go_wp2_with fail
    clear cA0 cA1 cA2 cA3 cA4 cA5 cA6 cA7 cB0 cB1 cB2 cB3 cB4 cB5 cB6 cB7
    refine (H1.out _ (HT.out.below hB2 (Nat.le_refl _))).mono ?_
    rintro e w3 ⟨rfl, b3⟩
    have A_3 := (A_2.below b3 A_2.lt).alloc (.cells #[.int .i64 (A0), .int .i64 (A1), .int .i64 (A2), .int .i64 (A3)] 46)
    have B_3 := (B_2.below b3 B_2.lt).alloc (.cells #[.int .i64 (A0), .int .i64 (A1), .int .i64 (A2), .int .i64 (A3)] 46)
    have M_3 := blk_alloc (blk_below M_2 b3 (blk_lt M_2)) (.cells #[.int .i64 (A0), .int .i64 (A1), .int .i64 (A2), .int .i64 (A3)] 46)
    have hB3q : Below w.heap.size w w3 := up b3 hB2
    have hB3 := hB3q.alloc hB3q.size (.cells #[.int .i64 (A0), .int .i64 (A1), .int .i64 (A2), .int .i64 (A3)] 46)
    clear A_2 B_2 M_2 hB2 b3 hB3q
    have X_3 : Q4 (w3.alloc (.cells #[.int .i64 (A0), .int .i64 (A1), .int .i64 (A2), .int .i64 (A3)] 46)) w3.heap.size (A0) (A1) (A2) (A3) := blk_new rfl
    have cA0 := (A_3).cell (k := 0) (by omega); have cA1 := (A_3).cell (k := 1) (by omega); have cA2 := (A_3).cell (k := 2) (by omega); have cA3 := (A_3).cell (k := 3) (by omega); have cA4 := (A_3).cell (k := 4) (by omega); have cA5 := (A_3).cell (k := 5) (by omega); have cA6 := (A_3).cell (k := 6) (by omega); have cA7 := (A_3).cell (k := 7) (by omega)
    have cB0 := (B_3).cell (k := 0) (by omega); have cB1 := (B_3).cell (k := 1) (by omega); have cB2 := (B_3).cell (k := 2) (by omega); have cB3 := (B_3).cell (k := 3) (by omega); have cB4 := (B_3).cell (k := 4) (by omega); have cB5 := (B_3).cell (k := 5) (by omega); have cB6 := (B_3).cell (k := 6) (by omega); have cB7 := (B_3).cell (k := 7) (by omega)
    go_wp2_with fail
    clear cA0 cA1 cA2 cA3 cA4 cA5 cA6 cA7 cB0 cB1 cB2 cB3 cB4 cB5 cB6 cB7
    refine (H2.out _).mono ?_
    rintro e w4 ⟨rfl, b4⟩
    have A_4 := A_3.below b4 A_3.lt
    have B_4 := B_3.below b4 B_3.lt
    have M_4 := blk_below M_3 b4 (blk_lt M_3)
    have X_4 := blk_below X_3 b4 (blk_lt X_3)
    have hB4 : Below w.heap.size w w4 := up b4 hB3
    clear A_3 B_3 M_3 X_3 hB3 b4
    go_wp2_with fail
    refine (HC.out _ (HT.out.below hB4 (Nat.le_refl _))).mono ?_
    rintro e w5 ⟨rfl, b5⟩
    have A_5 := A_4.below b5 A_4.lt
    have B_5 := B_4.below b5 B_4.lt
    have M_5 := blk_below M_4 b5 (blk_lt M_4)
    have X_5 := blk_below X_4 b5 (blk_lt X_4)
    have hB5 : Below w.heap.size w w5 := up b5 hB4
    clear A_4 B_4 M_4 X_4 hB4 b5
    have cB0 := (B_5).cell (k := 0) (by omega); have cB1 := (B_5).cell (k := 1) (by omega); have cB2 := (B_5).cell (k := 2) (by omega); have cB3 := (B_5).cell (k := 3) (by omega); have cB4 := (B_5).cell (k := 4) (by omega); have cB5 := (B_5).cell (k := 5) (by omega); have cB6 := (B_5).cell (k := 6) (by omega); have cB7 := (B_5).cell (k := 7) (by omega)
    go_wp2_with fail
    clear cB0 cB1 cB2 cB3 cB4 cB5 cB6 cB7
    go_ret
    exact ⟨rfl, hB5⟩

theorem plc_form (g : Sol) (hg : Fit g) (hge : emptyS g = false) (t x y z : Int) : ∃ p e, Fit p ∧ (∀ W : World, Tab64 W → Calls Tryz.prog 48 #[sol g, .agg #[.int .i64 (t), .int .i64 (x), .int .i64 (y), .int .i64 (z)]] W (RetB (.tuple #[sol p, .int .i64 e]) W)) ∧
    ((e = 0 ∧ ∃ n, n < 24 ∧ outB (turnedF g n) x y z = false ∧ p = shiftS (turnedF g n) x y z) ∨ e ≠ 0) := by
  cases hm : motB t x y z with
  | false => exact ⟨fun _ => 0, 1, fun _ => Nat.zero_lt_succ _, fun W _ => Placed_no g t x y z W hm, .inr (by omega)⟩
  | true =>
    unfold motB at hm
    rw [Bool.and_eq_true] at hm
    have ht := of_decide_eq_true hm.1
    obtain ⟨n, rfl⟩ := Int.eq_ofNat_of_zero_le ht.1
    have hf' := turnedF_fit g n
    have he' := turned_ne hg hge (t := n)
    cases ho : outB (turnedF g n) x y z with
    | false => exact ⟨shiftS (turnedF g n) x y z, 0, shiftF_fit hf' _ _ _ 8, fun W hT => Placed_of g _ n x y z 0 W hg (by omega) hm.2 hT fun W => moved_in (turnedF g n) x y z W hf' he' ho, .inl ⟨rfl, n, by omega, ho, rfl⟩⟩
    | true => exact ⟨fun _ => 0, 20, fun _ => Nat.zero_lt_succ _, fun W hT => Placed_of g _ n x y z 20 W hg (by omega) hm.2 hT fun W => moved_out (turnedF g n) x y z W hf' he' ho, .inr (by omega)⟩
theorem is_places {f g : Sol} (hf : Fit f) (hg : Fit g) (hge : emptyS g = false) : IsPl f g (placesF f g) := by
  refine ⟨once_strict _, fun x hx => ?_, fun t ht y hy => ?_⟩
  · obtain ⟨y, hy, rfl⟩ := mem_once.1 hx
    obtain ⟨m, hm, hy⟩ := List.mem_flatMap.1 hy
    obtain ⟨hmf, hme⟩ := imgs_ok hg hge hm
    have hp := (mem_placeM hf hmf hme).1 hy
    obtain ⟨k, hk, hek⟩ := img_forth hm
    obtain ⟨hkf, hke, hkl⟩ := imgR_ok hg hge k hk
    obtain ⟨y', hp', he'⟩ := placeP_congr hmf hkf hme hke hek hp
    obtain ⟨u, hu, rfl⟩ := putN_mem g 24 hk
    have hyf : Fit y := by
      obtain ⟨a, b, c, _, _, rfl⟩ := hp
      exact shiftF_fit hmf _ _ _ 8
    exact ⟨fit_ofS hyf, u, hu, y', hp', eqS_trans (of_to y) he'⟩
  · obtain ⟨k, hk, hek⟩ := putN_has g 24 ht
    obtain ⟨m, hm, hem⟩ := img_back hk
    obtain ⟨hmf, hme⟩ := imgs_ok hg hge hm
    have he : eqS (imgF g t) m = true := eqS_trans (eqS_symm hek) hem
    obtain ⟨y', hp', he'⟩ := placeP_congr (imgF_fit g t) hmf (imgF_ne hg hge t) hme he hy
    exact ⟨ofS (toS y'), mem_once.2 ⟨y', List.mem_flatMap.2 ⟨m, hm, (mem_placeM hf hmf hme).2 hp'⟩, rfl⟩, eqS_trans (of_to y') (eqS_symm he')⟩
theorem any_in {f g p : Sol} {L : List Sol} (h : IsPl f g L) (hg : Fit g) (hge : emptyS g = false) {n : Nat} (hn : n < 24) {x y z : Int} (ho : outB (turnedF g n) x y z = false) (hp : p = shiftS (turnedF g n) x y z) :
    (L.any fun x => eqS x p) = inB p f := by
  have hpf : Fit p := by rw [hp]; exact shiftF_fit (turnedF_fit g n) _ _ _ 8
  rw [Bool.eq_iff_iff, List.any_eq_true]
  constructor
  · rintro ⟨q, hq, e⟩
    exact in_congr (h.sound q hq).1 hpf e (pl_in h hq)
  · intro hi
    rw [hp] at hi
    obtain ⟨q, hq, e⟩ := pl_placed h hg hge hn ho hi
    exact ⟨q, hq, by rw [hp]; exact e⟩
theorem plaq_of (f g : Sol) (hf : Fit f) (hg : Fit g) (t x y z : Int) (w : World) (hT : Tab64 w) :
    Calls Tryz.prog 18 #[sol f, sol g, .agg #[.int .i64 (t), .int .i64 (x), .int .i64 (y), .int .i64 (z)]] w (RetB (.bool true) w) := by
  have HC : Hid (∀ W, Tab64 W → Calls Tryz.prog 20 #[] W (RetB (.bool true) W)) := Lib.hid fun W hW => carved_of ev_cav W hW
  obtain ⟨hv, hh⟩ := heavy_ok f g hf hg
  obtain ⟨A0, A1, A2, A3, hA⟩ := motE_form f g
  have hfits := fun (W : World) (hW : Tab64 W) => fits_all f g W hf hg hW
  rw [hA] at hfits
  cases hge : emptyS g with
  | true =>
    have hb : fitB f g = true := by unfold fitB; rw [if_pos hge]
    rw [hb] at hfits
    exact plaq_empty f g (numF g) A0 A1 A2 A3 t x y z hv w hT hge (Lib.hid fun W => rcount_ok g W hg) (Lib.hid hh) (Lib.hid hfits) (Lib.hid fun W => places_no f g W hge) HC
  | false =>
    have hP := is_places hf hg hge
    have hln := places_len hf g
    obtain ⟨p, e, hp, P1, hs⟩ := plc_form g hg hge t x y z
    obtain ⟨r, hr⟩ : ∃ r, e = 0 ∧ r = inB p f ∨ e ≠ 0 ∧ r = false := by
      by_cases he : e = 0
      · exact ⟨_, .inl ⟨he, rfl⟩⟩
      · exact ⟨_, .inr ⟨he, rfl⟩⟩
    have hR : ((e == 0) && (placesF f g).any fun x => eqS x p) = r := by
      rcases hr with ⟨rfl, rfl⟩ | ⟨he, rfl⟩
      · rcases hs with ⟨_, n, hn, ho, hpe⟩ | h
        · rw [any_in hP hg hge hn ho hpe]; rfl
        · exact absurd rfl h
      · have : (e == 0) = false := by simpa using he
        rw [this]; rfl
    refine plaq_core f g p (placesF f g) (numF g) A0 A1 A2 A3 t x y z e r (fitB f g) (e == 0) hv w hT hf (Lib.hid fun W => rcount_ok g W hg) (Lib.hid hh) (Lib.hid hfits)
      (Lib.hid fun W hW => (places_any f g W hf hg hge hW).mono fun e w' ⟨v, h, ho, hb⟩ => ⟨v, h, ⟨_, ho.1⟩, hb⟩)
      (Lib.hid fun W hW => check_of f g p t x y z e r W hW (Lib.hid P1) (Lib.hid fun W => in_ok p f W hp hf) (Lib.hid hr)) (Lib.hid P1) (Lib.hid fun hb W hW => ?_)
      (Lib.hid fun m hm => ⟨(hP.sound m hm).1, pl_in hP hm, pl_num hP hg hm⟩) (Lib.hid hP.asc) (by omega) (Lib.hid hR) (pl_fits hP hf hg hge).symm rfl HC
    have hne : ¬ emptyS g = true := by rw [hge]; simp
    have hsome : (fitsF f g).isSome = true := by
      have h := hb
      unfold fitB at h
      rw [if_neg hne] at h
      exact h
    obtain ⟨⟨u, v⟩, huv⟩ := Option.isSome_iff_exists.1 hsome
    obtain ⟨hu, ho, hi⟩ := fits_motion hf hg hge huv
    have hM : (.agg #[.int .i64 (A0), .int .i64 (A1), .int .i64 (A2), .int .i64 (A3)] : Value) = .agg #[.int .i64 (u), .int .i64 (v.1), .int .i64 (v.2.1), .int .i64 (v.2.2)] := by rw [← hA]; unfold motE; rw [if_neg hne, huv]; rfl
    rw [hM]
    have hhf := turnedF_fit g u
    have hhe := turned_ne hg hge (t := u)
    have hmv : mvB v.1 v.2.1 v.2.2 = true := by
      obtain ⟨f1, f2, f3, f4, f5, f6⟩ := boundN hhf hhe
      unfold outB at ho
      have := of_decide_eq_false ho
      unfold mvB
      exact decide_eq_true (by omega)
    exact check_of f g (shiftS (turnedF g u) v.1 v.2.1 v.2.2) u v.1 v.2.1 v.2.2 0 true W hW (Lib.hid fun W hT => Placed_of g _ u v.1 v.2.1 v.2.2 0 W hg hu hmv hT fun W => moved_in (turnedF g u) v.1 v.2.1 v.2.2 W hhf hhe ho)
      (Lib.hid fun W => in_ok _ f W (shiftF_fit hhf _ _ _ 8) hf) (Lib.hid (.inl ⟨rfl, hi.symm⟩))
end Go.Proofs.YtadkaplafaeebaaGreatDoor
