/-
  The law of sets: its walk, the contracts of its callees given.
-/
import Derived.Test.YtadkaplafaeebaaGreatDoorPkW
import Derived.Test.YtadkaplafaeebaaGreatDoorPkTG
import Derived.Test.YtadkaplafaeebaaGreatDoorPkTH
import Derived.Test.YtadkaplafaeebaaGreatDoorCount
import Derived.Test.YtadkaplafaeebaaGreatDoorPkV
set_option linter.unusedVariables false
set_option linter.unusedSimpArgs false
namespace Go.Proofs.YtadkaplafaeebaaGreatDoor
open Go Go.RowKit

set_option maxRecDepth 100000 in
set_option maxHeartbeats 4000000 in
theorem sets_core (f g s : Sol) (p : I3) (pa : Option Addr) (n k : Nat) (e : Int) (w : World) (hT : Tab64 w) (hf : Fit f) (hg : Fit g) (hm : n ≤ maxLen)
    (H1 : Hid (∀ W, Below w.heap.size w W → Calls Tryz.prog 21 #[.slice pa n k] W (RetB (.tuple #[sol s, .int .i64 e]) W)))
    (H2 : Hid (∀ W, Below w.heap.size w W → Calls Tryz.prog 22 #[.slice pa n k] W (RetB (.tuple #[sol s, .int .i64 e]) W)))
    (HC : Hid (∀ W, Tab64 W → Calls Tryz.prog 20 #[] W (RetB (.bool true) W))) :
    Calls Tryz.prog 3 #[sol f, sol g, .agg #[.int .i64 (p.1), .int .i64 (p.2.1), .int .i64 (p.2.2)], .slice pa n k] w (RetB (.bool true) w) := by
  have HT := Lib.hid hT
  have HF := Lib.hid hf
  have HG := Lib.hid hg
  clear hT hf hg
  have A_0 : BoxS (((w.alloc (.cells (solC f) 24)).alloc (.cells (solC g) 24)).alloc (.cells #[.int .i64 (p.1), .int .i64 (p.2.1), .int .i64 (p.2.2)] 26)) w.heap.size f := (((BoxS.new _ _).alloc _).alloc _)
  have B_0 : BoxS (((w.alloc (.cells (solC f) 24)).alloc (.cells (solC g) 24)).alloc (.cells #[.int .i64 (p.1), .int .i64 (p.2.1), .int .i64 (p.2.2)] 26)) (w.heap.size + 1) g := ((BoxS.new' (by simp)).alloc _)
  have C_0 : BoxC (((w.alloc (.cells (solC f) 24)).alloc (.cells (solC g) 24)).alloc (.cells #[.int .i64 (p.1), .int .i64 (p.2.1), .int .i64 (p.2.2)] 26)) (w.heap.size + 1 + 1) (p.1) (p.2.1) (p.2.2) := (blk_new (by simp))
  have hB0 : Below w.heap.size w (((w.alloc (.cells (solC f) 24)).alloc (.cells (solC g) 24)).alloc (.cells #[.int .i64 (p.1), .int .i64 (p.2.1), .int .i64 (p.2.2)] 26)) := by repeat' (first | (with_reducible exact Below.refl _ _) | (with_reducible assumption) | (with_reducible refine Below.alloc ?_ ?_ _) | (with_reducible refine Below.drew ?_) | (with_reducible refine below_drewN ?_ _) | (with_reducible refine Below.setCell ?_ ?_ _) | go_size)
  by_cases hn : 1010 < n
  · go_enter Tryz.func3, Tryz.ntmps3
    have d1 : decide ((1010 : Int) < (n : Int)) = true := decide_eq_true (by omega)
    go_wp2_with fail
    refine (HC.out _ (HT.out.below hB0 (Nat.le_refl _))).mono ?_
    rintro e w1 ⟨rfl, b1⟩
    have A_1 := A_0.below b1 A_0.lt
    have B_1 := B_0.below b1 B_0.lt
    have C_1 := blk_below C_0 b1 (blk_lt C_0)
    have hB1 : Below w.heap.size w w1 := up b1 hB0
    clear A_0 B_0 C_0 hB0 b1
    go_wp2_with fail
    go_ret
    exact ⟨rfl, hB1⟩
  · go_enter Tryz.func3, Tryz.ntmps3
    have d1 : decide ((1010 : Int) < (n : Int)) = false := decide_eq_false (by omega)
    go_wp2_with fail
    refine (H1.out _ hB0).mono ?_
    rintro e w1 ⟨rfl, b1⟩
    have A_1 := (A_0.below b1 A_0.lt).alloc (.cells (solC s) 24)
    have B_1 := (B_0.below b1 B_0.lt).alloc (.cells (solC s) 24)
    have C_1 := blk_alloc (blk_below C_0 b1 (blk_lt C_0)) (.cells (solC s) 24)
    have hB1q : Below w.heap.size w w1 := up b1 hB0
    have hB1 := hB1q.alloc hB1q.size (.cells (solC s) 24)
    clear A_0 B_0 C_0 hB0 b1 hB1q
    have S_1 : BoxS (w1.alloc (.cells (solC s) 24)) w1.heap.size s := BoxS.new _ _
    go_wp2_with fail
    refine (H2.out _ hB1).mono ?_
    rintro e w2 ⟨rfl, b2⟩
    have A_2 := (A_1.below b2 A_1.lt).alloc (.cells (solC s) 24)
    have B_2 := (B_1.below b2 B_1.lt).alloc (.cells (solC s) 24)
    have C_2 := blk_alloc (blk_below C_1 b2 (blk_lt C_1)) (.cells (solC s) 24)
    have S_2 := (S_1.below b2 S_1.lt).alloc (.cells (solC s) 24)
    have hB2q : Below w.heap.size w w2 := up b2 hB1
    have hB2 := hB2q.alloc hB2q.size (.cells (solC s) 24)
    clear A_1 B_1 C_1 S_1 hB1 b2 hB2q
    have T_2 : BoxS (w2.alloc (.cells (solC s) 24)) w2.heap.size s := BoxS.new _ _
    obtain ⟨M, hM⟩ : ∃ M, M = w1.heap.size := ⟨_, rfl⟩
    obtain ⟨N, hN⟩ : ∃ N, N = w2.heap.size := ⟨_, rfl⟩
    obtain ⟨U, hU⟩ : ∃ U, U = w2.alloc (.cells (solC s) 24) := ⟨_, rfl⟩
    go_upto_region 5 with fail
    rw [← hU] at A_2 B_2 C_2 S_2 T_2 hB2 ⊢
    rw [← hM] at S_2 ⊢
    rw [← hN] at T_2 ⊢
    clear hU hM hN
    have lA := A_2.lt; have lS := S_2.lt; have lT := T_2.lt; have lC := blk_lt C_2
    have HTU := Lib.hid (HT.out.below hB2 (Nat.le_refl _))
    have hCd : Below U.heap.size U U.drew := Below.drew (Below.refl _ _)
    have kS : eqS s s = true := decide_eq_true ⟨rfl, rfl, rfl, rfl, rfl, rfl, rfl, rfl⟩
    refine wp_region_relW (fun (i : Nat) (v : Value) (W : World) => match i with | 0 => v = sol f | 1 => v = encI p | 2 => v = .bool (hasI f p) | 3 => v = sol f | 4 => v = encI p | 5 => v = .bool (hasI f p) | 6 => v = .bool true | 7 => v = .bool true | 8 => v = sol f | 9 => ∃ b, W.ownsRow b 26 3 v (cellsL f).length (flatC (cellsL f)) | 10 => v = sol f | 11 => ∃ b, W.ownsRow b 26 3 v (cellsL f).length (flatC (cellsL f)) | 12 => v = .bool true | 13 => v = .bool true | 14 => v = .bool true | 15 => v = sol s | 16 => v = sol s | 17 => v = .bool true | 18 => v = .bool true | 19 => v = .bool true | 20 => v = .int .i64 e | 21 => v = .int .i64 e | 22 => v = .bool true | 23 => v = .bool true | _ => v = .bool true) (fun W => Below U.heap.size U W) (by kernel_rfl) (by kernel_rfl) (by kernel_rfl) hCd (by kernel_rfl) ?hst ?hop ?hend
    case hst =>
      intro j v W W' hb hv
      rcases j with _ | _ | _ | _ | _ | _ | _ | _ | _ | _ | _ | _ | _ | _ | _ | _ | _ | _ | _ | _ | _ | _ | _ | _ | _ | j
      all_goals first | exact hv | (obtain ⟨b, hr⟩ := hv; exact ⟨b, row_below hr hb⟩)
    case hop =>
      intro i o ho a' W hC hin hfix
      have A3 := A_2.below hC lA
      have S3 := S_2.below hC lS
      have T3 := T_2.below hC lT
      have C3 := blk_below C_2 hC lC
      have a0 := (A3).cell (k := 0) (by omega); have a1 := (A3).cell (k := 1) (by omega); have a2 := (A3).cell (k := 2) (by omega); have a3 := (A3).cell (k := 3) (by omega); have a4 := (A3).cell (k := 4) (by omega); have a5 := (A3).cell (k := 5) (by omega); have a6 := (A3).cell (k := 6) (by omega); have a7 := (A3).cell (k := 7) (by omega)
      have s0 := (S3).cell (k := 0) (by omega); have s1 := (S3).cell (k := 1) (by omega); have s2 := (S3).cell (k := 2) (by omega); have s3 := (S3).cell (k := 3) (by omega); have s4 := (S3).cell (k := 4) (by omega); have s5 := (S3).cell (k := 5) (by omega); have s6 := (S3).cell (k := 6) (by omega); have s7 := (S3).cell (k := 7) (by omega)
      have t0 := (T3).cell (k := 0) (by omega); have t1 := (T3).cell (k := 1) (by omega); have t2 := (T3).cell (k := 2) (by omega); have t3 := (T3).cell (k := 3) (by omega); have t4 := (T3).cell (k := 4) (by omega); have t5 := (T3).cell (k := 5) (by omega); have t6 := (T3).cell (k := 6) (by omega); have t7 := (T3).cell (k := 7) (by omega)
      have c0 := blk_cell (k := 0) C3
      have c1 := blk_cell (k := 1) C3
      have c2 := blk_cell (k := 2) C3
      simp only [List.getElem?_toArray, List.getElem?_cons_zero, List.getElem?_cons_succ] at c0 c1 c2
      have q4 : a'.tmps[4]? = some (.pointer (some ⟨w.heap.size, 0, none⟩)) := hfix 4 (by kernel_rfl)
      have q6 : a'.tmps[6]? = some (.pointer (some ⟨w.heap.size + 1 + 1, 0, none⟩)) := hfix 6 (by kernel_rfl)
      have q9 : a'.tmps[9]? = some (.pointer (some ⟨M, 0, none⟩)) := hfix 9 (by kernel_rfl)
      have q11 : a'.tmps[11]? = some (.pointer (some ⟨N, 0, none⟩)) := hfix 11 (by kernel_rfl)
      have q10 : a'.tmps[10]? = some (.int .i64 e) := hfix 10 (by kernel_rfl)
      have q12 : a'.tmps[12]? = some (.int .i64 e) := hfix 12 (by kernel_rfl)
      have hi : i < 25 := (Array.getElem?_eq_some_iff.1 ho).1
      rcases (show i = 0 ∨ i = 1 ∨ i = 2 ∨ i = 3 ∨ i = 4 ∨ i = 5 ∨ i = 6 ∨ i = 7 ∨ i = 8 ∨ i = 9 ∨ i = 10 ∨ i = 11 ∨ i = 12 ∨ i = 13 ∨ i = 14 ∨ i = 15 ∨ i = 16 ∨ i = 17 ∨ i = 18 ∨ i = 19 ∨ i = 20 ∨ i = 21 ∨ i = 22 ∨ i = 23 ∨ i = 24 by omega) with rfl | rfl | rfl | rfl | rfl | rfl | rfl | rfl | rfl | rfl | rfl | rfl | rfl | rfl | rfl | rfl | rfl | rfl | rfl | rfl | rfl | rfl | rfl | rfl | rfl
      · obtain rfl := Option.some.inj ho
        refine ⟨rfl, fun K hK => ?_⟩
        clear hin hfix ho
        go_simp
        exact hK _ _ rfl hC (Below.refl _ _)
      · obtain rfl := Option.some.inj ho
        refine ⟨rfl, fun K hK => ?_⟩
        clear hin hfix ho
        go_simp
        exact hK _ _ rfl hC (Below.refl _ _)
      · obtain ⟨v0, rfl, h0⟩ := hin 0 29 (by kernel_rfl) (by kernel_rfl)
        obtain ⟨v1, rfl, h1⟩ := hin 1 30 (by kernel_rfl) (by kernel_rfl)
        obtain rfl := Option.some.inj ho
        refine ⟨rfl, fun K hK => ?_⟩
        clear hin hfix ho
        go_simp
        refine (has_ok f p _ HF.out).mono ?_
        rintro e W2 ⟨rfl, hb⟩
        exact hK _ _ rfl (hC.trans (hb.mono hC.size)) hb
      · obtain rfl := Option.some.inj ho
        refine ⟨rfl, fun K hK => ?_⟩
        clear hin hfix ho
        go_simp
        exact hK _ _ rfl hC (Below.refl _ _)
      · obtain rfl := Option.some.inj ho
        refine ⟨rfl, fun K hK => ?_⟩
        clear hin hfix ho
        go_simp
        exact hK _ _ rfl hC (Below.refl _ _)
      · obtain ⟨v3, rfl, h3⟩ := hin 3 32 (by kernel_rfl) (by kernel_rfl)
        obtain ⟨v4, rfl, h4⟩ := hin 4 33 (by kernel_rfl) (by kernel_rfl)
        obtain rfl := Option.some.inj ho
        refine ⟨rfl, fun K hK => ?_⟩
        clear hin hfix ho
        go_simp
        refine (rhas_ok f p _ HF.out).mono ?_
        rintro e W2 ⟨rfl, hb⟩
        exact hK _ _ rfl (hC.trans (hb.mono hC.size)) hb
      · obtain ⟨v2, rfl, h2⟩ := hin 2 31 (by kernel_rfl) (by kernel_rfl)
        obtain ⟨v5, rfl, h5⟩ := hin 5 34 (by kernel_rfl) (by kernel_rfl)
        obtain rfl := Option.some.inj ho
        refine ⟨rfl, fun K hK => ?_⟩
        clear hin hfix ho
        go_simp
        exact hK _ _ rfl hC (Below.refl _ _)
      · obtain ⟨v6, rfl, h6⟩ := hin 6 35 (by kernel_rfl) (by kernel_rfl)
        obtain rfl := Option.some.inj ho
        refine ⟨rfl, fun K hK => ?_⟩
        clear hin hfix ho
        go_simp
        exact hK _ _ rfl hC (Below.refl _ _)
      · obtain ⟨v7, rfl, h7⟩ := hin 7 36 (by kernel_rfl) (by kernel_rfl)
        obtain rfl := Option.some.inj ho
        refine ⟨wanted_at (j := 7) (t := 36) rfl (by kernel_rfl) h7, fun K hK => ?_⟩
        clear hin hfix ho
        go_simp
        exact hK _ _ rfl hC (Below.refl _ _)
      · obtain ⟨v8, rfl, h8⟩ := hin 8 37 (by kernel_rfl) (by kernel_rfl)
        obtain ⟨v7, rfl, h7⟩ := hin 7 36 (by kernel_rfl) (by kernel_rfl)
        obtain rfl := Option.some.inj ho
        refine ⟨wanted_at (j := 7) (t := 36) rfl (by kernel_rfl) h7, fun K hK => ?_⟩
        clear hin hfix ho
        go_simp
        refine (cellsl_ok f _ HF.out (HTU.out.below hC (Nat.le_refl _))).mono ?_
        rintro e W2 ⟨v, rfl, hrow, _, hb⟩
        exact hK _ _ ⟨_, hrow⟩ (hC.trans (hb.mono hC.size)) hb
      · obtain ⟨v7, rfl, h7⟩ := hin 7 36 (by kernel_rfl) (by kernel_rfl)
        obtain rfl := Option.some.inj ho
        refine ⟨wanted_at (j := 7) (t := 36) rfl (by kernel_rfl) h7, fun K hK => ?_⟩
        clear hin hfix ho
        go_simp
        exact hK _ _ rfl hC (Below.refl _ _)
      · obtain ⟨v10, rfl, h10⟩ := hin 10 39 (by kernel_rfl) (by kernel_rfl)
        obtain ⟨v7, rfl, h7⟩ := hin 7 36 (by kernel_rfl) (by kernel_rfl)
        obtain rfl := Option.some.inj ho
        refine ⟨wanted_at (j := 7) (t := 36) rfl (by kernel_rfl) h7, fun K hK => ?_⟩
        clear hin hfix ho
        go_simp
        refine (rcells_ok f _ HF.out).mono ?_
        rintro e W2 ⟨v, rfl, hrow, _, hb⟩
        exact hK _ _ ⟨_, hrow⟩ (hC.trans (hb.mono hC.size)) hb
      · obtain ⟨v9, ⟨b9, hr9⟩, h9⟩ := hin 9 38 (by kernel_rfl) (by kernel_rfl)
        obtain ⟨v11, ⟨b11, hr11⟩, h11⟩ := hin 11 40 (by kernel_rfl) (by kernel_rfl)
        obtain ⟨v7, rfl, h7⟩ := hin 7 36 (by kernel_rfl) (by kernel_rfl)
        obtain rfl := Option.some.inj ho
        refine ⟨wanted_at (j := 7) (t := 36) rfl (by kernel_rfl) h7, fun K hK => ?_⟩
        clear hin hfix ho
        go_simp
        refine (sameCells_ok (cellsL f) _ _ _ _ _ hr9 hr11 (by have := cellsL_len f; omega)).mono ?_
        rintro e W2 ⟨rfl, hb⟩
        exact hK _ _ rfl (hC.trans (hb.mono hC.size)) hb
      · obtain ⟨v7, rfl, h7⟩ := hin 7 36 (by kernel_rfl) (by kernel_rfl)
        obtain ⟨v12, rfl, h12⟩ := hin 12 41 (by kernel_rfl) (by kernel_rfl)
        obtain rfl := Option.some.inj ho
        refine ⟨rfl, fun K hK => ?_⟩
        clear hin hfix ho
        go_simp
        exact hK _ _ rfl hC (Below.refl _ _)
      · obtain ⟨v13, rfl, h13⟩ := hin 13 42 (by kernel_rfl) (by kernel_rfl)
        obtain rfl := Option.some.inj ho
        refine ⟨rfl, fun K hK => ?_⟩
        clear hin hfix ho
        go_simp
        exact hK _ _ rfl hC (Below.refl _ _)
      · obtain ⟨v14, rfl, h14⟩ := hin 14 43 (by kernel_rfl) (by kernel_rfl)
        obtain rfl := Option.some.inj ho
        refine ⟨wanted_at (j := 14) (t := 43) rfl (by kernel_rfl) h14, fun K hK => ?_⟩
        clear hin hfix ho
        go_simp
        exact hK _ _ rfl hC (Below.refl _ _)
      · obtain ⟨v14, rfl, h14⟩ := hin 14 43 (by kernel_rfl) (by kernel_rfl)
        obtain rfl := Option.some.inj ho
        refine ⟨wanted_at (j := 14) (t := 43) rfl (by kernel_rfl) h14, fun K hK => ?_⟩
        clear hin hfix ho
        go_simp
        exact hK _ _ rfl hC (Below.refl _ _)
      · obtain ⟨v15, rfl, h15⟩ := hin 15 44 (by kernel_rfl) (by kernel_rfl)
        obtain ⟨v16, rfl, h16⟩ := hin 16 45 (by kernel_rfl) (by kernel_rfl)
        obtain ⟨v14, rfl, h14⟩ := hin 14 43 (by kernel_rfl) (by kernel_rfl)
        obtain rfl := Option.some.inj ho
        refine ⟨wanted_at (j := 14) (t := 43) rfl (by kernel_rfl) h14, fun K hK => ?_⟩
        clear hin hfix ho
        go_simp
        exact hK _ _ rfl hC (Below.refl _ _)
      · obtain ⟨v14, rfl, h14⟩ := hin 14 43 (by kernel_rfl) (by kernel_rfl)
        obtain ⟨v17, rfl, h17⟩ := hin 17 46 (by kernel_rfl) (by kernel_rfl)
        obtain rfl := Option.some.inj ho
        refine ⟨rfl, fun K hK => ?_⟩
        clear hin hfix ho
        go_simp
        exact hK _ _ rfl hC (Below.refl _ _)
      · obtain ⟨v18, rfl, h18⟩ := hin 18 47 (by kernel_rfl) (by kernel_rfl)
        obtain rfl := Option.some.inj ho
        refine ⟨rfl, fun K hK => ?_⟩
        clear hin hfix ho
        go_simp
        exact hK _ _ rfl hC (Below.refl _ _)
      · obtain ⟨v19, rfl, h19⟩ := hin 19 48 (by kernel_rfl) (by kernel_rfl)
        obtain rfl := Option.some.inj ho
        refine ⟨wanted_at (j := 19) (t := 48) rfl (by kernel_rfl) h19, fun K hK => ?_⟩
        clear hin hfix ho
        go_simp
        exact hK _ _ rfl hC (Below.refl _ _)
      · obtain ⟨v19, rfl, h19⟩ := hin 19 48 (by kernel_rfl) (by kernel_rfl)
        obtain rfl := Option.some.inj ho
        refine ⟨wanted_at (j := 19) (t := 48) rfl (by kernel_rfl) h19, fun K hK => ?_⟩
        clear hin hfix ho
        go_simp
        exact hK _ _ rfl hC (Below.refl _ _)
      · obtain ⟨v20, rfl, h20⟩ := hin 20 49 (by kernel_rfl) (by kernel_rfl)
        obtain ⟨v21, rfl, h21⟩ := hin 21 50 (by kernel_rfl) (by kernel_rfl)
        obtain ⟨v19, rfl, h19⟩ := hin 19 48 (by kernel_rfl) (by kernel_rfl)
        obtain rfl := Option.some.inj ho
        refine ⟨wanted_at (j := 19) (t := 48) rfl (by kernel_rfl) h19, fun K hK => ?_⟩
        clear hin hfix ho
        go_simp
        exact hK _ _ rfl hC (Below.refl _ _)
      · obtain ⟨v19, rfl, h19⟩ := hin 19 48 (by kernel_rfl) (by kernel_rfl)
        obtain ⟨v22, rfl, h22⟩ := hin 22 51 (by kernel_rfl) (by kernel_rfl)
        obtain rfl := Option.some.inj ho
        refine ⟨rfl, fun K hK => ?_⟩
        clear hin hfix ho
        go_simp
        exact hK _ _ rfl hC (Below.refl _ _)
      · obtain ⟨v23, rfl, h23⟩ := hin 23 52 (by kernel_rfl) (by kernel_rfl)
        obtain rfl := Option.some.inj ho
        refine ⟨rfl, fun K hK => ?_⟩
        clear hin hfix ho
        go_simp
        exact hK _ _ rfl hC (Below.refl _ _)
    case hend =>
    intro vals W hC hV
    have z0 := hV 0 (by decide)
    have z1 := hV 1 (by decide)
    have z2 := hV 2 (by decide)
    have z3 := hV 3 (by decide)
    have z4 := hV 4 (by decide)
    have z5 := hV 5 (by decide)
    have z6 := hV 6 (by decide)
    have z7 := hV 7 (by decide)
    have z8 := hV 8 (by decide)
    have z10 := hV 10 (by decide)
    have z12 := hV 12 (by decide)
    have z13 := hV 13 (by decide)
    have z14 := hV 14 (by decide)
    have z15 := hV 15 (by decide)
    have z16 := hV 16 (by decide)
    have z17 := hV 17 (by decide)
    have z18 := hV 18 (by decide)
    have z19 := hV 19 (by decide)
    have z20 := hV 20 (by decide)
    have z21 := hV 21 (by decide)
    have z22 := hV 22 (by decide)
    have z23 := hV 23 (by decide)
    have z24 := hV 24 (by decide)
    clear hV
    simp only at z0 z1 z2 z3 z4 z5 z6 z7 z8 z10 z12 z13 z14 z15 z16 z17 z18 z19 z20 z21 z22 z23 z24
    have hr : List.range 25 = [0, 1, 2, 3, 4, 5, 6, 7, 8, 9, 10, 11, 12, 13, 14, 15, 16, 17, 18, 19, 20, 21, 22, 23, 24] := rfl
    simp only [List.size_toArray, List.length_cons, List.length_nil, Nat.reduceAdd, List.drop_succ_cons, List.drop_zero, putA, hr, List.foldl_cons, List.foldl_nil, dstR, List.getElem?_toArray, List.getElem?_cons_succ, List.getElem?_cons_zero, Option.bind_some, Act.put, List.setIfInBounds_toArray, List.set_cons_succ, List.set_cons_zero, z0, z1, z2, z3, z4, z5, z6, z7, z8, z10, z12, z13, z14, z15, z16, z17, z18, z19, z20, z21, z22, z23, z24]
    clear hr z0 z1 z2 z3 z4 z5 z6 z7 z8 z10 z12 z13 z14 z15 z16 z17 z18 z19 z20 z21 z22 z23 z24
    have A3 := A_2.below hC lA; have B3 := B_2.below hC B_2.lt
    have hB3 : Below w.heap.size w W := up hC hB2
    have HTW := Lib.hid (HT.out.below hB3 (Nat.le_refl _))
    obtain ⟨x9, hx9⟩ : ∃ v, v = vals 9 := ⟨_, rfl⟩
    obtain ⟨x11, hx11⟩ : ∃ v, v = vals 11 := ⟨_, rfl⟩
    rw [← hx9, ← hx11]
    clear hx9 hx11 vals A_2 B_2 C_2 S_2 T_2 hB2 hC hCd HTU lA lS lT lC kS H1 H2
    have lA : w.heap.size < W.heap.size := A3.lt
    have lB : w.heap.size + 1 < W.heap.size := B3.lt
    have a0 := (A3).cell (k := 0) (by omega); have a1 := (A3).cell (k := 1) (by omega); have a2 := (A3).cell (k := 2) (by omega); have a3 := (A3).cell (k := 3) (by omega); have a4 := (A3).cell (k := 4) (by omega); have a5 := (A3).cell (k := 5) (by omega); have a6 := (A3).cell (k := 6) (by omega); have a7 := (A3).cell (k := 7) (by omega)
    have b0 := (B3).cell (k := 0) (by omega); have b1 := (B3).cell (k := 1) (by omega); have b2 := (B3).cell (k := 2) (by omega); have b3 := (B3).cell (k := 3) (by omega); have b4 := (B3).cell (k := 4) (by omega); have b5 := (B3).cell (k := 5) (by omega); have b6 := (B3).cell (k := 6) (by omega); have b7 := (B3).cell (k := 7) (by omega)
    have kJ : eqS (joinF f g) (joinF f g) = true := decide_eq_true ⟨rfl, rfl, rfl, rfl, rfl, rfl, rfl, rfl⟩
    have kM : eqS (meetF f g) (meetF f g) = true := decide_eq_true ⟨rfl, rfl, rfl, rfl, rfl, rfl, rfl, rfl⟩
    have kL : eqS (lessF f g) (lessF f g) = true := decide_eq_true ⟨rfl, rfl, rfl, rfl, rfl, rfl, rfl, rfl⟩
    have C1 := Lib.hid (fun (X : World) => count_ok f X HF.out)
    have C2 := Lib.hid (fun (X : World) => rcount_ok f X HF.out)
    have C3 := Lib.hid (fun (X : World) => join_ok f g X HF.out HG.out)
    have C4 := Lib.hid (fun (X : World) => rjoin_ok f g X HF.out HG.out)
    have C5 := Lib.hid (fun (X : World) => meet_ok f g X HF.out HG.out)
    have C6 := Lib.hid (fun (X : World) => rmeet_ok f g X HF.out HG.out)
    have C7 := Lib.hid (fun (X : World) => less_ok f g X HF.out HG.out)
    have C8 := Lib.hid (fun (X : World) => rless_ok f g X HF.out HG.out)
    have C9 := Lib.hid (fun (X : World) => in_ok f g X HF.out HG.out)
    have C0 := Lib.hid (fun (X : World) => rin_ok f g X HF.out HG.out)
    rw [rin_is HF.out] at C0
    generalize inB f g = ib at C9 C0
    generalize numF f = nf at C1 C2
    generalize joinF f g = jf at *
    generalize meetF f g = mf at *
    generalize lessF f g = lf at *
    go_wp2_with fail
    (refine wp_region_quiet (C := fun w' => Below W.heap.size W w') (by kernel_rfl) (by kernel_rfl) (Below.drew (Below.refl _ _)) ?_; (iterate 24 (refine wpQuiet_step (fun K hK => ?_); go_simp; first | (refine hK _ ?_; clear hK K) | (apply Exists.intro; refine ⟨fun W' hW' => ?_, hK _ ?_⟩; (focus (first | (with_reducible exact rfl) | (with_reducible exact ⟨rfl, rfl⟩) | (obtain ⟨hcq, hfq⟩ := bcell hW'; have hzq := hW'.size; (try go_simp); first | (with_reducible exact rfl) | (with_reducible exact ⟨rfl, rfl⟩) | (first | ((with_reducible refine Calls.mono (C1.out _) ?_); rintro e w9 ⟨rfl, hb9⟩; exact ⟨rfl, hW'.trans (hb9.mono hW'.size)⟩) | ((with_reducible refine Calls.mono (C2.out _) ?_); rintro e w9 ⟨rfl, hb9⟩; exact ⟨rfl, hW'.trans (hb9.mono hW'.size)⟩) | ((with_reducible refine Calls.mono (C3.out _) ?_); rintro e w9 ⟨rfl, hb9⟩; exact ⟨rfl, hW'.trans (hb9.mono hW'.size)⟩) | ((with_reducible refine Calls.mono (C4.out _) ?_); rintro e w9 ⟨rfl, hb9⟩; exact ⟨rfl, hW'.trans (hb9.mono hW'.size)⟩) | ((with_reducible refine Calls.mono (C5.out _) ?_); rintro e w9 ⟨rfl, hb9⟩; exact ⟨rfl, hW'.trans (hb9.mono hW'.size)⟩) | ((with_reducible refine Calls.mono (C6.out _) ?_); rintro e w9 ⟨rfl, hb9⟩; exact ⟨rfl, hW'.trans (hb9.mono hW'.size)⟩))))); clear hK K))); refine wpQuiet_nil ?_; intro w1q hb1q)
    obtain ⟨Y, hY⟩ : ∃ Y, Y = w1q := ⟨_, rfl⟩
    subst hY
    have A4 := A3.below hb1q lA; have B4 := B3.below hb1q lB
    have hB4 : Below w.heap.size w Y := up hb1q hB3
    have HTY := Lib.hid (HT.out.below hB4 (Nat.le_refl _))
    clear a0 a1 a2 a3 a4 a5 a6 a7 b0 b1 b2 b3 b4 b5 b6 b7 A3 B3 hB3 hb1q lA lB HTW
    have lA : w.heap.size < Y.heap.size := A4.lt
    have lB : w.heap.size + 1 < Y.heap.size := B4.lt
    have a0 := (A4).cell (k := 0) (by omega); have a1 := (A4).cell (k := 1) (by omega); have a2 := (A4).cell (k := 2) (by omega); have a3 := (A4).cell (k := 3) (by omega); have a4 := (A4).cell (k := 4) (by omega); have a5 := (A4).cell (k := 5) (by omega); have a6 := (A4).cell (k := 6) (by omega); have a7 := (A4).cell (k := 7) (by omega)
    have b0 := (B4).cell (k := 0) (by omega); have b1 := (B4).cell (k := 1) (by omega); have b2 := (B4).cell (k := 2) (by omega); have b3 := (B4).cell (k := 3) (by omega); have b4 := (B4).cell (k := 4) (by omega); have b5 := (B4).cell (k := 5) (by omega); have b6 := (B4).cell (k := 6) (by omega); have b7 := (B4).cell (k := 7) (by omega)
    go_wp2_with fail
    (refine wp_region_quiet (C := fun w' => Below Y.heap.size Y w') (by kernel_rfl) (by kernel_rfl) (Below.drew (Below.refl _ _)) ?_; (iterate 26 (refine wpQuiet_step (fun K hK => ?_); go_simp; first | (refine hK _ ?_; clear hK K) | (apply Exists.intro; refine ⟨fun W' hW' => ?_, hK _ ?_⟩; (focus (first | (with_reducible exact rfl) | (with_reducible exact ⟨rfl, rfl⟩) | (obtain ⟨hcq, hfq⟩ := bcell hW'; have hzq := hW'.size; (try go_simp); first | (with_reducible exact rfl) | (with_reducible exact ⟨rfl, rfl⟩) | (first | ((with_reducible refine Calls.mono (HC.out _ (HTY.out.below hW' (Nat.le_refl _))) ?_); rintro e w9 ⟨rfl, hb9⟩; exact ⟨rfl, hW'.trans (hb9.mono hW'.size)⟩) | ((with_reducible refine Calls.mono (C7.out _) ?_); rintro e w9 ⟨rfl, hb9⟩; exact ⟨rfl, hW'.trans (hb9.mono hW'.size)⟩) | ((with_reducible refine Calls.mono (C8.out _) ?_); rintro e w9 ⟨rfl, hb9⟩; exact ⟨rfl, hW'.trans (hb9.mono hW'.size)⟩) | ((with_reducible refine Calls.mono (C9.out _) ?_); rintro e w9 ⟨rfl, hb9⟩; exact ⟨rfl, hW'.trans (hb9.mono hW'.size)⟩) | ((with_reducible refine Calls.mono (C0.out _) ?_); rintro e w9 ⟨rfl, hb9⟩; exact ⟨rfl, hW'.trans (hb9.mono hW'.size)⟩))))); clear hK K))); refine wpQuiet_nil ?_; intro w1q hb1q)
    go_wp2_with fail
    go_ret
    exact ⟨rfl, hB4.trans (hb1q.mono hB4.size)⟩
end Go.Proofs.YtadkaplafaeebaaGreatDoor
/-
  The law of sets, for every two solids, cell and list of cells.
-/
set_option linter.unusedVariables false
set_option linter.unusedSimpArgs false
namespace Go.Proofs.YtadkaplafaeebaaGreatDoor
open Go Go.RowKit

theorem of_pair (pa : Option Addr) (n k : Nat) (z : Nat → I3) (w : World) (hc : CellsAt w pa n z) : ∃ s e,
    (∀ W : World, Below w.heap.size w W → Calls Tryz.prog 21 #[.slice pa n k] W (RetB (.tuple #[sol s, .int .i64 e]) W)) ∧ (∀ W : World, Below w.heap.size w W → Calls Tryz.prog 22 #[.slice pa n k] W (RetB (.tuple #[sol s, .int .i64 e]) W)) := by
  by_cases hn : n ≤ 1000
  · by_cases hall : ∀ j, j < n → In7 (z j)
    · refine ⟨ofN z n, 0, fun W hW => (of_walk pa n k z W hn (hc.below hW (Nat.le_refl _))).mono fun e w' ⟨h, hb⟩ => ?_, fun W hW => (rof_walk pa n k z W hn (hc.below hW (Nat.le_refl _))).mono fun e w' ⟨h, hb⟩ => ?_⟩
      · rcases h with ⟨h, _⟩ | ⟨_, j, hj, hno⟩
        · exact ⟨h, hb⟩
        · exact absurd (hall j hj) hno
      · rcases h with ⟨h, _⟩ | ⟨_, j, hj, hno⟩
        · exact ⟨h, hb⟩
        · exact absurd (hall j hj) hno
    · refine ⟨fun _ => 0, 1, fun W hW => (of_walk pa n k z W hn (hc.below hW (Nat.le_refl _))).mono fun e w' ⟨h, hb⟩ => ?_, fun W hW => (rof_walk pa n k z W hn (hc.below hW (Nat.le_refl _))).mono fun e w' ⟨h, hb⟩ => ?_⟩
      · rcases h with ⟨_, h⟩ | ⟨h, _⟩
        · exact absurd h hall
        · exact ⟨h, hb⟩
      · rcases h with ⟨_, h⟩ | ⟨h, _⟩
        · exact absurd h hall
        · exact ⟨h, hb⟩
  · exact ⟨fun _ => 0, 2, fun W _ => of_limit pa n k W (by omega) hc.1, fun W _ => rof_limit pa n k W (by omega) hc.1⟩
theorem sets_of (f g : Sol) (hf : Fit f) (hg : Fit g) (a b c : Int) (pa : Option Addr) (n k : Nat) (z : Nat → I3) (w : World) (hc : CellsAt w pa n z) (hT : Tab64 w) :
    Calls Tryz.prog 3 #[sol f, sol g, .agg #[.int .i64 (a), .int .i64 (b), .int .i64 (c)], .slice pa n k] w (RetB (.bool true) w) := by
  obtain ⟨s, e, H1, H2⟩ := of_pair pa n k z w hc
  exact sets_core f g s (a, b, c) pa n k e w hT hf hg hc.1 (Lib.hid H1) (Lib.hid H2) (Lib.hid fun W hW => carved_of ev_cav W hW)
end Go.Proofs.YtadkaplafaeebaaGreatDoor
