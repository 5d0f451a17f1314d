/-
  The law of tunnels: solids that are moved, turned and mirrored have the same numbers; the law's walk.
-/
import Derived.Test.YtadkaplafaeebaaGreatDoorTunLQ
import Derived.Test.YtadkaplafaeebaaGreatDoorPkUFQ
set_option linter.unusedVariables false
set_option linter.unusedSimpArgs false
namespace Go.Proofs.YtadkaplafaeebaaGreatDoor
open Go Go.RowKit Go.Shelf

set_option maxRecDepth 100000 in
set_option maxHeartbeats 16000000 in
theorem tunl_coretf (f p q m : Sol) (t x y z ax e1 e2 : Int) (n a b s : Nat) (c : Int) (w : World) (hT : Tab64 w) (hf : Fit f) (hm : Fit m)
    (H1 : Hid (∀ W : World, Tab64 W → Calls Tryz.prog 48 #[sol f, .agg #[.int .i64 (t), .int .i64 (x), .int .i64 (y), .int .i64 (z)]] W (RetB (.tuple #[sol p, .int .i64 e1]) W)))
    (H2 : Hid (∀ W : World, Tab64 W → Calls Tryz.prog 46 #[sol f, .int .i64 ax] W (RetB (.tuple #[sol q, .int .i64 e2]) W)))
    (h1 : (e1 != 0) = true) (h2 : (e2 != 0) = false) (hm0 : q = m)
    (NF : Hid (numF f = n)) (AF : Hid ((partsF f).length = a)) (BF : Hid ((cavF f).length = b)) (CF : Hid (eulF f = c)) (SF : Hid (skinF f = s))
    (NM : Hid (numF m = n)) (AM : Hid ((partsF m).length = a)) (BM : Hid ((cavF m).length = b)) (CM : Hid (eulF m = c)) (SM : Hid (skinF m = s))
    (ba : a ≤ 100000) (bb : b ≤ 100000) (bc : -100000 ≤ c ∧ c ≤ 100000) (hge : c ≤ (a : Int) + b)
    (HC : Hid (∀ W, Tab64 W → Calls Tryz.prog 20 #[] W (RetB (.bool true) W))) :
    Calls Tryz.prog 15 #[sol f, .agg #[.int .i64 (t), .int .i64 (x), .int .i64 (y), .int .i64 (z)], .int .i64 ax] w (RetB (.bool true) w) := by
  have HT := Lib.hid hT
  have HF := Lib.hid hf
  have HM := Lib.hid hm
  have HM0 := Lib.hid hm0
  have P0 : ∀ g, Fit g → ∀ k, (partsF g).length = k → ∀ W, Tab64 W → Calls Tryz.prog 72 #[sol g] W fun e w' => (∃ p cap, e = .returned (.slice p k cap)) ∧ Below W.heap.size W w' := fun g hg k hk W hT => (parts_ok g W hg hT).mono fun e w' ⟨v, he, ho, hb⟩ => by
    obtain ⟨p, cap, rfl⟩ := own_len ho.1
    rw [hk] at he
    exact ⟨⟨p, cap, he⟩, hb⟩
  have V0 : ∀ g, Fit g → ∀ k, (cavF g).length = k → ∀ W, Tab64 W → Calls Tryz.prog 74 #[sol g] W fun e w' => (∃ p cap, e = .returned (.slice p k cap)) ∧ Below W.heap.size W w' := fun g hg k hk W hT => (cav_ok g W hg hT).mono fun e w' ⟨v, he, ho, hb⟩ => by
    obtain ⟨p, cap, rfl⟩ := own_len ho.1
    rw [hk] at he
    exact ⟨⟨p, cap, he⟩, hb⟩
  have PF := Lib.hid (P0 f hf a AF.out)
  have PM := Lib.hid (P0 m hm a AM.out)
  have VF := Lib.hid (V0 f hf b BF.out)
  have VM := Lib.hid (V0 m hm b BM.out)
  have EF := Lib.hid (fun (X : World) (h : Tab64 X) => euler_ok f X hf h)
  rw [CF.out] at EF
  have TF := Lib.hid (fun (X : World) (h : Tab64 X) => tunnels_ok f a b c X hf h AF.out BF.out CF.out ba bb bc)
  have TM := Lib.hid (fun (X : World) (h : Tab64 X) => tunnels_ok m a b c X hm h AM.out BM.out CM.out ba bb bc)
  have NFC := Lib.hid (fun (X : World) => count_ok f X hf)
  have NMC := Lib.hid (fun (X : World) => count_ok m X hm)
  rw [NF.out] at NFC
  rw [NM.out] at NMC
  have SFC := Lib.hid (fun (X : World) (h : Tab64 X) => skin_ok f X hf h)
  have SMC := Lib.hid (fun (X : World) (h : Tab64 X) => skin_ok m X hm h)
  rw [SF.out] at SFC
  rw [SM.out] at SMC
  have wk1 : IntKind.i64.wrap ((a : Int) + b) = (a : Int) + b := IntWalk.i64_in _ (by omega)
  have wk2 : IntKind.i64.wrap ((a : Int) + b - c) = (a : Int) + b - c := IntWalk.i64_in _ (by omega)
  have hd0 : decide ((a : Int) + b - c < 0) = false := decide_eq_false (by omega)
  have k0 : (((a : Int) + b - c) != ((a : Int) + b - c)) = false := by simp
  have k1 : (((a : Int) + b - c) == ((a : Int) + b - c)) = true := by simp
  have k2 : (((n : Nat) : Int) == ((n : Nat) : Int)) = true := by simp
  have k3 : (((s : Nat) : Int) == ((s : Nat) : Int)) = true := by simp
  have k4 : (((a : Nat) : Int) == ((a : Nat) : Int)) = true := by simp
  have k5 : (((b : Nat) : Int) == ((b : Nat) : Int)) = true := by simp
  clear P0 V0 hT hf hm hm0 NF AF BF CF SF NM AM BM CM SM ba bb bc hge
  have A_0 : BoxS ((w.alloc (.cells (solC f) 24)).alloc (.cells #[.int .i64 (t), .int .i64 (x), .int .i64 (y), .int .i64 (z)] 46)) w.heap.size f := ((BoxS.new _ _).alloc _)
  have M_0 : Q4 ((w.alloc (.cells (solC f) 24)).alloc (.cells #[.int .i64 (t), .int .i64 (x), .int .i64 (y), .int .i64 (z)] 46)) (w.heap.size + 1) (t) (x) (y) (z) := (blk_new (by simp))
  have hB0 : Below w.heap.size w ((w.alloc (.cells (solC f) 24)).alloc (.cells #[.int .i64 (t), .int .i64 (x), .int .i64 (y), .int .i64 (z)] 46)) := by repeat' (first | (with_reducible exact Below.refl _ _) | (with_reducible assumption) | (with_reducible refine Below.alloc ?_ ?_ _) | (with_reducible refine Below.drew ?_) | (with_reducible refine below_drewN ?_ _) | (with_reducible refine Below.setCell ?_ ?_ _) | go_size)
  go_enter Tryz.func15, Tryz.ntmps15
  have cA0 := (A_0).cell (k := 0) (by omega); have cA1 := (A_0).cell (k := 1) (by omega); have cA2 := (A_0).cell (k := 2) (by omega); have cA3 := (A_0).cell (k := 3) (by omega); have cA4 := (A_0).cell (k := 4) (by omega); have cA5 := (A_0).cell (k := 5) (by omega); have cA6 := (A_0).cell (k := 6) (by omega); have cA7 := (A_0).cell (k := 7) (by omega)
  go_wp2_with fail
  clear cA0 cA1 cA2 cA3 cA4 cA5 cA6 cA7
  refine (TF.out _ (HT.out.below hB0 (Nat.le_refl _))).mono ?_
  rintro e w1 ⟨rfl, b1⟩
  have lwA1 : w.heap.size < w1.heap.size := Nat.lt_of_lt_of_le A_0.lt b1.size
  have A_1 := A_0.below b1 A_0.lt
  have M_1 := blk_below M_0 b1 (blk_lt M_0)
  have hB1 : Below w.heap.size w w1 := up b1 hB0
  clear A_0 M_0 hB0 b1
  go_upto_region 2 with fail
  obtain ⟨U, hU⟩ : ∃ U, U = w1 := ⟨_, rfl⟩
  subst hU
  have lA : w.heap.size < U.heap.size := A_1.lt
  have HTU := Lib.hid (HT.out.below hB1 (Nat.le_refl _))
  have hCd : Below U.heap.size U U.drew := Below.drew (Below.refl _ _)
  refine wp_region_relW (fun (iR : Nat) (v : Value) (W : World) => match iR with | 0 => v = .int .i64 ((a : Int) + b - c) | 1 => v = .bool false | 2 => v = .bool false | 3 => v = .int .i64 ((a : Int) + b - c) | 4 => v = sol f | 5 => ∃ p cap, v = .slice p a cap | 6 => v = .int .i64 a | 7 => v = sol f | 8 => ∃ p cap, v = .slice p b cap | 9 => v = .int .i64 b | 10 => v = .int .i64 ((a : Int) + b) | 11 => v = sol f | 12 => v = .int .i64 c | 13 => v = .int .i64 ((a : Int) + b - c) | 14 => v = .bool false | _ => v = .bool false) (fun W => Below U.heap.size U W) (by kernel_rfl) (by kernel_rfl) (by kernel_rfl) hCd (by kernel_rfl) ?hst ?hop ?hend
  case hst =>
    intro jR v W W' hb hv
    rcases jR with _ | _ | _ | _ | _ | _ | _ | _ | _ | _ | _ | _ | _ | _ | _ | _ | jR
    all_goals first | exact hv | (obtain ⟨b, hr⟩ := hv; exact ⟨b, row_below hr hb⟩) | (obtain ⟨b, hr, hn⟩ := hv; exact ⟨b, row_below hr hb, hn⟩)
  case hop =>
    intro iR o ho a' W hC hin hfix
    have A3 := A_1.below hC lA
    have a0 := (A3).cell (k := 0) (by omega); have a1 := (A3).cell (k := 1) (by omega); have a2 := (A3).cell (k := 2) (by omega); have a3 := (A3).cell (k := 3) (by omega); have a4 := (A3).cell (k := 4) (by omega); have a5 := (A3).cell (k := 5) (by omega); have a6 := (A3).cell (k := 6) (by omega); have a7 := (A3).cell (k := 7) (by omega)
    have q3 : a'.tmps[3]? = some (.pointer (some ⟨w.heap.size, 0, none⟩)) := hfix 3 (by kernel_rfl)
    have q7 : a'.tmps[7]? = some (.int .i64 ((a : Int) + b - c)) := hfix 7 (by kernel_rfl)
    have hi : iR < 16 := (Array.getElem?_eq_some_iff.1 ho).1
    rcases (show iR = 0 ∨ iR = 1 ∨ iR = 2 ∨ iR = 3 ∨ iR = 4 ∨ iR = 5 ∨ iR = 6 ∨ iR = 7 ∨ iR = 8 ∨ iR = 9 ∨ iR = 10 ∨ iR = 11 ∨ iR = 12 ∨ iR = 13 ∨ iR = 14 ∨ iR = 15 by omega) with rfl | rfl | rfl | rfl | rfl | rfl | rfl | rfl | rfl | rfl | rfl | rfl | rfl | rfl | rfl | rfl
    · obtain rfl := Option.some.inj ho
      refine ⟨rfl, fun K hK => ?_⟩
      clear hin hfix ho
      go_simp
      exact hK _ _ rfl hC (Below.refl _ _)
    · obtain ⟨v0, rfl, h0⟩ := hin 0 15 (by kernel_rfl) (by kernel_rfl)
      obtain rfl := Option.some.inj ho
      refine ⟨rfl, fun K hK => ?_⟩
      clear hin hfix ho
      go_simp
      exact hK _ _ rfl hC (Below.refl _ _)
    · obtain ⟨v1, rfl, h1⟩ := hin 1 16 (by kernel_rfl) (by kernel_rfl)
      obtain rfl := Option.some.inj ho
      refine ⟨rfl, fun K hK => ?_⟩
      clear hin hfix ho
      go_simp
      exact hK _ _ rfl hC (Below.refl _ _)
    · obtain ⟨v2, rfl, h2⟩ := hin 2 17 (by kernel_rfl) (by kernel_rfl)
      obtain rfl := Option.some.inj ho
      refine ⟨wanted_at (j := 2) (t := 17) rfl (by kernel_rfl) h2, fun K hK => ?_⟩
      clear hin hfix ho
      go_simp
      exact hK _ _ rfl hC (Below.refl _ _)
    · obtain ⟨v2, rfl, h2⟩ := hin 2 17 (by kernel_rfl) (by kernel_rfl)
      obtain rfl := Option.some.inj ho
      refine ⟨wanted_at (j := 2) (t := 17) rfl (by kernel_rfl) h2, fun K hK => ?_⟩
      clear hin hfix ho
      go_simp
      exact hK _ _ rfl hC (Below.refl _ _)
    · obtain ⟨v4, rfl, h4⟩ := hin 4 19 (by kernel_rfl) (by kernel_rfl)
      obtain ⟨v2, rfl, h2⟩ := hin 2 17 (by kernel_rfl) (by kernel_rfl)
      obtain rfl := Option.some.inj ho
      refine ⟨wanted_at (j := 2) (t := 17) rfl (by kernel_rfl) h2, fun K hK => ?_⟩
      clear hin hfix ho
      go_simp
      refine (PF.out _ (HTU.out.below hC (Nat.le_refl _))).mono ?_
      rintro e W2 ⟨he, hb⟩
      obtain ⟨p, cap, rfl⟩ := he
      exact hK _ _ ⟨p, cap, rfl⟩ (hC.trans (hb.mono hC.size)) hb
    · obtain ⟨v5, ⟨p5, cap5, rfl⟩, h5⟩ := hin 5 20 (by kernel_rfl) (by kernel_rfl)
      obtain ⟨v2, rfl, h2⟩ := hin 2 17 (by kernel_rfl) (by kernel_rfl)
      obtain rfl := Option.some.inj ho
      refine ⟨wanted_at (j := 2) (t := 17) rfl (by kernel_rfl) h2, fun K hK => ?_⟩
      clear hin hfix ho
      go_simp
      exact hK _ _ rfl hC (Below.refl _ _)
    · obtain ⟨v2, rfl, h2⟩ := hin 2 17 (by kernel_rfl) (by kernel_rfl)
      obtain rfl := Option.some.inj ho
      refine ⟨wanted_at (j := 2) (t := 17) rfl (by kernel_rfl) h2, fun K hK => ?_⟩
      clear hin hfix ho
      go_simp
      exact hK _ _ rfl hC (Below.refl _ _)
    · obtain ⟨v7, rfl, h7⟩ := hin 7 22 (by kernel_rfl) (by kernel_rfl)
      obtain ⟨v2, rfl, h2⟩ := hin 2 17 (by kernel_rfl) (by kernel_rfl)
      obtain rfl := Option.some.inj ho
      refine ⟨wanted_at (j := 2) (t := 17) rfl (by kernel_rfl) h2, fun K hK => ?_⟩
      clear hin hfix ho
      go_simp
      refine (VF.out _ (HTU.out.below hC (Nat.le_refl _))).mono ?_
      rintro e W2 ⟨he, hb⟩
      obtain ⟨p, cap, rfl⟩ := he
      exact hK _ _ ⟨p, cap, rfl⟩ (hC.trans (hb.mono hC.size)) hb
    · obtain ⟨v8, ⟨p8, cap8, rfl⟩, h8⟩ := hin 8 23 (by kernel_rfl) (by kernel_rfl)
      obtain ⟨v2, rfl, h2⟩ := hin 2 17 (by kernel_rfl) (by kernel_rfl)
      obtain rfl := Option.some.inj ho
      refine ⟨wanted_at (j := 2) (t := 17) rfl (by kernel_rfl) h2, fun K hK => ?_⟩
      clear hin hfix ho
      go_simp
      exact hK _ _ rfl hC (Below.refl _ _)
    · obtain ⟨v6, rfl, h6⟩ := hin 6 21 (by kernel_rfl) (by kernel_rfl)
      obtain ⟨v9, rfl, h9⟩ := hin 9 24 (by kernel_rfl) (by kernel_rfl)
      obtain ⟨v2, rfl, h2⟩ := hin 2 17 (by kernel_rfl) (by kernel_rfl)
      obtain rfl := Option.some.inj ho
      refine ⟨wanted_at (j := 2) (t := 17) rfl (by kernel_rfl) h2, fun K hK => ?_⟩
      clear hin hfix ho
      go_simp
      exact hK _ _ rfl hC (Below.refl _ _)
    · obtain ⟨v2, rfl, h2⟩ := hin 2 17 (by kernel_rfl) (by kernel_rfl)
      obtain rfl := Option.some.inj ho
      refine ⟨wanted_at (j := 2) (t := 17) rfl (by kernel_rfl) h2, fun K hK => ?_⟩
      clear hin hfix ho
      go_simp
      exact hK _ _ rfl hC (Below.refl _ _)
    · obtain ⟨v11, rfl, h11⟩ := hin 11 26 (by kernel_rfl) (by kernel_rfl)
      obtain ⟨v2, rfl, h2⟩ := hin 2 17 (by kernel_rfl) (by kernel_rfl)
      obtain rfl := Option.some.inj ho
      refine ⟨wanted_at (j := 2) (t := 17) rfl (by kernel_rfl) h2, fun K hK => ?_⟩
      clear hin hfix ho
      go_simp
      refine (EF.out _ (HTU.out.below hC (Nat.le_refl _))).mono ?_
      rintro e W2 ⟨rfl, hb⟩
      exact hK _ _ rfl (hC.trans (hb.mono hC.size)) hb
    · obtain ⟨v10, rfl, h10⟩ := hin 10 25 (by kernel_rfl) (by kernel_rfl)
      obtain ⟨v12, rfl, h12⟩ := hin 12 27 (by kernel_rfl) (by kernel_rfl)
      obtain ⟨v2, rfl, h2⟩ := hin 2 17 (by kernel_rfl) (by kernel_rfl)
      obtain rfl := Option.some.inj ho
      refine ⟨wanted_at (j := 2) (t := 17) rfl (by kernel_rfl) h2, fun K hK => ?_⟩
      clear hin hfix ho
      go_simp
      exact hK _ _ rfl hC (Below.refl _ _)
    · obtain ⟨v3, rfl, h3⟩ := hin 3 18 (by kernel_rfl) (by kernel_rfl)
      obtain ⟨v13, rfl, h13⟩ := hin 13 28 (by kernel_rfl) (by kernel_rfl)
      obtain ⟨v2, rfl, h2⟩ := hin 2 17 (by kernel_rfl) (by kernel_rfl)
      obtain rfl := Option.some.inj ho
      refine ⟨wanted_at (j := 2) (t := 17) rfl (by kernel_rfl) h2, fun K hK => ?_⟩
      clear hin hfix ho
      go_simp
      exact hK _ _ rfl hC (Below.refl _ _)
    · obtain ⟨v2, rfl, h2⟩ := hin 2 17 (by kernel_rfl) (by kernel_rfl)
      obtain ⟨v14, rfl, h14⟩ := hin 14 29 (by kernel_rfl) (by kernel_rfl)
      obtain rfl := Option.some.inj ho
      refine ⟨rfl, fun K hK => ?_⟩
      clear hin hfix ho
      go_simp
      exact hK _ _ rfl hC (Below.refl _ _)
  case hend =>
  intro vals W hC hV
  have z0 := hV 0 (by decide)
  have z1 := hV 1 (by decide)
  have z2 := hV 2 (by decide)
  have z3 := hV 3 (by decide)
  have z4 := hV 4 (by decide)
  have z6 := hV 6 (by decide)
  have z7 := hV 7 (by decide)
  have z9 := hV 9 (by decide)
  have z10 := hV 10 (by decide)
  have z11 := hV 11 (by decide)
  have z12 := hV 12 (by decide)
  have z13 := hV 13 (by decide)
  have z14 := hV 14 (by decide)
  have z15 := hV 15 (by decide)
  clear hV
  simp only at z0 z1 z2 z3 z4 z6 z7 z9 z10 z11 z12 z13 z14 z15 
  have hr : List.range 16 = [0, 1, 2, 3, 4, 5, 6, 7, 8, 9, 10, 11, 12, 13, 14, 15] := rfl
  simp only [List.size_toArray, List.length_cons, List.length_nil, Nat.reduceAdd, List.drop_succ_cons, List.drop_zero, putA, hr, List.foldl_cons, List.foldl_nil, dstR, List.getElem?_toArray, List.getElem?_cons_succ, List.getElem?_cons_zero, Option.bind_some, Act.put, List.setIfInBounds_toArray, List.set_cons_succ, List.set_cons_zero, z0, z1, z2, z3, z4, z6, z7, z9, z10, z11, z12, z13, z14, z15]
  clear hr z0 z1 z2 z3 z4 z6 z7 z9 z10 z11 z12 z13 z14 z15
  obtain ⟨x5, hx5⟩ : ∃ v, v = vals 5 := ⟨_, rfl⟩
  obtain ⟨x8, hx8⟩ : ∃ v, v = vals 8 := ⟨_, rfl⟩
  rw [← hx5, ← hx8]
  clear hx5 hx8 vals
  have A_2 := A_1.below hC lA
  have M_2 := blk_below M_1 hC (blk_lt M_1)
  have hB2 : Below w.heap.size w W := up hC hB1
  clear A_1 M_1 hB1 hC hCd lA HTU
  obtain ⟨w2, hw2⟩ : ∃ X, X = W := ⟨_, rfl⟩
  subst hw2
  have cA0 := (A_2).cell (k := 0) (by omega); have cA1 := (A_2).cell (k := 1) (by omega); have cA2 := (A_2).cell (k := 2) (by omega); have cA3 := (A_2).cell (k := 3) (by omega); have cA4 := (A_2).cell (k := 4) (by omega); have cA5 := (A_2).cell (k := 5) (by omega); have cA6 := (A_2).cell (k := 6) (by omega); have cA7 := (A_2).cell (k := 7) (by omega)
  have cM0 := blk_cell (k := 0) M_2
  have cM1 := blk_cell (k := 1) M_2
  have cM2 := blk_cell (k := 2) M_2
  have cM3 := blk_cell (k := 3) M_2
  simp only [List.getElem?_toArray, List.getElem?_cons_zero, List.getElem?_cons_succ] at cM0 cM1 cM2 cM3
  go_wp2_with fail
  clear cA0 cA1 cA2 cA3 cA4 cA5 cA6 cA7 cM0 cM1 cM2 cM3
  refine (H1.out _ (HT.out.below hB2 (Nat.le_refl _))).mono ?_
  rintro e w3 ⟨rfl, b3⟩
  have lwA3 : w.heap.size < w3.heap.size := Nat.lt_of_lt_of_le A_2.lt b3.size
  have A_pre := A_2.below b3 A_2.lt
  have cA0 := (A_pre).cell (k := 0) (by omega); have cA1 := (A_pre).cell (k := 1) (by omega); have cA2 := (A_pre).cell (k := 2) (by omega); have cA3 := (A_pre).cell (k := 3) (by omega); have cA4 := (A_pre).cell (k := 4) (by omega); have cA5 := (A_pre).cell (k := 5) (by omega); have cA6 := (A_pre).cell (k := 6) (by omega); have cA7 := (A_pre).cell (k := 7) (by omega)
  go_upto_region 7 with fail
  clear cA0 cA1 cA2 cA3 cA4 cA5 cA6 cA7
  clear A_pre
  have A_3 := (A_2.below b3 A_2.lt).alloc (.cells (solC f) 24)
  have hB3q : Below w.heap.size w w3 := up b3 hB2
  have hB3 := hB3q.alloc hB3q.size (.cells (solC f) 24)
  clear A_2 M_2 hB2 b3 hB3q
  have P_3 : BoxS (w3.alloc (.cells (solC f) 24)) w3.heap.size f := BoxS.new _ _
  obtain ⟨w4, hw4⟩ : ∃ X, X = (w3.alloc (.cells (solC f) 24)) := ⟨_, rfl⟩
  rw [← hw4] at A_3 P_3 hB3 ⊢
  clear hw4
  have A_4 := A_3; have P_4 := P_3; have hB4 := hB3
  clear A_3 P_3 hB3
  have cP0 := (P_4).cell (k := 0) (by omega); have cP1 := (P_4).cell (k := 1) (by omega); have cP2 := (P_4).cell (k := 2) (by omega); have cP3 := (P_4).cell (k := 3) (by omega); have cP4 := (P_4).cell (k := 4) (by omega); have cP5 := (P_4).cell (k := 5) (by omega); have cP6 := (P_4).cell (k := 6) (by omega); have cP7 := (P_4).cell (k := 7) (by omega)
  go_wp2_with fail
  clear cP0 cP1 cP2 cP3 cP4 cP5 cP6 cP7
  refine (H2.out _ (HT.out.below hB4 (Nat.le_refl _))).mono ?_
  rintro e w5 ⟨rfl, b5⟩
  have lwA5 : w.heap.size < w5.heap.size := Nat.lt_of_lt_of_le A_4.lt b5.size
  have lwP5 : w3.heap.size < w5.heap.size := Nat.lt_of_lt_of_le P_4.lt b5.size
  have A_5 := (A_4.below b5 A_4.lt).alloc (.cells (solC q) 24)
  have P_5 := (P_4.below b5 P_4.lt).alloc (.cells (solC q) 24)
  have hB5q : Below w.heap.size w w5 := up b5 hB4
  have hB5 := hB5q.alloc hB5q.size (.cells (solC q) 24)
  clear A_4 P_4 hB4 b5 hB5q
  have Q_5 : BoxS (w5.alloc (.cells (solC q) 24)) w5.heap.size q := BoxS.new _ _
  go_upto_region 10 with fail
  obtain ⟨w6, hw6⟩ : ∃ X, X = (w5.alloc (.cells (solC q) 24)) := ⟨_, rfl⟩
  rw [← hw6] at A_5 P_5 Q_5 hB5 ⊢
  clear hw6
  have A_6 := A_5; have P_6 := P_5; have Q_6 := Q_5; have hB6 := hB5
  clear A_5 P_5 Q_5 hB5
  clear P_6
  obtain ⟨z, hz⟩ : ∃ z, z = w5.heap.size := ⟨_, rfl⟩
  rw [← hz] at Q_6 ⊢
  clear hz
  have hm1 := HM0.out
  subst hm1
  obtain ⟨U, hU⟩ : ∃ U, U = w6 := ⟨_, rfl⟩
  subst hU
  have lA : w.heap.size < U.heap.size := A_6.lt
  have lQ : z < U.heap.size := Q_6.lt
  have HTU := Lib.hid (HT.out.below hB6 (Nat.le_refl _))
  have hCd : Below U.heap.size U U.drew := Below.drew (Below.refl _ _)
  refine wp_region_relW (fun (iR : Nat) (v : Value) (W : World) => match iR with | 0 => v = sol q | 1 => v = .int .i64 ((n : Nat) : Int) | 2 => v = sol f | 3 => v = .int .i64 ((n : Nat) : Int) | 4 => v = .bool true | 5 => v = .bool true | 6 => v = sol q | 7 => ∃ p cap, v = .slice p a cap | 8 => v = .int .i64 a | 9 => v = sol f | 10 => ∃ p cap, v = .slice p a cap | 11 => v = .int .i64 a | 12 => v = .bool true | 13 => v = .bool true | 14 => v = .bool true | 15 => v = sol q | 16 => v = .int .i64 ((a : Int) + b - c) | 17 => v = .int .i64 ((a : Int) + b - c) | 18 => v = .bool true | 19 => v = .bool true | 20 => v = .bool true | 21 => v = sol q | 22 => v = .int .i64 ((s : Nat) : Int) | 23 => v = sol f | 24 => v = .int .i64 ((s : Nat) : Int) | 25 => v = .bool true | 26 => v = .bool true | _ => v = .bool true) (fun W => Below U.heap.size U W) (by kernel_rfl) (by kernel_rfl) (by kernel_rfl) hCd (by kernel_rfl) ?hst ?hop ?hend
  case hst =>
    intro jR v W W' hb hv
    rcases jR with _ | _ | _ | _ | _ | _ | _ | _ | _ | _ | _ | _ | _ | _ | _ | _ | _ | _ | _ | _ | _ | _ | _ | _ | _ | _ | _ | _ | jR
    all_goals first | exact hv | (obtain ⟨b, hr⟩ := hv; exact ⟨b, row_below hr hb⟩) | (obtain ⟨b, hr, hn⟩ := hv; exact ⟨b, row_below hr hb, hn⟩)
  case hop =>
    intro iR o ho a' W hC hin hfix
    have A3 := A_6.below hC lA
    have a0 := (A3).cell (k := 0) (by omega); have a1 := (A3).cell (k := 1) (by omega); have a2 := (A3).cell (k := 2) (by omega); have a3 := (A3).cell (k := 3) (by omega); have a4 := (A3).cell (k := 4) (by omega); have a5 := (A3).cell (k := 5) (by omega); have a6 := (A3).cell (k := 6) (by omega); have a7 := (A3).cell (k := 7) (by omega)
    have Q3 := Q_6.below hC lQ
    have b0 := (Q3).cell (k := 0) (by omega); have b1 := (Q3).cell (k := 1) (by omega); have b2 := (Q3).cell (k := 2) (by omega); have b3 := (Q3).cell (k := 3) (by omega); have b4 := (Q3).cell (k := 4) (by omega); have b5 := (Q3).cell (k := 5) (by omega); have b6 := (Q3).cell (k := 6) (by omega); have b7 := (Q3).cell (k := 7) (by omega)
    have q3 : a'.tmps[3]? = some (.pointer (some ⟨w.heap.size, 0, none⟩)) := hfix 3 (by kernel_rfl)
    have q7 : a'.tmps[7]? = some (.int .i64 ((a : Int) + b - c)) := hfix 7 (by kernel_rfl)
    have q10 : a'.tmps[10]? = some (.pointer (some ⟨z, 0, none⟩)) := hfix 10 (by kernel_rfl)
    have hi : iR < 28 := (Array.getElem?_eq_some_iff.1 ho).1
    rcases (show iR = 0 ∨ iR = 1 ∨ iR = 2 ∨ iR = 3 ∨ iR = 4 ∨ iR = 5 ∨ iR = 6 ∨ iR = 7 ∨ iR = 8 ∨ iR = 9 ∨ iR = 10 ∨ iR = 11 ∨ iR = 12 ∨ iR = 13 ∨ iR = 14 ∨ iR = 15 ∨ iR = 16 ∨ iR = 17 ∨ iR = 18 ∨ iR = 19 ∨ iR = 20 ∨ iR = 21 ∨ iR = 22 ∨ iR = 23 ∨ iR = 24 ∨ iR = 25 ∨ iR = 26 ∨ iR = 27 by omega) with rfl | rfl | rfl | rfl | rfl | rfl | rfl | rfl | rfl | rfl | rfl | rfl | rfl | rfl | rfl | rfl | rfl | rfl | rfl | rfl | rfl | rfl | rfl | rfl | rfl | rfl | rfl | rfl
    · obtain rfl := Option.some.inj ho
      refine ⟨rfl, fun K hK => ?_⟩
      clear hin hfix ho
      go_simp
      exact hK _ _ rfl hC (Below.refl _ _)
    · obtain ⟨v0, rfl, h0⟩ := hin 0 49 (by kernel_rfl) (by kernel_rfl)
      obtain rfl := Option.some.inj ho
      refine ⟨rfl, fun K hK => ?_⟩
      clear hin hfix ho
      go_simp
      refine (NMC.out _).mono ?_
      rintro e W2 ⟨rfl, hb⟩
      exact hK _ _ rfl (hC.trans (hb.mono hC.size)) hb
    · obtain rfl := Option.some.inj ho
      refine ⟨rfl, fun K hK => ?_⟩
      clear hin hfix ho
      go_simp
      exact hK _ _ rfl hC (Below.refl _ _)
    · obtain ⟨v2, rfl, h2⟩ := hin 2 51 (by kernel_rfl) (by kernel_rfl)
      obtain rfl := Option.some.inj ho
      refine ⟨rfl, fun K hK => ?_⟩
      clear hin hfix ho
      go_simp
      refine (NFC.out _).mono ?_
      rintro e W2 ⟨rfl, hb⟩
      exact hK _ _ rfl (hC.trans (hb.mono hC.size)) hb
    · obtain ⟨v1, rfl, h1⟩ := hin 1 50 (by kernel_rfl) (by kernel_rfl)
      obtain ⟨v3, rfl, h3⟩ := hin 3 52 (by kernel_rfl) (by kernel_rfl)
      obtain rfl := Option.some.inj ho
      refine ⟨rfl, fun K hK => ?_⟩
      clear hin hfix ho
      go_simp
      exact hK _ _ rfl hC (Below.refl _ _)
    · obtain ⟨v4, rfl, h4⟩ := hin 4 53 (by kernel_rfl) (by kernel_rfl)
      obtain rfl := Option.some.inj ho
      refine ⟨rfl, fun K hK => ?_⟩
      clear hin hfix ho
      go_simp
      exact hK _ _ rfl hC (Below.refl _ _)
    · obtain ⟨v5, rfl, h5⟩ := hin 5 54 (by kernel_rfl) (by kernel_rfl)
      obtain rfl := Option.some.inj ho
      refine ⟨wanted_at (j := 5) (t := 54) rfl (by kernel_rfl) h5, fun K hK => ?_⟩
      clear hin hfix ho
      go_simp
      exact hK _ _ rfl hC (Below.refl _ _)
    · obtain ⟨v6, rfl, h6⟩ := hin 6 55 (by kernel_rfl) (by kernel_rfl)
      obtain ⟨v5, rfl, h5⟩ := hin 5 54 (by kernel_rfl) (by kernel_rfl)
      obtain rfl := Option.some.inj ho
      refine ⟨wanted_at (j := 5) (t := 54) rfl (by kernel_rfl) h5, fun K hK => ?_⟩
      clear hin hfix ho
      go_simp
      refine (PM.out _ (HTU.out.below hC (Nat.le_refl _))).mono ?_
      rintro e W2 ⟨he, hb⟩
      obtain ⟨p, cap, rfl⟩ := he
      exact hK _ _ ⟨p, cap, rfl⟩ (hC.trans (hb.mono hC.size)) hb
    · obtain ⟨v7, ⟨p7, cap7, rfl⟩, h7⟩ := hin 7 56 (by kernel_rfl) (by kernel_rfl)
      obtain ⟨v5, rfl, h5⟩ := hin 5 54 (by kernel_rfl) (by kernel_rfl)
      obtain rfl := Option.some.inj ho
      refine ⟨wanted_at (j := 5) (t := 54) rfl (by kernel_rfl) h5, fun K hK => ?_⟩
      clear hin hfix ho
      go_simp
      exact hK _ _ rfl hC (Below.refl _ _)
    · obtain ⟨v5, rfl, h5⟩ := hin 5 54 (by kernel_rfl) (by kernel_rfl)
      obtain rfl := Option.some.inj ho
      refine ⟨wanted_at (j := 5) (t := 54) rfl (by kernel_rfl) h5, fun K hK => ?_⟩
      clear hin hfix ho
      go_simp
      exact hK _ _ rfl hC (Below.refl _ _)
    · obtain ⟨v9, rfl, h9⟩ := hin 9 58 (by kernel_rfl) (by kernel_rfl)
      obtain ⟨v5, rfl, h5⟩ := hin 5 54 (by kernel_rfl) (by kernel_rfl)
      obtain rfl := Option.some.inj ho
      refine ⟨wanted_at (j := 5) (t := 54) rfl (by kernel_rfl) h5, fun K hK => ?_⟩
      clear hin hfix ho
      go_simp
      refine (PF.out _ (HTU.out.below hC (Nat.le_refl _))).mono ?_
      rintro e W2 ⟨he, hb⟩
      obtain ⟨p, cap, rfl⟩ := he
      exact hK _ _ ⟨p, cap, rfl⟩ (hC.trans (hb.mono hC.size)) hb
    · obtain ⟨v10, ⟨p10, cap10, rfl⟩, h10⟩ := hin 10 59 (by kernel_rfl) (by kernel_rfl)
      obtain ⟨v5, rfl, h5⟩ := hin 5 54 (by kernel_rfl) (by kernel_rfl)
      obtain rfl := Option.some.inj ho
      refine ⟨wanted_at (j := 5) (t := 54) rfl (by kernel_rfl) h5, fun K hK => ?_⟩
      clear hin hfix ho
      go_simp
      exact hK _ _ rfl hC (Below.refl _ _)
    · obtain ⟨v8, rfl, h8⟩ := hin 8 57 (by kernel_rfl) (by kernel_rfl)
      obtain ⟨v11, rfl, h11⟩ := hin 11 60 (by kernel_rfl) (by kernel_rfl)
      obtain ⟨v5, rfl, h5⟩ := hin 5 54 (by kernel_rfl) (by kernel_rfl)
      obtain rfl := Option.some.inj ho
      refine ⟨wanted_at (j := 5) (t := 54) rfl (by kernel_rfl) h5, fun K hK => ?_⟩
      clear hin hfix ho
      go_simp
      exact hK _ _ rfl hC (Below.refl _ _)
    · obtain ⟨v5, rfl, h5⟩ := hin 5 54 (by kernel_rfl) (by kernel_rfl)
      obtain ⟨v12, rfl, h12⟩ := hin 12 61 (by kernel_rfl) (by kernel_rfl)
      obtain rfl := Option.some.inj ho
      refine ⟨rfl, fun K hK => ?_⟩
      clear hin hfix ho
      go_simp
      exact hK _ _ rfl hC (Below.refl _ _)
    · obtain ⟨v13, rfl, h13⟩ := hin 13 62 (by kernel_rfl) (by kernel_rfl)
      obtain rfl := Option.some.inj ho
      refine ⟨rfl, fun K hK => ?_⟩
      clear hin hfix ho
      go_simp
      exact hK _ _ rfl hC (Below.refl _ _)
    · obtain ⟨v14, rfl, h14⟩ := hin 14 63 (by kernel_rfl) (by kernel_rfl)
      obtain rfl := Option.some.inj ho
      refine ⟨wanted_at (j := 14) (t := 63) rfl (by kernel_rfl) h14, fun K hK => ?_⟩
      clear hin hfix ho
      go_simp
      exact hK _ _ rfl hC (Below.refl _ _)
    · obtain ⟨v15, rfl, h15⟩ := hin 15 64 (by kernel_rfl) (by kernel_rfl)
      obtain ⟨v14, rfl, h14⟩ := hin 14 63 (by kernel_rfl) (by kernel_rfl)
      obtain rfl := Option.some.inj ho
      refine ⟨wanted_at (j := 14) (t := 63) rfl (by kernel_rfl) h14, fun K hK => ?_⟩
      clear hin hfix ho
      go_simp
      refine (TM.out _ (HTU.out.below hC (Nat.le_refl _))).mono ?_
      rintro e W2 ⟨rfl, hb⟩
      exact hK _ _ rfl (hC.trans (hb.mono hC.size)) hb
    · obtain ⟨v14, rfl, h14⟩ := hin 14 63 (by kernel_rfl) (by kernel_rfl)
      obtain rfl := Option.some.inj ho
      refine ⟨wanted_at (j := 14) (t := 63) rfl (by kernel_rfl) h14, fun K hK => ?_⟩
      clear hin hfix ho
      go_simp
      exact hK _ _ rfl hC (Below.refl _ _)
    · obtain ⟨v16, rfl, h16⟩ := hin 16 65 (by kernel_rfl) (by kernel_rfl)
      obtain ⟨v17, rfl, h17⟩ := hin 17 66 (by kernel_rfl) (by kernel_rfl)
      obtain ⟨v14, rfl, h14⟩ := hin 14 63 (by kernel_rfl) (by kernel_rfl)
      obtain rfl := Option.some.inj ho
      refine ⟨wanted_at (j := 14) (t := 63) rfl (by kernel_rfl) h14, fun K hK => ?_⟩
      clear hin hfix ho
      go_simp
      exact hK _ _ rfl hC (Below.refl _ _)
    · obtain ⟨v14, rfl, h14⟩ := hin 14 63 (by kernel_rfl) (by kernel_rfl)
      obtain ⟨v18, rfl, h18⟩ := hin 18 67 (by kernel_rfl) (by kernel_rfl)
      obtain rfl := Option.some.inj ho
      refine ⟨rfl, fun K hK => ?_⟩
      clear hin hfix ho
      go_simp
      exact hK _ _ rfl hC (Below.refl _ _)
    · obtain ⟨v19, rfl, h19⟩ := hin 19 68 (by kernel_rfl) (by kernel_rfl)
      obtain rfl := Option.some.inj ho
      refine ⟨rfl, fun K hK => ?_⟩
      clear hin hfix ho
      go_simp
      exact hK _ _ rfl hC (Below.refl _ _)
    · obtain ⟨v20, rfl, h20⟩ := hin 20 69 (by kernel_rfl) (by kernel_rfl)
      obtain rfl := Option.some.inj ho
      refine ⟨wanted_at (j := 20) (t := 69) rfl (by kernel_rfl) h20, fun K hK => ?_⟩
      clear hin hfix ho
      go_simp
      exact hK _ _ rfl hC (Below.refl _ _)
    · obtain ⟨v21, rfl, h21⟩ := hin 21 70 (by kernel_rfl) (by kernel_rfl)
      obtain ⟨v20, rfl, h20⟩ := hin 20 69 (by kernel_rfl) (by kernel_rfl)
      obtain rfl := Option.some.inj ho
      refine ⟨wanted_at (j := 20) (t := 69) rfl (by kernel_rfl) h20, fun K hK => ?_⟩
      clear hin hfix ho
      go_simp
      refine (SMC.out _ (HTU.out.below hC (Nat.le_refl _))).mono ?_
      rintro e W2 ⟨rfl, hb⟩
      exact hK _ _ rfl (hC.trans (hb.mono hC.size)) hb
    · obtain ⟨v20, rfl, h20⟩ := hin 20 69 (by kernel_rfl) (by kernel_rfl)
      obtain rfl := Option.some.inj ho
      refine ⟨wanted_at (j := 20) (t := 69) rfl (by kernel_rfl) h20, fun K hK => ?_⟩
      clear hin hfix ho
      go_simp
      exact hK _ _ rfl hC (Below.refl _ _)
    · obtain ⟨v23, rfl, h23⟩ := hin 23 72 (by kernel_rfl) (by kernel_rfl)
      obtain ⟨v20, rfl, h20⟩ := hin 20 69 (by kernel_rfl) (by kernel_rfl)
      obtain rfl := Option.some.inj ho
      refine ⟨wanted_at (j := 20) (t := 69) rfl (by kernel_rfl) h20, fun K hK => ?_⟩
      clear hin hfix ho
      go_simp
      refine (SFC.out _ (HTU.out.below hC (Nat.le_refl _))).mono ?_
      rintro e W2 ⟨rfl, hb⟩
      exact hK _ _ rfl (hC.trans (hb.mono hC.size)) hb
    · obtain ⟨v22, rfl, h22⟩ := hin 22 71 (by kernel_rfl) (by kernel_rfl)
      obtain ⟨v24, rfl, h24⟩ := hin 24 73 (by kernel_rfl) (by kernel_rfl)
      obtain ⟨v20, rfl, h20⟩ := hin 20 69 (by kernel_rfl) (by kernel_rfl)
      obtain rfl := Option.some.inj ho
      refine ⟨wanted_at (j := 20) (t := 69) rfl (by kernel_rfl) h20, fun K hK => ?_⟩
      clear hin hfix ho
      go_simp
      exact hK _ _ rfl hC (Below.refl _ _)
    · obtain ⟨v20, rfl, h20⟩ := hin 20 69 (by kernel_rfl) (by kernel_rfl)
      obtain ⟨v25, rfl, h25⟩ := hin 25 74 (by kernel_rfl) (by kernel_rfl)
      obtain rfl := Option.some.inj ho
      refine ⟨rfl, fun K hK => ?_⟩
      clear hin hfix ho
      go_simp
      exact hK _ _ rfl hC (Below.refl _ _)
    · obtain ⟨v26, rfl, h26⟩ := hin 26 75 (by kernel_rfl) (by kernel_rfl)
      obtain rfl := Option.some.inj ho
      refine ⟨rfl, fun K hK => ?_⟩
      clear hin hfix ho
      go_simp
      exact hK _ _ rfl hC (Below.refl _ _)
  case hend =>
  intro vals W hC hV
  have z0 := hV 0 (by decide)
  have z1 := hV 1 (by decide)
  have z2 := hV 2 (by decide)
  have z3 := hV 3 (by decide)
  have z4 := hV 4 (by decide)
  have z5 := hV 5 (by decide)
  have z6 := hV 6 (by decide)
  have z8 := hV 8 (by decide)
  have z9 := hV 9 (by decide)
  have z11 := hV 11 (by decide)
  have z12 := hV 12 (by decide)
  have z13 := hV 13 (by decide)
  have z14 := hV 14 (by decide)
  have z15 := hV 15 (by decide)
  have z16 := hV 16 (by decide)
  have z17 := hV 17 (by decide)
  have z18 := hV 18 (by decide)
  have z19 := hV 19 (by decide)
  have z20 := hV 20 (by decide)
  have z21 := hV 21 (by decide)
  have z22 := hV 22 (by decide)
  have z23 := hV 23 (by decide)
  have z24 := hV 24 (by decide)
  have z25 := hV 25 (by decide)
  have z26 := hV 26 (by decide)
  have z27 := hV 27 (by decide)
  clear hV
  simp only at z0 z1 z2 z3 z4 z5 z6 z8 z9 z11 z12 z13 z14 z15 z16 z17 z18 z19 z20 z21 z22 z23 z24 z25 z26 z27 
  have hr : List.range 28 = [0, 1, 2, 3, 4, 5, 6, 7, 8, 9, 10, 11, 12, 13, 14, 15, 16, 17, 18, 19, 20, 21, 22, 23, 24, 25, 26, 27] := rfl
  simp only [List.size_toArray, List.length_cons, List.length_nil, Nat.reduceAdd, List.drop_succ_cons, List.drop_zero, putA, hr, List.foldl_cons, List.foldl_nil, dstR, List.getElem?_toArray, List.getElem?_cons_succ, List.getElem?_cons_zero, Option.bind_some, Act.put, List.setIfInBounds_toArray, List.set_cons_succ, List.set_cons_zero, z0, z1, z2, z3, z4, z5, z6, z8, z9, z11, z12, z13, z14, z15, z16, z17, z18, z19, z20, z21, z22, z23, z24, z25, z26, z27]
  clear hr z0 z1 z2 z3 z4 z5 z6 z8 z9 z11 z12 z13 z14 z15 z16 z17 z18 z19 z20 z21 z22 z23 z24 z25 z26 z27
  obtain ⟨x7, hx7⟩ : ∃ v, v = vals 7 := ⟨_, rfl⟩
  obtain ⟨x10, hx10⟩ : ∃ v, v = vals 10 := ⟨_, rfl⟩
  rw [← hx7, ← hx10]
  clear hx7 hx10 vals
  have A_7 := A_6.below hC lA
  have Q_7 := Q_6.below hC lQ
  have hB7 : Below w.heap.size w W := up hC hB6
  clear A_6 Q_6 hB6 hC hCd lA lQ HTU
  go_upto_region 11 with fail
  obtain ⟨w7, hw7⟩ : ∃ X, X = W := ⟨_, rfl⟩
  subst hw7
  obtain ⟨U, hU⟩ : ∃ U, U = w7 := ⟨_, rfl⟩
  subst hU
  have lA : w.heap.size < U.heap.size := A_7.lt
  have lQ : z < U.heap.size := Q_7.lt
  have HTU := Lib.hid (HT.out.below hB7 (Nat.le_refl _))
  have hCd : Below U.heap.size U U.drew := Below.drew (Below.refl _ _)
  refine wp_region_relW (fun (iR : Nat) (v : Value) (W : World) => match iR with | 0 => v = .bool true | 1 => v = .bool true | 2 => v = .bool true | 3 => v = .bool true | 4 => v = .bool true | 5 => v = sol q | 6 => ∃ p cap, v = .slice p b cap | 7 => v = .int .i64 b | 8 => v = sol f | 9 => ∃ p cap, v = .slice p b cap | 10 => v = .int .i64 b | 11 => v = .bool true | 12 => v = .bool true | _ => v = .bool true) (fun W => Below U.heap.size U W) (by kernel_rfl) (by kernel_rfl) (by kernel_rfl) hCd (by kernel_rfl) ?hst ?hop ?hend
  case hst =>
    intro jR v W W' hb hv
    rcases jR with _ | _ | _ | _ | _ | _ | _ | _ | _ | _ | _ | _ | _ | _ | jR
    all_goals first | exact hv | (obtain ⟨b, hr⟩ := hv; exact ⟨b, row_below hr hb⟩) | (obtain ⟨b, hr, hn⟩ := hv; exact ⟨b, row_below hr hb, hn⟩)
  case hop =>
    intro iR o ho a' W hC hin hfix
    have A3 := A_7.below hC lA
    have a0 := (A3).cell (k := 0) (by omega); have a1 := (A3).cell (k := 1) (by omega); have a2 := (A3).cell (k := 2) (by omega); have a3 := (A3).cell (k := 3) (by omega); have a4 := (A3).cell (k := 4) (by omega); have a5 := (A3).cell (k := 5) (by omega); have a6 := (A3).cell (k := 6) (by omega); have a7 := (A3).cell (k := 7) (by omega)
    have Q3 := Q_7.below hC lQ
    have b0 := (Q3).cell (k := 0) (by omega); have b1 := (Q3).cell (k := 1) (by omega); have b2 := (Q3).cell (k := 2) (by omega); have b3 := (Q3).cell (k := 3) (by omega); have b4 := (Q3).cell (k := 4) (by omega); have b5 := (Q3).cell (k := 5) (by omega); have b6 := (Q3).cell (k := 6) (by omega); have b7 := (Q3).cell (k := 7) (by omega)
    have q3 : a'.tmps[3]? = some (.pointer (some ⟨w.heap.size, 0, none⟩)) := hfix 3 (by kernel_rfl)
    have q10 : a'.tmps[10]? = some (.pointer (some ⟨z, 0, none⟩)) := hfix 10 (by kernel_rfl)
    have q12 : a'.tmps[12]? = some (.bool true) := hfix 12 (by kernel_rfl)
    have hi : iR < 14 := (Array.getElem?_eq_some_iff.1 ho).1
    rcases (show iR = 0 ∨ iR = 1 ∨ iR = 2 ∨ iR = 3 ∨ iR = 4 ∨ iR = 5 ∨ iR = 6 ∨ iR = 7 ∨ iR = 8 ∨ iR = 9 ∨ iR = 10 ∨ iR = 11 ∨ iR = 12 ∨ iR = 13 by omega) with rfl | rfl | rfl | rfl | rfl | rfl | rfl | rfl | rfl | rfl | rfl | rfl | rfl | rfl
    · obtain rfl := Option.some.inj ho
      refine ⟨rfl, fun K hK => ?_⟩
      clear hin hfix ho
      go_simp
      refine (HC.out _ (HTU.out.below hC (Nat.le_refl _))).mono ?_
      rintro e W2 ⟨rfl, hb⟩
      exact hK _ _ rfl (hC.trans (hb.mono hC.size)) hb
    · obtain ⟨v0, rfl, h0⟩ := hin 0 76 (by kernel_rfl) (by kernel_rfl)
      obtain rfl := Option.some.inj ho
      refine ⟨rfl, fun K hK => ?_⟩
      clear hin hfix ho
      go_simp
      exact hK _ _ rfl hC (Below.refl _ _)
    · obtain ⟨v1, rfl, h1⟩ := hin 1 77 (by kernel_rfl) (by kernel_rfl)
      obtain rfl := Option.some.inj ho
      refine ⟨wanted_at (j := 1) (t := 77) rfl (by kernel_rfl) h1, fun K hK => ?_⟩
      clear hin hfix ho
      go_simp
      exact hK _ _ rfl hC (Below.refl _ _)
    · obtain ⟨v1, rfl, h1⟩ := hin 1 77 (by kernel_rfl) (by kernel_rfl)
      obtain ⟨v2, rfl, h2⟩ := hin 2 78 (by kernel_rfl) (by kernel_rfl)
      obtain rfl := Option.some.inj ho
      refine ⟨rfl, fun K hK => ?_⟩
      clear hin hfix ho
      go_simp
      exact hK _ _ rfl hC (Below.refl _ _)
    · obtain ⟨v3, rfl, h3⟩ := hin 3 79 (by kernel_rfl) (by kernel_rfl)
      obtain rfl := Option.some.inj ho
      refine ⟨rfl, fun K hK => ?_⟩
      clear hin hfix ho
      go_simp
      exact hK _ _ rfl hC (Below.refl _ _)
    · obtain ⟨v4, rfl, h4⟩ := hin 4 80 (by kernel_rfl) (by kernel_rfl)
      obtain rfl := Option.some.inj ho
      refine ⟨wanted_at (j := 4) (t := 80) rfl (by kernel_rfl) h4, fun K hK => ?_⟩
      clear hin hfix ho
      go_simp
      exact hK _ _ rfl hC (Below.refl _ _)
    · obtain ⟨v5, rfl, h5⟩ := hin 5 81 (by kernel_rfl) (by kernel_rfl)
      obtain ⟨v4, rfl, h4⟩ := hin 4 80 (by kernel_rfl) (by kernel_rfl)
      obtain rfl := Option.some.inj ho
      refine ⟨wanted_at (j := 4) (t := 80) rfl (by kernel_rfl) h4, fun K hK => ?_⟩
      clear hin hfix ho
      go_simp
      refine (VM.out _ (HTU.out.below hC (Nat.le_refl _))).mono ?_
      rintro e W2 ⟨he, hb⟩
      obtain ⟨p, cap, rfl⟩ := he
      exact hK _ _ ⟨p, cap, rfl⟩ (hC.trans (hb.mono hC.size)) hb
    · obtain ⟨v6, ⟨p6, cap6, rfl⟩, h6⟩ := hin 6 82 (by kernel_rfl) (by kernel_rfl)
      obtain ⟨v4, rfl, h4⟩ := hin 4 80 (by kernel_rfl) (by kernel_rfl)
      obtain rfl := Option.some.inj ho
      refine ⟨wanted_at (j := 4) (t := 80) rfl (by kernel_rfl) h4, fun K hK => ?_⟩
      clear hin hfix ho
      go_simp
      exact hK _ _ rfl hC (Below.refl _ _)
    · obtain ⟨v4, rfl, h4⟩ := hin 4 80 (by kernel_rfl) (by kernel_rfl)
      obtain rfl := Option.some.inj ho
      refine ⟨wanted_at (j := 4) (t := 80) rfl (by kernel_rfl) h4, fun K hK => ?_⟩
      clear hin hfix ho
      go_simp
      exact hK _ _ rfl hC (Below.refl _ _)
    · obtain ⟨v8, rfl, h8⟩ := hin 8 84 (by kernel_rfl) (by kernel_rfl)
      obtain ⟨v4, rfl, h4⟩ := hin 4 80 (by kernel_rfl) (by kernel_rfl)
      obtain rfl := Option.some.inj ho
      refine ⟨wanted_at (j := 4) (t := 80) rfl (by kernel_rfl) h4, fun K hK => ?_⟩
      clear hin hfix ho
      go_simp
      refine (VF.out _ (HTU.out.below hC (Nat.le_refl _))).mono ?_
      rintro e W2 ⟨he, hb⟩
      obtain ⟨p, cap, rfl⟩ := he
      exact hK _ _ ⟨p, cap, rfl⟩ (hC.trans (hb.mono hC.size)) hb
    · obtain ⟨v9, ⟨p9, cap9, rfl⟩, h9⟩ := hin 9 85 (by kernel_rfl) (by kernel_rfl)
      obtain ⟨v4, rfl, h4⟩ := hin 4 80 (by kernel_rfl) (by kernel_rfl)
      obtain rfl := Option.some.inj ho
      refine ⟨wanted_at (j := 4) (t := 80) rfl (by kernel_rfl) h4, fun K hK => ?_⟩
      clear hin hfix ho
      go_simp
      exact hK _ _ rfl hC (Below.refl _ _)
    · obtain ⟨v7, rfl, h7⟩ := hin 7 83 (by kernel_rfl) (by kernel_rfl)
      obtain ⟨v10, rfl, h10⟩ := hin 10 86 (by kernel_rfl) (by kernel_rfl)
      obtain ⟨v4, rfl, h4⟩ := hin 4 80 (by kernel_rfl) (by kernel_rfl)
      obtain rfl := Option.some.inj ho
      refine ⟨wanted_at (j := 4) (t := 80) rfl (by kernel_rfl) h4, fun K hK => ?_⟩
      clear hin hfix ho
      go_simp
      exact hK _ _ rfl hC (Below.refl _ _)
    · obtain ⟨v4, rfl, h4⟩ := hin 4 80 (by kernel_rfl) (by kernel_rfl)
      obtain ⟨v11, rfl, h11⟩ := hin 11 87 (by kernel_rfl) (by kernel_rfl)
      obtain rfl := Option.some.inj ho
      refine ⟨rfl, fun K hK => ?_⟩
      clear hin hfix ho
      go_simp
      exact hK _ _ rfl hC (Below.refl _ _)
    · obtain ⟨v12, rfl, h12⟩ := hin 12 88 (by kernel_rfl) (by kernel_rfl)
      obtain rfl := Option.some.inj ho
      refine ⟨rfl, fun K hK => ?_⟩
      clear hin hfix ho
      go_simp
      exact hK _ _ rfl hC (Below.refl _ _)
  case hend =>
  intro vals W hC hV
  have z0 := hV 0 (by decide)
  have z1 := hV 1 (by decide)
  have z2 := hV 2 (by decide)
  have z3 := hV 3 (by decide)
  have z4 := hV 4 (by decide)
  have z5 := hV 5 (by decide)
  have z7 := hV 7 (by decide)
  have z8 := hV 8 (by decide)
  have z10 := hV 10 (by decide)
  have z11 := hV 11 (by decide)
  have z12 := hV 12 (by decide)
  have z13 := hV 13 (by decide)
  clear hV
  simp only at z0 z1 z2 z3 z4 z5 z7 z8 z10 z11 z12 z13 
  have hr : List.range 14 = [0, 1, 2, 3, 4, 5, 6, 7, 8, 9, 10, 11, 12, 13] := rfl
  simp only [List.size_toArray, List.length_cons, List.length_nil, Nat.reduceAdd, List.drop_succ_cons, List.drop_zero, putA, hr, List.foldl_cons, List.foldl_nil, dstR, List.getElem?_toArray, List.getElem?_cons_succ, List.getElem?_cons_zero, Option.bind_some, Act.put, List.setIfInBounds_toArray, List.set_cons_succ, List.set_cons_zero, z0, z1, z2, z3, z4, z5, z7, z8, z10, z11, z12, z13]
  clear hr z0 z1 z2 z3 z4 z5 z7 z8 z10 z11 z12 z13
  obtain ⟨x6, hx6⟩ : ∃ v, v = vals 6 := ⟨_, rfl⟩
  obtain ⟨x9, hx9⟩ : ∃ v, v = vals 9 := ⟨_, rfl⟩
  rw [← hx6, ← hx9]
  clear hx6 hx9 vals
  have A_8 := A_7.below hC lA
  have Q_8 := Q_7.below hC lQ
  have hB8 : Below w.heap.size w W := up hC hB7
  clear A_7 Q_7 hB7 hC hCd lA lQ HTU
  obtain ⟨w8, hw8⟩ : ∃ X, X = W := ⟨_, rfl⟩
  subst hw8
  go_wp2_with fail
  go_ret
  exact ⟨rfl, hB8⟩
set_option maxRecDepth 100000 in
set_option maxHeartbeats 16000000 in
theorem tunl_corett (f p q m : Sol) (t x y z ax e1 e2 : Int) (n a b s : Nat) (c : Int) (w : World) (hT : Tab64 w) (hf : Fit f) (hm : Fit m)
    (H1 : Hid (∀ W : World, Tab64 W → Calls Tryz.prog 48 #[sol f, .agg #[.int .i64 (t), .int .i64 (x), .int .i64 (y), .int .i64 (z)]] W (RetB (.tuple #[sol p, .int .i64 e1]) W)))
    (H2 : Hid (∀ W : World, Tab64 W → Calls Tryz.prog 46 #[sol f, .int .i64 ax] W (RetB (.tuple #[sol q, .int .i64 e2]) W)))
    (h1 : (e1 != 0) = true) (h2 : (e2 != 0) = true) (hm0 : f = m)
    (NF : Hid (numF f = n)) (AF : Hid ((partsF f).length = a)) (BF : Hid ((cavF f).length = b)) (CF : Hid (eulF f = c)) (SF : Hid (skinF f = s))
    (NM : Hid (numF m = n)) (AM : Hid ((partsF m).length = a)) (BM : Hid ((cavF m).length = b)) (CM : Hid (eulF m = c)) (SM : Hid (skinF m = s))
    (ba : a ≤ 100000) (bb : b ≤ 100000) (bc : -100000 ≤ c ∧ c ≤ 100000) (hge : c ≤ (a : Int) + b)
    (HC : Hid (∀ W, Tab64 W → Calls Tryz.prog 20 #[] W (RetB (.bool true) W))) :
    Calls Tryz.prog 15 #[sol f, .agg #[.int .i64 (t), .int .i64 (x), .int .i64 (y), .int .i64 (z)], .int .i64 ax] w (RetB (.bool true) w) := by
  have HT := Lib.hid hT
  have HF := Lib.hid hf
  have HM := Lib.hid hm
  have HM0 := Lib.hid hm0
  have P0 : ∀ g, Fit g → ∀ k, (partsF g).length = k → ∀ W, Tab64 W → Calls Tryz.prog 72 #[sol g] W fun e w' => (∃ p cap, e = .returned (.slice p k cap)) ∧ Below W.heap.size W w' := fun g hg k hk W hT => (parts_ok g W hg hT).mono fun e w' ⟨v, he, ho, hb⟩ => by
    obtain ⟨p, cap, rfl⟩ := own_len ho.1
    rw [hk] at he
    exact ⟨⟨p, cap, he⟩, hb⟩
  have V0 : ∀ g, Fit g → ∀ k, (cavF g).length = k → ∀ W, Tab64 W → Calls Tryz.prog 74 #[sol g] W fun e w' => (∃ p cap, e = .returned (.slice p k cap)) ∧ Below W.heap.size W w' := fun g hg k hk W hT => (cav_ok g W hg hT).mono fun e w' ⟨v, he, ho, hb⟩ => by
    obtain ⟨p, cap, rfl⟩ := own_len ho.1
    rw [hk] at he
    exact ⟨⟨p, cap, he⟩, hb⟩
  have PF := Lib.hid (P0 f hf a AF.out)
  have PM := Lib.hid (P0 m hm a AM.out)
  have VF := Lib.hid (V0 f hf b BF.out)
  have VM := Lib.hid (V0 m hm b BM.out)
  have EF := Lib.hid (fun (X : World) (h : Tab64 X) => euler_ok f X hf h)
  rw [CF.out] at EF
  have TF := Lib.hid (fun (X : World) (h : Tab64 X) => tunnels_ok f a b c X hf h AF.out BF.out CF.out ba bb bc)
  have TM := Lib.hid (fun (X : World) (h : Tab64 X) => tunnels_ok m a b c X hm h AM.out BM.out CM.out ba bb bc)
  have NFC := Lib.hid (fun (X : World) => count_ok f X hf)
  have NMC := Lib.hid (fun (X : World) => count_ok m X hm)
  rw [NF.out] at NFC
  rw [NM.out] at NMC
  have SFC := Lib.hid (fun (X : World) (h : Tab64 X) => skin_ok f X hf h)
  have SMC := Lib.hid (fun (X : World) (h : Tab64 X) => skin_ok m X hm h)
  rw [SF.out] at SFC
  rw [SM.out] at SMC
  have wk1 : IntKind.i64.wrap ((a : Int) + b) = (a : Int) + b := IntWalk.i64_in _ (by omega)
  have wk2 : IntKind.i64.wrap ((a : Int) + b - c) = (a : Int) + b - c := IntWalk.i64_in _ (by omega)
  have hd0 : decide ((a : Int) + b - c < 0) = false := decide_eq_false (by omega)
  have k0 : (((a : Int) + b - c) != ((a : Int) + b - c)) = false := by simp
  have k1 : (((a : Int) + b - c) == ((a : Int) + b - c)) = true := by simp
  have k2 : (((n : Nat) : Int) == ((n : Nat) : Int)) = true := by simp
  have k3 : (((s : Nat) : Int) == ((s : Nat) : Int)) = true := by simp
  have k4 : (((a : Nat) : Int) == ((a : Nat) : Int)) = true := by simp
  have k5 : (((b : Nat) : Int) == ((b : Nat) : Int)) = true := by simp
  clear P0 V0 hT hf hm hm0 NF AF BF CF SF NM AM BM CM SM ba bb bc hge
  have A_0 : BoxS ((w.alloc (.cells (solC f) 24)).alloc (.cells #[.int .i64 (t), .int .i64 (x), .int .i64 (y), .int .i64 (z)] 46)) w.heap.size f := ((BoxS.new _ _).alloc _)
  have M_0 : Q4 ((w.alloc (.cells (solC f) 24)).alloc (.cells #[.int .i64 (t), .int .i64 (x), .int .i64 (y), .int .i64 (z)] 46)) (w.heap.size + 1) (t) (x) (y) (z) := (blk_new (by simp))
  have hB0 : Below w.heap.size w ((w.alloc (.cells (solC f) 24)).alloc (.cells #[.int .i64 (t), .int .i64 (x), .int .i64 (y), .int .i64 (z)] 46)) := by repeat' (first | (with_reducible exact Below.refl _ _) | (with_reducible assumption) | (with_reducible refine Below.alloc ?_ ?_ _) | (with_reducible refine Below.drew ?_) | (with_reducible refine below_drewN ?_ _) | (with_reducible refine Below.setCell ?_ ?_ _) | go_size)
  go_enter Tryz.func15, Tryz.ntmps15
  have cA0 := (A_0).cell (k := 0) (by omega); have cA1 := (A_0).cell (k := 1) (by omega); have cA2 := (A_0).cell (k := 2) (by omega); have cA3 := (A_0).cell (k := 3) (by omega); have cA4 := (A_0).cell (k := 4) (by omega); have cA5 := (A_0).cell (k := 5) (by omega); have cA6 := (A_0).cell (k := 6) (by omega); have cA7 := (A_0).cell (k := 7) (by omega)
  go_wp2_with fail
  clear cA0 cA1 cA2 cA3 cA4 cA5 cA6 cA7
  refine (TF.out _ (HT.out.below hB0 (Nat.le_refl _))).mono ?_
  rintro e w1 ⟨rfl, b1⟩
  have lwA1 : w.heap.size < w1.heap.size := Nat.lt_of_lt_of_le A_0.lt b1.size
  have A_1 := A_0.below b1 A_0.lt
  have M_1 := blk_below M_0 b1 (blk_lt M_0)
  have hB1 : Below w.heap.size w w1 := up b1 hB0
  clear A_0 M_0 hB0 b1
  go_upto_region 2 with fail
  obtain ⟨U, hU⟩ : ∃ U, U = w1 := ⟨_, rfl⟩
  subst hU
  have lA : w.heap.size < U.heap.size := A_1.lt
  have HTU := Lib.hid (HT.out.below hB1 (Nat.le_refl _))
  have hCd : Below U.heap.size U U.drew := Below.drew (Below.refl _ _)
  refine wp_region_relW (fun (iR : Nat) (v : Value) (W : World) => match iR with | 0 => v = .int .i64 ((a : Int) + b - c) | 1 => v = .bool false | 2 => v = .bool false | 3 => v = .int .i64 ((a : Int) + b - c) | 4 => v = sol f | 5 => ∃ p cap, v = .slice p a cap | 6 => v = .int .i64 a | 7 => v = sol f | 8 => ∃ p cap, v = .slice p b cap | 9 => v = .int .i64 b | 10 => v = .int .i64 ((a : Int) + b) | 11 => v = sol f | 12 => v = .int .i64 c | 13 => v = .int .i64 ((a : Int) + b - c) | 14 => v = .bool false | _ => v = .bool false) (fun W => Below U.heap.size U W) (by kernel_rfl) (by kernel_rfl) (by kernel_rfl) hCd (by kernel_rfl) ?hst ?hop ?hend
  case hst =>
    intro jR v W W' hb hv
    rcases jR with _ | _ | _ | _ | _ | _ | _ | _ | _ | _ | _ | _ | _ | _ | _ | _ | jR
    all_goals first | exact hv | (obtain ⟨b, hr⟩ := hv; exact ⟨b, row_below hr hb⟩) | (obtain ⟨b, hr, hn⟩ := hv; exact ⟨b, row_below hr hb, hn⟩)
  case hop =>
    intro iR o ho a' W hC hin hfix
    have A3 := A_1.below hC lA
    have a0 := (A3).cell (k := 0) (by omega); have a1 := (A3).cell (k := 1) (by omega); have a2 := (A3).cell (k := 2) (by omega); have a3 := (A3).cell (k := 3) (by omega); have a4 := (A3).cell (k := 4) (by omega); have a5 := (A3).cell (k := 5) (by omega); have a6 := (A3).cell (k := 6) (by omega); have a7 := (A3).cell (k := 7) (by omega)
    have q3 : a'.tmps[3]? = some (.pointer (some ⟨w.heap.size, 0, none⟩)) := hfix 3 (by kernel_rfl)
    have q7 : a'.tmps[7]? = some (.int .i64 ((a : Int) + b - c)) := hfix 7 (by kernel_rfl)
    have hi : iR < 16 := (Array.getElem?_eq_some_iff.1 ho).1
    rcases (show iR = 0 ∨ iR = 1 ∨ iR = 2 ∨ iR = 3 ∨ iR = 4 ∨ iR = 5 ∨ iR = 6 ∨ iR = 7 ∨ iR = 8 ∨ iR = 9 ∨ iR = 10 ∨ iR = 11 ∨ iR = 12 ∨ iR = 13 ∨ iR = 14 ∨ iR = 15 by omega) with rfl | rfl | rfl | rfl | rfl | rfl | rfl | rfl | rfl | rfl | rfl | rfl | rfl | rfl | rfl | rfl
    · obtain rfl := Option.some.inj ho
      refine ⟨rfl, fun K hK => ?_⟩
      clear hin hfix ho
      go_simp
      exact hK _ _ rfl hC (Below.refl _ _)
    · obtain ⟨v0, rfl, h0⟩ := hin 0 15 (by kernel_rfl) (by kernel_rfl)
      obtain rfl := Option.some.inj ho
      refine ⟨rfl, fun K hK => ?_⟩
      clear hin hfix ho
      go_simp
      exact hK _ _ rfl hC (Below.refl _ _)
    · obtain ⟨v1, rfl, h1⟩ := hin 1 16 (by kernel_rfl) (by kernel_rfl)
      obtain rfl := Option.some.inj ho
      refine ⟨rfl, fun K hK => ?_⟩
      clear hin hfix ho
      go_simp
      exact hK _ _ rfl hC (Below.refl _ _)
    · obtain ⟨v2, rfl, h2⟩ := hin 2 17 (by kernel_rfl) (by kernel_rfl)
      obtain rfl := Option.some.inj ho
      refine ⟨wanted_at (j := 2) (t := 17) rfl (by kernel_rfl) h2, fun K hK => ?_⟩
      clear hin hfix ho
      go_simp
      exact hK _ _ rfl hC (Below.refl _ _)
    · obtain ⟨v2, rfl, h2⟩ := hin 2 17 (by kernel_rfl) (by kernel_rfl)
      obtain rfl := Option.some.inj ho
      refine ⟨wanted_at (j := 2) (t := 17) rfl (by kernel_rfl) h2, fun K hK => ?_⟩
      clear hin hfix ho
      go_simp
      exact hK _ _ rfl hC (Below.refl _ _)
    · obtain ⟨v4, rfl, h4⟩ := hin 4 19 (by kernel_rfl) (by kernel_rfl)
      obtain ⟨v2, rfl, h2⟩ := hin 2 17 (by kernel_rfl) (by kernel_rfl)
      obtain rfl := Option.some.inj ho
      refine ⟨wanted_at (j := 2) (t := 17) rfl (by kernel_rfl) h2, fun K hK => ?_⟩
      clear hin hfix ho
      go_simp
      refine (PF.out _ (HTU.out.below hC (Nat.le_refl _))).mono ?_
      rintro e W2 ⟨he, hb⟩
      obtain ⟨p, cap, rfl⟩ := he
      exact hK _ _ ⟨p, cap, rfl⟩ (hC.trans (hb.mono hC.size)) hb
    · obtain ⟨v5, ⟨p5, cap5, rfl⟩, h5⟩ := hin 5 20 (by kernel_rfl) (by kernel_rfl)
      obtain ⟨v2, rfl, h2⟩ := hin 2 17 (by kernel_rfl) (by kernel_rfl)
      obtain rfl := Option.some.inj ho
      refine ⟨wanted_at (j := 2) (t := 17) rfl (by kernel_rfl) h2, fun K hK => ?_⟩
      clear hin hfix ho
      go_simp
      exact hK _ _ rfl hC (Below.refl _ _)
    · obtain ⟨v2, rfl, h2⟩ := hin 2 17 (by kernel_rfl) (by kernel_rfl)
      obtain rfl := Option.some.inj ho
      refine ⟨wanted_at (j := 2) (t := 17) rfl (by kernel_rfl) h2, fun K hK => ?_⟩
      clear hin hfix ho
      go_simp
      exact hK _ _ rfl hC (Below.refl _ _)
    · obtain ⟨v7, rfl, h7⟩ := hin 7 22 (by kernel_rfl) (by kernel_rfl)
      obtain ⟨v2, rfl, h2⟩ := hin 2 17 (by kernel_rfl) (by kernel_rfl)
      obtain rfl := Option.some.inj ho
      refine ⟨wanted_at (j := 2) (t := 17) rfl (by kernel_rfl) h2, fun K hK => ?_⟩
      clear hin hfix ho
      go_simp
      refine (VF.out _ (HTU.out.below hC (Nat.le_refl _))).mono ?_
      rintro e W2 ⟨he, hb⟩
      obtain ⟨p, cap, rfl⟩ := he
      exact hK _ _ ⟨p, cap, rfl⟩ (hC.trans (hb.mono hC.size)) hb
    · obtain ⟨v8, ⟨p8, cap8, rfl⟩, h8⟩ := hin 8 23 (by kernel_rfl) (by kernel_rfl)
      obtain ⟨v2, rfl, h2⟩ := hin 2 17 (by kernel_rfl) (by kernel_rfl)
      obtain rfl := Option.some.inj ho
      refine ⟨wanted_at (j := 2) (t := 17) rfl (by kernel_rfl) h2, fun K hK => ?_⟩
      clear hin hfix ho
      go_simp
      exact hK _ _ rfl hC (Below.refl _ _)
    · obtain ⟨v6, rfl, h6⟩ := hin 6 21 (by kernel_rfl) (by kernel_rfl)
      obtain ⟨v9, rfl, h9⟩ := hin 9 24 (by kernel_rfl) (by kernel_rfl)
      obtain ⟨v2, rfl, h2⟩ := hin 2 17 (by kernel_rfl) (by kernel_rfl)
      obtain rfl := Option.some.inj ho
      refine ⟨wanted_at (j := 2) (t := 17) rfl (by kernel_rfl) h2, fun K hK => ?_⟩
      clear hin hfix ho
      go_simp
      exact hK _ _ rfl hC (Below.refl _ _)
    · obtain ⟨v2, rfl, h2⟩ := hin 2 17 (by kernel_rfl) (by kernel_rfl)
      obtain rfl := Option.some.inj ho
      refine ⟨wanted_at (j := 2) (t := 17) rfl (by kernel_rfl) h2, fun K hK => ?_⟩
      clear hin hfix ho
      go_simp
      exact hK _ _ rfl hC (Below.refl _ _)
    · obtain ⟨v11, rfl, h11⟩ := hin 11 26 (by kernel_rfl) (by kernel_rfl)
      obtain ⟨v2, rfl, h2⟩ := hin 2 17 (by kernel_rfl) (by kernel_rfl)
      obtain rfl := Option.some.inj ho
      refine ⟨wanted_at (j := 2) (t := 17) rfl (by kernel_rfl) h2, fun K hK => ?_⟩
      clear hin hfix ho
      go_simp
      refine (EF.out _ (HTU.out.below hC (Nat.le_refl _))).mono ?_
      rintro e W2 ⟨rfl, hb⟩
      exact hK _ _ rfl (hC.trans (hb.mono hC.size)) hb
    · obtain ⟨v10, rfl, h10⟩ := hin 10 25 (by kernel_rfl) (by kernel_rfl)
      obtain ⟨v12, rfl, h12⟩ := hin 12 27 (by kernel_rfl) (by kernel_rfl)
      obtain ⟨v2, rfl, h2⟩ := hin 2 17 (by kernel_rfl) (by kernel_rfl)
      obtain rfl := Option.some.inj ho
      refine ⟨wanted_at (j := 2) (t := 17) rfl (by kernel_rfl) h2, fun K hK => ?_⟩
      clear hin hfix ho
      go_simp
      exact hK _ _ rfl hC (Below.refl _ _)
    · obtain ⟨v3, rfl, h3⟩ := hin 3 18 (by kernel_rfl) (by kernel_rfl)
      obtain ⟨v13, rfl, h13⟩ := hin 13 28 (by kernel_rfl) (by kernel_rfl)
      obtain ⟨v2, rfl, h2⟩ := hin 2 17 (by kernel_rfl) (by kernel_rfl)
      obtain rfl := Option.some.inj ho
      refine ⟨wanted_at (j := 2) (t := 17) rfl (by kernel_rfl) h2, fun K hK => ?_⟩
      clear hin hfix ho
      go_simp
      exact hK _ _ rfl hC (Below.refl _ _)
    · obtain ⟨v2, rfl, h2⟩ := hin 2 17 (by kernel_rfl) (by kernel_rfl)
      obtain ⟨v14, rfl, h14⟩ := hin 14 29 (by kernel_rfl) (by kernel_rfl)
      obtain rfl := Option.some.inj ho
      refine ⟨rfl, fun K hK => ?_⟩
      clear hin hfix ho
      go_simp
      exact hK _ _ rfl hC (Below.refl _ _)
  case hend =>
  intro vals W hC hV
  have z0 := hV 0 (by decide)
  have z1 := hV 1 (by decide)
  have z2 := hV 2 (by decide)
  have z3 := hV 3 (by decide)
  have z4 := hV 4 (by decide)
  have z6 := hV 6 (by decide)
  have z7 := hV 7 (by decide)
  have z9 := hV 9 (by decide)
  have z10 := hV 10 (by decide)
  have z11 := hV 11 (by decide)
  have z12 := hV 12 (by decide)
  have z13 := hV 13 (by decide)
  have z14 := hV 14 (by decide)
  have z15 := hV 15 (by decide)
  clear hV
  simp only at z0 z1 z2 z3 z4 z6 z7 z9 z10 z11 z12 z13 z14 z15 
  have hr : List.range 16 = [0, 1, 2, 3, 4, 5, 6, 7, 8, 9, 10, 11, 12, 13, 14, 15] := rfl
  simp only [List.size_toArray, List.length_cons, List.length_nil, Nat.reduceAdd, List.drop_succ_cons, List.drop_zero, putA, hr, List.foldl_cons, List.foldl_nil, dstR, List.getElem?_toArray, List.getElem?_cons_succ, List.getElem?_cons_zero, Option.bind_some, Act.put, List.setIfInBounds_toArray, List.set_cons_succ, List.set_cons_zero, z0, z1, z2, z3, z4, z6, z7, z9, z10, z11, z12, z13, z14, z15]
  clear hr z0 z1 z2 z3 z4 z6 z7 z9 z10 z11 z12 z13 z14 z15
  obtain ⟨x5, hx5⟩ : ∃ v, v = vals 5 := ⟨_, rfl⟩
  obtain ⟨x8, hx8⟩ : ∃ v, v = vals 8 := ⟨_, rfl⟩
  rw [← hx5, ← hx8]
  clear hx5 hx8 vals
  have A_2 := A_1.below hC lA
  have M_2 := blk_below M_1 hC (blk_lt M_1)
  have hB2 : Below w.heap.size w W := up hC hB1
  clear A_1 M_1 hB1 hC hCd lA HTU
  obtain ⟨w2, hw2⟩ : ∃ X, X = W := ⟨_, rfl⟩
  subst hw2
  have cA0 := (A_2).cell (k := 0) (by omega); have cA1 := (A_2).cell (k := 1) (by omega); have cA2 := (A_2).cell (k := 2) (by omega); have cA3 := (A_2).cell (k := 3) (by omega); have cA4 := (A_2).cell (k := 4) (by omega); have cA5 := (A_2).cell (k := 5) (by omega); have cA6 := (A_2).cell (k := 6) (by omega); have cA7 := (A_2).cell (k := 7) (by omega)
  have cM0 := blk_cell (k := 0) M_2
  have cM1 := blk_cell (k := 1) M_2
  have cM2 := blk_cell (k := 2) M_2
  have cM3 := blk_cell (k := 3) M_2
  simp only [List.getElem?_toArray, List.getElem?_cons_zero, List.getElem?_cons_succ] at cM0 cM1 cM2 cM3
  go_wp2_with fail
  clear cA0 cA1 cA2 cA3 cA4 cA5 cA6 cA7 cM0 cM1 cM2 cM3
  refine (H1.out _ (HT.out.below hB2 (Nat.le_refl _))).mono ?_
  rintro e w3 ⟨rfl, b3⟩
  have lwA3 : w.heap.size < w3.heap.size := Nat.lt_of_lt_of_le A_2.lt b3.size
  have A_pre := A_2.below b3 A_2.lt
  have cA0 := (A_pre).cell (k := 0) (by omega); have cA1 := (A_pre).cell (k := 1) (by omega); have cA2 := (A_pre).cell (k := 2) (by omega); have cA3 := (A_pre).cell (k := 3) (by omega); have cA4 := (A_pre).cell (k := 4) (by omega); have cA5 := (A_pre).cell (k := 5) (by omega); have cA6 := (A_pre).cell (k := 6) (by omega); have cA7 := (A_pre).cell (k := 7) (by omega)
  go_upto_region 7 with fail
  clear cA0 cA1 cA2 cA3 cA4 cA5 cA6 cA7
  clear A_pre
  have A_3 := (A_2.below b3 A_2.lt).alloc (.cells (solC f) 24)
  have hB3q : Below w.heap.size w w3 := up b3 hB2
  have hB3 := hB3q.alloc hB3q.size (.cells (solC f) 24)
  clear A_2 M_2 hB2 b3 hB3q
  have P_3 : BoxS (w3.alloc (.cells (solC f) 24)) w3.heap.size f := BoxS.new _ _
  obtain ⟨w4, hw4⟩ : ∃ X, X = (w3.alloc (.cells (solC f) 24)) := ⟨_, rfl⟩
  rw [← hw4] at A_3 P_3 hB3 ⊢
  clear hw4
  have A_4 := A_3; have P_4 := P_3; have hB4 := hB3
  clear A_3 P_3 hB3
  have cP0 := (P_4).cell (k := 0) (by omega); have cP1 := (P_4).cell (k := 1) (by omega); have cP2 := (P_4).cell (k := 2) (by omega); have cP3 := (P_4).cell (k := 3) (by omega); have cP4 := (P_4).cell (k := 4) (by omega); have cP5 := (P_4).cell (k := 5) (by omega); have cP6 := (P_4).cell (k := 6) (by omega); have cP7 := (P_4).cell (k := 7) (by omega)
  go_wp2_with fail
  clear cP0 cP1 cP2 cP3 cP4 cP5 cP6 cP7
  refine (H2.out _ (HT.out.below hB4 (Nat.le_refl _))).mono ?_
  rintro e w5 ⟨rfl, b5⟩
  have lwA5 : w.heap.size < w5.heap.size := Nat.lt_of_lt_of_le A_4.lt b5.size
  have lwP5 : w3.heap.size < w5.heap.size := Nat.lt_of_lt_of_le P_4.lt b5.size
  have P_pre := P_4.below b5 P_4.lt
  have cP0 := (P_pre).cell (k := 0) (by omega); have cP1 := (P_pre).cell (k := 1) (by omega); have cP2 := (P_pre).cell (k := 2) (by omega); have cP3 := (P_pre).cell (k := 3) (by omega); have cP4 := (P_pre).cell (k := 4) (by omega); have cP5 := (P_pre).cell (k := 5) (by omega); have cP6 := (P_pre).cell (k := 6) (by omega); have cP7 := (P_pre).cell (k := 7) (by omega)
  go_upto_region 10 with fail
  clear cP0 cP1 cP2 cP3 cP4 cP5 cP6 cP7
  clear P_pre
  have A_5 := (A_4.below b5 A_4.lt).alloc (.cells (solC f) 24)
  have P_5 := (P_4.below b5 P_4.lt).alloc (.cells (solC f) 24)
  have hB5q : Below w.heap.size w w5 := up b5 hB4
  have hB5 := hB5q.alloc hB5q.size (.cells (solC f) 24)
  clear A_4 P_4 hB4 b5 hB5q
  have Q_5 : BoxS (w5.alloc (.cells (solC f) 24)) w5.heap.size f := BoxS.new _ _
  obtain ⟨w6, hw6⟩ : ∃ X, X = (w5.alloc (.cells (solC f) 24)) := ⟨_, rfl⟩
  rw [← hw6] at A_5 P_5 Q_5 hB5 ⊢
  clear hw6
  have A_6 := A_5; have P_6 := P_5; have Q_6 := Q_5; have hB6 := hB5
  clear A_5 P_5 Q_5 hB5
  clear P_6
  obtain ⟨z, hz⟩ : ∃ z, z = w5.heap.size := ⟨_, rfl⟩
  rw [← hz] at Q_6 ⊢
  clear hz
  have hm1 := HM0.out
  subst hm1
  obtain ⟨U, hU⟩ : ∃ U, U = w6 := ⟨_, rfl⟩
  subst hU
  have lA : w.heap.size < U.heap.size := A_6.lt
  have lQ : z < U.heap.size := Q_6.lt
  have HTU := Lib.hid (HT.out.below hB6 (Nat.le_refl _))
  have hCd : Below U.heap.size U U.drew := Below.drew (Below.refl _ _)
  refine wp_region_relW (fun (iR : Nat) (v : Value) (W : World) => match iR with | 0 => v = sol f | 1 => v = .int .i64 ((n : Nat) : Int) | 2 => v = sol f | 3 => v = .int .i64 ((n : Nat) : Int) | 4 => v = .bool true | 5 => v = .bool true | 6 => v = sol f | 7 => ∃ p cap, v = .slice p a cap | 8 => v = .int .i64 a | 9 => v = sol f | 10 => ∃ p cap, v = .slice p a cap | 11 => v = .int .i64 a | 12 => v = .bool true | 13 => v = .bool true | 14 => v = .bool true | 15 => v = sol f | 16 => v = .int .i64 ((a : Int) + b - c) | 17 => v = .int .i64 ((a : Int) + b - c) | 18 => v = .bool true | 19 => v = .bool true | 20 => v = .bool true | 21 => v = sol f | 22 => v = .int .i64 ((s : Nat) : Int) | 23 => v = sol f | 24 => v = .int .i64 ((s : Nat) : Int) | 25 => v = .bool true | 26 => v = .bool true | _ => v = .bool true) (fun W => Below U.heap.size U W) (by kernel_rfl) (by kernel_rfl) (by kernel_rfl) hCd (by kernel_rfl) ?hst ?hop ?hend
  case hst =>
    intro jR v W W' hb hv
    rcases jR with _ | _ | _ | _ | _ | _ | _ | _ | _ | _ | _ | _ | _ | _ | _ | _ | _ | _ | _ | _ | _ | _ | _ | _ | _ | _ | _ | _ | jR
    all_goals first | exact hv | (obtain ⟨b, hr⟩ := hv; exact ⟨b, row_below hr hb⟩) | (obtain ⟨b, hr, hn⟩ := hv; exact ⟨b, row_below hr hb, hn⟩)
  case hop =>
    intro iR o ho a' W hC hin hfix
    have A3 := A_6.below hC lA
    have a0 := (A3).cell (k := 0) (by omega); have a1 := (A3).cell (k := 1) (by omega); have a2 := (A3).cell (k := 2) (by omega); have a3 := (A3).cell (k := 3) (by omega); have a4 := (A3).cell (k := 4) (by omega); have a5 := (A3).cell (k := 5) (by omega); have a6 := (A3).cell (k := 6) (by omega); have a7 := (A3).cell (k := 7) (by omega)
    have Q3 := Q_6.below hC lQ
    have b0 := (Q3).cell (k := 0) (by omega); have b1 := (Q3).cell (k := 1) (by omega); have b2 := (Q3).cell (k := 2) (by omega); have b3 := (Q3).cell (k := 3) (by omega); have b4 := (Q3).cell (k := 4) (by omega); have b5 := (Q3).cell (k := 5) (by omega); have b6 := (Q3).cell (k := 6) (by omega); have b7 := (Q3).cell (k := 7) (by omega)
    have q3 : a'.tmps[3]? = some (.pointer (some ⟨w.heap.size, 0, none⟩)) := hfix 3 (by kernel_rfl)
    have q7 : a'.tmps[7]? = some (.int .i64 ((a : Int) + b - c)) := hfix 7 (by kernel_rfl)
    have q10 : a'.tmps[10]? = some (.pointer (some ⟨z, 0, none⟩)) := hfix 10 (by kernel_rfl)
    have hi : iR < 28 := (Array.getElem?_eq_some_iff.1 ho).1
    rcases (show iR = 0 ∨ iR = 1 ∨ iR = 2 ∨ iR = 3 ∨ iR = 4 ∨ iR = 5 ∨ iR = 6 ∨ iR = 7 ∨ iR = 8 ∨ iR = 9 ∨ iR = 10 ∨ iR = 11 ∨ iR = 12 ∨ iR = 13 ∨ iR = 14 ∨ iR = 15 ∨ iR = 16 ∨ iR = 17 ∨ iR = 18 ∨ iR = 19 ∨ iR = 20 ∨ iR = 21 ∨ iR = 22 ∨ iR = 23 ∨ iR = 24 ∨ iR = 25 ∨ iR = 26 ∨ iR = 27 by omega) with rfl | rfl | rfl | rfl | rfl | rfl | rfl | rfl | rfl | rfl | rfl | rfl | rfl | rfl | rfl | rfl | rfl | rfl | rfl | rfl | rfl | rfl | rfl | rfl | rfl | rfl | rfl | rfl
    · obtain rfl := Option.some.inj ho
      refine ⟨rfl, fun K hK => ?_⟩
      clear hin hfix ho
      go_simp
      exact hK _ _ rfl hC (Below.refl _ _)
    · obtain ⟨v0, rfl, h0⟩ := hin 0 49 (by kernel_rfl) (by kernel_rfl)
      obtain rfl := Option.some.inj ho
      refine ⟨rfl, fun K hK => ?_⟩
      clear hin hfix ho
      go_simp
      refine (NMC.out _).mono ?_
      rintro e W2 ⟨rfl, hb⟩
      exact hK _ _ rfl (hC.trans (hb.mono hC.size)) hb
    · obtain rfl := Option.some.inj ho
      refine ⟨rfl, fun K hK => ?_⟩
      clear hin hfix ho
      go_simp
      exact hK _ _ rfl hC (Below.refl _ _)
    · obtain ⟨v2, rfl, h2⟩ := hin 2 51 (by kernel_rfl) (by kernel_rfl)
      obtain rfl := Option.some.inj ho
      refine ⟨rfl, fun K hK => ?_⟩
      clear hin hfix ho
      go_simp
      refine (NFC.out _).mono ?_
      rintro e W2 ⟨rfl, hb⟩
      exact hK _ _ rfl (hC.trans (hb.mono hC.size)) hb
    · obtain ⟨v1, rfl, h1⟩ := hin 1 50 (by kernel_rfl) (by kernel_rfl)
      obtain ⟨v3, rfl, h3⟩ := hin 3 52 (by kernel_rfl) (by kernel_rfl)
      obtain rfl := Option.some.inj ho
      refine ⟨rfl, fun K hK => ?_⟩
      clear hin hfix ho
      go_simp
      exact hK _ _ rfl hC (Below.refl _ _)
    · obtain ⟨v4, rfl, h4⟩ := hin 4 53 (by kernel_rfl) (by kernel_rfl)
      obtain rfl := Option.some.inj ho
      refine ⟨rfl, fun K hK => ?_⟩
      clear hin hfix ho
      go_simp
      exact hK _ _ rfl hC (Below.refl _ _)
    · obtain ⟨v5, rfl, h5⟩ := hin 5 54 (by kernel_rfl) (by kernel_rfl)
      obtain rfl := Option.some.inj ho
      refine ⟨wanted_at (j := 5) (t := 54) rfl (by kernel_rfl) h5, fun K hK => ?_⟩
      clear hin hfix ho
      go_simp
      exact hK _ _ rfl hC (Below.refl _ _)
    · obtain ⟨v6, rfl, h6⟩ := hin 6 55 (by kernel_rfl) (by kernel_rfl)
      obtain ⟨v5, rfl, h5⟩ := hin 5 54 (by kernel_rfl) (by kernel_rfl)
      obtain rfl := Option.some.inj ho
      refine ⟨wanted_at (j := 5) (t := 54) rfl (by kernel_rfl) h5, fun K hK => ?_⟩
      clear hin hfix ho
      go_simp
      refine (PM.out _ (HTU.out.below hC (Nat.le_refl _))).mono ?_
      rintro e W2 ⟨he, hb⟩
      obtain ⟨p, cap, rfl⟩ := he
      exact hK _ _ ⟨p, cap, rfl⟩ (hC.trans (hb.mono hC.size)) hb
    · obtain ⟨v7, ⟨p7, cap7, rfl⟩, h7⟩ := hin 7 56 (by kernel_rfl) (by kernel_rfl)
      obtain ⟨v5, rfl, h5⟩ := hin 5 54 (by kernel_rfl) (by kernel_rfl)
      obtain rfl := Option.some.inj ho
      refine ⟨wanted_at (j := 5) (t := 54) rfl (by kernel_rfl) h5, fun K hK => ?_⟩
      clear hin hfix ho
      go_simp
      exact hK _ _ rfl hC (Below.refl _ _)
    · obtain ⟨v5, rfl, h5⟩ := hin 5 54 (by kernel_rfl) (by kernel_rfl)
      obtain rfl := Option.some.inj ho
      refine ⟨wanted_at (j := 5) (t := 54) rfl (by kernel_rfl) h5, fun K hK => ?_⟩
      clear hin hfix ho
      go_simp
      exact hK _ _ rfl hC (Below.refl _ _)
    · obtain ⟨v9, rfl, h9⟩ := hin 9 58 (by kernel_rfl) (by kernel_rfl)
      obtain ⟨v5, rfl, h5⟩ := hin 5 54 (by kernel_rfl) (by kernel_rfl)
      obtain rfl := Option.some.inj ho
      refine ⟨wanted_at (j := 5) (t := 54) rfl (by kernel_rfl) h5, fun K hK => ?_⟩
      clear hin hfix ho
      go_simp
      refine (PF.out _ (HTU.out.below hC (Nat.le_refl _))).mono ?_
      rintro e W2 ⟨he, hb⟩
      obtain ⟨p, cap, rfl⟩ := he
      exact hK _ _ ⟨p, cap, rfl⟩ (hC.trans (hb.mono hC.size)) hb
    · obtain ⟨v10, ⟨p10, cap10, rfl⟩, h10⟩ := hin 10 59 (by kernel_rfl) (by kernel_rfl)
      obtain ⟨v5, rfl, h5⟩ := hin 5 54 (by kernel_rfl) (by kernel_rfl)
      obtain rfl := Option.some.inj ho
      refine ⟨wanted_at (j := 5) (t := 54) rfl (by kernel_rfl) h5, fun K hK => ?_⟩
      clear hin hfix ho
      go_simp
      exact hK _ _ rfl hC (Below.refl _ _)
    · obtain ⟨v8, rfl, h8⟩ := hin 8 57 (by kernel_rfl) (by kernel_rfl)
      obtain ⟨v11, rfl, h11⟩ := hin 11 60 (by kernel_rfl) (by kernel_rfl)
      obtain ⟨v5, rfl, h5⟩ := hin 5 54 (by kernel_rfl) (by kernel_rfl)
      obtain rfl := Option.some.inj ho
      refine ⟨wanted_at (j := 5) (t := 54) rfl (by kernel_rfl) h5, fun K hK => ?_⟩
      clear hin hfix ho
      go_simp
      exact hK _ _ rfl hC (Below.refl _ _)
    · obtain ⟨v5, rfl, h5⟩ := hin 5 54 (by kernel_rfl) (by kernel_rfl)
      obtain ⟨v12, rfl, h12⟩ := hin 12 61 (by kernel_rfl) (by kernel_rfl)
      obtain rfl := Option.some.inj ho
      refine ⟨rfl, fun K hK => ?_⟩
      clear hin hfix ho
      go_simp
      exact hK _ _ rfl hC (Below.refl _ _)
    · obtain ⟨v13, rfl, h13⟩ := hin 13 62 (by kernel_rfl) (by kernel_rfl)
      obtain rfl := Option.some.inj ho
      refine ⟨rfl, fun K hK => ?_⟩
      clear hin hfix ho
      go_simp
      exact hK _ _ rfl hC (Below.refl _ _)
    · obtain ⟨v14, rfl, h14⟩ := hin 14 63 (by kernel_rfl) (by kernel_rfl)
      obtain rfl := Option.some.inj ho
      refine ⟨wanted_at (j := 14) (t := 63) rfl (by kernel_rfl) h14, fun K hK => ?_⟩
      clear hin hfix ho
      go_simp
      exact hK _ _ rfl hC (Below.refl _ _)
    · obtain ⟨v15, rfl, h15⟩ := hin 15 64 (by kernel_rfl) (by kernel_rfl)
      obtain ⟨v14, rfl, h14⟩ := hin 14 63 (by kernel_rfl) (by kernel_rfl)
      obtain rfl := Option.some.inj ho
      refine ⟨wanted_at (j := 14) (t := 63) rfl (by kernel_rfl) h14, fun K hK => ?_⟩
      clear hin hfix ho
      go_simp
      refine (TM.out _ (HTU.out.below hC (Nat.le_refl _))).mono ?_
      rintro e W2 ⟨rfl, hb⟩
      exact hK _ _ rfl (hC.trans (hb.mono hC.size)) hb
    · obtain ⟨v14, rfl, h14⟩ := hin 14 63 (by kernel_rfl) (by kernel_rfl)
      obtain rfl := Option.some.inj ho
      refine ⟨wanted_at (j := 14) (t := 63) rfl (by kernel_rfl) h14, fun K hK => ?_⟩
      clear hin hfix ho
      go_simp
      exact hK _ _ rfl hC (Below.refl _ _)
    · obtain ⟨v16, rfl, h16⟩ := hin 16 65 (by kernel_rfl) (by kernel_rfl)
      obtain ⟨v17, rfl, h17⟩ := hin 17 66 (by kernel_rfl) (by kernel_rfl)
      obtain ⟨v14, rfl, h14⟩ := hin 14 63 (by kernel_rfl) (by kernel_rfl)
      obtain rfl := Option.some.inj ho
      refine ⟨wanted_at (j := 14) (t := 63) rfl (by kernel_rfl) h14, fun K hK => ?_⟩
      clear hin hfix ho
      go_simp
      exact hK _ _ rfl hC (Below.refl _ _)
    · obtain ⟨v14, rfl, h14⟩ := hin 14 63 (by kernel_rfl) (by kernel_rfl)
      obtain ⟨v18, rfl, h18⟩ := hin 18 67 (by kernel_rfl) (by kernel_rfl)
      obtain rfl := Option.some.inj ho
      refine ⟨rfl, fun K hK => ?_⟩
      clear hin hfix ho
      go_simp
      exact hK _ _ rfl hC (Below.refl _ _)
    · obtain ⟨v19, rfl, h19⟩ := hin 19 68 (by kernel_rfl) (by kernel_rfl)
      obtain rfl := Option.some.inj ho
      refine ⟨rfl, fun K hK => ?_⟩
      clear hin hfix ho
      go_simp
      exact hK _ _ rfl hC (Below.refl _ _)
    · obtain ⟨v20, rfl, h20⟩ := hin 20 69 (by kernel_rfl) (by kernel_rfl)
      obtain rfl := Option.some.inj ho
      refine ⟨wanted_at (j := 20) (t := 69) rfl (by kernel_rfl) h20, fun K hK => ?_⟩
      clear hin hfix ho
      go_simp
      exact hK _ _ rfl hC (Below.refl _ _)
    · obtain ⟨v21, rfl, h21⟩ := hin 21 70 (by kernel_rfl) (by kernel_rfl)
      obtain ⟨v20, rfl, h20⟩ := hin 20 69 (by kernel_rfl) (by kernel_rfl)
      obtain rfl := Option.some.inj ho
      refine ⟨wanted_at (j := 20) (t := 69) rfl (by kernel_rfl) h20, fun K hK => ?_⟩
      clear hin hfix ho
      go_simp
      refine (SMC.out _ (HTU.out.below hC (Nat.le_refl _))).mono ?_
      rintro e W2 ⟨rfl, hb⟩
      exact hK _ _ rfl (hC.trans (hb.mono hC.size)) hb
    · obtain ⟨v20, rfl, h20⟩ := hin 20 69 (by kernel_rfl) (by kernel_rfl)
      obtain rfl := Option.some.inj ho
      refine ⟨wanted_at (j := 20) (t := 69) rfl (by kernel_rfl) h20, fun K hK => ?_⟩
      clear hin hfix ho
      go_simp
      exact hK _ _ rfl hC (Below.refl _ _)
    · obtain ⟨v23, rfl, h23⟩ := hin 23 72 (by kernel_rfl) (by kernel_rfl)
      obtain ⟨v20, rfl, h20⟩ := hin 20 69 (by kernel_rfl) (by kernel_rfl)
      obtain rfl := Option.some.inj ho
      refine ⟨wanted_at (j := 20) (t := 69) rfl (by kernel_rfl) h20, fun K hK => ?_⟩
      clear hin hfix ho
      go_simp
      refine (SFC.out _ (HTU.out.below hC (Nat.le_refl _))).mono ?_
      rintro e W2 ⟨rfl, hb⟩
      exact hK _ _ rfl (hC.trans (hb.mono hC.size)) hb
    · obtain ⟨v22, rfl, h22⟩ := hin 22 71 (by kernel_rfl) (by kernel_rfl)
      obtain ⟨v24, rfl, h24⟩ := hin 24 73 (by kernel_rfl) (by kernel_rfl)
      obtain ⟨v20, rfl, h20⟩ := hin 20 69 (by kernel_rfl) (by kernel_rfl)
      obtain rfl := Option.some.inj ho
      refine ⟨wanted_at (j := 20) (t := 69) rfl (by kernel_rfl) h20, fun K hK => ?_⟩
      clear hin hfix ho
      go_simp
      exact hK _ _ rfl hC (Below.refl _ _)
    · obtain ⟨v20, rfl, h20⟩ := hin 20 69 (by kernel_rfl) (by kernel_rfl)
      obtain ⟨v25, rfl, h25⟩ := hin 25 74 (by kernel_rfl) (by kernel_rfl)
      obtain rfl := Option.some.inj ho
      refine ⟨rfl, fun K hK => ?_⟩
      clear hin hfix ho
      go_simp
      exact hK _ _ rfl hC (Below.refl _ _)
    · obtain ⟨v26, rfl, h26⟩ := hin 26 75 (by kernel_rfl) (by kernel_rfl)
      obtain rfl := Option.some.inj ho
      refine ⟨rfl, fun K hK => ?_⟩
      clear hin hfix ho
      go_simp
      exact hK _ _ rfl hC (Below.refl _ _)
  case hend =>
  intro vals W hC hV
  have z0 := hV 0 (by decide)
  have z1 := hV 1 (by decide)
  have z2 := hV 2 (by decide)
  have z3 := hV 3 (by decide)
  have z4 := hV 4 (by decide)
  have z5 := hV 5 (by decide)
  have z6 := hV 6 (by decide)
  have z8 := hV 8 (by decide)
  have z9 := hV 9 (by decide)
  have z11 := hV 11 (by decide)
  have z12 := hV 12 (by decide)
  have z13 := hV 13 (by decide)
  have z14 := hV 14 (by decide)
  have z15 := hV 15 (by decide)
  have z16 := hV 16 (by decide)
  have z17 := hV 17 (by decide)
  have z18 := hV 18 (by decide)
  have z19 := hV 19 (by decide)
  have z20 := hV 20 (by decide)
  have z21 := hV 21 (by decide)
  have z22 := hV 22 (by decide)
  have z23 := hV 23 (by decide)
  have z24 := hV 24 (by decide)
  have z25 := hV 25 (by decide)
  have z26 := hV 26 (by decide)
  have z27 := hV 27 (by decide)
  clear hV
  simp only at z0 z1 z2 z3 z4 z5 z6 z8 z9 z11 z12 z13 z14 z15 z16 z17 z18 z19 z20 z21 z22 z23 z24 z25 z26 z27 
  have hr : List.range 28 = [0, 1, 2, 3, 4, 5, 6, 7, 8, 9, 10, 11, 12, 13, 14, 15, 16, 17, 18, 19, 20, 21, 22, 23, 24, 25, 26, 27] := rfl
  simp only [List.size_toArray, List.length_cons, List.length_nil, Nat.reduceAdd, List.drop_succ_cons, List.drop_zero, putA, hr, List.foldl_cons, List.foldl_nil, dstR, List.getElem?_toArray, List.getElem?_cons_succ, List.getElem?_cons_zero, Option.bind_some, Act.put, List.setIfInBounds_toArray, List.set_cons_succ, List.set_cons_zero, z0, z1, z2, z3, z4, z5, z6, z8, z9, z11, z12, z13, z14, z15, z16, z17, z18, z19, z20, z21, z22, z23, z24, z25, z26, z27]
  clear hr z0 z1 z2 z3 z4 z5 z6 z8 z9 z11 z12 z13 z14 z15 z16 z17 z18 z19 z20 z21 z22 z23 z24 z25 z26 z27
  obtain ⟨x7, hx7⟩ : ∃ v, v = vals 7 := ⟨_, rfl⟩
  obtain ⟨x10, hx10⟩ : ∃ v, v = vals 10 := ⟨_, rfl⟩
  rw [← hx7, ← hx10]
  clear hx7 hx10 vals
  have A_7 := A_6.below hC lA
  have Q_7 := Q_6.below hC lQ
  have hB7 : Below w.heap.size w W := up hC hB6
  clear A_6 Q_6 hB6 hC hCd lA lQ HTU
  go_upto_region 11 with fail
  obtain ⟨w7, hw7⟩ : ∃ X, X = W := ⟨_, rfl⟩
  subst hw7
  obtain ⟨U, hU⟩ : ∃ U, U = w7 := ⟨_, rfl⟩
  subst hU
  have lA : w.heap.size < U.heap.size := A_7.lt
  have lQ : z < U.heap.size := Q_7.lt
  have HTU := Lib.hid (HT.out.below hB7 (Nat.le_refl _))
  have hCd : Below U.heap.size U U.drew := Below.drew (Below.refl _ _)
  refine wp_region_relW (fun (iR : Nat) (v : Value) (W : World) => match iR with | 0 => v = .bool true | 1 => v = .bool true | 2 => v = .bool true | 3 => v = .bool true | 4 => v = .bool true | 5 => v = sol f | 6 => ∃ p cap, v = .slice p b cap | 7 => v = .int .i64 b | 8 => v = sol f | 9 => ∃ p cap, v = .slice p b cap | 10 => v = .int .i64 b | 11 => v = .bool true | 12 => v = .bool true | _ => v = .bool true) (fun W => Below U.heap.size U W) (by kernel_rfl) (by kernel_rfl) (by kernel_rfl) hCd (by kernel_rfl) ?hst ?hop ?hend
  case hst =>
    intro jR v W W' hb hv
    rcases jR with _ | _ | _ | _ | _ | _ | _ | _ | _ | _ | _ | _ | _ | _ | jR
    all_goals first | exact hv | (obtain ⟨b, hr⟩ := hv; exact ⟨b, row_below hr hb⟩) | (obtain ⟨b, hr, hn⟩ := hv; exact ⟨b, row_below hr hb, hn⟩)
  case hop =>
    intro iR o ho a' W hC hin hfix
    have A3 := A_7.below hC lA
    have a0 := (A3).cell (k := 0) (by omega); have a1 := (A3).cell (k := 1) (by omega); have a2 := (A3).cell (k := 2) (by omega); have a3 := (A3).cell (k := 3) (by omega); have a4 := (A3).cell (k := 4) (by omega); have a5 := (A3).cell (k := 5) (by omega); have a6 := (A3).cell (k := 6) (by omega); have a7 := (A3).cell (k := 7) (by omega)
    have Q3 := Q_7.below hC lQ
    have b0 := (Q3).cell (k := 0) (by omega); have b1 := (Q3).cell (k := 1) (by omega); have b2 := (Q3).cell (k := 2) (by omega); have b3 := (Q3).cell (k := 3) (by omega); have b4 := (Q3).cell (k := 4) (by omega); have b5 := (Q3).cell (k := 5) (by omega); have b6 := (Q3).cell (k := 6) (by omega); have b7 := (Q3).cell (k := 7) (by omega)
    have q3 : a'.tmps[3]? = some (.pointer (some ⟨w.heap.size, 0, none⟩)) := hfix 3 (by kernel_rfl)
    have q10 : a'.tmps[10]? = some (.pointer (some ⟨z, 0, none⟩)) := hfix 10 (by kernel_rfl)
    have q12 : a'.tmps[12]? = some (.bool true) := hfix 12 (by kernel_rfl)
    have hi : iR < 14 := (Array.getElem?_eq_some_iff.1 ho).1
    rcases (show iR = 0 ∨ iR = 1 ∨ iR = 2 ∨ iR = 3 ∨ iR = 4 ∨ iR = 5 ∨ iR = 6 ∨ iR = 7 ∨ iR = 8 ∨ iR = 9 ∨ iR = 10 ∨ iR = 11 ∨ iR = 12 ∨ iR = 13 by omega) with rfl | rfl | rfl | rfl | rfl | rfl | rfl | rfl | rfl | rfl | rfl | rfl | rfl | rfl
    · obtain rfl := Option.some.inj ho
      refine ⟨rfl, fun K hK => ?_⟩
      clear hin hfix ho
      go_simp
      refine (HC.out _ (HTU.out.below hC (Nat.le_refl _))).mono ?_
      rintro e W2 ⟨rfl, hb⟩
      exact hK _ _ rfl (hC.trans (hb.mono hC.size)) hb
    · obtain ⟨v0, rfl, h0⟩ := hin 0 76 (by kernel_rfl) (by kernel_rfl)
      obtain rfl := Option.some.inj ho
      refine ⟨rfl, fun K hK => ?_⟩
      clear hin hfix ho
      go_simp
      exact hK _ _ rfl hC (Below.refl _ _)
    · obtain ⟨v1, rfl, h1⟩ := hin 1 77 (by kernel_rfl) (by kernel_rfl)
      obtain rfl := Option.some.inj ho
      refine ⟨wanted_at (j := 1) (t := 77) rfl (by kernel_rfl) h1, fun K hK => ?_⟩
      clear hin hfix ho
      go_simp
      exact hK _ _ rfl hC (Below.refl _ _)
    · obtain ⟨v1, rfl, h1⟩ := hin 1 77 (by kernel_rfl) (by kernel_rfl)
      obtain ⟨v2, rfl, h2⟩ := hin 2 78 (by kernel_rfl) (by kernel_rfl)
      obtain rfl := Option.some.inj ho
      refine ⟨rfl, fun K hK => ?_⟩
      clear hin hfix ho
      go_simp
      exact hK _ _ rfl hC (Below.refl _ _)
    · obtain ⟨v3, rfl, h3⟩ := hin 3 79 (by kernel_rfl) (by kernel_rfl)
      obtain rfl := Option.some.inj ho
      refine ⟨rfl, fun K hK => ?_⟩
      clear hin hfix ho
      go_simp
      exact hK _ _ rfl hC (Below.refl _ _)
    · obtain ⟨v4, rfl, h4⟩ := hin 4 80 (by kernel_rfl) (by kernel_rfl)
      obtain rfl := Option.some.inj ho
      refine ⟨wanted_at (j := 4) (t := 80) rfl (by kernel_rfl) h4, fun K hK => ?_⟩
      clear hin hfix ho
      go_simp
      exact hK _ _ rfl hC (Below.refl _ _)
    · obtain ⟨v5, rfl, h5⟩ := hin 5 81 (by kernel_rfl) (by kernel_rfl)
      obtain ⟨v4, rfl, h4⟩ := hin 4 80 (by kernel_rfl) (by kernel_rfl)
      obtain rfl := Option.some.inj ho
      refine ⟨wanted_at (j := 4) (t := 80) rfl (by kernel_rfl) h4, fun K hK => ?_⟩
      clear hin hfix ho
      go_simp
      refine (VM.out _ (HTU.out.below hC (Nat.le_refl _))).mono ?_
      rintro e W2 ⟨he, hb⟩
      obtain ⟨p, cap, rfl⟩ := he
      exact hK _ _ ⟨p, cap, rfl⟩ (hC.trans (hb.mono hC.size)) hb
    · obtain ⟨v6, ⟨p6, cap6, rfl⟩, h6⟩ := hin 6 82 (by kernel_rfl) (by kernel_rfl)
      obtain ⟨v4, rfl, h4⟩ := hin 4 80 (by kernel_rfl) (by kernel_rfl)
      obtain rfl := Option.some.inj ho
      refine ⟨wanted_at (j := 4) (t := 80) rfl (by kernel_rfl) h4, fun K hK => ?_⟩
      clear hin hfix ho
      go_simp
      exact hK _ _ rfl hC (Below.refl _ _)
    · obtain ⟨v4, rfl, h4⟩ := hin 4 80 (by kernel_rfl) (by kernel_rfl)
      obtain rfl := Option.some.inj ho
      refine ⟨wanted_at (j := 4) (t := 80) rfl (by kernel_rfl) h4, fun K hK => ?_⟩
      clear hin hfix ho
      go_simp
      exact hK _ _ rfl hC (Below.refl _ _)
    · obtain ⟨v8, rfl, h8⟩ := hin 8 84 (by kernel_rfl) (by kernel_rfl)
      obtain ⟨v4, rfl, h4⟩ := hin 4 80 (by kernel_rfl) (by kernel_rfl)
      obtain rfl := Option.some.inj ho
      refine ⟨wanted_at (j := 4) (t := 80) rfl (by kernel_rfl) h4, fun K hK => ?_⟩
      clear hin hfix ho
      go_simp
      refine (VF.out _ (HTU.out.below hC (Nat.le_refl _))).mono ?_
      rintro e W2 ⟨he, hb⟩
      obtain ⟨p, cap, rfl⟩ := he
      exact hK _ _ ⟨p, cap, rfl⟩ (hC.trans (hb.mono hC.size)) hb
    · obtain ⟨v9, ⟨p9, cap9, rfl⟩, h9⟩ := hin 9 85 (by kernel_rfl) (by kernel_rfl)
      obtain ⟨v4, rfl, h4⟩ := hin 4 80 (by kernel_rfl) (by kernel_rfl)
      obtain rfl := Option.some.inj ho
      refine ⟨wanted_at (j := 4) (t := 80) rfl (by kernel_rfl) h4, fun K hK => ?_⟩
      clear hin hfix ho
      go_simp
      exact hK _ _ rfl hC (Below.refl _ _)
    · obtain ⟨v7, rfl, h7⟩ := hin 7 83 (by kernel_rfl) (by kernel_rfl)
      obtain ⟨v10, rfl, h10⟩ := hin 10 86 (by kernel_rfl) (by kernel_rfl)
      obtain ⟨v4, rfl, h4⟩ := hin 4 80 (by kernel_rfl) (by kernel_rfl)
      obtain rfl := Option.some.inj ho
      refine ⟨wanted_at (j := 4) (t := 80) rfl (by kernel_rfl) h4, fun K hK => ?_⟩
      clear hin hfix ho
      go_simp
      exact hK _ _ rfl hC (Below.refl _ _)
    · obtain ⟨v4, rfl, h4⟩ := hin 4 80 (by kernel_rfl) (by kernel_rfl)
      obtain ⟨v11, rfl, h11⟩ := hin 11 87 (by kernel_rfl) (by kernel_rfl)
      obtain rfl := Option.some.inj ho
      refine ⟨rfl, fun K hK => ?_⟩
      clear hin hfix ho
      go_simp
      exact hK _ _ rfl hC (Below.refl _ _)
    · obtain ⟨v12, rfl, h12⟩ := hin 12 88 (by kernel_rfl) (by kernel_rfl)
      obtain rfl := Option.some.inj ho
      refine ⟨rfl, fun K hK => ?_⟩
      clear hin hfix ho
      go_simp
      exact hK _ _ rfl hC (Below.refl _ _)
  case hend =>
  intro vals W hC hV
  have z0 := hV 0 (by decide)
  have z1 := hV 1 (by decide)
  have z2 := hV 2 (by decide)
  have z3 := hV 3 (by decide)
  have z4 := hV 4 (by decide)
  have z5 := hV 5 (by decide)
  have z7 := hV 7 (by decide)
  have z8 := hV 8 (by decide)
  have z10 := hV 10 (by decide)
  have z11 := hV 11 (by decide)
  have z12 := hV 12 (by decide)
  have z13 := hV 13 (by decide)
  clear hV
  simp only at z0 z1 z2 z3 z4 z5 z7 z8 z10 z11 z12 z13 
  have hr : List.range 14 = [0, 1, 2, 3, 4, 5, 6, 7, 8, 9, 10, 11, 12, 13] := rfl
  simp only [List.size_toArray, List.length_cons, List.length_nil, Nat.reduceAdd, List.drop_succ_cons, List.drop_zero, putA, hr, List.foldl_cons, List.foldl_nil, dstR, List.getElem?_toArray, List.getElem?_cons_succ, List.getElem?_cons_zero, Option.bind_some, Act.put, List.setIfInBounds_toArray, List.set_cons_succ, List.set_cons_zero, z0, z1, z2, z3, z4, z5, z7, z8, z10, z11, z12, z13]
  clear hr z0 z1 z2 z3 z4 z5 z7 z8 z10 z11 z12 z13
  obtain ⟨x6, hx6⟩ : ∃ v, v = vals 6 := ⟨_, rfl⟩
  obtain ⟨x9, hx9⟩ : ∃ v, v = vals 9 := ⟨_, rfl⟩
  rw [← hx6, ← hx9]
  clear hx6 hx9 vals
  have A_8 := A_7.below hC lA
  have Q_8 := Q_7.below hC lQ
  have hB8 : Below w.heap.size w W := up hC hB7
  clear A_7 Q_7 hB7 hC hCd lA lQ HTU
  obtain ⟨w8, hw8⟩ : ∃ X, X = W := ⟨_, rfl⟩
  subst hw8
  go_wp2_with fail
  go_ret
  exact ⟨rfl, hB8⟩
theorem tunl_of (f : Sol) (hf : Fit f) (t x y z ax : Int) (w : World) (hT : Tab64 w) :
    Calls Tryz.prog 15 #[sol f, .agg #[.int .i64 (t), .int .i64 (x), .int .i64 (y), .int .i64 (z)], .int .i64 ax] w (RetB (.bool true) w) := by
  have HC : Hid (∀ W, Tab64 W → Calls Tryz.prog 20 #[] W (RetB (.bool true) W)) := Lib.hid fun W hW => carved_of ev_cav W hW
  have hbd := eul_bd f
  have hpl := clsF_len touchL f
  have hcl := cav_len f
  have ba : (partsF f).length ≤ 100000 := Nat.le_trans hpl (by omega)
  have hge := tun_le hf
  obtain ⟨p, e1, K1, C1⟩ := kin_placed f hf t x y z
  by_cases h1 : e1 = 0
  · have k1 := K1 h1
    obtain ⟨q, e2, K2, C2⟩ := kin_mirrored p k1.1 ax
    by_cases h2 : e2 = 0
    · have k2 := k1.trans (K2 h2)
      exact tunl_coreff f p q q t x y z ax e1 e2 _ _ _ _ _ w hT hf k2.1 (Lib.hid C1) (Lib.hid C2) (by simp [h1]) (by simp [h2]) rfl (Lib.hid rfl) (Lib.hid rfl) (Lib.hid rfl) (Lib.hid rfl) (Lib.hid rfl) (Lib.hid k2.2.1) (Lib.hid k2.2.2.1) (Lib.hid k2.2.2.2.1) (Lib.hid k2.2.2.2.2.1) (Lib.hid k2.2.2.2.2.2) ba (by omega) (by omega) hge HC
    · exact tunl_coreft f p q p t x y z ax e1 e2 _ _ _ _ _ w hT hf k1.1 (Lib.hid C1) (Lib.hid C2) (by simp [h1]) (by simp [h2]) rfl (Lib.hid rfl) (Lib.hid rfl) (Lib.hid rfl) (Lib.hid rfl) (Lib.hid rfl) (Lib.hid k1.2.1) (Lib.hid k1.2.2.1) (Lib.hid k1.2.2.2.1) (Lib.hid k1.2.2.2.2.1) (Lib.hid k1.2.2.2.2.2) ba (by omega) (by omega) hge HC
  · obtain ⟨q, e2, K2, C2⟩ := kin_mirrored f hf ax
    by_cases h2 : e2 = 0
    · have k2 := K2 h2
      exact tunl_coretf f p q q t x y z ax e1 e2 _ _ _ _ _ w hT hf k2.1 (Lib.hid C1) (Lib.hid C2) (by simp [h1]) (by simp [h2]) rfl (Lib.hid rfl) (Lib.hid rfl) (Lib.hid rfl) (Lib.hid rfl) (Lib.hid rfl) (Lib.hid k2.2.1) (Lib.hid k2.2.2.1) (Lib.hid k2.2.2.2.1) (Lib.hid k2.2.2.2.2.1) (Lib.hid k2.2.2.2.2.2) ba (by omega) (by omega) hge HC
    · have k1 := Kin.refl hf
      exact tunl_corett f p q f t x y z ax e1 e2 _ _ _ _ _ w hT hf k1.1 (Lib.hid C1) (Lib.hid C2) (by simp [h1]) (by simp [h2]) rfl (Lib.hid rfl) (Lib.hid rfl) (Lib.hid rfl) (Lib.hid rfl) (Lib.hid rfl) (Lib.hid k1.2.1) (Lib.hid k1.2.2.1) (Lib.hid k1.2.2.2.1) (Lib.hid k1.2.2.2.2.1) (Lib.hid k1.2.2.2.2.2) ba (by omega) (by omega) hge HC
end Go.Proofs.YtadkaplafaeebaaGreatDoor
