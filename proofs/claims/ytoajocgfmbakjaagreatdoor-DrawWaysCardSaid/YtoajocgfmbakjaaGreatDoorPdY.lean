/-
  The reference's blocked.
-/
import Derived.Test.YtoajocgfmbakjaaGreatDoorPdX
import Derived.Test.YtoajocgfmbakjaaGreatDoorPdV
import Derived.Test.YtoajocgfmbakjaaGreatDoorPdB
import Derived.Test.YtoajocgfmbakjaaGreatDoorPdF
set_option linter.unusedVariables false
set_option linter.unusedSimpArgs false
namespace Go.Proofs.YtoajocgfmbakjaaGreatDoor
open Go Go.RowKit Go.Shelf
attribute [local go_sem] Oper.semAt_some

theorem own_mono {w : World} {base base' : Nat} {e : TypeId} {size : Nat} {v : Value} {n : Nat} {xs : List Value} (h : w.ownsRow base e size v n xs) (hb : base' ≤ base) : w.ownsRow base' e size v n xs := by
  obtain ⟨h1, h2⟩ := h
  refine ⟨h1, ?_⟩
  rcases h2 with h2 | ⟨g, cap, cur, h3, h4, h5⟩
  · exact .inl h2
  · exact .inr ⟨g, cap, cur, h3, Nat.le_trans hb h4, h5⟩
theorem standH (ms : List Sol) (gone : List Int) (p : Nat) (f : Sol) (s far : Nat) (v : Value) (hm : ∀ m ∈ ms, Fit m) (hf : ms[p]? = some f) (hs : s ≤ 4) (hfar : far ≤ 7) :
    ∃ a b : Int, ∀ gv W, SolsAt W v ms → IntsAt W gv gone → Calls Tryz.prog 103 #[v, gv, .agg #[.int .i64 ((p : Int)), .int .i64 ((s : Int)), .int .i64 ((far : Int))]] W (RetB (.tuple #[.int .i64 a, .int .i64 b, .bool (heldR ms gone p f s far)]) W) := by
  obtain ⟨a, b, h⟩ : ∃ a b : Int, standV (standR ms gone p f s far) = .tuple #[.int .i64 a, .int .i64 b, .bool (heldR ms gone p f s far)] := by
    unfold heldR
    cases standR ms gone p f s far with
    | none => exact ⟨_, _, rfl⟩
    | some r => exact ⟨_, _, rfl⟩
  refine ⟨a, b, fun gv W hv hg => ?_⟩
  rw [← h]
  exact standR_ok ms gone p f s far v gv W hv hm hg hf hs hfar
set_option maxRecDepth 100000 in
set_option maxHeartbeats 4000000 in
theorem blocked_ok (ms : List Sol) (p : Nat) (f : Sol) (s far : Nat) (pa : Option Addr) (cap : Nat) (w : World) (hv : SolsAt w (.slice pa ms.length cap) ms) (hm : ∀ m ∈ ms, Fit m) (h12 : ms.length ≤ 12) (hf : ms[p]? = some f) (hs : s ≤ 4) (hfar : far ≤ 7) :
    Calls Tryz.prog 94 #[.slice pa ms.length cap, .agg #[.int .i64 ((p : Int)), .int .i64 ((s : Int)), .int .i64 ((far : Int))]] w fun e w' => (∃ u, e = .returned (.tuple #[u, .bool (blkF ms p f s far).isSome]) ∧ w'.ownsRow w.heap.size 3 1 u ((blkF ms p f s far).getD []).length (flatI ((blkF ms p f s far).getD []))) ∧ Below w.heap.size w w' := by
  have HST := Lib.hid (fun (gone : List Int) => standH ms gone p f s far (.slice pa ms.length cap) hm hf hs hfar)
  have q0 : BoxM (w.alloc (.cells #[.int .i64 ((p : Int)), .int .i64 ((s : Int)), .int .i64 ((far : Int))] 40)) w.heap.size p s far := World.alloc_heap_new w _
  have hB0 : Below w.heap.size w (w.alloc (.cells #[.int .i64 ((p : Int)), .int .i64 ((s : Int)), .int .i64 ((far : Int))] 40)) := (Below.refl _ w).alloc (Nat.le_refl _) _
  obtain ⟨B, hBB⟩ : ∃ B, B = w.heap.size := ⟨_, rfl⟩
  obtain ⟨W0, hW0⟩ : ∃ W0, W0 = w.alloc (.cells #[.int .i64 ((p : Int)), .int .i64 ((s : Int)), .int .i64 ((far : Int))] 40) := ⟨_, rfl⟩
  rw [← hW0] at q0 hB0
  rw [← hBB] at q0
  have HBE := Lib.hid hBB
  have HB0 := Lib.hid hB0
  have HV0 := Lib.hid (hv.below hB0 (Nat.le_refl _))
  have lq := (Array.getElem?_eq_some_iff.1 q0).1
  have HLQ := Lib.hid lq
  have HQ0 := Lib.hid q0
  obtain ⟨n, hn⟩ : ∃ n, n = ms.length := ⟨_, rfl⟩
  obtain ⟨H, hH⟩ : ∃ H : List Int → Bool, H = fun g => heldR ms g p f s far := ⟨_, rfl⟩
  have HST2 := Lib.hid (show ∀ gone, ∃ a b : Int, ∀ gv W, SolsAt W (.slice pa n cap) ms → IntsAt W gv gone → Calls Tryz.prog 103 #[.slice pa n cap, gv, .agg #[.int .i64 ((p : Int)), .int .i64 ((s : Int)), .int .i64 ((far : Int))]] W (RetB (.tuple #[.int .i64 a, .int .i64 b, .bool (H gone)]) W) by rw [hH, hn]; exact HST.out)
  have HBF := Lib.hid (show blkF ms p f s far = if H (pickI n fun k => decide (k ≠ p)) = true then none else some (pickL n fun i => decide (i ≠ p) && H (pickI n fun k => decide (k ≠ i) && decide (k ≠ p))) by rw [hH, hn]; rfl)
  have HOT := Lib.hid (fun W => (show Calls Tryz.prog 124 #[.slice pa n cap, .int .i64 (p : Int)] W fun e w' => (∃ u, e = .returned u ∧ IntsAt w' u (pickI n fun k => decide (k ≠ p))) ∧ Below W.heap.size W w' from by
    refine (others_ok pa n cap p W (by omega)).mono ?_
    rintro e w' ⟨⟨u, rfl, hu⟩, hb⟩
    have hu2 := intsAt_own hu
    rw [show (fun (k : Nat) => decide ((k : Int) ≠ (p : Int))) = fun k => decide (k ≠ p) from funext fun k => by by_cases e : k = p <;> simp [e]; omega] at hu2
    exact ⟨⟨u, rfl, hu2⟩, hb⟩))
  obtain ⟨RS, hRS⟩ : ∃ RS, RS = blkF ms p f s far := ⟨_, rfl⟩
  rw [← hRS] at HBF ⊢
  clear hRS
  rw [← hn] at HV0 h12 ⊢
  obtain ⟨i0, hi', hz0, hz1, hz2⟩ := info_parts info_int'
  clear HST hv hm hf hs hfar hBB hH hn q0 hB0 lq
  obtain ⟨a0, b0, HS0⟩ := HST2.out (pickI n fun k => decide (k ≠ p))
  have HS0 := Lib.hid HS0
  obtain ⟨G0, hG0⟩ : ∃ G0, G0 = pickI n fun k => decide (k ≠ p) := ⟨_, rfl⟩
  rw [← hG0] at HS0 HBF HOT
  clear hG0
  go_enter Tryz.func94, Tryz.ntmps94
  go_upto_region 1 with fail
  rw [← hW0, ← HBE.out]
  clear hW0
  have hCd : Below W0.heap.size W0 W0.drew := Below.drew (Below.refl _ _)
  refine wp_region_relR (fun (iR : Nat) (v : Value) (W : World) => match iR with | 0 => v = .slice pa n cap | 1 => v = .slice pa n cap | 2 => v = .pointer (some ⟨B, 0, none⟩) | 3 => v = .int .i64 p | 4 => IntsAt W v G0 | 5 => v = .agg #[.int .i64 ((p : Int)), .int .i64 ((s : Int)), .int .i64 ((far : Int))] | 6 => v = .tuple #[.int .i64 a0, .int .i64 b0, .bool (H G0)] | 7 => v = .tuple #[.int .i64 a0, .int .i64 b0, .bool (H G0)] | 8 => v = .int .i64 a0 | 9 => v = .int .i64 b0 | 10 => v = .bool (H G0) | 11 => v = .int .i64 a0 | 12 => v = .int .i64 b0 | _ => v = .bool (H G0)) (fun W => Below W0.heap.size W0 W) (fun X Y => Below X.heap.size X Y) (by kernel_rfl) (by kernel_rfl) (by kernel_rfl) hCd (by kernel_rfl) ?hst ?hop ?hend
  case hst =>
    intro j v W W' hC hb hv
    rcases j with _ | _ | _ | _ | _ | _ | _ | _ | _ | _ | _ | _ | _ | _ | j
    all_goals first | exact hv | exact IntsAt.below hv hb (Nat.le_refl _)
  case hop =>
    intro iR o ho a' W hC hin hfix
    obtain ⟨x0, x1, x2⟩ := BoxM.cells (heap_below HQ0.out hC HLQ.out)
    have sl0 : a'.tmps[0]? = some (.slice pa n cap) := hfix 0 (by kernel_rfl)
    have sl3 : a'.tmps[3]? = some (.pointer (some ⟨B, 0, none⟩)) := hfix 3 (by kernel_rfl)
    have hi : iR < 14 := (Array.getElem?_eq_some_iff.1 ho).1
    rcases (show iR = 0 ∨ iR = 1 ∨ iR = 2 ∨ iR = 3 ∨ iR = 4 ∨ iR = 5 ∨ iR = 6 ∨ iR = 7 ∨ iR = 8 ∨ iR = 9 ∨ iR = 10 ∨ iR = 11 ∨ iR = 12 ∨ iR = 13 by omega) with rfl | rfl | rfl | rfl | rfl | rfl | rfl | rfl | rfl | rfl | rfl | rfl | rfl | rfl
    · obtain rfl := Option.some.inj ho
      refine .inl ⟨rfl, fun K hK => ?_⟩
      clear hin hfix ho
      go_simp
      exact hK _ _ rfl hC (Below.refl _ _)
    · obtain rfl := Option.some.inj ho
      refine .inl ⟨rfl, fun K hK => ?_⟩
      clear hin hfix ho
      go_simp
      exact hK _ _ rfl hC (Below.refl _ _)
    · obtain rfl := Option.some.inj ho
      refine .inl ⟨rfl, fun K hK => ?_⟩
      clear hin hfix ho
      go_simp
      exact hK _ _ rfl hC (Below.refl _ _)
    · obtain ⟨v2, rfl, h2⟩ := hin 2 19 (by kernel_rfl) (by kernel_rfl)
      obtain rfl := Option.some.inj ho
      refine .inl ⟨rfl, fun K hK => ?_⟩
      clear hin hfix ho
      go_simp
      exact hK _ _ rfl hC (Below.refl _ _)
    · obtain ⟨v1, rfl, h1⟩ := hin 1 18 (by kernel_rfl) (by kernel_rfl)
      obtain ⟨v3, rfl, h3⟩ := hin 3 20 (by kernel_rfl) (by kernel_rfl)
      obtain rfl := Option.some.inj ho
      refine .inl ⟨rfl, fun K hK => ?_⟩
      clear hin hfix ho
      go_simp
      refine (HOT.out _).mono ?_
      rintro e W3 ⟨⟨u, rfl, hu⟩, hb3⟩
      exact hK _ _ hu (hC.trans (hb3.mono hC.size)) hb3
    · obtain rfl := Option.some.inj ho
      refine .inl ⟨rfl, fun K hK => ?_⟩
      clear hin hfix ho
      go_simp
      exact hK _ _ rfl hC (Below.refl _ _)
    · obtain ⟨v0, rfl, h0⟩ := hin 0 17 (by kernel_rfl) (by kernel_rfl)
      obtain ⟨v4, hv4, h4⟩ := hin 4 21 (by kernel_rfl) (by kernel_rfl)
      obtain ⟨v5, rfl, h5⟩ := hin 5 22 (by kernel_rfl) (by kernel_rfl)
      obtain rfl := Option.some.inj ho
      refine .inl ⟨rfl, fun K hK => ?_⟩
      clear hin hfix ho
      go_simp
      refine (HS0.out _ _ (HV0.out.below hC (Nat.le_refl _)) hv4).mono ?_
      rintro e W3 ⟨rfl, hb3⟩
      exact hK _ _ rfl (hC.trans (hb3.mono hC.size)) hb3
    · obtain ⟨v6, rfl, h6⟩ := hin 6 23 (by kernel_rfl) (by kernel_rfl)
      obtain rfl := Option.some.inj ho
      refine .inl ⟨rfl, fun K hK => ?_⟩
      clear hin hfix ho
      go_simp
      exact hK _ _ rfl hC (Below.refl _ _)
    · obtain ⟨v7, rfl, h7⟩ := hin 7 16 (by kernel_rfl) (by kernel_rfl)
      obtain rfl := Option.some.inj ho
      refine .inl ⟨rfl, fun K hK => ?_⟩
      clear hin hfix ho
      go_simp
      exact hK _ _ rfl hC (Below.refl _ _)
    · obtain ⟨v7, rfl, h7⟩ := hin 7 16 (by kernel_rfl) (by kernel_rfl)
      obtain rfl := Option.some.inj ho
      refine .inl ⟨rfl, fun K hK => ?_⟩
      clear hin hfix ho
      go_simp
      exact hK _ _ rfl hC (Below.refl _ _)
    · obtain ⟨v7, rfl, h7⟩ := hin 7 16 (by kernel_rfl) (by kernel_rfl)
      obtain rfl := Option.some.inj ho
      refine .inl ⟨rfl, fun K hK => ?_⟩
      clear hin hfix ho
      go_simp
      exact hK _ _ rfl hC (Below.refl _ _)
    · obtain ⟨v8, rfl, h8⟩ := hin 8 24 (by kernel_rfl) (by kernel_rfl)
      obtain rfl := Option.some.inj ho
      refine .inl ⟨rfl, fun K hK => ?_⟩
      clear hin hfix ho
      go_simp
      exact hK _ _ rfl hC (Below.refl _ _)
    · obtain ⟨v9, rfl, h9⟩ := hin 9 25 (by kernel_rfl) (by kernel_rfl)
      obtain rfl := Option.some.inj ho
      refine .inl ⟨rfl, fun K hK => ?_⟩
      clear hin hfix ho
      go_simp
      exact hK _ _ rfl hC (Below.refl _ _)
    · obtain ⟨v10, rfl, h10⟩ := hin 10 26 (by kernel_rfl) (by kernel_rfl)
      obtain rfl := Option.some.inj ho
      refine .inl ⟨rfl, fun K hK => ?_⟩
      clear hin hfix ho
      go_simp
      exact hK _ _ rfl hC (Below.refl _ _)
  case hend =>
  intro vals W hC hV
  have z0 := hV 0 (by decide)
  have z1 := hV 1 (by decide)
  have z2 := hV 2 (by decide)
  have z3 := hV 3 (by decide)
  have z5 := hV 5 (by decide)
  have z6 := hV 6 (by decide)
  have z7 := hV 7 (by decide)
  have z8 := hV 8 (by decide)
  have z9 := hV 9 (by decide)
  have z10 := hV 10 (by decide)
  have z11 := hV 11 (by decide)
  have z12 := hV 12 (by decide)
  have z13 := hV 13 (by decide)
  clear hV
  simp only at z0 z1 z2 z3 z5 z6 z7 z8 z9 z10 z11 z12 z13
  have hr : List.range 14 = [0, 1, 2, 3, 4, 5, 6, 7, 8, 9, 10, 11, 12, 13] := rfl
  simp only [List.size_toArray, List.length_cons, List.length_nil, Nat.reduceAdd, List.drop_succ_cons, List.drop_zero, putA, hr, List.foldl_cons, List.foldl_nil, dstR, List.getElem?_toArray, List.getElem?_cons_succ, List.getElem?_cons_zero, Option.bind_some, Act.put, List.setIfInBounds_toArray, List.set_cons_succ, List.set_cons_zero, z0, z1, z2, z3, z5, z6, z7, z8, z9, z10, z11, z12, z13]
  clear hr z0 z1 z2 z3 z5 z6 z7 z8 z9 z10 z11 z12 z13
  have HBW := Lib.hid hC
  have HLE := Lib.hid HB0.out.size
  generalize vals 4 = u4 at *
  cases hg : H G0 with
  | true =>
    obtain rfl : RS = none := by rw [HBF.out, hg]; rfl
    clear HBF hg hC hCd
    go_wp2_with fail
    go_returns
    exact ⟨⟨_, rfl, World.ownsRow_nil _ _ _ _⟩, HB0.out.trans (HBW.out.mono HLE.out)⟩
  | false =>
    obtain ⟨Q, hQ⟩ : ∃ Q : Nat → Bool, Q = fun i => decide (i ≠ p) && H (pickI n fun k => decide (k ≠ i) && decide (k ≠ p)) := ⟨_, rfl⟩
    obtain rfl : RS = some (pickL n Q) := by rw [HBF.out, hg, hQ]; rfl
    have HQ := Lib.hid (fun i => congrFun hQ i)
    have HS := Lib.hid (fun k => pickL_succ k Q)
    clear HBF hg hCd hQ
    obtain ⟨N0, hN0⟩ : ∃ N0, N0 = W0.heap.size := ⟨_, rfl⟩
    have HN0 := Lib.hid hN0
    have HBN := Lib.hid (show Below N0 W0 W by rw [hN0]; exact hC)
    clear hC hN0
    go_wp2_with fail
    go_loopw [9, 10] (fun lv z wr => ∃ (i : Nat) (pre : List Nat), i ≤ n ∧ z = .int .i64 i ∧ pre.length ≤ i ∧ Hid (pickL i Q = pre) ∧ wr.ownsRow N0 3 1 lv pre.length (flatI pre) ∧ Below N0 W0 wr) (fun _ z _ => n - (intOf z).toNat)
    case atStart => exact ⟨0, [], by omega, rfl, by simp, Lib.hid rfl, World.ownsRow_nil _ _ _ _, HBN.out⟩
    case round =>
      obtain ⟨i, pre, hi, rfl, hpl, HO, hrow, hB⟩ := hrel
      have hsz := hB.size
      obtain ⟨x0, x1, x2⟩ := BoxM.cells (heap_below HQ0.out hB (by rw [HN0.out]; exact HLQ.out))
      by_cases hlt : i < n
      · have hd : decide ((i : Int) < (n : Int)) = true := decide_eq_true (by omega)
        have hw1 : IntKind.i64.wrap ((i : Int) + 1) = (i : Int) + 1 := by rw [IntWalk.i64_in] <;> omega
        by_cases ha : i = p
        · have HX := Lib.hid (show pickL (i + 1) Q = pre by rw [HS.out, HO.out, HQ.out, decide_eq_false (by simpa using ha), Bool.false_and, if_neg (by decide), List.append_nil])
          have hne : ((i : Int) == (p : Int)) = true := by rw [ha]; exact beq_self_eq_true _
          clear ha HO
          go_wp2_with fail
          go_roundw
          case rel => exact ⟨i + 1, pre, by omega, by go_num, by omega, HX, hrow, hB⟩
          case measure => simp [intOf]; omega
        · have hne : ((i : Int) == (p : Int)) = false := by simp; omega
          obtain ⟨T, hT⟩ : ∃ T : Nat → Bool, T = fun k => decide (k ≠ i) && decide (k ≠ p) := ⟨_, rfl⟩
          have HT := Lib.hid (fun k => congrFun hT k)
          have HTS := Lib.hid (fun k => pickL_succ k T)
          have HQI := Lib.hid (show Q i = H (pickI n T) by rw [HQ.out, hT, decide_eq_true ha, Bool.true_and])
          have HNP := Lib.hid ha
          clear hT ha
          obtain ⟨a1, b1, HS1⟩ := HST2.out (pickI n T)
          have HS1 := Lib.hid HS1
          rename World => wo
          have HBo := Lib.hid hB
          have HRo := Lib.hid hrow
          clear hB hrow
          go_wp2_with fail
          go_loopw [11, 12] (fun lv z wr => ∃ (k : Nat) (pr : List Nat), k ≤ n ∧ z = .int .i64 k ∧ pr.length ≤ k ∧ Hid (pickL k T = pr) ∧ wr.ownsRow wo.heap.size 3 1 lv pr.length (flatI pr) ∧ Below wo.heap.size wo wr) (fun _ z _ => n - (intOf z).toNat)
          case atStart => exact ⟨0, [], by omega, rfl, by simp, Lib.hid rfl, World.ownsRow_nil _ _ _ _, Below.refl _ _⟩
          case round =>
            obtain ⟨k, pr, hk, rfl, hkl, HOk, hrk, hBk⟩ := hrel
            have hsk := hBk.size
            have HBK := Lib.hid (HBo.out.trans (hBk.mono (by rw [HN0.out]; exact HBo.out.size)))
            obtain ⟨y0, y1, y2⟩ := BoxM.cells (heap_below HQ0.out HBK.out (by rw [HN0.out]; exact HLQ.out))
            clear x0 x1 x2
            by_cases hlk : k < n
            · have hd2 : decide ((k : Int) < (n : Int)) = true := decide_eq_true (by omega)
              have hw2 : IntKind.i64.wrap ((k : Int) + 1) = (k : Int) + 1 := by rw [IntWalk.i64_in] <;> omega
              by_cases hki : k = i
              · have HX := Lib.hid (show pickL (k + 1) T = pr by rw [HTS.out, HOk.out, HT.out, decide_eq_false (by simpa using hki), Bool.false_and, if_neg (by decide), List.append_nil])
                have hn1 : ((k : Int) != (i : Int)) = false := by rw [hki]; simp
                clear hki HOk
                go_wp2_with fail
                case roundEnd => exact ⟨⟨k + 1, pr, by omega, by go_num, by omega, HX, hrk, hBk⟩, by simp [intOf]; omega⟩
              · by_cases hkp : k = p
                · have HX := Lib.hid (show pickL (k + 1) T = pr by rw [HTS.out, HOk.out, HT.out, decide_eq_false (p := k ≠ p) (by simpa using hkp), Bool.and_false, if_neg (by decide), List.append_nil])
                  have hn1 : ((k : Int) != (i : Int)) = true := by simp; omega
                  have hn2 : ((k : Int) != (p : Int)) = false := by rw [hkp]; simp
                  clear hki hkp HOk
                  go_wp2_with fail
                  case roundEnd => exact ⟨⟨k + 1, pr, by omega, by go_num, by omega, HX, hrk, hBk⟩, by simp [intOf]; omega⟩
                · have HX := Lib.hid (show pickL (k + 1) T = pr ++ [k] by rw [HTS.out, HOk.out, HT.out, decide_eq_true hki, decide_eq_true hkp]; rfl)
                  have hn1 : ((k : Int) != (i : Int)) = true := by simp; omega
                  have hn2 : ((k : Int) != (p : Int)) = true := by simp; omega
                  clear hki hkp HOk
                  have hlen : pr.length ≤ 12 := by omega
                  go_wp2_with (at_builtin; refine wpList_append_own _ rfl _ _ 38 rfl wo.heap.size 3 i0 (.int .i64 0) 1 8 under_ints hi' hz0 hz1 hz2 rfl (by decide) u11 _ _ rfl (hrk.alloc _) ⟨wr.heap.size, 0, none⟩ 1 1 [.int .i64 (k : Int)] rfl rfl (int_new _ rfl _) (by simp [Value.oneCell']) (by simp only [maxLen]; omega) (by omega) (by simp; omega) ?_; intro v' w5 hown' hgrow _; obtain ⟨g', cap', rfl⟩ := ownsRow_succ hown')
                  case roundEnd =>
                    have hb5 : Below wo.heap.size wr w5 := ((Below.refl wo.heap.size wr).alloc hsk _).grown hgrow (by simp; omega) fun j ej => (hrk.lt j ej).1
                    exact ⟨⟨k + 1, pr ++ [k], by omega, by go_num, by simp; omega, HX, by simp only [List.length_append, List.length_cons, List.length_nil]; unfold flatI at *; rw [List.map_append]; exact hown', hBk.trans hb5⟩, by simp [intOf]; omega⟩
            · have hek : k = n := by omega
              have hd2 : decide ((k : Int) < (n : Int)) = false := decide_eq_false (by omega)
              have HI1 := Lib.hid (show IntsAt wr u11 (pickI n T) by
                have := intsAt_own hrk
                rw [← HOk.out, hek] at this
                exact this)
              have HB1 := Lib.hid hBk
              have HC1 := Lib.hid (HS1.out u11 wr (HV0.out.below HBK.out (by rw [HN0.out]; exact Nat.le_refl _)) HI1.out)
              clear hek HOk hrk hBk
              go_wp2_with fail
              refine HC1.out.mono ?_
              rintro e w3 ⟨rfl, hb3⟩
              have HB3 := Lib.hid (up hb3 HB1.out)
              have HR3 := Lib.hid (row_below HRo.out HB3.out)
              have HB4 := Lib.hid (HBo.out.trans (HB3.out.mono (by rw [HN0.out]; exact HBo.out.size)))
              clear hb3
              cases hq : H (pickI n T) with
              | false =>
                have HX := Lib.hid (show pickL (i + 1) Q = pre by rw [HS.out, HO.out, HQI.out, hq, if_neg (by decide), List.append_nil])
                clear hq HO HC1
                go_wp2_with fail
                case roundEnd => exact ⟨⟨i + 1, pre, by omega, by go_num, by omega, HX, HR3.out, HB4.out⟩, by simp [intOf]; omega⟩
              | true =>
                have HX := Lib.hid (show pickL (i + 1) Q = pre ++ [i] by rw [HS.out, HO.out, HQI.out, hq, if_pos rfl])
                clear hq HO HC1
                have hlen : pre.length ≤ 12 := by omega
                have hs3 : N0 ≤ w3.heap.size := by rw [HN0.out]; exact HB4.out.size
                go_wp2_with (at_builtin; refine wpList_append_own _ rfl _ _ 38 rfl N0 3 i0 (.int .i64 0) 1 8 under_ints hi' hz0 hz1 hz2 rfl (by decide) u9 _ _ rfl (HR3.out.alloc _) ⟨w3.heap.size, 0, none⟩ 1 1 [.int .i64 (i : Int)] rfl rfl (int_new _ rfl _) (by simp [Value.oneCell']) (by simp only [maxLen]; omega) (by omega) (by simp; omega) ?_; intro v' w5 hown' hgrow _; obtain ⟨g', cap', rfl⟩ := ownsRow_succ hown')
                case roundEnd =>
                  have hb5 : Below N0 w3 w5 := ((Below.refl N0 w3).alloc hs3 _).grown hgrow (by simp; omega) fun j ej => (HR3.out.lt j ej).1
                  exact ⟨⟨i + 1, pre ++ [i], by omega, by go_num, by simp; omega, HX, by simp only [List.length_append, List.length_cons, List.length_nil]; unfold flatI at *; rw [List.map_append]; exact hown', HB4.out.trans hb5⟩, by simp [intOf]; omega⟩
      · have he : i = n := by omega
        have hd : decide ((i : Int) < (n : Int)) = false := decide_eq_false (by omega)
        have HX := Lib.hid (show pickL n Q = pre by rw [← he]; exact HO.out)
        clear he HO
        go_wp2_with fail
        go_returns
        rw [HX.out]
        exact ⟨⟨_, rfl, own_mono hrow (by rw [HN0.out]; exact HLE.out)⟩, HB0.out.trans (hB.mono (by rw [HN0.out]; exact HLE.out))⟩
end Go.Proofs.YtoajocgfmbakjaaGreatDoor
