/-
  The iterator over where a solid stands on the way of a move.
-/
import Derived.Test.YtoajocgfmbakjaaGreatDoorPaD
import Derived.Test.YtoajocgfmbakjaaGreatDoorPaC
import Derived.Maps.OwnSet
import Derived.Maps.OwnIn
set_option linter.unusedVariables false
set_option linter.unusedSimpArgs false
namespace Go.Proofs.YtoajocgfmbakjaaGreatDoor
open Go Go.RowKit Go.Shelf

attribute [local go_sem] Oper.semAt_some
theorem snoc_pre {α : Type} {L pre r : List α} {x : α} (h : L = pre ++ (x :: r)) : L = (pre ++ [x]) ++ r := by simp [h]
theorem pre_len {α : Type} {L pre r : List α} {x : α} (h : L = pre ++ (x :: r)) : pre.length < L.length := by simp [h]
set_option maxRecDepth 100000 in
set_option maxHeartbeats 2000000 in
theorem stands_walk (n : Nat) (hn : 1 ≤ n) (l Bs Bx n₀ n₁ : Nat) (f : Sol) (p : Int) (s far : Nat) (L : List SB) (hL : L = standsL f s far) (hf : Fit f) (hs : s ≤ 4) (hfar : far ≤ 7)
    (J Jx : List SB → World → Prop) (W : World) (hA : Low W.heap.size J)
    (hY : ∀ pre x W1, J pre W1 → (pre ++ [x]) <+: L → YieldAt Fence.wide (n - 1) Tryz.prog l #[sol x.1, .bool x.2] W1 fun e W' =>
      (e = .returned (.bool true) ∧ J (pre ++ [x]) W' ∧ KeepA n₀ n₁ W1 W') ∨ (e = .returned (.bool false) ∧ Jx (pre ++ [x]) W'))
    (hBs : BoxS W Bs f) (hBx : BoxM W Bx p s far) (h1 : n₁ ≤ Bx) (h0 : J [] W) :
    CallsIn Fence.wide n Tryz.prog 146 #[.func (.yield l) #[] #[], .pointer (some ⟨Bs, 0, none⟩), .pointer (some ⟨Bx, 0, none⟩)] W fun e W' => (∃ v, e = .returned v) ∧
      ((∃ ys, ys = L ∧ J ys W') ∨ (∃ pre, pre <+: L ∧ Jx pre W')) := by
  have HJ := Lib.hid hA
  have HYY := Lib.hid hY
  have HLL := Lib.hid hL
  have HJ0 := Lib.hid h0
  have HF := Lib.hid hf
  have h2 : n₁ ≤ W.heap.size := by have := hBx.lt; omega
  clear hA hY hL h0 hf
  refine callsIn_of_wp Tryz.func146 rfl trivial ?_ rfl
  simp only [Tryz.ntmps146, List.size_toArray, List.length_cons, List.length_nil, Nat.reduceAdd, Nat.reduceSub, Array.replicate_succ, Array.replicate_zero, List.push_toArray, List.append_toArray, List.nil_append, List.cons_append]
  have a0 := (hBs).cell (k := 0) (by omega); have a1 := (hBs).cell (k := 1) (by omega); have a2 := (hBs).cell (k := 2) (by omega); have a3 := (hBs).cell (k := 3) (by omega); have a4 := (hBs).cell (k := 4) (by omega); have a5 := (hBs).cell (k := 5) (by omega); have a6 := (hBs).cell (k := 6) (by omega); have a7 := (hBs).cell (k := 7) (by omega)
  have A0 : BoxD (W.alloc (.cells (solC f) 88)) W.heap.size f := BoxK.new _ W f
  have hB0 : Below W.heap.size W (W.alloc (.cells (solC f) 88)) := by repeat' (first | (with_reducible exact Below.refl _ _) | (with_reducible assumption) | (with_reducible refine Below.alloc ?_ ?_ _) | (with_reducible refine Below.drew ?_) | (with_reducible refine below_drewN ?_ _) | (with_reducible refine Below.setCell ?_ ?_ _) | go_size)
  have b0 := (A0).cell (k := 0) (by omega); have b1 := (A0).cell (k := 1) (by omega); have b2 := (A0).cell (k := 2) (by omega); have b3 := (A0).cell (k := 3) (by omega); have b4 := (A0).cell (k := 4) (by omega); have b5 := (A0).cell (k := 5) (by omega); have b6 := (A0).cell (k := 6) (by omega); have b7 := (A0).cell (k := 7) (by omega)
  have HC0 := Lib.hid (fun W => count_ok f W HF.out)
  gi_wp2_with fail
  refine ⟨trivial, ?_⟩
  gi_at_call 147
  (with_reducible refine CallsIn.mono (callsIn_wide.2 (HC0.out _)) ?_)
  rintro e w1 ⟨rfl, hb1⟩
  clear a0 a1 a2 a3 a4 a5 a6 a7 b0 b1 b2 b3 b4 b5 b6 b7
  have A1 := A0.below hb1 A0.lt
  have hB1 := up hb1 hB0
  have X1 := heap_below hBx hB1 hBx.lt
  have lX := hBx.lt
  have hJ1 : J [] w1 := HJ.out _ _ _ HJ0.out hB1
  clear A0 hB0 hb1 hBs HC0
  obtain ⟨x0, x1, x2⟩ := BoxM.cells X1
  gi_wp2_with fail
  clear x0 x1 x2
  obtain ⟨c0, hc0⟩ : ∃ c0, c0 = cntF f := ⟨_, rfl⟩
  have HL0 := Lib.hid (show L = [] ++ sideL s c0 far f by rw [HLL.out, hc0]; rfl)
  rw [← hc0]
  have hcb : c0 ≤ 512 := by rw [hc0]; exact cntK_le f 8
  clear hc0 HLL
  gi_loopw [12] (fun c wr => ∃ (k : Nat) (pre : List SB) (g : Sol), k ≤ far ∧ c = .int .i64 k ∧ Hid (L = pre ++ sideL s c0 (far - k) g) ∧ J pre wr ∧ BoxM wr Bx p s far ∧ BoxD wr W.heap.size g ∧ Hid (Fit g) ∧ W.heap.size < wr.heap.size) (fun c _ => (far - (intOf c).toNat : Nat))
  case atStart => exact ⟨0, [], f, by omega, rfl, HL0, hJ1, X1, A1, HF, A1.lt⟩
  case round =>
    clear hJ1 X1 A1 HL0 hB1 HF HJ0
    obtain ⟨k, pre, g, hk, rfl, HT, hJp, X, A, HG, lA⟩ := hrel
    by_cases hlt : k < far
    · have hlti : (k : Int) < (far : Int) := by omega
      have HF1 := Lib.hid (stepF_fit HG.out s)
      obtain ⟨h, hh⟩ : ∃ h, h = stepF g s := ⟨_, rfl⟩
      have HST := Lib.hid (fun W => step_ok g s hs W HG.out)
      have HE := Lib.hid (show sideL s c0 (far - k) g = if cntF h = c0 then (h, true) :: sideL s c0 (far - (k + 1)) h else [(h, false)] by
        rw [show far - k = (far - (k + 1)) + 1 by omega, sideL, hh])
      rw [← hh] at HF1 HST
      have HC := Lib.hid (fun W => count_ok h W HF1.out)
      clear hh
      obtain ⟨x0, x1, x2⟩ := BoxM.cells X
      have a0 := (A).cell (k := 0) (by omega); have a1 := (A).cell (k := 1) (by omega); have a2 := (A).cell (k := 2) (by omega); have a3 := (A).cell (k := 3) (by omega); have a4 := (A).cell (k := 4) (by omega); have a5 := (A).cell (k := 5) (by omega); have a6 := (A).cell (k := 6) (by omega); have a7 := (A).cell (k := 7) (by omega)
      gi_wp2_with fail
      refine ⟨trivial, ?_⟩
      gi_at_call 148
      (with_reducible refine CallsIn.mono (callsIn_wide.2 (HST.out _)) ?_)
      rintro e w2 ⟨rfl, hb2⟩
      clear a0 a1 a2 a3 a4 a5 a6 a7 x0 x1 x2
      have A2 := A.below hb2 lA
      have X2 := heap_below X hb2 (by omega)
      have hJ2 : J pre w2 := HJ.out _ _ _ hJp (hb2.mono (by omega))
      have z2 := hb2.size
      clear A X hJp
      have a0 := (A2).cell (k := 0) (by omega); have a1 := (A2).cell (k := 1) (by omega); have a2 := (A2).cell (k := 2) (by omega); have a3 := (A2).cell (k := 3) (by omega); have a4 := (A2).cell (k := 4) (by omega); have a5 := (A2).cell (k := 5) (by omega); have a6 := (A2).cell (k := 6) (by omega); have a7 := (A2).cell (k := 7) (by omega)
      have q0 := (A2).free 0; have q1 := (A2).free 1; have q2 := (A2).free 2; have q3 := (A2).free 3; have q4 := (A2).free 4; have q5 := (A2).free 5; have q6 := (A2).free 6; have q7 := (A2).free 7
      gi_wp2_with fail
      clear a0 a1 a2 a3 a4 a5 a6 a7 q0 q1 q2 q3 q4 q5 q6 q7
      obtain ⟨w3, hw3⟩ : ∃ w3, w3 = (World.setCell (World.setCell (World.setCell (World.setCell (World.setCell (World.setCell (World.setCell (World.setCell w2 ⟨W.heap.size, 0, none⟩ (.int .u64 ((h 0 : Nat) : Int))) ⟨W.heap.size, 1, none⟩ (.int .u64 ((h 1 : Nat) : Int))) ⟨W.heap.size, 2, none⟩ (.int .u64 ((h 2 : Nat) : Int))) ⟨W.heap.size, 3, none⟩ (.int .u64 ((h 3 : Nat) : Int))) ⟨W.heap.size, 4, none⟩ (.int .u64 ((h 4 : Nat) : Int))) ⟨W.heap.size, 5, none⟩ (.int .u64 ((h 5 : Nat) : Int))) ⟨W.heap.size, 6, none⟩ (.int .u64 ((h 6 : Nat) : Int))) ⟨W.heap.size, 7, none⟩ (.int .u64 ((h 7 : Nat) : Int))) := ⟨_, rfl⟩
      rw [← hw3]
      have A3 : BoxD w3 W.heap.size h := by rw [hw3]; exact A2.put h
      have hb3 : Below W.heap.size w2 w3 := by rw [hw3]; exact below_put8 (Below.refl _ _) (Nat.le_refl _) _
      have X3 := heap_below X2 hb3 lX
      have hJ3 : J pre w3 := HJ.out _ _ _ hJ2 hb3
      clear A2 X2 hJ2 hw3 hb2 hb3 z2
      have a0 := (A3).cell (k := 0) (by omega); have a1 := (A3).cell (k := 1) (by omega); have a2 := (A3).cell (k := 2) (by omega); have a3 := (A3).cell (k := 3) (by omega); have a4 := (A3).cell (k := 4) (by omega); have a5 := (A3).cell (k := 5) (by omega); have a6 := (A3).cell (k := 6) (by omega); have a7 := (A3).cell (k := 7) (by omega)
      gi_wp2_with fail
      refine ⟨trivial, ?_⟩
      gi_at_call 147
      (with_reducible refine CallsIn.mono (callsIn_wide.2 (HC.out _)) ?_)
      rintro e w4 ⟨rfl, hb4⟩
      clear a0 a1 a2 a3 a4 a5 a6 a7
      have A4 := A3.below hb4 A3.lt
      have l3 := A3.lt
      have X4 := heap_below X3 hb4 (by omega)
      have hJ4 : J pre w4 := HJ.out _ _ _ hJ3 (hb4.mono (by omega))
      clear A3 X3 hJ3 hb4 l3
      have a0 := (A4).cell (k := 0) (by omega); have a1 := (A4).cell (k := 1) (by omega); have a2 := (A4).cell (k := 2) (by omega); have a3 := (A4).cell (k := 3) (by omega); have a4 := (A4).cell (k := 4) (by omega); have a5 := (A4).cell (k := 5) (by omega); have a6 := (A4).cell (k := 6) (by omega); have a7 := (A4).cell (k := 7) (by omega)
      obtain ⟨x0, x1, x2⟩ := BoxM.cells X4
      by_cases hc : cntF h = c0
      · have hce : (((cntF h : Nat) : Int) == (c0 : Int)) = true := by rw [hc]; simp
        have HR := Lib.hid (show L = pre ++ ((h, true) :: sideL s c0 (far - (k + 1)) h) by rw [HT.out, HE.out, if_pos hc])
        obtain ⟨fn, tmps, assign, body, hy, hR⟩ := HYY.out pre (h, true) w4 hJ4 ⟨_, (snoc_pre HR.out).symm⟩
        dsimp only at hy
        gi_wp2_with fail
        refine hR.mono ?_
        clear hR hy a0 a1 a2 a3 a4 a5 a6 a7 x0 x1 x2
        rintro e W5 (⟨rfl, hJ5, hk5⟩ | ⟨rfl, hJx⟩)
        · have A5 : BoxD W5 W.heap.size h := hk5.2 _ _ h2 A4 rfl
          have X5 : BoxM W5 Bx p s far := hk5.2 _ _ h1 X4 rfl
          gi_wp2
          go_roundw
          case rel => exact ⟨k + 1, pre ++ [(h, true)], h, by omega, by go_num, Lib.hid (snoc_pre HR.out), hJ5, X5, A5, HF1, A5.lt⟩
          case measure => simp [intOf]; omega
        · gi_wp2
          refine bodyPost_ret (results_none rfl _ _ _) rfl ?_
          exact ⟨⟨_, rfl⟩, .inr ⟨_, ⟨_, (snoc_pre HR.out).symm⟩, hJx⟩⟩
      · have hce : (((cntF h : Nat) : Int) == (c0 : Int)) = false := by rw [beq_eq_false_iff_ne]; omega
        have HR := Lib.hid (show L = pre ++ ((h, false) :: []) by rw [HT.out, HE.out, if_neg hc])
        obtain ⟨fn, tmps, assign, body, hy, hR⟩ := HYY.out pre (h, false) w4 hJ4 ⟨_, (snoc_pre HR.out).symm⟩
        dsimp only at hy
        gi_wp2_with fail
        refine hR.mono ?_
        clear hR hy a0 a1 a2 a3 a4 a5 a6 a7 x0 x1 x2
        rintro e W5 (⟨rfl, hJ5, hk5⟩ | ⟨rfl, hJx⟩)
        · gi_wp2
          refine bodyPost_ret (results_none rfl _ _ _) rfl ?_
          exact ⟨⟨_, rfl⟩, .inl ⟨_, HR.out.symm, hJ5⟩⟩
        · gi_wp2
          refine bodyPost_ret (results_none rfl _ _ _) rfl ?_
          exact ⟨⟨_, rfl⟩, .inr ⟨_, ⟨[], by rw [HR.out, List.append_nil]⟩, hJx⟩⟩
    · obtain rfl : k = far := by omega
      have hlti : decide ((k : Int) < (k : Int)) = false := decide_eq_false (by omega)
      have HU := Lib.hid (fun W => up_ok g W HG.out)
      have HUF := Lib.hid (upF_fit HG.out)
      have HT1 := Lib.hid (show L = pre ++ upsL 36 (upF g) by rw [HT.out, Nat.sub_self]; rfl)
      obtain ⟨h, hh⟩ : ∃ h, h = upF g := ⟨_, rfl⟩
      rw [← hh] at HU HUF HT1
      clear hh HT
      have a0 := (A).cell (k := 0) (by omega); have a1 := (A).cell (k := 1) (by omega); have a2 := (A).cell (k := 2) (by omega); have a3 := (A).cell (k := 3) (by omega); have a4 := (A).cell (k := 4) (by omega); have a5 := (A).cell (k := 5) (by omega); have a6 := (A).cell (k := 6) (by omega); have a7 := (A).cell (k := 7) (by omega)
      gi_wp2_with fail
      refine ⟨trivial, ?_⟩
      gi_at_call 149
      (with_reducible refine CallsIn.mono (callsIn_wide.2 (HU.out _)) ?_)
      rintro e w2 ⟨rfl, hb2⟩
      clear a0 a1 a2 a3 a4 a5 a6 a7
      have A2 := A.below hb2 lA
      have hJ2 : J pre w2 := HJ.out _ _ _ hJp (hb2.mono (by omega))
      clear A X hJp HU HG
      have a0 := (A2).cell (k := 0) (by omega); have a1 := (A2).cell (k := 1) (by omega); have a2 := (A2).cell (k := 2) (by omega); have a3 := (A2).cell (k := 3) (by omega); have a4 := (A2).cell (k := 4) (by omega); have a5 := (A2).cell (k := 5) (by omega); have a6 := (A2).cell (k := 6) (by omega); have a7 := (A2).cell (k := 7) (by omega)
      have q0 := (A2).free 0; have q1 := (A2).free 1; have q2 := (A2).free 2; have q3 := (A2).free 3; have q4 := (A2).free 4; have q5 := (A2).free 5; have q6 := (A2).free 6; have q7 := (A2).free 7
      gi_wp2_with fail
      clear a0 a1 a2 a3 a4 a5 a6 a7 q0 q1 q2 q3 q4 q5 q6 q7
      obtain ⟨w3, hw3⟩ : ∃ w3, w3 = (World.setCell (World.setCell (World.setCell (World.setCell (World.setCell (World.setCell (World.setCell (World.setCell w2 ⟨W.heap.size, 0, none⟩ (.int .u64 ((h 0 : Nat) : Int))) ⟨W.heap.size, 1, none⟩ (.int .u64 ((h 1 : Nat) : Int))) ⟨W.heap.size, 2, none⟩ (.int .u64 ((h 2 : Nat) : Int))) ⟨W.heap.size, 3, none⟩ (.int .u64 ((h 3 : Nat) : Int))) ⟨W.heap.size, 4, none⟩ (.int .u64 ((h 4 : Nat) : Int))) ⟨W.heap.size, 5, none⟩ (.int .u64 ((h 5 : Nat) : Int))) ⟨W.heap.size, 6, none⟩ (.int .u64 ((h 6 : Nat) : Int))) ⟨W.heap.size, 7, none⟩ (.int .u64 ((h 7 : Nat) : Int))) := ⟨_, rfl⟩
      rw [← hw3]
      have A3 : BoxD w3 W.heap.size h := by rw [hw3]; exact A2.put h
      have hJ3 : J pre w3 := HJ.out _ _ _ hJ2 (by rw [hw3]; exact below_put8 (Below.refl _ _) (Nat.le_refl _) _)
      clear A2 hJ2 hw3 hb2
      gi_loopw [34] (fun c wr => ∃ (k : Nat) (pre : List SB) (g : Sol), muF g ≤ k ∧ Hid (L = pre ++ upsL k g) ∧ J pre wr ∧ BoxD wr W.heap.size g ∧ Hid (Fit g)) (fun _ wr => muW wr W.heap.size)
      case atStart => exact ⟨36, pre, h, muF_le h, HT1, hJ3, A3, HUF⟩
      case round =>
        clear hJ3 A3 HT1 HUF hlti hlt lA
        obtain ⟨j0, pre, g, hmu, HT, hJp, A, HG⟩ := hrel
        have HEM := Lib.hid (fun W => isEmpty_ok g W)
        have lA := A.lt
        have a0 := (A).cell (k := 0) (by omega); have a1 := (A).cell (k := 1) (by omega); have a2 := (A).cell (k := 2) (by omega); have a3 := (A).cell (k := 3) (by omega); have a4 := (A).cell (k := 4) (by omega); have a5 := (A).cell (k := 5) (by omega); have a6 := (A).cell (k := 6) (by omega); have a7 := (A).cell (k := 7) (by omega)
        gi_wp2_with fail
        refine ⟨trivial, ?_⟩
        gi_at_call 85
        (with_reducible refine CallsIn.mono (callsIn_wide.2 (HEM.out _)) ?_)
        rintro e w4 ⟨rfl, hb4⟩
        clear a0 a1 a2 a3 a4 a5 a6 a7
        have A4 := A.below hb4 lA
        have l4 := A4.lt
        have hJ4 : J pre w4 := HJ.out _ _ _ hJp (hb4.mono (by omega))
        have HMU := Lib.hid (muW_of A)
        clear A hJp hb4 HEM
        cases hem : emptyS g with
        | true =>
          gi_wp2
          go_end0
          exact ⟨⟨_, rfl⟩, .inl ⟨pre, by rw [HT.out, upsL_empty j0 hem, List.append_nil], hJ4⟩⟩
        | false =>
          obtain ⟨j, rfl, hj, hu⟩ := upsL_pos hmu hem
          have HM2 := Lib.hid (muF_up g hem)
          have HR := Lib.hid (show L = pre ++ ((g, true) :: upsL j (upF g)) by rw [HT.out, hu])
          obtain ⟨fn, tmps, assign, body, hy, hR⟩ := HYY.out pre (g, true) w4 hJ4 ⟨_, (snoc_pre HR.out).symm⟩
          dsimp only at hy
          have HU := Lib.hid (fun W => up_ok g W HG.out)
          have HUF := Lib.hid (upF_fit HG.out)
          have HJD := Lib.hid hj
          clear hu hmu hj HT
          obtain ⟨h, hh⟩ : ∃ h, h = upF g := ⟨_, rfl⟩
          rw [← hh] at HU HUF HR HM2 HJD
          clear hh
          have a0 := (A4).cell (k := 0) (by omega); have a1 := (A4).cell (k := 1) (by omega); have a2 := (A4).cell (k := 2) (by omega); have a3 := (A4).cell (k := 3) (by omega); have a4 := (A4).cell (k := 4) (by omega); have a5 := (A4).cell (k := 5) (by omega); have a6 := (A4).cell (k := 6) (by omega); have a7 := (A4).cell (k := 7) (by omega)
          gi_wp2_with fail
          refine hR.mono ?_
          clear hR hy a0 a1 a2 a3 a4 a5 a6 a7
          rintro e W5 (⟨rfl, hJ5, hk5⟩ | ⟨rfl, hJx⟩)
          · have A5 : BoxD W5 W.heap.size g := hk5.2 _ _ h2 A4 rfl
            have l5 := A5.lt
            clear A4 hk5 hJ4
            have a0 := (A5).cell (k := 0) (by omega); have a1 := (A5).cell (k := 1) (by omega); have a2 := (A5).cell (k := 2) (by omega); have a3 := (A5).cell (k := 3) (by omega); have a4 := (A5).cell (k := 4) (by omega); have a5 := (A5).cell (k := 5) (by omega); have a6 := (A5).cell (k := 6) (by omega); have a7 := (A5).cell (k := 7) (by omega)
            gi_wp2_with fail
            refine ⟨trivial, ?_⟩
            gi_at_call 149
            (with_reducible refine CallsIn.mono (callsIn_wide.2 (HU.out _)) ?_)
            rintro e w6 ⟨rfl, hb6⟩
            clear a0 a1 a2 a3 a4 a5 a6 a7
            have A6 := A5.below hb6 l5
            have hJ6 : J (pre ++ [(g, true)]) w6 := HJ.out _ _ _ hJ5 (hb6.mono (by omega))
            clear A5 hJ5 HU
            have a0 := (A6).cell (k := 0) (by omega); have a1 := (A6).cell (k := 1) (by omega); have a2 := (A6).cell (k := 2) (by omega); have a3 := (A6).cell (k := 3) (by omega); have a4 := (A6).cell (k := 4) (by omega); have a5 := (A6).cell (k := 5) (by omega); have a6 := (A6).cell (k := 6) (by omega); have a7 := (A6).cell (k := 7) (by omega)
            have q0 := (A6).free 0; have q1 := (A6).free 1; have q2 := (A6).free 2; have q3 := (A6).free 3; have q4 := (A6).free 4; have q5 := (A6).free 5; have q6 := (A6).free 6; have q7 := (A6).free 7
            gi_wp2_with fail
            clear a0 a1 a2 a3 a4 a5 a6 a7 q0 q1 q2 q3 q4 q5 q6 q7
            obtain ⟨w7, hw7⟩ : ∃ w7, w7 = (World.setCell (World.setCell (World.setCell (World.setCell (World.setCell (World.setCell (World.setCell (World.setCell w6 ⟨W.heap.size, 0, none⟩ (.int .u64 ((h 0 : Nat) : Int))) ⟨W.heap.size, 1, none⟩ (.int .u64 ((h 1 : Nat) : Int))) ⟨W.heap.size, 2, none⟩ (.int .u64 ((h 2 : Nat) : Int))) ⟨W.heap.size, 3, none⟩ (.int .u64 ((h 3 : Nat) : Int))) ⟨W.heap.size, 4, none⟩ (.int .u64 ((h 4 : Nat) : Int))) ⟨W.heap.size, 5, none⟩ (.int .u64 ((h 5 : Nat) : Int))) ⟨W.heap.size, 6, none⟩ (.int .u64 ((h 6 : Nat) : Int))) ⟨W.heap.size, 7, none⟩ (.int .u64 ((h 7 : Nat) : Int))) := ⟨_, rfl⟩
            rw [← hw7]
            have A7 : BoxD w7 W.heap.size h := by rw [hw7]; exact A6.put h
            have hJ7 : J (pre ++ [(g, true)]) w7 := HJ.out _ _ _ hJ6 (by rw [hw7]; exact below_put8 (Below.refl _ _) (Nat.le_refl _) _)
            clear A6 hJ6 hw7 hb6
            go_roundw
            case rel => exact ⟨j, _, h, HJD.out, Lib.hid (snoc_pre HR.out), hJ7, A7, HUF⟩
            case measure => rw [muW_of A7, HMU.out]; exact HM2.out
          · gi_wp2
            refine bodyPost_ret (results_none rfl _ _ _) rfl ?_
            exact ⟨⟨_, rfl⟩, .inr ⟨_, ⟨_, (snoc_pre HR.out).symm⟩, hJx⟩⟩
theorem upsL_fit : ∀ (k : Nat) (f : Sol), Fit f → ∀ x ∈ upsL k f, Fit x.1
  | 0, _, _, _, hx => by cases hx
  | k + 1, f, hf, x, hx => by
    unfold upsL at hx
    split at hx
    · cases hx
    · rcases List.mem_cons.1 hx with rfl | hx
      · exact hf
      · exact upsL_fit k _ (upF_fit hf) x hx
theorem sideL_fit (s c : Nat) : ∀ (k : Nat) (f : Sol), Fit f → ∀ x ∈ sideL s c k f, Fit x.1
  | 0, f, hf, x, hx => upsL_fit _ _ (upF_fit hf) x hx
  | k + 1, f, hf, x, hx => by
    unfold sideL at hx
    split at hx
    · rcases List.mem_cons.1 hx with rfl | hx
      · exact stepF_fit hf s
      · exact sideL_fit s c k _ (stepF_fit hf s) x hx
    · rcases List.mem_cons.1 hx with rfl | hx
      · exact stepF_fit hf s
      · cases hx
/-- What is yielded. -/
abbrev SF := { x : SB // Fit x.1 }
set_option maxHeartbeats 1000000 in
theorem stands_stops (n : Nat) (hn : 1 ≤ n) (Bs Bx n₀ n₁ : Nat) (f : Sol) (p : Int) (s far : Nat) (hf : Fit f) (hs : s ≤ 4) (hfar : far ≤ 7) (w : World) (hBs : BoxS w Bs f) (hBx : BoxM w Bx p s far) (h1 : n₁ ≤ Bx) :
    SeqB Fence.wide n Tryz.prog 146 #[.pointer (some ⟨Bs, 0, none⟩), .pointer (some ⟨Bx, 0, none⟩)] (fun x : SF => #[sol x.1.1, .bool x.1.2]) (KeepA n₀ n₁) (fun ys => ys.map Subtype.val = standsL f s far) (fun pre => pre.map Subtype.val <+: standsL f s far) (standsL f s far).length w := by
  intro l J Jx W hW hJ hJx hY h0
  refine (stands_walk n hn l Bs Bx n₀ n₁ f p s far _ rfl hf hs hfar (fun pre W => ∃ q : List SF, q.map Subtype.val = pre ∧ J q W) (fun pre W => ∃ q : List SF, q.map Subtype.val = pre ∧ Jx q W) W
    (fun q A C ⟨r, hr, hj⟩ hb => ⟨r, hr, hJ _ _ _ hj hb⟩) ?_ (hBs.below hW hBs.lt) (heap_below hBx hW hBx.lt) h1 ⟨[], rfl, h0⟩).mono ?_
  · rintro pre x W1 ⟨q, rfl, hj⟩ hpre
    have hx : Fit x.1 := sideL_fit _ _ _ _ hf x (hpre.subset (by simp))
    have hlen : q.length < (standsL f s far).length := by have := hpre.length_le; simp at this; omega
    refine yieldAt_mono (hY q ⟨x, hx⟩ W1 hj hlen) ?_
    rintro e W' (⟨rfl, hj2, hk⟩ | ⟨rfl, hj2⟩)
    · exact .inl ⟨rfl, ⟨_, by simp, hj2⟩, hk⟩
    · exact .inr ⟨rfl, ⟨_, by simp, hj2⟩⟩
  · rintro e W' ⟨hv, (⟨ys, rfl, q, hq, hj⟩ | ⟨pre, hp, q, hq, hj⟩)⟩
    · exact ⟨hv, .inl ⟨q, hq, hj⟩⟩
    · exact ⟨hv, .inr ⟨q, by show q.map Subtype.val <+: _; rw [hq]; exact hp, hj⟩⟩
set_option maxHeartbeats 1000000 in
theorem stands_in (n : Nat) (f : Sol) (p : Int) (s far : Nat) (w : World) :
    CallsIn Fence.wide n Tryz.prog 86 #[sol f, .agg #[.int .i64 (p), .int .i64 (s), .int .i64 (far)]] w fun e w' => e = .returned (.func (.func 146) #[] #[.pointer (some ⟨w.heap.size, 0, none⟩), .pointer (some ⟨w.heap.size + 1, 0, none⟩)]) ∧ w' = (w.alloc (.cells (solC f) 25)).alloc (.cells #[.int .i64 (p), .int .i64 (s), .int .i64 (far)] 40) := by
  have hmf : ∀ (fn : Fn) (first cap : Array Value) (w : World), (Instr.makeFunc fn first cap).run Tryz.prog w = .ok (.func fn first cap) w := fun _ _ _ _ => rfl
  refine callsIn_of_wp Tryz.func86 rfl trivial ?_ rfl
  simp only [Tryz.ntmps86, List.size_toArray, List.length_cons, List.length_nil, Nat.reduceAdd, Nat.reduceSub, Array.replicate_succ, Array.replicate_zero, List.push_toArray, List.append_toArray, List.nil_append, List.cons_append]
  gi_wp2
  go_ret
  exact ⟨rfl, rfl⟩
end Go.Proofs.YtoajocgfmbakjaaGreatDoor
/-
  The iterator over the moves of a piece, in order.
-/
set_option linter.unusedVariables false
set_option linter.unusedSimpArgs false
namespace Go.Proofs.YtoajocgfmbakjaaGreatDoor
open Go Go.RowKit Go.Shelf

attribute [local go_sem] Oper.semAt_some
theorem snoc_pre' {α : Type} {L pre r : List α} {x : α} (h : L = pre ++ (x :: r)) : L = (pre ++ [x]) ++ r := by simp [h]
/-- A side, and how far. -/
abbrev SD := Nat × Nat
def farsL (s k : Nat) : List SD := (List.range' k (8 - k)).map fun d => (s, d)
def sidesM (s : Nat) : List SD := (List.range' s (5 - s)).flatMap fun t => farsL t 1
/-- All moves of a piece. -/
def movesL : List SD := (0, 0) :: sidesM 1
theorem farsL_succ (s : Nat) {k : Nat} (h : k < 8) : farsL s k = (s, k) :: farsL s (k + 1) := by
  unfold farsL
  rw [show 8 - k = (8 - (k + 1)) + 1 by omega, List.range'_succ, List.map_cons]
theorem farsL_end (s : Nat) : farsL s 8 = [] := rfl
theorem sidesM_succ {s : Nat} (h : s < 5) : sidesM s = farsL s 1 ++ sidesM (s + 1) := by
  unfold sidesM
  rw [show 5 - s = (5 - (s + 1)) + 1 by omega, List.range'_succ, List.flatMap_cons]
theorem sidesM_end : sidesM 5 = [] := rfl
/-- The moves as the chapter says. -/
abbrev Mv := { x : SD // x.1 ≤ 4 ∧ x.2 ≤ 7 ∧ wayB x.1 x.2 = true }
theorem movesL_ok : ∀ x ∈ movesL, x.1 ≤ 4 ∧ x.2 ≤ 7 ∧ wayB x.1 x.2 = true := by decide
def KeepP (n₀ Bp : Nat) (W W' : World) : Prop := Below n₀ W W' ∧ ∀ o, W.heap[Bp]? = some o → o.isCells = true → W'.heap[Bp]? = some o
theorem keepP_t {n₀ Bp : Nat} {A B C : World} (h : KeepP n₀ Bp A B) (k : KeepP n₀ Bp B C) : KeepP n₀ Bp A C := ⟨h.1.trans k.1, fun o ho hc => k.2 o (h.2 o ho hc) hc⟩
theorem keepP_b {n₀ Bp : Nat} {w : World} (hn : n₀ ≤ w.heap.size) (W : World) (l : Nat) (o o' : Obj) (hl : w.heap.size ≤ l) (h : W.heap[l]? = some o) (h1 : o.isCells = false) (h2 : o.isWalk = false) : KeepP n₀ Bp W (W.putObj l o') :=
  ⟨belowK_b hn W l o o' hl h h1 h2, fun x hx hc => ((grownBy_putObj' W l o').block Bp (Array.getElem?_eq_some_iff.1 hx).1 (fun e => by cases e; rw [h] at hx; cases hx; rw [h1] at hc; cases hc)).trans hx⟩
set_option maxRecDepth 100000 in
set_option maxHeartbeats 2000000 in
theorem moves_walk (n : Nat) (hn : 1 ≤ n) (l Bp n₀ : Nat) (p : Int) (L : List SD) (hL : L = movesL)
    (J Jx : List SD → World → Prop) (W : World)
    (hY : ∀ pre x W1, J pre W1 → (pre ++ [x]) <+: L → YieldAt Fence.wide (n - 1) Tryz.prog l #[.agg #[.int .i64 (p), .int .i64 (x.1), .int .i64 (x.2)]] W1 fun e W' =>
      (e = .returned (.bool true) ∧ J (pre ++ [x]) W' ∧ KeepP n₀ Bp W1 W') ∨ (e = .returned (.bool false) ∧ Jx (pre ++ [x]) W'))
    (hBp : W.heap[Bp]? = some (.cells #[.int .i64 p] 3 (0, 0))) (h0 : J [] W) :
    CallsIn Fence.wide n Tryz.prog 183 #[.func (.yield l) #[] #[], .pointer (some ⟨Bp, 0, none⟩)] W fun e W' => (∃ v, e = .returned v) ∧
      ((∃ ys, ys = L ∧ J ys W') ∨ (∃ pre, pre <+: L ∧ Jx pre W')) := by
  have HYY := Lib.hid hY
  have HLL := Lib.hid hL
  clear hY hL
  have cell1 : ∀ {V : World}, V.heap[Bp]? = some (.cells #[.int .i64 p] 3 (0, 0)) → V.cell? ⟨Bp, 0, none⟩ = some (.int .i64 p) := fun h => by unfold World.cell?; rw [h]; rfl
  have c := cell1 hBp
  refine callsIn_of_wp Tryz.func183 rfl trivial ?_ rfl
  simp only [Tryz.ntmps183, List.size_toArray, List.length_cons, List.length_nil, Nat.reduceAdd, Nat.reduceSub, Array.replicate_succ, Array.replicate_zero, List.push_toArray, List.append_toArray, List.nil_append, List.cons_append]
  have HR := Lib.hid (show L = [] ++ ((0, 0) :: sidesM 1) from HLL.out)
  obtain ⟨fn, tmps, assign, body, hy, hR⟩ := HYY.out [] (0, 0) W h0 ⟨_, HR.out.symm⟩
  replace hy : (Instr.yield l #[.agg #[.int .i64 (p), .int .i64 (0), .int .i64 (0)]]).run Tryz.prog W = .ok (.round l fn tmps assign body) W := hy
  gi_wp2_with fail
  refine hR.mono ?_
  clear hR hy c
  rintro e W1 (⟨rfl, hJ1, hk1⟩ | ⟨rfl, hJx⟩)
  case inr =>
    gi_wp2
    refine bodyPost_ret (results_none rfl _ _ _) rfl ?_
    exact ⟨⟨_, rfl⟩, .inr ⟨_, ⟨_, (snoc_pre' HR.out).symm⟩, hJx⟩⟩
  have B1 := hk1.2 _ hBp rfl
  have HT1 := Lib.hid (snoc_pre' HR.out)
  clear HR HLL h0 hBp hk1
  gi_wp2_with fail
  gi_loopw [3] (fun c wr => ∃ (s : Nat) (pre : List SD), 1 ≤ s ∧ s ≤ 5 ∧ c = .int .i64 s ∧ Hid (L = pre ++ sidesM s) ∧ J pre wr ∧ wr.heap[Bp]? = some (.cells #[.int .i64 p] 3 (0, 0))) (fun c _ => 5 - (intOf c).toNat)
  case atStart => exact ⟨1, _, by omega, by omega, rfl, HT1, hJ1, B1⟩
  case round =>
    clear hJ1 HT1 B1
    obtain ⟨s, pre, hs1, hs, rfl, HT, hJp, Bp0⟩ := hrel
    by_cases hlt : s < 5
    · have hd : decide ((s : Int) ≤ 4) = true := decide_eq_true (by omega)
      have hdi : (s : Int) ≤ 4 := by omega
      gi_wp2_with fail
      obtain ⟨wo, rfl⟩ : ∃ wo : World, wo = wr := ⟨_, rfl⟩
      gi_loopw [4] (fun c wr => ∃ (k : Nat) (pre : List SD), 1 ≤ k ∧ k ≤ 8 ∧ c = .int .i64 k ∧ Hid (L = pre ++ (farsL s k ++ sidesM (s + 1))) ∧ J pre wr ∧ wr.heap[Bp]? = some (.cells #[.int .i64 p] 3 (0, 0))) (fun c _ => 8 - (intOf c).toNat)
      case atStart => exact ⟨1, pre, by omega, by omega, rfl, Lib.hid (by rw [HT.out, sidesM_succ hlt]), hJp, Bp0⟩
      case round =>
        clear hJp Bp0 HT
        obtain ⟨k, pre, hk1, hk, rfl, HT, hJp, Bp0⟩ := hrel
        by_cases hlk : k < 8
        · have hd2 : decide ((k : Int) ≤ 7) = true := decide_eq_true (by omega)
          have hdk : (k : Int) ≤ 7 := by omega
          have HR := Lib.hid (show L = pre ++ ((s, k) :: (farsL s (k + 1) ++ sidesM (s + 1))) by rw [HT.out, farsL_succ s hlk]; rfl)
          obtain ⟨fn, tmps, assign, body, hy, hR⟩ := HYY.out pre (s, k) wr hJp ⟨_, (snoc_pre' HR.out).symm⟩
          dsimp only at hy
          have c := cell1 Bp0
          gi_wp2_with fail
          refine hR.mono ?_
          clear hR hy c
          rintro e W3 (⟨rfl, hJ3, hk3⟩ | ⟨rfl, hJx⟩)
          · have B3 := hk3.2 _ Bp0 rfl
            gi_wp2
            go_roundw
            case rel => exact ⟨k + 1, _, by omega, by omega, by go_num, Lib.hid (snoc_pre' HR.out), hJ3, B3⟩
            case measure => simp [intOf]; omega
          · gi_wp2
            refine bodyPost_ret (results_none rfl _ _ _) rfl ?_
            exact ⟨⟨_, rfl⟩, .inr ⟨_, ⟨_, (snoc_pre' HR.out).symm⟩, hJx⟩⟩
        · obtain rfl : k = 8 := by omega
          gi_wp2
          go_roundw
          case rel => exact ⟨s + 1, pre, by omega, by omega, by go_num, Lib.hid (by rw [HT.out, farsL_end]; rfl), hJp, Bp0⟩
          case measure => simp [intOf]; omega
    · obtain rfl : s = 5 := by omega
      gi_wp2
      go_end0
      exact ⟨⟨_, rfl⟩, .inl ⟨pre, by rw [HT.out, sidesM_end, List.append_nil], hJp⟩⟩
set_option maxHeartbeats 1000000 in
theorem moves_stops (n : Nat) (hn : 1 ≤ n) (Bp n₀ : Nat) (p : Int) (w : World) (hBp : w.heap[Bp]? = some (.cells #[.int .i64 p] 3 (0, 0))) :
    SeqB Fence.wide n Tryz.prog 183 #[.pointer (some ⟨Bp, 0, none⟩)] (fun x : Mv => #[.agg #[.int .i64 (p), .int .i64 (x.1.1), .int .i64 (x.1.2)]]) (KeepP n₀ Bp) (fun ys => ys.map Subtype.val = movesL) (fun pre => pre.map Subtype.val <+: movesL) movesL.length w := by
  intro l J Jx W hW hJ hJx hY h0
  refine (moves_walk n hn l Bp n₀ p _ rfl (fun pre W => ∃ q : List Mv, q.map Subtype.val = pre ∧ J q W) (fun pre W => ∃ q : List Mv, q.map Subtype.val = pre ∧ Jx q W) W
    ?_ (heap_below hBp hW (Array.getElem?_eq_some_iff.1 hBp).1) ⟨[], rfl, h0⟩).mono ?_
  · rintro pre x W1 ⟨q, rfl, hj⟩ hpre
    have hx := movesL_ok x (hpre.subset (by simp))
    have hlen : q.length < movesL.length := by have := hpre.length_le; simp at this; omega
    refine yieldAt_mono (hY q ⟨x, hx⟩ W1 hj hlen) ?_
    rintro e W' (⟨rfl, hj2, hk⟩ | ⟨rfl, hj2⟩)
    · exact .inl ⟨rfl, ⟨_, by simp, hj2⟩, hk⟩
    · exact .inr ⟨rfl, ⟨_, by simp, hj2⟩⟩
  · rintro e W' ⟨hv, (⟨ys, rfl, q, hq, hj⟩ | ⟨pre, hp, q, hq, hj⟩)⟩
    · exact ⟨hv, .inl ⟨q, hq, hj⟩⟩
    · exact ⟨hv, .inr ⟨q, by show q.map Subtype.val <+: _; rw [hq]; exact hp, hj⟩⟩
set_option maxHeartbeats 1000000 in
theorem moves_stopsK (n : Nat) (hn : 1 ≤ n) (Bp n₀ : Nat) (p : Int) (w : World) (hBp : w.heap[Bp]? = some (.cells #[.int .i64 p] 3 (0, 0))) :
    SeqStopsK Fence.wide n Tryz.prog 183 #[.pointer (some ⟨Bp, 0, none⟩)] (fun x : Mv => #[.agg #[.int .i64 (p), .int .i64 (x.1.1), .int .i64 (x.1.2)]]) (KeepP n₀ Bp) (fun ys => ys.map Subtype.val = movesL) (fun pre => pre.map Subtype.val <+: movesL) movesL.length w := by
  intro l J Jx W hW hJ hJx hY h0
  refine (moves_walk n hn l Bp n₀ p _ rfl (fun pre W => ∃ q : List Mv, q.map Subtype.val = pre ∧ J q W) (fun pre W => ∃ q : List Mv, q.map Subtype.val = pre ∧ Jx q W) W
    ?_ (heap_below hBp hW (Array.getElem?_eq_some_iff.1 hBp).1) ⟨[], rfl, h0⟩).mono ?_
  · rintro pre x W1 ⟨q, rfl, hj⟩ hpre
    have hx := movesL_ok x (hpre.subset (by simp))
    have hlen : q.length < movesL.length := by have := hpre.length_le; simp at this; omega
    refine yieldAt_mono (hY q ⟨x, hx⟩ W1 hj hlen) ?_
    rintro e W' (⟨rfl, hj2, hk⟩ | ⟨rfl, hj2⟩)
    · exact .inl ⟨rfl, ⟨_, by simp, hj2⟩, hk⟩
    · exact .inr ⟨rfl, ⟨_, by simp, hj2⟩⟩
  · rintro e W' ⟨hv, (⟨ys, rfl, q, hq, hj⟩ | ⟨pre, hp, q, hq, hj⟩)⟩
    · exact ⟨hv, .inl ⟨q, hq, hj⟩⟩
    · exact ⟨hv, .inr ⟨q, by show q.map Subtype.val <+: _; rw [hq]; exact hp, hj⟩⟩
set_option maxHeartbeats 1000000 in
theorem moves_in (n : Nat) (p : Int) (w : World) :
    CallsIn Fence.wide n Tryz.prog 172 #[.int .i64 p] w fun e w' => e = .returned (.func (.func 183) #[] #[.pointer (some ⟨w.heap.size, 0, none⟩)]) ∧ w' = w.alloc (.cells #[.int .i64 p] 3) := by
  have hmf : ∀ (fn : Fn) (first cap : Array Value) (w : World), (Instr.makeFunc fn first cap).run Tryz.prog w = .ok (.func fn first cap) w := fun _ _ _ _ => rfl
  refine callsIn_of_wp Tryz.func172 rfl trivial ?_ rfl
  simp only [Tryz.ntmps172, List.size_toArray, List.length_cons, List.length_nil, Nat.reduceAdd, Nat.reduceSub, Array.replicate_succ, Array.replicate_zero, List.push_toArray, List.append_toArray, List.nil_append, List.cons_append]
  gi_wp2
  go_ret
  exact ⟨rfl, rfl⟩
end Go.Proofs.YtoajocgfmbakjaaGreatDoor
/-
  The ways of the pieces of a mould; the map in which they are kept, once reckoned.
-/
set_option linter.unusedVariables false
set_option linter.unusedSimpArgs false
namespace Go.Proofs.YtoajocgfmbakjaaGreatDoor
open Go Go.RowKit Go.Shelf
open Go.Maps (Keyed)

/-- Nothing of the sand is met, and it stays between the sides. -/
def freeK (sand : Sol) (L : List SB) : Bool := L.all fun x => x.2 && !touchB x.1 sand
/-- What pieces are met. -/
def metK (ms : List Sol) (p : Int) (L : List SB) : Nat := L.foldl (fun q x => q ||| touchK ms x.1 p ms.length) 0
def sandF (ms : List Sol) : Sol := restF ms (allN ms.length)
abbrev Wy := SD × Nat
/-- The ways of a piece that are free of sand. -/
def waysL (ms : List Sol) (p : Nat) (f : Sol) : List Wy :=
  movesL.filterMap fun x => if freeK (sandF ms) (standsL f x.1 x.2) = true then some (x, metK ms p (standsL f x.1 x.2)) else none
theorem metK_snoc (ms : List Sol) (p : Int) (L : List SB) (x : SB) : metK ms p (L ++ [x]) = metK ms p L ||| touchK ms x.1 p ms.length := by
  simp [metK]
theorem metK_lt (ms : List Sol) (p : Int) (h : ms.length ≤ 16) : ∀ L, metK ms p L < 65536 := by
  have key : ∀ (L : List SB) (q : Nat), q < 65536 → L.foldl (fun q x => q ||| touchK ms x.1 p ms.length) q < 65536 := by
    intro L
    induction L with
    | nil => intro q hq; exact hq
    | cons x L ih => intro q hq; exact ih _ (or16 hq (touchK_lt ms x.1 p _ h))
  exact fun L => key L 0 (by decide)
/-- A way's cells. -/
def wyC (p : Nat) (x : Wy) : List Value := [.int .i64 p, .int .i64 x.1.1, .int .i64 x.1.2, .int .u16 x.2]
def flatW (p : Nat) (l : List Wy) : List Value := l.flatMap (wyC p)
theorem flatW_snoc (p : Nat) (l : List Wy) (x : Wy) : flatW p (l ++ [x]) = flatW p l ++ wyC p x := by simp [flatW]
theorem flatW_at (p : Nat) : ∀ (l : List Wy) {i k : Nat} {y : Wy} {u : Value}, l[i]? = some y → k < 4 → (wyC p y)[k]? = some u → (flatW p l)[i * 4 + k]? = some u
  | [], i, k, y, u, h, _, _ => by simp at h
  | z :: l, 0, k, y, u, h, hk, hu => by
    simp at h
    subst h
    show (wyC p z ++ flatW p l)[0 * 4 + k]? = some u
    rw [Nat.zero_mul, Nat.zero_add, List.getElem?_append_left (by simp [wyC]; omega)]
    exact hu
  | z :: l, i + 1, k, y, u, h, hk, hu => by
    have ih := flatW_at p l (by simpa using h) hk hu
    show (wyC p z ++ flatW p l)[(i + 1) * 4 + k]? = some u
    rw [List.getElem?_append_right (by simp [wyC]; omega)]
    have e : (i + 1) * 4 + k - (wyC p z).length = i * 4 + k := by simp [wyC]; omega
    rw [e]
    exact ih
/-- A row of ways. -/
def RowW (W : World) (v : Value) (p : Nat) (l : List Wy) : Prop := ∃ b, W.ownsRow b 108 4 v l.length (flatW p l)
theorem RowW.kept {W W' : World} {v : Value} {p : Nat} {l : List Wy} (h : RowW W v p l) {row : Option Nat} (hg : W.grownBy W' row) (hne : ∀ r, row = some r → ∃ o : Obj, W.heap[r]? = some o ∧ o.isCells = false) : RowW W' v p l := by
  obtain ⟨b, h⟩ := h
  refine ⟨b, h.kept hg ?_⟩
  obtain ⟨h1, h2 | ⟨g, cap, cur, rfl, hb, hg', _⟩⟩ := h
  · obtain ⟨rfl, _⟩ := h2
    exact .inl rfl
  · refine .inr fun e => ?_
    obtain ⟨o, ho, hc⟩ := hne g e.symm
    rw [hg'] at ho
    cases ho
    cases hc
theorem RowW.below {W W' : World} {v : Value} {p : Nat} {l : List Wy} (h : RowW W v p l) (hb : Below W.heap.size W W') : RowW W' v p l :=
  h.kept (row := none) ⟨hb.os, hb.tape, hb.output, hb.size, fun i hi _ => hb.block i hi⟩ (fun r e => by cases e)
/-- An element is handed on as it is. -/
def heldV (v : Value) : Option (DataW Value × List MemPlace) := some (.held v, [])
theorem under_map : Tryz.prog.underlying 99 = some (.map 3 176) := by kernel_rfl
theorem int_key : Keyed Tryz.prog 3 := Go.Maps.int_keyed Tryz.underlying3
theorem zero_ways (w : World) : (zeroValue 176).run Tryz.prog w = .ok (.slice none 0 0) w := by kernel_rfl
theorem wf_small {x : Nat} (h : x ≤ 12) : (Lit.int .i64 (x : Int)).wf = true := by
  have h1 : IntKind.i64.min = -9223372036854775808 := by decide
  have h2 : IntKind.i64.max = 9223372036854775807 := by decide
  simp only [Lit.wf, h1, h2, Bool.and_eq_true, decide_eq_true_eq]
  omega
theorem key_small {x : Nat} (h : x ≤ 12) : keyOf Tryz.prog 3 (.int .i64 x) = some (.int .i64 x) := Go.Maps.keyOf_int_mk Tryz.underlying3 (wf_small h)
/-- How many of the first k pieces have been asked for. -/
def hasK (D : DataW Value) : Nat → Nat
  | 0 => 0
  | k + 1 => hasK D k + if Go.Maps.has D (.int .i64 (k : Int)) = true then 1 else 0
theorem hasK_le (D : DataW Value) : ∀ k, hasK D k ≤ k
  | 0 => Nat.le_refl _
  | k + 1 => by
    have := hasK_le D k
    unfold hasK
    split <;> omega
theorem lit_inj {q p : Nat} (h : Lit.int .i64 (q : Int) = .int .i64 (p : Int)) : q = p := by
  have h2 : (q : Int) = (p : Int) := by injection h
  exact Int.ofNat.inj h2
theorem hasK_put {D D' : DataW Value} {p : Nat} (h0 : Go.Maps.has D (.int .i64 (p : Int)) = false) (h1 : Go.Maps.has D' (.int .i64 (p : Int)) = true) (h : ∀ q : Nat, q ≠ p → Go.Maps.has D' (.int .i64 (q : Int)) = Go.Maps.has D (.int .i64 (q : Int))) :
    ∀ k, hasK D k + (if p < k then 1 else 0) ≤ hasK D' k
  | 0 => by simp [hasK]
  | k + 1 => by
    have ih := hasK_put h0 h1 h k
    unfold hasK
    by_cases e : k = p
    · subst e
      rw [h0, h1]
      simp at ih ⊢
      exact ih
    · rw [h k e]
      have e1 : (p < k + 1) = (p < k) := propext ⟨fun _ => by omega, fun _ => by omega⟩
      simp only [e1]
      omega
/-- Its row does not lie in certain blocks. -/
def Off (av : Nat → Prop) (v : Value) : Prop := ∀ k, v.ownBlock = some k → ¬ av k
/-- The map has only ways of pieces, in rows off certain blocks; none yet of piece q. -/
def Ways (W : World) (b : Nat) (q : Option Nat) (ms : List Sol) (av : Nat → Prop) : Prop :=
  ∃ (n : Nat) (D : DataW Value), W.ownsMap Tryz.prog 3 heldV b n D ∧ n ≤ hasK D ms.length ∧ (∀ p, q = some p → Go.Maps.has D (.int .i64 (p : Int)) = false) ∧
    ∀ (p : Nat) (f : Sol), ms[p]? = some f → Go.Maps.has D (.int .i64 (p : Int)) = true → ∃ v, (∀ z, D.atKey (.int .i64 (p : Int)) z = .held v) ∧ RowW W v p (waysL ms p f) ∧ Off av v
theorem Ways.made (w : World) (ms : List Sol) (av : Nat → Prop) : Ways (w.alloc (.map #[] 0)) w.heap.size none ms av := ⟨0, _, World.ownsMap_made w _ _ _, Nat.zero_le _, fun p h => (by cases h), fun p f _ h => (by cases h)⟩
theorem Ways.lt {W : World} {b : Nat} {q : Option Nat} {ms : List Sol} {av : Nat → Prop} (h : Ways W b q ms av) : b < W.heap.size := by
  obtain ⟨n, D, h, _⟩ := h
  exact h.lt
theorem Ways.kept {W W' : World} {b : Nat} {q : Option Nat} {ms : List Sol} {av : Nat → Prop} (h : Ways W b q ms av) {row : Option Nat} (hg : W.grownBy W' row) (hb : some b ≠ row) (hne : ∀ r, row = some r → ∃ o : Obj, W.heap[r]? = some o ∧ o.isCells = false) : Ways W' b q ms av := by
  obtain ⟨n, D, h, hn, hq, k⟩ := h
  refine ⟨n, D, h.kept hg hb, hn, hq, fun p f hf hh => ?_⟩
  obtain ⟨v, h1, h2, h3⟩ := k p f hf hh
  exact ⟨v, h1, h2.kept hg hne, h3⟩
theorem Ways.below {W W' : World} {b : Nat} {q : Option Nat} {ms : List Sol} {av : Nat → Prop} (h : Ways W b q ms av) (hb : Below W.heap.size W W') : Ways W' b q ms av :=
  h.kept (row := none) ⟨hb.os, hb.tape, hb.output, hb.size, fun i hi _ => hb.block i hi⟩ (by simp) (fun r e => by cases e)
theorem Ways.any {W : World} {b : Nat} {q : Option Nat} {ms : List Sol} {av : Nat → Prop} (h : Ways W b q ms av) : Ways W b none ms av := by
  obtain ⟨n, D, h, hn, hq, k⟩ := h
  exact ⟨n, D, h, hn, fun p e => (by cases e), k⟩
theorem Ways.look {w W : World} {b : Nat} {ms : List Sol} {av : Nat → Prop} (h : Ways w b none ms av) (hb : Below w.heap.size w W) {p : Nat} {f : Sol} (hf : ms[p]? = some f) (hp : p ≤ 12) :
    ∃ v ok, (Instr.lookup 99 (.map (some b)) (.int .i64 p) true).run Tryz.prog W = .ok (.tuple #[v, .bool ok]) W ∧ (ok = true → RowW W v p (waysL ms p f) ∧ Off av v) ∧ (ok = false → Ways w b (some p) ms av) := by
  obtain ⟨n, D, h, hn, hq, k⟩ := h
  obtain ⟨v, ps, hrun, hv⟩ := (h.kept (w' := W) (row := none) ⟨hb.os, hb.tape, hb.output, hb.size, fun i hi _ => hb.block i hi⟩ (by simp)).look_ok int_key under_map (zero_ways W) (zd := .held (.slice none 0 0)) (zp := []) rfl (key_small hp)
  refine ⟨v, _, hrun, fun ho => ?_, fun ho => ⟨n, D, h, hn, fun p' e => by cases e; exact ho, k⟩⟩
  obtain ⟨u, h1, h2, h4⟩ := k p f hf ho
  rw [h1] at hv
  simp only [heldV, Option.some.injEq, Prod.mk.injEq, DataW.held.injEq] at hv
  rw [hv.1]
  exact ⟨h2.below hb, h4⟩
theorem Ways.put {W : World} {b : Nat} {ms : List Sol} {av : Nat → Prop} {p : Nat} {f : Sol} (h : Ways W b (some p) ms av) (hf : ms[p]? = some f) (hl : ms.length ≤ 12) {v : Value} (hr : RowW W v p (waysL ms p f)) (ho : Off av v) :
    ∃ W', (Instr.mapUpdate 99 (.map (some b)) (.int .i64 p) v).run Tryz.prog W = .ok () W' ∧ Ways W' b none ms av ∧ W.grownBy W' (some b) ∧ RowW W' v p (waysL ms p f) := by
  have hp : p < ms.length := (List.getElem?_eq_some_iff.1 hf).1
  obtain ⟨n, D, h, hn, hq, k⟩ := h
  have h0 := hq p rfl
  have hno : ∀ r, some b = some r → ∃ o : Obj, W.heap[r]? = some o ∧ o.isCells = false := fun r e => by
    cases e
    obtain ⟨es, clock, hb, _⟩ := h
    exact ⟨_, hb, rfl⟩
  obtain ⟨W', hrun, h2, h3⟩ := h.update int_key under_map (by have := hasK_le D ms.length; simp only [maxLen]; omega) (key_small (x := p) (by omega)) (val := v) (d := .held v) (ps := []) rfl
  have hpk := int_key.key (key_small (x := p) (by omega))
  have hne : ∀ q : Nat, q ≠ p → (Lit.int .i64 (q : Int)) ≠ .int .i64 (p : Int) := fun q e hc => e (lit_inj hc)
  refine ⟨W', hrun, ⟨_, _, h2, ?_, fun q e => (by cases e), fun q g hg hh => ?_⟩, h3, hr.kept h3 hno⟩
  · have := hasK_put h0 (Go.Maps.has_put_same h.isMap hpk (.held v)) (fun q e => Go.Maps.has_put_other (hne q e) _) ms.length
    rw [if_pos hp] at this
    omega
  · have hq' : q < ms.length := (List.getElem?_eq_some_iff.1 hg).1
    by_cases e : q = p
    · subst e
      rw [hf] at hg
      cases hg
      exact ⟨v, fun z => Go.Maps.atKey_put_same h.isMap hpk _ _, hr.kept h3 hno, ho⟩
    · rw [Go.Maps.has_put_other (hne q e)] at hh
      obtain ⟨u, h4, h5, h6⟩ := k q g hg hh
      exact ⟨u, fun z => by rw [Go.Maps.atKey_put_other (hne q e), h4], h5.kept h3 hno, h6⟩
/-- Rows of a world are off what comes behind it. -/
theorem Ways.imp {W : World} {b : Nat} {q : Option Nat} {ms : List Sol} {av av' : Nat → Prop} (h : Ways W b q ms av) (hi : ∀ k, av' k → av k ∨ W.heap.size ≤ k) : Ways W b q ms av' := by
  obtain ⟨n, D, h, hn, hq, k⟩ := h
  refine ⟨n, D, h, hn, hq, fun p f hf hh => ?_⟩
  obtain ⟨v, h1, h2, h3⟩ := k p f hf hh
  refine ⟨v, h1, h2, fun j hj ha => ?_⟩
  rcases hi j ha with h4 | h4
  · exact h3 j hj h4
  · obtain ⟨b0, h2⟩ := h2
    have := (h2.lt j hj).2
    omega
/-- The ways among some moves. -/
def wysL (ms : List Sol) (p : Nat) (f : Sol) (pre : List Mv) : List Wy :=
  pre.filterMap fun x => if freeK (sandF ms) (standsL f x.1.1 x.1.2) = true then some (x.1, metK ms p (standsL f x.1.1 x.1.2)) else none
theorem wysL_all {ms : List Sol} {p : Nat} {f : Sol} {ys : List Mv} (h : ys.map Subtype.val = movesL) : wysL ms p f ys = waysL ms p f := by
  unfold waysL wysL
  rw [← h, List.filterMap_map]
  rfl
theorem wysL_yes {ms : List Sol} {p : Nat} {f : Sol} {pre : List Mv} {x : Mv} (h : freeK (sandF ms) (standsL f x.1.1 x.1.2) = true) : wysL ms p f (pre ++ [x]) = wysL ms p f pre ++ [(x.1, metK ms p (standsL f x.1.1 x.1.2))] := by
  simp [wysL, h]
theorem wysL_no {ms : List Sol} {p : Nat} {f : Sol} {pre : List Mv} {x : Mv} (h : freeK (sandF ms) (standsL f x.1.1 x.1.2) = false) : wysL ms p f (pre ++ [x]) = wysL ms p f pre := by
  simp [wysL, h]
theorem freeK_snoc (sd : Sol) (L : List SB) (x : SB) : freeK sd (L ++ [x]) = (freeK sd L && (x.2 && !touchB x.1 sd)) := by
  simp [freeK]
theorem freeK_prefix {sd : Sol} {L q : List SB} (h : q <+: L) (hq : freeK sd q = false) : freeK sd L = false := by
  obtain ⟨r, rfl⟩ := h
  unfold freeK at *
  rw [List.all_append, hq]
  rfl
theorem grown_low {V X C : World} {G : Nat} (h : V.grownBy X (some G)) (hb : Below V.heap.size X C) : V.grownBy C (some G) :=
  ⟨hb.os.trans h.os, hb.tape.trans h.tape, hb.output.trans h.output, Nat.le_trans h.size hb.size, fun i hi hne => (hb.block i hi).trans (h.block i hi hne)⟩
theorem SeqB.inRound {α : Type} {F : Fence} {n : Nat} {P : Program} {g : Nat} {lb : Array Value} {encs : α → Array Value} {Kp : World → World → Prop} {S Sp : List α → Prop} {N : Nat} {w : World} (l : Nat)
    (h : SeqB F n P g lb encs Kp S Sp N w) : SeqB (F.inRound l) n P g lb encs Kp S Sp N w := h
theorem info_way : (Tryz.prog.info? 108).map (fun i => (i.zero, i.size, i.bytes)) = some (some (Value.agg #[.int .i64 0, .int .i64 0, .int .i64 0, .int .u16 0]), 4, 32) := by kernel_rfl
theorem under_ways : Tryz.prog.underlying 176 = some (.slice 108) := by kernel_rfl
end Go.Proofs.YtoajocgfmbakjaaGreatDoor
