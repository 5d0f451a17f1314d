/-
  The reference's InWay.
-/
import Derived.Test.YtoajocgfmbakjaaGreatDoorPdY
import Derived.Test.YtoajocgfmbakjaaGreatDoorPdS
set_option linter.unusedVariables false
set_option linter.unusedSimpArgs false
namespace Go.Proofs.YtoajocgfmbakjaaGreatDoor
open Go Go.RowKit Go.Shelf

set_option maxRecDepth 100000 in
set_option maxHeartbeats 4000000 in
theorem refInWay_ok (ms : List Sol) (p s far : Int) (v : Value) (w : World) (hv : SolsAt w v ms) (hm : ∀ m ∈ ms, Fit m) :
    Calls Tryz.prog 33 #[v, .agg #[.int .i64 (p), .int .i64 (s), .int .i64 (far)]] w fun e w' => (∃ u, e = .returned (.tuple #[u, .bool (inWayF ms (p, s, far)).isSome, .int .i64 (inWayE ms (p, s, far))]) ∧ w'.ownsRow w.heap.size 3 1 u (inWayL ms (p, s, far)).length (flatI (inWayL ms (p, s, far)))) ∧ Below w.heap.size w w' := by
  have q0 : BoxM (w.alloc (.cells #[.int .i64 (p), .int .i64 (s), .int .i64 (far)] 40)) w.heap.size p s far := World.alloc_heap_new w _
  have hB0 : Below w.heap.size w (w.alloc (.cells #[.int .i64 (p), .int .i64 (s), .int .i64 (far)] 40)) := (Below.refl _ w).alloc (Nat.le_refl _) _
  obtain ⟨B, hBB⟩ : ∃ B, B = w.heap.size := ⟨_, rfl⟩
  obtain ⟨W0, hW0⟩ : ∃ W0, W0 = w.alloc (.cells #[.int .i64 (p), .int .i64 (s), .int .i64 (far)] 40) := ⟨_, rfl⟩
  rw [← hW0] at q0 hB0
  rw [← hBB] at q0
  have HBE := Lib.hid hBB
  have HB0 := Lib.hid hB0
  have lq := (Array.getElem?_eq_some_iff.1 q0).1
  have HC := Lib.hid (refCheck_ok ms v W0 (hv.below hB0 (Nat.le_refl _)) hm)
  have HIM := Lib.hid (fun W => isMoveR_ok ms.length p s far W)
  obtain ⟨pa, cap, rfl, _, _⟩ := id hv
  by_cases hc : chkM ms = 0
  · rw [hc] at HC
    have h12 := chkM_len hc
    cases hmv : moveB ms.length p s far with
    | false =>
      have hE : inWayE ms (p, s, far) = 1 := by unfold inWayE; dsimp only; rw [if_pos hc, hmv]; rfl
      have hF : inWayF ms (p, s, far) = none := by unfold inWayF; rw [if_neg (by rw [hE]; decide)]
      have hL : inWayL ms (p, s, far) = [] := by unfold inWayL; rw [hF]; rfl
      rw [hE, hF, hL]
      rw [hmv] at HIM
      clear hE hF hL hc hmv hv hm hB0 hBB
      generalize ms.length = n at *
      go_enter Tryz.func33, Tryz.ntmps33
      go_upto_region 1 with fail
      rw [← hW0]
      clear hW0
      rw [← HBE.out]
      go_wp2_with fail
      refine HC.out.mono ?_
      rintro e w1 ⟨rfl, hb1⟩
      have HB1 := Lib.hid (up hb1 HB0.out)
      obtain ⟨x0, x1, x2⟩ := BoxM.cells (heap_below q0 hb1 lq)
      clear hb1
      go_wp2_with fail
      refine (HIM.out _).mono ?_
      rintro e w2 ⟨rfl, hb2⟩
      have HB2 := Lib.hid (up hb2 HB1.out)
      go_wp2_with fail
      go_returns
      exact ⟨⟨_, rfl, World.ownsRow_nil _ _ _ _⟩, HB2.out⟩
    | true =>
      obtain ⟨r, x, rfl, rfl, rfl, hr, hrt, hx⟩ := moveB_ok hmv
      obtain ⟨f, hf⟩ : ∃ f, ms[r]? = some f := ⟨_, List.getElem?_eq_getElem hr⟩
      have hwb : wayB x.1 x.2 = true := by
        have h2 := hmv
        unfold moveB at h2
        rw [Bool.and_eq_true] at h2
        exact h2.2
      have hw : x.1 = 0 ∧ x.2 = 0 ∨ 1 ≤ x.1 ∧ x.1 ≤ 4 ∧ 1 ≤ x.2 ∧ x.2 ≤ 7 := by
        have h2 := hwb
        unfold wayB at h2
        have := of_decide_eq_true h2
        omega
      have hE : inWayE ms ((r : Int), (x.1 : Int), (x.2 : Int)) = 0 := by unfold inWayE; dsimp only; rw [if_pos hc, hmv]; rfl
      have hF : inWayF ms ((r : Int), (x.1 : Int), (x.2 : Int)) = wayF ms r f x := by
        unfold inWayF
        rw [if_pos hE]
        dsimp only
        rw [Int.toNat_natCast, Int.toNat_natCast, Int.toNat_natCast, hf]
      have hbw := blk_way hm hc hf hwb
      have h1 : (blkF ms r f x.1 x.2).isSome = (wayF ms r f x).isSome := by rw [hbw]; cases wayF ms r f x <;> rfl
      have h2 : (blkF ms r f x.1 x.2).getD [] = inWayL ms ((r : Int), (x.1 : Int), (x.2 : Int)) := by
        unfold inWayL
        rw [hF, hbw]
        cases wayF ms r f x <;> rfl
      have HBL := Lib.hid (fun W (h : Below w.heap.size w W) => blocked_ok ms r f x.1 x.2 pa cap W (hv.below h (Nat.le_refl _)) hm h12 hf (by omega) (by omega))
      rw [h1, h2] at HBL
      rw [hE, hF]
      rw [hmv] at HIM
      generalize inWayL ms ((r : Int), (x.1 : Int), (x.2 : Int)) = LL at *
      generalize (wayF ms r f x).isSome = ok at *
      clear hE hF hc hmv hv hm hB0 hBB h1 h2 hbw hf hwb hw hx hrt hr h12
      generalize ms.length = n at *
      obtain ⟨s, far⟩ := x
      dsimp only at *
      go_enter Tryz.func33, Tryz.ntmps33
      go_upto_region 1 with fail
      rw [← hW0]
      clear hW0
      rw [← HBE.out]
      go_wp2_with fail
      refine HC.out.mono ?_
      rintro e w1 ⟨rfl, hb1⟩
      have HB1 := Lib.hid (up hb1 HB0.out)
      have q1 := heap_below q0 hb1 lq
      have lq1 := (Array.getElem?_eq_some_iff.1 q1).1
      obtain ⟨x0, x1, x2⟩ := BoxM.cells q1
      clear hb1 q0 lq
      go_wp2_with fail
      refine (HIM.out _).mono ?_
      rintro e w2 ⟨rfl, hb2⟩
      have HB2 := Lib.hid (up hb2 HB1.out)
      have q2 := heap_below q1 hb2 lq1
      clear hb2 q1 lq1 x0 x1 x2
      obtain ⟨x0, x1, x2⟩ := BoxM.cells q2
      go_wp2_with fail
      refine (HBL.out _ HB2.out).mono ?_
      rintro e w3 ⟨⟨u, rfl, hu⟩, hb3⟩
      have HU := Lib.hid (own_mono hu HB2.out.size)
      have HB3 := Lib.hid (up hb3 HB2.out)
      clear hu hb3
      go_wp2_with fail
      go_returns
      exact ⟨⟨_, rfl, HU.out⟩, HB3.out⟩
  · have hE : inWayE ms (p, s, far) = chkM ms := by unfold inWayE; rw [if_neg hc]
    have hF : inWayF ms (p, s, far) = none := by unfold inWayF; rw [if_neg (by rw [hE]; exact hc)]
    have hL : inWayL ms (p, s, far) = [] := by unfold inWayL; rw [hF]; rfl
    rw [hE, hF, hL]
    generalize chkM ms = c at *
    have hne : (c != 0) = true := by simpa using hc
    clear hE hF hL hc hv hm hB0 hBB
    generalize ms.length = n at *
    go_enter Tryz.func33, Tryz.ntmps33
    go_upto_region 1 with fail
    rw [← hW0]
    clear hW0
    rw [← HBE.out]
    go_wp2_with fail
    refine HC.out.mono ?_
    rintro e w1 ⟨rfl, hb1⟩
    have HB1 := Lib.hid (up hb1 HB0.out)
    go_wp2_with fail
    go_returns
    exact ⟨⟨_, rfl, World.ownsRow_nil _ _ _ _⟩, HB1.out⟩
end Go.Proofs.YtoajocgfmbakjaaGreatDoor
