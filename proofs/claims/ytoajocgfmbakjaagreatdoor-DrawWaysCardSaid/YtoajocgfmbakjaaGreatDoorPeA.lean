/-
  DrawWays: the walk.
-/
import Derived.Test.YtoajocgfmbakjaaGreatDoorPdZ
import Derived.Test.YtoajocgfmbakjaaGreatDoorPdW
import Derived.Test.YtoajocgfmbakjaaGreatDoorPdX
import Derived.Test.YtoajocgfmbakjaaGreatDoorPdN
import Derived.Test.YtoajocgfmbakjaaGreatDoorPdJ
import Derived.Test.YtoajocgfmbakjaaGreatDoorPdK
set_option linter.unusedVariables false
set_option linter.unusedSimpArgs false
namespace Go.Proofs.YtoajocgfmbakjaaGreatDoor
open Go Go.RowKit Go.Shelf

set_option maxRecDepth 100000 in
set_option maxHeartbeats 4000000 in
theorem ways_core (ms : List Sol) (l : List Int) (p s far : Int) (v lv : Value) (w : World) (A : List Int) (fr h c : Bool) (e a b g : Int)
    (hv : SolsAt w v ms) (hl : IntsAt w lv l) (hT : Tab32 w) (h64 : Tab64 w)
    (HA : ∀ W, SolsAt W v ms → Tab32 W → Calls Tryz.prog 32 #[v, .agg #[.int .i64 (p), .int .i64 (s), .int .i64 (far)]] W fun e' w' => (∃ u, e' = .returned (.tuple #[u, .bool fr, .int .i64 e]) ∧ IntsAt w' u A) ∧ Below W.heap.size W w')
    (HB : ∀ W, SolsAt W v ms → Calls Tryz.prog 33 #[v, .agg #[.int .i64 (p), .int .i64 (s), .int .i64 (far)]] W fun e' w' => (∃ u, e' = .returned (.tuple #[u, .bool fr, .int .i64 e]) ∧ IntsAt w' u A) ∧ Below W.heap.size W w')
    (HC : l.length ≤ 20 → ∀ W, SolsAt W v ms → IntsAt W lv l → Tab64 W → Calls Tryz.prog 34 #[v, lv, .agg #[.int .i64 (p), .int .i64 (s), .int .i64 (far)]] W (RetB (.tuple #[.int .i64 a, .int .i64 b, .bool h, .int .i64 g]) W))
    (HD : ∀ W, SolsAt W v ms → IntsAt W lv l → Calls Tryz.prog 35 #[v, lv, .agg #[.int .i64 (p), .int .i64 (s), .int .i64 (far)]] W (RetB (.tuple #[.int .i64 a, .int .i64 b, .bool h, .int .i64 g]) W))
    (HE : l.length ≤ 20 → ∀ W, SolsAt W v ms → IntsAt W lv l → Calls Tryz.prog 36 #[v, lv, .agg #[.int .i64 (p), .int .i64 (s), .int .i64 (far)]] W (RetB (.tuple #[.bool c, .int .i64 g]) W))
    (HG : ∀ W, SolsAt W v ms → IntsAt W lv l → Calls Tryz.prog 37 #[v, lv, .agg #[.int .i64 (p), .int .i64 (s), .int .i64 (far)]] W (RetB (.tuple #[.bool c, .int .i64 g]) W)) :
    Calls Tryz.prog 4 #[v, lv, .agg #[.int .i64 (p), .int .i64 (s), .int .i64 (far)]] w (RetB (.bool true) w) := by
  have q0 : BoxM (w.alloc (.cells #[.int .i64 (p), .int .i64 (s), .int .i64 (far)] 40)) w.heap.size p s far := World.alloc_heap_new w _
  have hB0 : Below w.heap.size w (w.alloc (.cells #[.int .i64 (p), .int .i64 (s), .int .i64 (far)] 40)) := (Below.refl _ w).alloc (Nat.le_refl _) _
  obtain ⟨B, hBB⟩ : ∃ B, B = w.heap.size := ⟨_, rfl⟩
  obtain ⟨W0, hW0⟩ : ∃ W0, W0 = w.alloc (.cells #[.int .i64 (p), .int .i64 (s), .int .i64 (far)] 40) := ⟨_, rfl⟩
  rw [← hW0] at q0 hB0
  rw [← hBB] at q0
  have HBE := Lib.hid hBB
  have HW0 := Lib.hid hB0
  have HLQ := Lib.hid (Array.getElem?_eq_some_iff.1 q0).1
  have HQ0 := Lib.hid q0
  have HT := Lib.hid (hT.below hB0 (Nat.le_refl _))
  have H6 := Lib.hid (h64.below hB0 (Nat.le_refl _))
  have HV := Lib.hid (hv.below hB0 (Nat.le_refl _))
  have HL := Lib.hid (hl.below hB0 (Nat.le_refl _))
  have HA := Lib.hid HA
  have HB := Lib.hid HB
  have HC := Lib.hid HC
  have HD := Lib.hid HD
  have HE := Lib.hid HE
  have HG := Lib.hid HG
  obtain ⟨pa, ca, rfl, hma, _⟩ := hv
  obtain ⟨pl, cl, rfl, hmb, _⟩ := hl
  obtain ⟨fw, hfw⟩ : ∃ fw, fw = decide ((ms.length : Int) ≤ 12 ∨ 12 < (ms.length : Int) ∧ (ms.length : Int) ≤ 15) := ⟨_, rfl⟩
  have HF := Lib.hid (fun W => few_ok pa ms.length ca 12 W)
  rw [← hfw] at HF
  clear hfw hT h64 q0 hB0 hBB hma hmb
  have HN := Lib.hid (show ∀ W : World, Below W0.heap.size W0 W → Below w.heap.size w W from fun _ h => HW0.out.trans (h.mono HW0.out.size))
  go_enter Tryz.func4, Tryz.ntmps4
  go_upto_region 1 with fail
  rw [← hW0]
  clear hW0
  rw [← HBE.out]
  cases fw with
  | false =>
    go_wp2_with fail
    refine (HF.out _).mono ?_
    rintro e w1 ⟨rfl, hb1⟩
    have HB1 := Lib.hid hb1
    go_wp2_with fail
    refine (cast_ok _ (HT.out.below HB1.out (Nat.le_refl _)) (H6.out.below HB1.out (Nat.le_refl _))).mono ?_
    rintro e w4 ⟨rfl, hb4⟩
    go_wp2_with fail
    go_returns
    exact ⟨rfl, HN.out _ (up hb4 HB1.out)⟩
  | true =>
    go_wp2_with fail
    refine (HF.out _).mono ?_
    rintro e w1 ⟨rfl, hb1⟩
    have HB1 := Lib.hid hb1
    have HK1 := Lib.hid (HL.out.below HB1.out (Nat.le_refl _))
    clear hb1
    obtain ⟨sw, hsw⟩ : ∃ sw, sw = decide (∀ x ∈ [l], x.length ≤ 20) := ⟨_, rfl⟩
    have HS := Lib.hid (fun (n cap : Nat) (h : n = w1.heap.size) => short_ok [l] (.slice (.some ⟨n, 0, none⟩) 1 cap) _ (lists_one h HK1.out))
    rw [← hsw] at HS
    have HSW := Lib.hid hsw
    clear hsw
    cases sw with
    | false =>
      go_wp2_with fail
      refine (HS.out _ _ rfl).mono ?_
      rintro e w2 ⟨rfl, hb2⟩
      have HB2 := Lib.hid (up (up hb2 (grow1 _ _)) HB1.out)
      clear hb2
      go_wp2_with fail
      refine (cast_ok _ (HT.out.below HB2.out (Nat.le_refl _)) (H6.out.below HB2.out (Nat.le_refl _))).mono ?_
      rintro e w4 ⟨rfl, hb4⟩
      go_wp2_with fail
      go_returns
      exact ⟨rfl, HN.out _ (up hb4 HB2.out)⟩
    | true =>
      have h20 : l.length ≤ 20 := by have := of_decide_eq_true HSW.out.symm; exact this l (by simp)
      have HC1 := Lib.hid (HC.out h20)
      have HE1 := Lib.hid (HE.out h20)
      clear HC HE HSW h20
      have HX := Lib.hid (show ∀ W : World, Below W0.heap.size W0 W → BoxM W B p s far from fun _ h => heap_below HQ0.out h HLQ.out)
      go_wp2_with fail
      refine (HS.out _ _ rfl).mono ?_
      rintro e w2 ⟨rfl, hb2⟩
      have HB2 := Lib.hid (up (up hb2 (grow1 _ _)) HB1.out)
      clear hb2 HS HK1 HB1
      obtain ⟨x0, x1, x2⟩ := BoxM.cells (HX.out _ HB2.out)
      go_wp2_with fail
      refine (HA.out _ (HV.out.below HB2.out (Nat.le_refl _)) (HT.out.below HB2.out (Nat.le_refl _))).mono ?_
      rintro e' w3 ⟨⟨ua, rfl, hua⟩, hb3⟩
      have HB3 := Lib.hid (up hb3 HB2.out)
      have HA3 := Lib.hid hua
      obtain ⟨pa1, ca1, rfl, hma1, _⟩ := hua
      clear hb3 HA HB2 x0 x1 x2
      obtain ⟨x0, x1, x2⟩ := BoxM.cells (HX.out _ HB3.out)
      go_wp2_with fail
      refine (HB.out _ (HV.out.below HB3.out (Nat.le_refl _))).mono ?_
      rintro e' w4 ⟨⟨ub, rfl, hub⟩, hb4⟩
      have HB4 := Lib.hid (up hb4 HB3.out)
      have HA4 := Lib.hid (HA3.out.below hb4 (Nat.le_refl _))
      have HU4 := Lib.hid hub
      obtain ⟨pb1, cb1, rfl, hmb1, _⟩ := hub
      clear hb4 HB HB3 HA3 x0 x1 x2 hma1 hmb1
      generalize A.length = nA at *
      obtain ⟨x0, x1, x2⟩ := BoxM.cells (HX.out _ HB4.out)
      go_wp2_with fail
      refine (HC1.out _ (HV.out.below HB4.out (Nat.le_refl _)) (HL.out.below HB4.out (Nat.le_refl _)) (H6.out.below HB4.out (Nat.le_refl _))).mono ?_
      rintro e' w5 ⟨rfl, hb5⟩
      have HB5 := Lib.hid (up hb5 HB4.out)
      have HA5 := Lib.hid (HA4.out.below hb5 (Nat.le_refl _))
      have HU5 := Lib.hid (HU4.out.below hb5 (Nat.le_refl _))
      clear hb5 HC1 HB4 HA4 HU4 x0 x1 x2
      obtain ⟨x0, x1, x2⟩ := BoxM.cells (HX.out _ HB5.out)
      go_wp2_with fail
      refine (HD.out _ (HV.out.below HB5.out (Nat.le_refl _)) (HL.out.below HB5.out (Nat.le_refl _))).mono ?_
      rintro e' w6 ⟨rfl, hb6⟩
      have HB6 := Lib.hid (up hb6 HB5.out)
      have HA6 := Lib.hid (HA5.out.below hb6 (Nat.le_refl _))
      have HU6 := Lib.hid (HU5.out.below hb6 (Nat.le_refl _))
      clear hb6 HD HB5 HA5 HU5 x0 x1 x2
      obtain ⟨x0, x1, x2⟩ := BoxM.cells (HX.out _ HB6.out)
      go_wp2_with fail
      refine (HE1.out _ (HV.out.below HB6.out (Nat.le_refl _)) (HL.out.below HB6.out (Nat.le_refl _))).mono ?_
      rintro e' w7 ⟨rfl, hb7⟩
      have HB7 := Lib.hid (up hb7 HB6.out)
      have HA7 := Lib.hid (HA6.out.below hb7 (Nat.le_refl _))
      have HU7 := Lib.hid (HU6.out.below hb7 (Nat.le_refl _))
      clear hb7 HE1 HB6 HA6 HU6 x0 x1 x2
      obtain ⟨x0, x1, x2⟩ := BoxM.cells (HX.out _ HB7.out)
      go_wp2_with fail
      refine (HG.out _ (HV.out.below HB7.out (Nat.le_refl _)) (HL.out.below HB7.out (Nat.le_refl _))).mono ?_
      rintro e' w8 ⟨rfl, hb8⟩
      have HB8 := Lib.hid (up hb8 HB7.out)
      have HA8 := Lib.hid (HA7.out.below hb8 (Nat.le_refl _))
      have HU8 := Lib.hid (HU7.out.below hb8 (Nat.le_refl _))
      clear hb8 HG HB7 HA7 HU7 x0 x1 x2
      go_wp2_with fail
      refine (cast_ok _ (HT.out.below HB8.out (Nat.le_refl _)) (H6.out.below HB8.out (Nat.le_refl _))).mono ?_
      rintro e' w9 ⟨rfl, hb9⟩
      have HB9 := Lib.hid (up hb9 HB8.out)
      have HS9 := Lib.hid (sameInts_ok A A _ _ w9 (HA8.out.below hb9 (Nat.le_refl _)) (HU8.out.below hb9 (Nat.le_refl _)))
      clear hb9 HB8 HA8 HU8
      rw [decide_eq_true rfl] at HS9
      have t1 : (fr == fr) = true := beq_self_eq_true _
      have t2 : (e == e) = true := beq_self_eq_true _
      have t3 : (a == a) = true := beq_self_eq_true _
      have t4 : (b == b) = true := beq_self_eq_true _
      have t5 : (h == h) = true := beq_self_eq_true _
      have t6 : (g == g) = true := beq_self_eq_true _
      have t7 : (c == c) = true := beq_self_eq_true _
      go_wp2_with fail
      refine HS9.out.mono ?_
      rintro e' w10 ⟨rfl, hb10⟩
      go_wp2_with fail
      go_returns
      exact ⟨rfl, HN.out _ (up hb10 HB9.out)⟩
set_option maxHeartbeats 4000000 in
theorem ways_walk (ms : List Sol) (l : List Int) (p s far : Int) (v lv : Value) (w : World) (hv : SolsAt w v ms) (hm : ∀ m ∈ ms, Fit m) (hl : IntsAt w lv l) (hT : Tab32 w) (h64 : Tab64 w) :
    Calls Tryz.prog 4 #[v, lv, .agg #[.int .i64 (p), .int .i64 (s), .int .i64 (far)]] w (RetB (.bool true) w) := by
  refine ways_core ms l p s far v lv w ((inWayL ms (p, s, far)).map fun x : Nat => (x : Int)) (inWayF ms (p, s, far)).isSome (holT ms l (p, s, far)).2.2 (goB ms l (p, s, far)) (inWayE ms (p, s, far)) (holT ms l (p, s, far)).1 (holT ms l (p, s, far)).2.1 (goErr ms l (p, s, far)) hv hl hT h64
    (fun W hv hT => (inWay_ok ms p s far v W hv hm hT).mono ?_) (fun W hv => (refInWay_ok ms p s far v W hv hm).mono ?_) (fun h W hv hl h64 => holdsT_ok ms l p s far v lv W hv hl hm (by omega) h64) (fun W hv hl => refHolds_ok ms l p s far v lv W hv hl hm)
    (fun h W hv hl => checkGo_ok ms l p s far v lv W hv hl hm (by omega)) (fun W hv hl => by rw [goB_hold ms hm]; exact refCheckGo_ok ms l p s far v lv W hv hl hm)
  · rintro e w' ⟨⟨u, rfl, hrow, _⟩, hb⟩
    exact ⟨⟨u, rfl, intsAt_own hrow⟩, hb⟩
  · rintro e w' ⟨⟨u, rfl, hrow⟩, hb⟩
    exact ⟨⟨u, rfl, intsAt_own hrow⟩, hb⟩
end Go.Proofs.YtoajocgfmbakjaaGreatDoor
