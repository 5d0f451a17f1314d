/-
  RuleProved returns true for every input, and each argument reads behind the call as before; no condition but the tables of Go's library, which the card ties to the program's text.
-/
import Derived.Test.YthoinamncekgmaaDoorCards
import Derived.Test.YthoinamncekgmaaDoorLift
import Derived.Test.YthoinamncekgmaaDoorAliveOk
import Derived.Test.YthoinamncekgmaaDoorSimpO
import Derived.Test.YthoinamncekgmaaDoorProvC
set_option linter.unusedVariables false
set_option linter.unusedSimpArgs false
namespace Go.Proofs.YthoinamncekgmaaDoor
open Go Go.RowKit

theorem less_is {an ad bn bd : Int} (ha : okQ an ad = true) (hb : okQ bn bd = true) (r : Bool) (h : r = decide (an * bd - bn * ad < 0)) (w : World) :
    Calls Tryd.prog 71 #[.agg #[.int .i64 (an), .int .i64 (ad)], .agg #[.int .i64 (bn), .int .i64 (bd)]] w fun e w' => e = .returned (.bool r) ∧ Below w.heap.size w w' := by
  have hl := less_any an ad bn bd w (W2.of_ok ha) (W2.of_ok hb)
  rw [ha, hb, Bool.and_self, Bool.true_and] at hl
  unfold ltB at hl
  rw [← h] at hl
  exact hl

theorem prov_of (hl : AliveOk) (ln ld hn hd xn xd : Int) (w : World) (h1 : W2 ln ld) (h2 : W2 hn hd) (h3 : W2 xn xd) (ht : Pow10 w) :
    Calls Tryd.prog 12 #[.agg #[.int .i64 (ln), .int .i64 (ld)], .agg #[.int .i64 (hn), .int .i64 (hd)], .agg #[.int .i64 (xn), .int .i64 (xd)]] w fun e w' => e = .returned (.bool true) ∧ Below w.heap.size w w' := by
  cases hk : (okQ ln ld && okQ hn hd) with
  | false => exact prov_err ln ld hn hd xn xd 1 w ht hl (by decide) (fun W => Simplest_arg ln ld hn hd W h1 h2 hk)
  | true =>
    rw [Bool.and_eq_true] at hk
    obtain ⟨ha, hb⟩ := hk
    obtain ⟨a1, a2, a3, a4, _⟩ := okQ_iff.1 ha
    obtain ⟨d1, d2, d3, d4, _⟩ := okQ_iff.1 hb
    rcases Int.lt_or_le (hn * ld) (ln * hd) with hle | hle
    · exact prov_err ln ld hn hd xn xd 12 w ht hl (by decide) (fun W => Simplest_order ln ld hn hd W ha hb hle)
    · obtain ⟨P, Q, hS⟩ := simplest_ex (ln := ln) (ld := ld) (hn := hn) (hd := hd) a1 d1 hle
      have oP := Simp.ok ha hb hle hS
      obtain ⟨q1, q2, q3, q4, _⟩ := okQ_iff.1 oP
      obtain ⟨_, s2, s3, s4⟩ := id hS
      have hA : ∀ W, Calls Tryd.prog 39 #[.agg #[.int .i64 (ln), .int .i64 (ld)], .agg #[.int .i64 (hn), .int .i64 (hd)]] W fun e' w' => e' = .returned (.tuple #[.agg #[.int .i64 (P), .int .i64 (Q)], .int .i64 0]) ∧ Below W.heap.size W w' :=
        fun W => (Simplest_ok ln ld hn hd W ha hb hle).mono fun e w' ⟨p, q, he, hS', hB⟩ => by
          obtain ⟨rfl, rfl⟩ := hS.unique a1 d1 hS'
          exact ⟨he, hB⟩
      have hC := fun (W : World) => Chk_at ha hb oP hle hS W
      rw [beq_self_eq_true, beq_self_eq_true, Bool.and_self] at hC
      have l3 := fun (W : World) => less_any xn xd ln ld W h3 (W2.of_ok ha)
      have l4 := fun (W : World) => less_any hn hd xn xd W (W2.of_ok hb) h3
      -- the neighbours of the simplest one
      have hnb : ∃ a b c f : Int, Q = 1 ∨ ((Q == 1) = false ∧ (∀ W, Calls Tryd.prog 43 #[.agg #[.int .i64 (P), .int .i64 (Q)]] W fun e' w' => e' = .returned (.tuple #[.agg #[.int .i64 (a), .int .i64 (b)], .agg #[.int .i64 (c), .int .i64 (f)], .int .i64 0]) ∧ Below W.heap.size W w') ∧
          (∀ W, Calls Tryd.prog 71 #[.agg #[.int .i64 (a), .int .i64 (b)], .agg #[.int .i64 (ln), .int .i64 (ld)]] W fun e w' => e = .returned (.bool true) ∧ Below W.heap.size W w') ∧ (∀ W, Calls Tryd.prog 71 #[.agg #[.int .i64 (hn), .int .i64 (hd)], .agg #[.int .i64 (c), .int .i64 (f)]] W fun e w' => e = .returned (.bool true) ∧ Below W.heap.size W w') ∧
          P * b - a * Q = 1 ∧ c * Q - P * f = 1 ∧ (-4000000000000000000 ≤ P * b ∧ P * b ≤ 4000000000000000000) ∧ (-4000000000000000000 ≤ a * Q ∧ a * Q ≤ 4000000000000000000) ∧ (-4000000000000000000 ≤ c * Q ∧ c * Q ≤ 4000000000000000000) ∧ (-4000000000000000000 ≤ P * f ∧ P * f ≤ 4000000000000000000)) := by
        by_cases hq : Q = 1
        · exact ⟨0, 0, 0, 0, .inl hq⟩
        · obtain ⟨a, b, b1, b2, hdet, k1, k2⟩ := nb_ex oP hq
          obtain ⟨o1, o2, o3, _, _⟩ := nb_facts oP hq b1 b2 hdet k1 k2
          obtain ⟨_, _, n3, n4⟩ := (simplest_nb a1 d1 q1 b1 b2 hdet).1 hS
          have v1 := mul_bd (a := P) (b := b) (A := 1000000000) (B := 1000000) (by omega) (by omega) (by omega) (by omega)
          have v2 := mul_bd (a := P) (b := Q - b) (A := 1000000000) (B := 1000000) (by omega) (by omega) (by omega) (by omega)
          have e2 : (P - a) * Q - P * (Q - b) = 1 := by rw [Int.sub_mul, Int.mul_sub]; omega
          refine ⟨a, b, P - a, Q - b, .inr ⟨by simpa using hq, fun W => (Neighbours_ok P Q W oP hq).mono fun e w' ⟨a', b', he, c1, c2, c3, _, _, hB⟩ => ?_, less_is o1 ha true (decide_eq_true (by omega)).symm, less_is hb o2 true (decide_eq_true (by omega)).symm, hdet, e2, by omega, by omega, by omega, by omega⟩⟩
          obtain ⟨rfl, rfl⟩ := nb_uniq oP b1 b2 hdet c1 c2 c3
          exact ⟨he, hB⟩
      obtain ⟨a, b, c, f, hN⟩ := hnb
      have l1 := less_is oP ha false (decide_eq_false (by omega)).symm
      have l2 := less_is hb oP false (decide_eq_false (by omega)).symm
      cases hx : okQ xn xd with
      | false =>
        exact prov_core ln ld hn hd xn xd P Q 1 a b c f false _ _ w ht hl q3 q4 hA hC l1 l2 (fun W => Chk_arg ln ld hn hd xn xd W h1 h2 h3 (by rw [hx, Bool.and_false])) l3 l4 (.inl rfl) hN
      | true =>
        obtain ⟨x1, x2, x3, x4, _⟩ := okQ_iff.1 hx
        refine prov_core ln ld hn hd xn xd P Q 0 a b c f (xn == P && xd == Q) (decide (xn * ld - ln * xd < 0)) (decide (hn * xd - xn * hd < 0)) w ht hl q3 q4 hA hC l1 l2 (fun W => Chk_at ha hb hx hle hS W) (less_is hx ha _ rfl) (less_is hb hx _ rfl) ?_ hN
        unfold PvWay
        by_cases e1 : xn = P
        · by_cases e2 : xd = Q
          · right; left
            refine ⟨rfl, by rw [e1, e2, beq_self_eq_true, beq_self_eq_true]; rfl, e1, e2, ?_⟩
            cases decide (xn * ld - ln * xd < 0) <;> cases decide (hn * xd - xn * hd < 0) <;> simp
          · right; right; left
            have e2' : (xd == Q) = false := by simpa using e2
            refine ⟨rfl, by rw [e2', Bool.and_false], .inr ⟨e1, e2'⟩, ?_⟩
            by_cases g1 : xn * ld - ln * xd < 0
            · left; exact decide_eq_true g1
            · by_cases g2 : hn * xd - xn * hd < 0
              · right; left; exact ⟨decide_eq_false g1, decide_eq_true g2⟩
              · right; right
                have := (s4 xn xd x1 (by omega) (by omega)).1
                exact ⟨decide_eq_false g1, decide_eq_false g2, by omega⟩
        · have e1' : (xn == P) = false := by simpa using e1
          right; right
          by_cases g1 : xn * ld - ln * xd < 0
          · left; exact ⟨rfl, by rw [e1', Bool.false_and], .inl e1', .inl (decide_eq_true g1)⟩
          · by_cases g2 : hn * xd - xn * hd < 0
            · left; exact ⟨rfl, by rw [e1', Bool.false_and], .inl e1', .inr (.inl ⟨decide_eq_false g1, decide_eq_true g2⟩)⟩
            · have k := s4 xn xd x1 (by omega) (by omega)
              by_cases e2 : xd = Q
              · right
                have k2 := k.2 e2.symm
                exact ⟨rfl, by rw [e1', Bool.false_and], e1', e2, decide_eq_false g1, decide_eq_false g2, x3, x4, by omega⟩
              · left; exact ⟨rfl, by rw [e1', Bool.false_and], .inl e1', .inr (.inr ⟨decide_eq_false g1, decide_eq_false g2, by omega⟩)⟩
end Go.Proofs.YthoinamncekgmaaDoor
namespace Go.Proofs.YthoinamncekgmaaDoor.ruleProved
open Go Go.ChangeShapes Go.WideShapes Go.ChangeAt Go.RowKit

theorem ruleProved_walk (a0 b0 a1 b1 a2 b2 : Int) (w : World) (w0 : W2 a0 b0) (w1 : W2 a1 b1) (w2 : W2 a2 b2) (ht : Pow10 w) :
    Calls Tryd.prog 12 #[.agg #[.int .i64 (a0), .int .i64 (b0)], .agg #[.int .i64 (a1), .int .i64 (b1)], .agg #[.int .i64 (a2), .int .i64 (b2)]] w fun e w' => e = .returned (.bool true) ∧ Below w.heap.size w w' := prov_of alive_ok a0 b0 a1 b1 a2 b2 w w0 w1 w2 ht

set_option maxRecDepth 100000 in
theorem lifted (os : Os) (started : os.Started) (H : Type) (enc : TypeId × Value → H) :
    ReturnsInHanded {} Tryd.checked os 12 .any (fun w args => (Rows.ruleProvedSpec.pre enc Tryd.prog Tryd.f12 [] false w args ∧ laidMetH Tryd.prog laid3 w) ∧ sizedMet enc Tryd.prog Tryd.f12 (OpenSpec.ofChange Rows.ruleProvedSpec) false w args)
      (Rows.ruleProvedSpec.post enc Tryd.prog Tryd.f12 false true false false) := by
  refine returnsInHanded_of_change_and (C := Tryd.checked) (X := fun w _ => laidMetH Tryd.prog laid3 w) (fun _ _ _ hh h => h.of_heap hh) own started (by kernel_rfl) Tryd.func12
    (ChangeSpec.witness_shaped (enc := enc) (C := Tryd.checked) (os := os) (X := fun w _ => laidMetH Tryd.prog laid3 w) false (World.doorLaid Tryd.prog 24 os) #[.agg #[.int .i64 (0), .int .i64 (0)], .agg #[.int .i64 (0), .int .i64 (0)], .agg #[.int .i64 (0), .int .i64 (0)]] 8 rfl (World.shaped_of_RefB (by kernel_rfl) (by kernel_rfl)) (by kernel_rfl) (by kernel_rfl) (by kernel_rfl) (door_met os _)) ?_
  intro W base args ds gs before hval0 hW _ _ hL _
  have hval : ∀ (j : Nat) t v, Tryd.f12.params[j]? = some t → args[j]? = some v → Value.okWide Tryd.prog W .any base t v := hval0
  have hW' := hW
  obtain ⟨p, q, hA0, hV, rfl, hfz, hnd⟩ := hW
  have hA : DataW.TrodAll enc Tryd.prog W 0 (fun _ => true) true Tryd.f12.params.toList args.toList ds p := hA0
  rw [Tryd.params12] at hA hval
  obtain ⟨v0, vs0, d0, ds0, p0, q0, hargs, rfl, rfl, h0, r0⟩ := trodAll_cons hA
  obtain ⟨v1, vs1, d1, ds1, p1, q1, rfl, rfl, rfl, h1, r1⟩ := trodAll_cons r0
  obtain ⟨v2, vs2, d2, ds2, p2, q2, rfl, rfl, rfl, h2, r2⟩ := trodAll_cons r1
  obtain ⟨rfl, rfl, rfl⟩ := trodAll_nil r2
  obtain rfl : args = #[v0, v1, v2] := by cases args; simp_all
  obtain ⟨rfl, rfl⟩ := trodVars_none hV
  obtain ⟨a0, b0, rfl, w0⟩ := open_frac (hval 0 23 v0 rfl rfl) h0
  obtain ⟨a1, b1, rfl, w1⟩ := open_frac (hval 1 23 v1 rfl rfl) h1
  obtain ⟨a2, b2, rfl, w2⟩ := open_frac (hval 2 23 v2 rfl rfl) h2
  have lt0 : ∀ x ∈ p0, x.block < W.heap.size := by obtain ⟨m, hm⟩ := h0; exact DataW.trod_lt m _ _ _ hm
  have lt1 : ∀ x ∈ p1, x.block < W.heap.size := by obtain ⟨m, hm⟩ := h1; exact DataW.trod_lt m _ _ _ hm
  have lt2 : ∀ x ∈ p2, x.block < W.heap.size := by obtain ⟨m, hm⟩ := h2; exact DataW.trod_lt m _ _ _ hm
  have hP := pow_of_laid hL
  clear hA0 hval0 hL
  refine (ruleProved_walk a0 b0 a1 b1 a2 b2 W w0 w1 w2 hP).mono fun e W' ⟨he, bel⟩ => ?_
  subst he
  exact ⟨_, rfl, _, _, _, [], _, [], hW', trodAll_mk1 (shut_bool Tryd.underlying4 _), (trodAll_cons_mk (Below.trod laidOut (by kernel_rfl) (of_decide_eq_true (by kernel_rfl)) h0 bel lt0) (trodAll_cons_mk (Below.trod laidOut (by kernel_rfl) (of_decide_eq_true (by kernel_rfl)) h1 bel lt1) (trodAll_cons_mk (Below.trod laidOut (by kernel_rfl) (of_decide_eq_true (by kernel_rfl)) h2 bel lt2) trodAll_mk0))), rfl, bel.frame _, fun h => by cases h⟩

theorem holds : Rows.RuleProvedSaid :=
  OpenClaim.holds_of_wide 12 Tryd.f12 rfl rfl rfl rfl rfl rfl rfl ⟨rfl, rfl, rfl, rfl, rfl⟩ rfl rfl rfl rfl rfl (by kernel_rfl) Tryd.func12 (by kernel_rfl)
    (of_decide_eq_true (by kernel_rfl)) (by unfold Func.isWrapper; first | (rw [if_pos (by decide +kernel)]; kernel_rfl) | (rw [if_neg (by decide +kernel)]; exact ⟨rfl, rfl⟩))
    (fun os started H enc _ => lifted os started H enc)

theorem card_holds : Rows.RuleProvedCardSaid :=
  Claim7.holds_tied_plain_at .later [] [.data, .data, .data] true _ false
    holds (fun _ h => by cases h) (by kernel_rfl) (fun _ h => by cases h) ruleProved_row_tie rfl ⟨rfl, rfl⟩ (by kernel_rfl) rfl
    (fun f fn hf hfn => by
      obtain rfl : f = 12 := Option.some.inj ((show Tryd.prog.funcNamed "strickle/stricklelaw01.RuleProved" = some 12 by kernel_rfl).symm.trans hf) |>.symm
      obtain rfl : fn = Tryd.f12 := (Option.some.inj (Tryd.func12.symm.trans hfn)).symm
      exact ⟨by kernel_rfl, fun j t ht => by
        rw [Tryd.params12] at ht
        have hm : t ∈ [23, 23, 23] := by simpa using Array.mem_of_getElem? ht
        have hall : ([23, 23, 23].all fun u => !Tryd.prog.wantsStandIn u) = true := by kernel_rfl
        exact (show Tryd.prog.wantsStandIn t = false by simpa using List.all_eq_true.1 hall t hm)⟩)
    (by kernel_rfl)
end Go.Proofs.YthoinamncekgmaaDoor.ruleProved
