/-
  RuleSteps returns true for every input, and each argument reads behind the call as before; no condition but the tables of Go's library, which the card ties to the program's text.
-/
import Derived.Test.YtgonaamjjhhiiaaDoorCards
import Derived.Test.YtgonaamjjhhiiaaDoorLift
import Derived.Test.YtgonaamjjhhiiaaDoorAlive
import Derived.Test.YtgonaamjjhhiiaaDoorTwice
import Derived.Test.YtgonaamjjhhiiaaDoorNearest
import Derived.Test.YtgonaamjjhhiiaaDoorMedV
import Derived.Test.YtgonaamjjhhiiaaDoorRefA
import Derived.Test.YtgonaamjjhhiiaaDoorStepW
set_option linter.unusedVariables false
set_option linter.unusedSimpArgs false
namespace Go.Proofs.YtgonaamjjhhiiaaDoor
section
open Go Go.RowKit

theorem Twice_ex (w : World) : Calls Tryd.prog 16 #[.agg #[.int .i64 (1), .int .i64 (100), .int .i64 (1), .int .i64 (50)], .agg #[.int .i64 (1), .int .i64 (10), .int .i64 (1), .int .i64 (10)]] w fun e w' => e = .returned (.tuple #[.agg #[.int .i64 (109), .int .i64 (1000), .int .i64 (59), .int .i64 (500)], .int .i64 0]) ∧ Below w.heap.size w w' := by
  refine Twice_core 1 100 1 50 1 10 1 10 109 1000 59 500 0 0 w (by decide +kernel) (by decide +kernel) (fun W => ?_) (fun W => CheckRule_yes 109 1000 59 500 W (by decide +kernel))
  have h := lowestTwo_ok (tN 1 100 1 10) (100 * 10) (tN 1 50 1 10) (50 * 10) W (by decide +kernel) (by decide +kernel) (by decide +kernel) (by decide +kernel)
  rw [show lowN (tN 1 100 1 10) (100 * 10) = 109 by decide +kernel, show lowD (tN 1 100 1 10) (100 * 10) = 1000 by decide +kernel, show lowN (tN 1 50 1 10) (50 * 10) = 59 by decide +kernel, show lowD (tN 1 50 1 10) (50 * 10) = 500 by decide +kernel] at h
  exact h
theorem alive_ok : AliveOk := fun W h => alive_core W h Twice_ex
end
section
open Go Go.RowKit

theorem srch_ex {ln ld hn hd m F : Int} (g : Rng ln ld hn hd m F) (k : Nat) : ∀ a b c e : Int, (2 * m - (b + e)).toNat ≤ k → Srch ln ld hn hd m F a b c e →
    ∃ a b c e, Srch ln ld hn hd m F a b c e ∧ (m < b + e ∨ (ln * (b + e) ≤ (a + c) * ld ∧ (a + c) * hd ≤ hn * (b + e))) := by
  induction k with
  | zero =>
    intro a b c e hk h
    have h1 := h.bm; have h2 := h.em; have h3 := g.m1
    exact ⟨a, b, c, e, h, .inl (by omega)⟩
  | succ k ih =>
    intro a b c e hk h
    by_cases h1 : m < b + e
    · exact ⟨a, b, c, e, h, .inl h1⟩
    · by_cases h2 : (a + c) * ld - ln * (b + e) < 0
      · obtain ⟨far, near, s, _, _, _, _, _, _, _, _, _, _, hS, hlt⟩ := h.lowStep g h2 (by omega)
        have := h.e1; have := h.b1
        exact ih _ _ _ _ (by omega) hS
      · by_cases h3 : 0 < (a + c) * hd - hn * (b + e)
        · obtain ⟨far, near, s, _, _, _, _, _, _, _, _, _, _, hS, hlt⟩ := h.highStep g h3 (by omega)
          have := h.e1; have := h.b1
          exact ih _ _ _ _ (by omega) hS
        · exact ⟨a, b, c, e, h, .inr ⟨by omega, by omega⟩⟩
theorem around_ex {n d m : Int} (ha : okQ n d = true) (hm : szB m = true) : ∃ a b c e, Ar n d m a b c e := by
  obtain ⟨m1, m2⟩ := szB_iff.1 hm
  rcases Int.lt_or_le m d with h | h
  · have g := Rng.of_one ha m1 h
    obtain ⟨a, b, c, e, hS, hor⟩ := srch_ex g _ _ _ _ _ (Nat.le_refl _) (Srch.start g)
    exact ⟨a, b, c, e, Ar.of_srch ha m1 h g hS hor⟩
  · exact ⟨n, d, n, d, Ar.self ha h⟩
theorem Ar.unique {n d m a b c e a' b' c' e' : Int} (h : Ar n d m a b c e) (k : Ar n d m a' b' c' e') : a' = a ∧ b' = b ∧ c' = c ∧ e' = e := by
  obtain ⟨h1, h2⟩ := k.lo.unique h.lo
  obtain ⟨h3, h4⟩ := k.hi.unique h.hi
  exact ⟨h1, h2, h3, h4⟩
theorem Around_at {n d m a b c f : Int} (ha : okQ n d = true) (hm : szB m = true) (h : Ar n d m a b c f) (w : World) :
    Calls Tryd.prog 40 #[.agg #[.int .i64 (n), .int .i64 (d)], .int .i64 m] w fun e w' => e = .returned (.tuple #[.agg #[.int .i64 (a), .int .i64 (b)], .agg #[.int .i64 (c), .int .i64 (f)], .int .i64 0]) ∧ Below w.heap.size w w' :=
  (Around_ok n d m w ha hm).mono fun e w' ⟨a', b', c', f', he, hk, hB⟩ => by
    obtain ⟨rfl, rfl, rfl, rfl⟩ := h.unique hk
    exact ⟨he, hB⟩
def neN (n d a b c f : Int) : Int := if nearHi n d a b c f then c else a
def neD (n d a b c f : Int) : Int := if nearHi n d a b c f then f else b
theorem Nearest_at {n d m a b c f : Int} (ha : okQ n d = true) (hm : szB m = true) (h : Ar n d m a b c f) (w : World) :
    Calls Tryd.prog 15 #[.agg #[.int .i64 (n), .int .i64 (d)], .int .i64 m] w fun e w' => e = .returned (.tuple #[.agg #[.int .i64 (neN n d a b c f), .int .i64 (neD n d a b c f)], .int .i64 0]) ∧ Below w.heap.size w w' :=
  (Nearest_ok n d m w ha hm).mono fun e w' ⟨a', b', c', f', he, hk, hB⟩ => by
    obtain ⟨rfl, rfl, rfl, rfl⟩ := h.unique hk
    refine ⟨?_, hB⟩
    rw [he]
    unfold neN neD
    cases nearHi n d a' b' c' f' <;> rfl

theorem Ar.ok {n d m a b c f : Int} (hm : szB m = true) (h : Ar n d m a b c f) : okQ a b = true ∧ okQ c f = true := by
  obtain ⟨m1, m2⟩ := szB_iff.1 hm
  obtain ⟨b1, b2, _, _⟩ := h.lo
  obtain ⟨f1, f2, _, _⟩ := h.hi
  obtain ⟨k1, k2, k3, k4⟩ := h.bd
  exact ⟨okQ_iff.2 ⟨b1, by omega, k1, k2, h.gc1⟩, okQ_iff.2 ⟨f1, by omega, k3, k4, h.gc2⟩⟩

/-- Nothing lies nearer: u is the distance of the nearest one from n/d, v that of another one, both times both Dens. -/
theorem near_least {n d m a b c f y z : Int} (hd : 1 ≤ d) (h : Ar n d m a b c f) (hz : 1 ≤ z) (hzm : z ≤ m) :
    max (n * neD n d a b c f - neN n d a b c f * d) (-(n * neD n d a b c f - neN n d a b c f * d)) * z ≤ max (n * z - y * d) (-(n * z - y * d)) * neD n d a b c f := by
  obtain ⟨b1, b2, b3, b4⟩ := h.lo
  obtain ⟨f1, f2, f3, f4⟩ := h.hi
  -- both distances are not below 0
  have lo0 : 0 ≤ n * b - a * d := by omega
  have hi0 : 0 ≤ c * d - n * f := by omega
  -- what lies below is not nearer than the lower one, what lies above not nearer than the upper one
  have below : y * d ≤ n * z → (n * b - a * d) * z ≤ (n * z - y * d) * b := fun hy => by
    have := (b4 y z hz hzm hy).1
    have e1 : (n * b - a * d) * z = n * b * z - a * z * d := by grind
    have e2 : (n * z - y * d) * b = n * b * z - y * b * d := by grind
    have : y * b * d ≤ a * z * d := Int.mul_le_mul_of_nonneg_right this (by omega)
    omega
  have above : n * z ≤ y * d → (c * d - n * f) * z ≤ (y * d - n * z) * f := fun hy => by
    have := (f4 y z hz hzm hy).1
    have e1 : (c * d - n * f) * z = c * z * d - n * f * z := by grind
    have e2 : (y * d - n * z) * f = y * f * d - n * f * z := by grind
    have : c * z * d ≤ y * f * d := Int.mul_le_mul_of_nonneg_right this (by omega)
    omega
  have hZ : nearZ n d a b c f = ((c * d - n * f) * b - (n * b - a * d) * f) * d := by unfold nearZ; grind
  unfold neN neD
  cases hh : nearHi n d a b c f with
  | true =>
    have hc : nearZ n d a b c f ≤ 0 := by
      unfold nearHi at hh
      have := of_decide_eq_true hh
      omega
    have hle : (c * d - n * f) * b ≤ (n * b - a * d) * f := by
      rcases Int.lt_or_le ((n * b - a * d) * f) ((c * d - n * f) * b) with q | q
      · have : 0 < nearZ n d a b c f := by rw [hZ]; exact Int.mul_pos (by omega) (by omega)
        omega
      · exact q
    simp only [if_true]
    rw [show max (n * f - c * d) (-(n * f - c * d)) = c * d - n * f by omega]
    rcases Int.le_total (y * d) (n * z) with hy | hy
    · rw [show max (n * z - y * d) (-(n * z - y * d)) = n * z - y * d by omega]
      have k1 := below hy
      have k2 : (c * d - n * f) * b * z ≤ (n * b - a * d) * f * z := Int.mul_le_mul_of_nonneg_right hle (by omega)
      have k3 : (n * b - a * d) * z * f ≤ (n * z - y * d) * b * f := Int.mul_le_mul_of_nonneg_right k1 (by omega)
      have e : (n * b - a * d) * f * z = (n * b - a * d) * z * f := by grind
      have k4 : (c * d - n * f) * z * b ≤ (n * z - y * d) * f * b := by
        have e1 : (c * d - n * f) * z * b = (c * d - n * f) * b * z := by grind
        have e2 : (n * z - y * d) * f * b = (n * z - y * d) * b * f := by grind
        omega
      exact Int.le_of_mul_le_mul_right k4 (by omega)
    · rw [show max (n * z - y * d) (-(n * z - y * d)) = y * d - n * z by omega]
      exact above hy
  | false =>
    have hc : 0 ≤ nearZ n d a b c f := by
      unfold nearHi at hh
      have := of_decide_eq_false hh
      omega
    have hle : (n * b - a * d) * f ≤ (c * d - n * f) * b := by
      rcases Int.lt_or_le ((c * d - n * f) * b) ((n * b - a * d) * f) with q | q
      · have : nearZ n d a b c f < 0 := by rw [hZ]; exact Int.mul_neg_of_neg_of_pos (by omega) (by omega)
        omega
      · exact q
    simp only [Bool.false_eq_true, if_false]
    rw [show max (n * b - a * d) (-(n * b - a * d)) = n * b - a * d by omega]
    rcases Int.le_total (y * d) (n * z) with hy | hy
    · rw [show max (n * z - y * d) (-(n * z - y * d)) = n * z - y * d by omega]
      exact below hy
    · rw [show max (n * z - y * d) (-(n * z - y * d)) = y * d - n * z by omega]
      have k1 := above hy
      have k2 : (n * b - a * d) * f * z ≤ (c * d - n * f) * b * z := Int.mul_le_mul_of_nonneg_right hle (by omega)
      have k3 : (c * d - n * f) * z * b ≤ (y * d - n * z) * f * b := Int.mul_le_mul_of_nonneg_right k1 (by omega)
      have k4 : (n * b - a * d) * z * f ≤ (y * d - n * z) * b * f := by
        have e1 : (n * b - a * d) * z * f = (n * b - a * d) * f * z := by grind
        have e2 : (y * d - n * z) * b * f = (y * d - n * z) * f * b := by grind
        have e3 : (c * d - n * f) * b * z = (c * d - n * f) * z * b := by grind
        omega
      exact Int.le_of_mul_le_mul_right k4 (by omega)

/-- The nearest one's distance is small. -/
theorem near_small {n d m a b c f : Int} (h : Ar n d m a b c f) (hd : 1 ≤ d) (hd' : d ≤ 1000000) :
    -1000000 ≤ n * neD n d a b c f - neN n d a b c f * d ∧ n * neD n d a b c f - neN n d a b c f * d ≤ 1000000 := by
  obtain ⟨b1, b2, b3, b4⟩ := h.lo
  obtain ⟨f1, f2, f3, f4⟩ := h.hi
  obtain ⟨k1, k2⟩ := h.dd
  have lo0 : 0 ≤ n * b - a * d := by omega
  have hi0 : 0 ≤ c * d - n * f := by omega
  have q1 : (n * b - a * d) * 1 ≤ (n * b - a * d) * f := Int.mul_le_mul_of_nonneg_left f1 lo0
  have q2 : (c * d - n * f) * 1 ≤ (c * d - n * f) * b := Int.mul_le_mul_of_nonneg_left b1 hi0
  unfold neN neD
  cases nearHi n d a b c f <;> simp only [Bool.false_eq_true, if_false, if_true] <;> omega
end
section
open Go Go.RowKit

theorem steps_of (hl : AliveOk) (p q : Int) (w : World) (h1 : W2 p q) (ht : Pow10 w) :
    Calls Tryd.prog 4 #[.agg #[.int .i64 (p), .int .i64 (q)]] w fun e w' => e = .returned (.bool true) ∧ Below w.heap.size w w' := by
  cases ha : okQ p q with
  | false => exact steps_err p q 1 w ht hl (by decide) (fun W => Terms_arg p q W h1 ha) (fun W => Conv_arg p q W h1 ha)
  | true =>
    obtain ⟨a1, a2, a3, a4, _⟩ := okQ_iff.1 ha
    have hn := tl_nonempty (p := p) (q := q) (by omega)
    refine steps_core p q ((tl p q).length - 1) w ht hl ha (by omega) fun Q W q1 q2 => ?_
    have hz : szB Q = true := szB_iff.2 ⟨q1, q2⟩
    obtain ⟨a, b, c, f, hA⟩ := around_ex ha hz
    obtain ⟨oa, oc⟩ := hA.ok hz
    obtain ⟨b1, b2, _⟩ := id hA.lo
    obtain ⟨f1, f2, _⟩ := id hA.hi
    have hs := near_small hA a1 a2
    refine (Nearest_at ha hz hA W).mono fun e w' ⟨he, hb⟩ => ⟨_, _, he, ?_, ?_, hs.1, hs.2, hb⟩
    · unfold neN neD
      cases nearHi p q a b c f with
      | false => exact oa
      | true => exact oc
    · unfold neD
      cases nearHi p q a b c f with
      | false => exact b2
      | true => exact f2
end
end Go.Proofs.YtgonaamjjhhiiaaDoor
namespace Go.Proofs.YtgonaamjjhhiiaaDoor.ruleSteps
open Go Go.ChangeShapes Go.WideShapes Go.ChangeAt Go.RowKit

theorem ruleSteps_walk (a0 b0 : Int) (w : World) (w0 : W2 a0 b0) (ht : Pow10 w) :
    Calls Tryd.prog 4 #[.agg #[.int .i64 (a0), .int .i64 (b0)]] w fun e w' => e = .returned (.bool true) ∧ Below w.heap.size w w' := steps_of alive_ok a0 b0 w w0 ht

set_option maxRecDepth 100000 in
theorem lifted (os : Os) (started : os.Started) (H : Type) (enc : TypeId × Value → H) :
    ReturnsInHanded {} Tryd.checked os 4 .any (fun w args => (Rows.ruleStepsSpec.pre enc Tryd.prog Tryd.f4 [] false w args ∧ laidMetH Tryd.prog laid3 w) ∧ sizedMet enc Tryd.prog Tryd.f4 (OpenSpec.ofChange Rows.ruleStepsSpec) false w args)
      (Rows.ruleStepsSpec.post enc Tryd.prog Tryd.f4 false true false false) := by
  refine returnsInHanded_of_change_and (C := Tryd.checked) (X := fun w _ => laidMetH Tryd.prog laid3 w) (fun _ _ _ hh h => h.of_heap hh) own started (by kernel_rfl) Tryd.func4
    (ChangeSpec.witness_shaped (enc := enc) (C := Tryd.checked) (os := os) (X := fun w _ => laidMetH Tryd.prog laid3 w) false (World.doorLaid Tryd.prog 24 os) #[.agg #[.int .i64 (0), .int .i64 (0)]] 8 rfl (World.shaped_of_RefB (by kernel_rfl) (by kernel_rfl)) (by kernel_rfl) (by kernel_rfl) (by kernel_rfl) (door_met os _)) ?_
  intro W base args ds gs before hval0 hW _ _ hL _
  have hval : ∀ (j : Nat) t v, Tryd.f4.params[j]? = some t → args[j]? = some v → Value.okWide Tryd.prog W .any base t v := hval0
  have hW' := hW
  obtain ⟨p, q, hA0, hV, rfl, hfz, hnd⟩ := hW
  have hA : DataW.TrodAll enc Tryd.prog W 0 (fun _ => true) true Tryd.f4.params.toList args.toList ds p := hA0
  rw [Tryd.params4] at hA hval
  obtain ⟨v0, vs0, d0, ds0, p0, q0, hargs, rfl, rfl, h0, r0⟩ := trodAll_cons hA
  obtain ⟨rfl, rfl, rfl⟩ := trodAll_nil r0
  obtain rfl : args = #[v0] := by cases args; simp_all
  obtain ⟨rfl, rfl⟩ := trodVars_none hV
  obtain ⟨a0, b0, rfl, w0⟩ := open_frac (hval 0 23 v0 rfl rfl) h0
  have lt0 : ∀ x ∈ p0, x.block < W.heap.size := by obtain ⟨m, hm⟩ := h0; exact DataW.trod_lt m _ _ _ hm
  have hP := pow_of_laid hL
  clear hA0 hval0 hL
  refine (ruleSteps_walk a0 b0 W w0 hP).mono fun e W' ⟨he, bel⟩ => ?_
  subst he
  exact ⟨_, rfl, _, _, _, [], _, [], hW', trodAll_mk1 (shut_bool Tryd.underlying4 _), (trodAll_cons_mk (Below.trod laidOut (by kernel_rfl) (of_decide_eq_true (by kernel_rfl)) h0 bel lt0) trodAll_mk0), rfl, bel.frame _, fun h => by cases h⟩

theorem holds : Rows.RuleStepsSaid :=
  OpenClaim.holds_of_wide 4 Tryd.f4 rfl rfl rfl rfl rfl rfl rfl ⟨rfl, rfl, rfl, rfl, rfl⟩ rfl rfl rfl rfl rfl (by kernel_rfl) Tryd.func4 (by kernel_rfl)
    (of_decide_eq_true (by kernel_rfl)) (by unfold Func.isWrapper; first | (rw [if_pos (by decide +kernel)]; kernel_rfl) | (rw [if_neg (by decide +kernel)]; exact ⟨rfl, rfl⟩))
    (fun os started H enc _ => lifted os started H enc)

theorem card_holds : Rows.RuleStepsCardSaid :=
  Claim7.holds_tied_plain_at .later [] [.data, .data, .data] true _ false
    holds (fun _ h => by cases h) (by kernel_rfl) (fun _ h => by cases h) ruleSteps_row_tie rfl ⟨rfl, rfl⟩ (by kernel_rfl) rfl
    (fun f fn hf hfn => by
      obtain rfl : f = 4 := Option.some.inj ((show Tryd.prog.funcNamed "strickle/stricklelaw01.RuleSteps" = some 4 by kernel_rfl).symm.trans hf) |>.symm
      obtain rfl : fn = Tryd.f4 := (Option.some.inj (Tryd.func4.symm.trans hfn)).symm
      exact ⟨by kernel_rfl, fun j t ht => by
        rw [Tryd.params4] at ht
        have hm : t ∈ [23] := by simpa using Array.mem_of_getElem? ht
        have hall : ([23].all fun u => !Tryd.prog.wantsStandIn u) = true := by kernel_rfl
        exact (show Tryd.prog.wantsStandIn t = false by simpa using List.all_eq_true.1 hall t hm)⟩)
    (by kernel_rfl)
end Go.Proofs.YtgonaamjjhhiiaaDoor.ruleSteps
