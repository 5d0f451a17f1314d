/-
  Whether two solids are the same: the model's comparison of arrays, at eight planes.
-/
import Derived.Test.YtoajocgfmbakjaaGreatDoorPbA
import Derived.Test.YtoajocgfmbakjaaGreatDoorPbB
import Derived.Laws.CopyRow
set_option linter.unusedVariables false
set_option linter.unusedSimpArgs false
namespace Go.Proofs.YtoajocgfmbakjaaGreatDoor
open Go Go.RowKit

/-- Two solids have the same planes. -/
def eqS (f g : Sol) : Bool := decide (f 0 = g 0 ∧ f 1 = g 1 ∧ f 2 = g 2 ∧ f 3 = g 3 ∧ f 4 = g 4 ∧ f 5 = g 5 ∧ f 6 = g 6 ∧ f 7 = g 7)
theorem run_part (W : World) (xs : Array Value) (i : Nat) (v : Value) (h : xs[i]? = some v) : (part 23 xs i).run Tryz.prog W = .ok v W := by
  simp [part, go_sem, h]
/-- The comparison from a plane on. -/
def eqFrom (f g : Sol) : List Nat → Bool
  | [] => true
  | i :: l => (f i == g i) && eqFrom f g l
theorem at8 (f : Sol) {i : Nat} (h : i < 8) : (solC f)[i]? = some (.int .u64 (f i)) := by
  rcases lt8 h with rfl | rfl | rfl | rfl | rfl | rfl | rfl | rfl <;> rfl
theorem forIn_sol (f g : Sol) : ∀ (l : List Nat) (W : World), (∀ i ∈ l, i < 8) → (forIn (m := Sem) l ((none : Option Bool), ()) fun i __s => do
      let a ← part 23 (solC f) i
      let b ← part 23 (solC g) i
      let r ← Op.equalIn 9999 23 a b
      if (!r) = true then pure (ForInStep.done (some false, ())) else pure (ForInStep.yield (none, ()))).run Tryz.prog W = .ok (if eqFrom f g l then (none, ()) else (some false, ())) W := by
  intro l
  induction l with
  | nil => intro W _; simp [eqFrom, Sem.run_pure]
  | cons i l ih =>
    intro W h
    have hi := h i (by simp)
    have e : (Op.equalIn 9999 23 (.int .u64 (f i)) (.int .u64 (g i))).run Tryz.prog W = .ok (((f i : Int)) == (g i : Int)) W := run_equalIn_int W 9998 _ .u64 .u64 _ _ Tryz.underlying23
    rw [List.forIn_cons]
    simp only [Sem.run_bind, run_part W _ i _ (at8 f hi), run_part W _ i _ (at8 g hi), Result.andThen_ok, e]
    by_cases hc : f i = g i
    · have h1 : ((f i : Int) == (g i : Int)) = true := by simp [hc]
      rw [h1]
      simp only [Bool.not_true, Bool.false_eq_true, if_false, Sem.run_pure, Result.andThen_ok]
      rw [ih W fun j hj => h j (by simp [hj])]
      simp [eqFrom, hc]
    · have h1 : ((f i : Int) == (g i : Int)) = false := by simp; omega
      rw [h1]
      simp [eqFrom, hc, Sem.run_pure]
theorem eqFrom_iff (f g : Sol) : eqFrom f g (List.range' 0 8) = eqS f g := by
  unfold eqS
  rw [Bool.eq_iff_iff]
  simp [List.range', eqFrom]
theorem equalIn_sol (W : World) (f g : Sol) : (Op.equalIn 10000 25 (sol f) (sol g)).run Tryz.prog W = .ok (eqS f g) W := by
  have hs : (sizeOf 23).run Tryz.prog W = .ok 1 W := by simp [go_sem]
  have hf := forIn_sol f g (List.range' 0 8) W (fun i hi => by simpa using hi)
  show (Op.equalIn (9999 + 1) _ _ _).run _ W = _
  unfold Op.equalIn
  simp only [Sem.run_bind, run_underlying Tryz.underlying25, Result.andThen_ok, hs, Nat.mul_one]
  rw [Std.Legacy.Range.forIn_eq_forIn_range']
  have hr : List.range' [:8].start [:8].size [:8].step = List.range' 0 8 := rfl
  rw [hr]
  refine (congrArg (fun r => Result.andThen r _) hf).trans ?_
  rw [eqFrom_iff]
  cases eqS f g <;> rfl
@[go_sem] theorem run_eql_sol (w : World) (f g : Sol) : (Op.equalIn 10000 25 (.agg #[.int .u64 (f 0), .int .u64 (f 1), .int .u64 (f 2), .int .u64 (f 3), .int .u64 (f 4), .int .u64 (f 5), .int .u64 (f 6), .int .u64 (f 7)]) (.agg #[.int .u64 (g 0), .int .u64 (g 1), .int .u64 (g 2), .int .u64 (g 3), .int .u64 (g 4), .int .u64 (g 5), .int .u64 (g 6), .int .u64 (g 7)])).run Tryz.prog w = .ok (eqS f g) w := equalIn_sol w f g
/-- A solid without a cell. -/
def emptyS (f : Sol) : Bool := eqS f (fun _ => 0)
@[go_sem] theorem run_eql_sol_zero (w : World) (f : Sol) : (Op.equalIn 10000 25 (.agg #[.int .u64 (f 0), .int .u64 (f 1), .int .u64 (f 2), .int .u64 (f 3), .int .u64 (f 4), .int .u64 (f 5), .int .u64 (f 6), .int .u64 (f 7)]) (.agg #[.int .u64 0, .int .u64 0, .int .u64 0, .int .u64 0, .int .u64 0, .int .u64 0, .int .u64 0, .int .u64 0])).run Tryz.prog w = .ok (emptyS f) w := by
  have h := equalIn_sol w f (fun _ => 0)
  exact h
theorem equalIn_bod (W : World) (f g : Sol) : (Op.equalIn 10000 88 (sol f) (sol g)).run Tryz.prog W = .ok (eqS f g) W := by
  have hs : (sizeOf 23).run Tryz.prog W = .ok 1 W := by simp [go_sem]
  have hf := forIn_sol f g (List.range' 0 8) W (fun i hi => by simpa using hi)
  show (Op.equalIn (9999 + 1) _ _ _).run _ W = _
  unfold Op.equalIn
  simp only [Sem.run_bind, run_underlying Tryz.underlying88, Result.andThen_ok, hs, Nat.mul_one]
  rw [Std.Legacy.Range.forIn_eq_forIn_range']
  have hr : List.range' [:8].start [:8].size [:8].step = List.range' 0 8 := rfl
  rw [hr]
  refine (congrArg (fun r => Result.andThen r _) hf).trans ?_
  rw [eqFrom_iff]
  cases eqS f g <;> rfl
@[go_sem] theorem run_eql_bod (w : World) (f g : Sol) : (Op.equalIn 10000 88 (.agg #[.int .u64 (f 0), .int .u64 (f 1), .int .u64 (f 2), .int .u64 (f 3), .int .u64 (f 4), .int .u64 (f 5), .int .u64 (f 6), .int .u64 (f 7)]) (.agg #[.int .u64 (g 0), .int .u64 (g 1), .int .u64 (g 2), .int .u64 (g 3), .int .u64 (g 4), .int .u64 (g 5), .int .u64 (g 6), .int .u64 (g 7)])).run Tryz.prog w = .ok (eqS f g) w := equalIn_bod w f g
@[go_sem] theorem run_eql_bod_zero (w : World) (f : Sol) : (Op.equalIn 10000 88 (.agg #[.int .u64 (f 0), .int .u64 (f 1), .int .u64 (f 2), .int .u64 (f 3), .int .u64 (f 4), .int .u64 (f 5), .int .u64 (f 6), .int .u64 (f 7)]) (.agg #[.int .u64 0, .int .u64 0, .int .u64 0, .int .u64 0, .int .u64 0, .int .u64 0, .int .u64 0, .int .u64 0])).run Tryz.prog w = .ok (emptyS f) w := by
  have h := equalIn_bod w f (fun _ => 0)
  exact h
end Go.Proofs.YtoajocgfmbakjaaGreatDoor
/-
  Sets of pieces as numbers of 16 bits: only, has, with, without, in.
-/
set_option linter.unusedVariables false
set_option linter.unusedSimpArgs false
namespace Go.Proofs.YtoajocgfmbakjaaGreatDoor
open Go Go.RowKit

abbrev RetB (v : Value) (W : World) : Ending → World → Prop := fun e w' => e = .returned v ∧ Below W.heap.size W w'
/-- A set's value. -/
abbrev setV (s : Nat) : Value := .int .u16 (s : Int)
theorem pow16_lt {p : Nat} (h : p < 16) : 2 ^ p < 65536 := Nat.pow_lt_pow_right (a := 2) (n := 16) (by decide) h
theorem wrap_pow16 {n : Nat} (h : n < 16) : IntKind.u16.wrap (2 ^ n) = ((2 ^ n : Nat) : Int) := by
  have h1 := pow16_lt h
  have h2 : ((2 ^ n : Nat) : Int) = 2 ^ n := by norm_cast
  rw [IntKind.wrap_u16, ← h2]
  exact Int.emod_eq_of_lt (Int.natCast_nonneg _) (Int.ofNat_lt.2 h1)
theorem or16 {s t : Nat} (hs : s < 65536) (ht : t < 65536) : s ||| t < 65536 := Nat.or_lt_two_pow (n := 16) hs ht
theorem and16 {s t : Nat} (hs : s < 65536) : s &&& t < 65536 := Nat.lt_of_le_of_lt Nat.and_le_left hs
theorem andN16 {s t : Nat} (hs : s < 65536) : andN s t < 65536 := Nat.xor_lt_two_pow (n := 16) hs (and16 hs)
theorem bits_andNot16 {x y : Nat} (hx : x < 65536) (hy : y < 65536) : bits .andNot .u16 (x : Int) (y : Int) = ((andN x y : Nat) : Int) := by
  rw [u16_andNot_nat x y hx hy]
  congr 1
  apply Nat.eq_of_testBit_eq
  intro i
  rw [andN_bit, Nat.testBit_and]
  by_cases h : i < 16
  · have e : (65535 - y).testBit i = !y.testBit i := by
      have := Nat.testBit_two_pow_sub_succ (x := y) (n := 16) hy i
      rw [show 2 ^ 16 - (y + 1) = 65535 - y by omega] at this
      rw [this]
      simp [h]
    rw [e]
  · have hx0 : x.testBit i = false := Nat.testBit_lt_two_pow (Nat.lt_of_lt_of_le hx (Nat.pow_le_pow_right (n := 2) (by decide) (Nat.le_of_not_lt h)))
    rw [hx0]
    simp
set_option maxHeartbeats 1000000
theorem only_ok (p : Nat) (h : p < 16) (w : World) : Calls Tryz.prog 122 #[.int .i64 (p : Int)] w (RetB (setV (2 ^ p)) w) := by
  go_enter Tryz.func122, Tryz.ntmps122
  go_wp2
  go_ret
  exact ⟨retI (wrap_pow16 h), by go_grown⟩
theorem has_ok (s p : Nat) (hs : s < 65536) (h : p < 16) (w : World) : Calls Tryz.prog 96 #[setV s, .int .i64 (p : Int)] w (RetB (.bool (s.testBit p)) w) := by
  have hl : s / 2 ^ p < 65536 := Nat.lt_of_le_of_lt (Nat.div_le_self _ _) hs
  have hd : (s : Int) / 2 ^ p = ((s / 2 ^ p : Nat) : Int) := by norm_cast
  have e : bits .and .u16 ((s / 2 ^ p : Nat) : Int) 1 = ((s / 2 ^ p % 2 : Nat) : Int) := by
    have := u16_and_nat (s / 2 ^ p) 1 hl (by decide)
    rw [show ((1 : Nat) : Int) = 1 from rfl] at this
    rw [this, Nat.and_one_is_mod]
  have ht : s.testBit p = decide (s / 2 ^ p % 2 = 1) := Nat.testBit_eq_decide_div_mod_eq
  rw [ht]
  generalize s / 2 ^ p = q at *
  have HD := Lib.hid hd
  go_enter Tryz.func96, Tryz.ntmps96
  go_wp2
  go_ret
  exact ⟨retB (by rw [Bool.eq_iff_iff]; simp; omega), by go_grown⟩
theorem without_ok (s t : Nat) (hs : s < 65536) (ht : t < 65536) (w : World) : Calls Tryz.prog 121 #[setV s, setV t] w (RetB (setV (andN s t)) w) := by
  have e := bits_andNot16 hs ht
  go_enter Tryz.func121, Tryz.ntmps121
  go_wp2
  go_ret
  exact ⟨rfl, by go_grown⟩
theorem in_ok (s t : Nat) (hs : s < 65536) (ht : t < 65536) (w : World) : Calls Tryz.prog 157 #[setV s, setV t] w (RetB (.bool (decide (andN s t = 0))) w) := by
  have e := bits_andNot16 hs ht
  go_enter Tryz.func157, Tryz.ntmps157
  go_wp2
  go_ret
  exact ⟨retB (by rw [Bool.eq_iff_iff]; simp), by go_grown⟩
theorem with_ok (s p : Nat) (hs : s < 65536) (h : p < 16) (w : World) : Calls Tryz.prog 98 #[setV s, .int .i64 (p : Int)] w (RetB (setV (s ||| 2 ^ p)) w) := by
  have H := Lib.hid (only_ok p h)
  have e := u16_or_nat s (2 ^ p) hs (pow16_lt h)
  generalize 2 ^ p = q at *
  go_enter Tryz.func98, Tryz.ntmps98
  go_wp2_with fail
  refine (H.out _).mono ?_
  rintro e w1 ⟨rfl, hb⟩
  go_wp2
  go_ret
  exact ⟨rfl, hb⟩
end Go.Proofs.YtoajocgfmbakjaaGreatDoor
/-
  The steps of a body.
-/
set_option linter.unusedVariables false
set_option linter.unusedSimpArgs false
namespace Go.Proofs.YtoajocgfmbakjaaGreatDoor
open Go Go.RowKit

def eastF (f : Sol) : Sol := fun i => andN (f i) 9259542123273814144 * 2 % 18446744073709551616
theorem eastF_fit {f : Sol} (h : Fit f) : Fit (eastF f) := fun i => Nat.mod_lt _ (by decide)
def westF (f : Sol) : Sol := fun i => andN (f i) 72340172838076673 / 2
theorem westF_fit {f : Sol} (h : Fit f) : Fit (westF f) := fun i => Nat.lt_of_le_of_lt (Nat.div_le_self _ _) (andN_lt (h i))
def southF (f : Sol) : Sol := fun i => f i * 256 % 18446744073709551616
theorem southF_fit {f : Sol} (h : Fit f) : Fit (southF f) := fun i => Nat.mod_lt _ (by decide)
def northF (f : Sol) : Sol := fun i => f i / 256
theorem northF_fit {f : Sol} (h : Fit f) : Fit (northF f) := fun i => Nat.lt_of_le_of_lt (Nat.div_le_self _ _) (h i)
set_option maxHeartbeats 1000000 in
theorem east_ok (f : Sol) (w : World) (hf : Fit f) : Calls Tryz.prog 168 #[sol f] w (RetB (sol (eastF f)) w) := by
  go_enter Tryz.func168, Tryz.ntmps168
  go_wp2
  go_loopw [3, 4] (fun z c wr => ∃ k : Nat, k ≤ 8 ∧ c = .int .i64 k ∧ BoxD wr w.heap.size (mix k (eastF f) f) ∧ BoxD wr (w.heap.size + 1) (fun _ => 0) ∧ Below w.heap.size w wr) (fun _ c _ => 8 - (intOf c).toNat)
  case atStart => exact ⟨0, by omega, rfl, (BoxK.new _ w f).alloc _, BoxK.zero (by simp), by go_grown⟩
  case round =>
    obtain ⟨k, hk, rfl, hA, hR, hw⟩ := hrel
    by_cases hlt : k < 8
    · have cA := hA.cell hlt
      have fA := hA.free k
      have b1 : f k < 18446744073709551616 := hf k
      have e1 : mix k (eastF f) f k = f k := by unfold mix; rw [if_neg (by omega)]
      have e2 : bits .andNot .u64 (f k : Int) 9259542123273814144 = ((andN (f k) 9259542123273814144 : Nat) : Int) := by have := bits_andNot (y := 9259542123273814144) b1 (by decide); rw [show ((9259542123273814144 : Nat) : Int) = 9259542123273814144 from rfl] at this; exact this
      have b2 : andN (f k) 9259542123273814144 < 18446744073709551616 := andN_lt b1
      have E3 := Lib.hid (show IntKind.u64.wrap (((andN (f k) 9259542123273814144 : Nat) : Int) * 2) = ((eastF f k : Nat) : Int) by rw [IntKind.wrap_u64]; unfold eastF; generalize andN (f k) 9259542123273814144 = q; omega)
      rw [e1] at cA
      have hA' : BoxD (wr.setCell ⟨w.heap.size, k, none⟩ (.int .u64 ((eastF f k : Nat) : Int))) w.heap.size (mix (k + 1) (eastF f) f) := by rw [← mix_succ]; exact hA.set hlt _
      have hR' : BoxD (wr.setCell ⟨w.heap.size, k, none⟩ (.int .u64 ((eastF f k : Nat) : Int))) (w.heap.size + 1) (fun _ => 0) := hR.other (by omega) _
      have hw' : Below w.heap.size w (wr.setCell ⟨w.heap.size, k, none⟩ (.int .u64 ((eastF f k : Nat) : Int))) := hw.setCell (by simp) _
      clear e1
      go_wp2
      rw [E3.out]
      exact ⟨⟨k + 1, by omega, by go_num, hA', hR', hw'⟩, by simp [intOf]; omega⟩
    · obtain rfl : k = 8 := by omega
      have c0 := (hA).cell (k := 0) (by omega); have c1 := (hA).cell (k := 1) (by omega); have c2 := (hA).cell (k := 2) (by omega); have c3 := (hA).cell (k := 3) (by omega); have c4 := (hA).cell (k := 4) (by omega); have c5 := (hA).cell (k := 5) (by omega); have c6 := (hA).cell (k := 6) (by omega); have c7 := (hA).cell (k := 7) (by omega)
      have r0 := (hR).cell (k := 0) (by omega); have r1 := (hR).cell (k := 1) (by omega); have r2 := (hR).cell (k := 2) (by omega); have r3 := (hR).cell (k := 3) (by omega); have r4 := (hR).cell (k := 4) (by omega); have r5 := (hR).cell (k := 5) (by omega); have r6 := (hR).cell (k := 6) (by omega); have r7 := (hR).cell (k := 7) (by omega)
      have q0 := (hR).free 0; have q1 := (hR).free 1; have q2 := (hR).free 2; have q3 := (hR).free 3; have q4 := (hR).free 4; have q5 := (hR).free 5; have q6 := (hR).free 6; have q7 := (hR).free 7
      go_wp2
      refine bodyPost_ret (res_d ((hR.put (mix 8 (eastF f) f)).congr fun i hi => ?_) Tryz.results168 rfl) rfl ⟨rfl, ?_⟩
      · unfold mix; rw [if_pos hi]
      · repeat' (first | (with_reducible exact Below.refl _ _) | (with_reducible assumption) | (with_reducible refine Below.alloc ?_ ?_ _) | (with_reducible refine Below.drew ?_) | (with_reducible refine below_drewN ?_ _) | (with_reducible refine Below.setCell ?_ ?_ _) | go_size)
set_option maxHeartbeats 1000000 in
theorem west_ok (f : Sol) (w : World) (hf : Fit f) : Calls Tryz.prog 170 #[sol f] w (RetB (sol (westF f)) w) := by
  go_enter Tryz.func170, Tryz.ntmps170
  go_wp2
  go_loopw [3, 4] (fun z c wr => ∃ k : Nat, k ≤ 8 ∧ c = .int .i64 k ∧ BoxD wr w.heap.size (mix k (westF f) f) ∧ BoxD wr (w.heap.size + 1) (fun _ => 0) ∧ Below w.heap.size w wr) (fun _ c _ => 8 - (intOf c).toNat)
  case atStart => exact ⟨0, by omega, rfl, (BoxK.new _ w f).alloc _, BoxK.zero (by simp), by go_grown⟩
  case round =>
    obtain ⟨k, hk, rfl, hA, hR, hw⟩ := hrel
    by_cases hlt : k < 8
    · have cA := hA.cell hlt
      have fA := hA.free k
      have b1 : f k < 18446744073709551616 := hf k
      have e1 : mix k (westF f) f k = f k := by unfold mix; rw [if_neg (by omega)]
      have e2 : bits .andNot .u64 (f k : Int) 72340172838076673 = ((andN (f k) 72340172838076673 : Nat) : Int) := by have := bits_andNot (y := 72340172838076673) b1 (by decide); rw [show ((72340172838076673 : Nat) : Int) = 72340172838076673 from rfl] at this; exact this
      have b2 : andN (f k) 72340172838076673 < 18446744073709551616 := andN_lt b1
      have E3 := Lib.hid (show ((andN (f k) 72340172838076673 : Nat) : Int) / 2 = ((westF f k : Nat) : Int) by unfold westF; omega)
      rw [e1] at cA
      have hA' : BoxD (wr.setCell ⟨w.heap.size, k, none⟩ (.int .u64 ((westF f k : Nat) : Int))) w.heap.size (mix (k + 1) (westF f) f) := by rw [← mix_succ]; exact hA.set hlt _
      have hR' : BoxD (wr.setCell ⟨w.heap.size, k, none⟩ (.int .u64 ((westF f k : Nat) : Int))) (w.heap.size + 1) (fun _ => 0) := hR.other (by omega) _
      have hw' : Below w.heap.size w (wr.setCell ⟨w.heap.size, k, none⟩ (.int .u64 ((westF f k : Nat) : Int))) := hw.setCell (by simp) _
      clear e1
      go_wp2
      rw [E3.out]
      exact ⟨⟨k + 1, by omega, by go_num, hA', hR', hw'⟩, by simp [intOf]; omega⟩
    · obtain rfl : k = 8 := by omega
      have c0 := (hA).cell (k := 0) (by omega); have c1 := (hA).cell (k := 1) (by omega); have c2 := (hA).cell (k := 2) (by omega); have c3 := (hA).cell (k := 3) (by omega); have c4 := (hA).cell (k := 4) (by omega); have c5 := (hA).cell (k := 5) (by omega); have c6 := (hA).cell (k := 6) (by omega); have c7 := (hA).cell (k := 7) (by omega)
      have r0 := (hR).cell (k := 0) (by omega); have r1 := (hR).cell (k := 1) (by omega); have r2 := (hR).cell (k := 2) (by omega); have r3 := (hR).cell (k := 3) (by omega); have r4 := (hR).cell (k := 4) (by omega); have r5 := (hR).cell (k := 5) (by omega); have r6 := (hR).cell (k := 6) (by omega); have r7 := (hR).cell (k := 7) (by omega)
      have q0 := (hR).free 0; have q1 := (hR).free 1; have q2 := (hR).free 2; have q3 := (hR).free 3; have q4 := (hR).free 4; have q5 := (hR).free 5; have q6 := (hR).free 6; have q7 := (hR).free 7
      go_wp2
      refine bodyPost_ret (res_d ((hR.put (mix 8 (westF f) f)).congr fun i hi => ?_) Tryz.results170 rfl) rfl ⟨rfl, ?_⟩
      · unfold mix; rw [if_pos hi]
      · repeat' (first | (with_reducible exact Below.refl _ _) | (with_reducible assumption) | (with_reducible refine Below.alloc ?_ ?_ _) | (with_reducible refine Below.drew ?_) | (with_reducible refine below_drewN ?_ _) | (with_reducible refine Below.setCell ?_ ?_ _) | go_size)
set_option maxHeartbeats 1000000 in
theorem south_ok (f : Sol) (w : World) (hf : Fit f) : Calls Tryz.prog 169 #[sol f] w (RetB (sol (southF f)) w) := by
  go_enter Tryz.func169, Tryz.ntmps169
  go_wp2
  go_loopw [3, 4] (fun z c wr => ∃ k : Nat, k ≤ 8 ∧ c = .int .i64 k ∧ BoxD wr w.heap.size (mix k (southF f) f) ∧ BoxD wr (w.heap.size + 1) (fun _ => 0) ∧ Below w.heap.size w wr) (fun _ c _ => 8 - (intOf c).toNat)
  case atStart => exact ⟨0, by omega, rfl, (BoxK.new _ w f).alloc _, BoxK.zero (by simp), by go_grown⟩
  case round =>
    obtain ⟨k, hk, rfl, hA, hR, hw⟩ := hrel
    by_cases hlt : k < 8
    · have cA := hA.cell hlt
      have fA := hA.free k
      have b1 : f k < 18446744073709551616 := hf k
      have e1 : mix k (southF f) f k = f k := by unfold mix; rw [if_neg (by omega)]
      have b2 := b1
      have E3 := Lib.hid (show IntKind.u64.wrap ((f k : Int) * 256) = ((southF f k : Nat) : Int) by rw [IntKind.wrap_u64]; unfold southF; omega)
      rw [e1] at cA
      have hA' : BoxD (wr.setCell ⟨w.heap.size, k, none⟩ (.int .u64 ((southF f k : Nat) : Int))) w.heap.size (mix (k + 1) (southF f) f) := by rw [← mix_succ]; exact hA.set hlt _
      have hR' : BoxD (wr.setCell ⟨w.heap.size, k, none⟩ (.int .u64 ((southF f k : Nat) : Int))) (w.heap.size + 1) (fun _ => 0) := hR.other (by omega) _
      have hw' : Below w.heap.size w (wr.setCell ⟨w.heap.size, k, none⟩ (.int .u64 ((southF f k : Nat) : Int))) := hw.setCell (by simp) _
      clear e1
      go_wp2
      rw [E3.out]
      exact ⟨⟨k + 1, by omega, by go_num, hA', hR', hw'⟩, by simp [intOf]; omega⟩
    · obtain rfl : k = 8 := by omega
      have c0 := (hA).cell (k := 0) (by omega); have c1 := (hA).cell (k := 1) (by omega); have c2 := (hA).cell (k := 2) (by omega); have c3 := (hA).cell (k := 3) (by omega); have c4 := (hA).cell (k := 4) (by omega); have c5 := (hA).cell (k := 5) (by omega); have c6 := (hA).cell (k := 6) (by omega); have c7 := (hA).cell (k := 7) (by omega)
      have r0 := (hR).cell (k := 0) (by omega); have r1 := (hR).cell (k := 1) (by omega); have r2 := (hR).cell (k := 2) (by omega); have r3 := (hR).cell (k := 3) (by omega); have r4 := (hR).cell (k := 4) (by omega); have r5 := (hR).cell (k := 5) (by omega); have r6 := (hR).cell (k := 6) (by omega); have r7 := (hR).cell (k := 7) (by omega)
      have q0 := (hR).free 0; have q1 := (hR).free 1; have q2 := (hR).free 2; have q3 := (hR).free 3; have q4 := (hR).free 4; have q5 := (hR).free 5; have q6 := (hR).free 6; have q7 := (hR).free 7
      go_wp2
      refine bodyPost_ret (res_d ((hR.put (mix 8 (southF f) f)).congr fun i hi => ?_) Tryz.results169 rfl) rfl ⟨rfl, ?_⟩
      · unfold mix; rw [if_pos hi]
      · repeat' (first | (with_reducible exact Below.refl _ _) | (with_reducible assumption) | (with_reducible refine Below.alloc ?_ ?_ _) | (with_reducible refine Below.drew ?_) | (with_reducible refine below_drewN ?_ _) | (with_reducible refine Below.setCell ?_ ?_ _) | go_size)
set_option maxHeartbeats 1000000 in
theorem north_ok (f : Sol) (w : World) (hf : Fit f) : Calls Tryz.prog 171 #[sol f] w (RetB (sol (northF f)) w) := by
  go_enter Tryz.func171, Tryz.ntmps171
  go_wp2
  go_loopw [3, 4] (fun z c wr => ∃ k : Nat, k ≤ 8 ∧ c = .int .i64 k ∧ BoxD wr w.heap.size (mix k (northF f) f) ∧ BoxD wr (w.heap.size + 1) (fun _ => 0) ∧ Below w.heap.size w wr) (fun _ c _ => 8 - (intOf c).toNat)
  case atStart => exact ⟨0, by omega, rfl, (BoxK.new _ w f).alloc _, BoxK.zero (by simp), by go_grown⟩
  case round =>
    obtain ⟨k, hk, rfl, hA, hR, hw⟩ := hrel
    by_cases hlt : k < 8
    · have cA := hA.cell hlt
      have fA := hA.free k
      have b1 : f k < 18446744073709551616 := hf k
      have e1 : mix k (northF f) f k = f k := by unfold mix; rw [if_neg (by omega)]
      have b2 := b1
      have E3 := Lib.hid (show (f k : Int) / 256 = ((northF f k : Nat) : Int) by unfold northF; omega)
      rw [e1] at cA
      have hA' : BoxD (wr.setCell ⟨w.heap.size, k, none⟩ (.int .u64 ((northF f k : Nat) : Int))) w.heap.size (mix (k + 1) (northF f) f) := by rw [← mix_succ]; exact hA.set hlt _
      have hR' : BoxD (wr.setCell ⟨w.heap.size, k, none⟩ (.int .u64 ((northF f k : Nat) : Int))) (w.heap.size + 1) (fun _ => 0) := hR.other (by omega) _
      have hw' : Below w.heap.size w (wr.setCell ⟨w.heap.size, k, none⟩ (.int .u64 ((northF f k : Nat) : Int))) := hw.setCell (by simp) _
      clear e1
      go_wp2
      rw [E3.out]
      exact ⟨⟨k + 1, by omega, by go_num, hA', hR', hw'⟩, by simp [intOf]; omega⟩
    · obtain rfl : k = 8 := by omega
      have c0 := (hA).cell (k := 0) (by omega); have c1 := (hA).cell (k := 1) (by omega); have c2 := (hA).cell (k := 2) (by omega); have c3 := (hA).cell (k := 3) (by omega); have c4 := (hA).cell (k := 4) (by omega); have c5 := (hA).cell (k := 5) (by omega); have c6 := (hA).cell (k := 6) (by omega); have c7 := (hA).cell (k := 7) (by omega)
      have r0 := (hR).cell (k := 0) (by omega); have r1 := (hR).cell (k := 1) (by omega); have r2 := (hR).cell (k := 2) (by omega); have r3 := (hR).cell (k := 3) (by omega); have r4 := (hR).cell (k := 4) (by omega); have r5 := (hR).cell (k := 5) (by omega); have r6 := (hR).cell (k := 6) (by omega); have r7 := (hR).cell (k := 7) (by omega)
      have q0 := (hR).free 0; have q1 := (hR).free 1; have q2 := (hR).free 2; have q3 := (hR).free 3; have q4 := (hR).free 4; have q5 := (hR).free 5; have q6 := (hR).free 6; have q7 := (hR).free 7
      go_wp2
      refine bodyPost_ret (res_d ((hR.put (mix 8 (northF f) f)).congr fun i hi => ?_) Tryz.results171 rfl) rfl ⟨rfl, ?_⟩
      · unfold mix; rw [if_pos hi]
      · repeat' (first | (with_reducible exact Below.refl _ _) | (with_reducible assumption) | (with_reducible refine Below.alloc ?_ ?_ _) | (with_reducible refine Below.drew ?_) | (with_reducible refine below_drewN ?_ _) | (with_reducible refine Below.setCell ?_ ?_ _) | go_size)
end Go.Proofs.YtoajocgfmbakjaaGreatDoor
/-
  A body one cell up.
-/
set_option linter.unusedVariables false
set_option linter.unusedSimpArgs false
namespace Go.Proofs.YtoajocgfmbakjaaGreatDoor
open Go Go.RowKit

def upF (f : Sol) : Sol := fun i => if i = 0 then 0 else f (i - 1)
theorem upF_fit {f : Sol} (h : Fit f) : Fit (upF f) := fun i => by
  unfold upF
  split
  · decide
  · exact h _
/-- The planes one up, the lowest one as it was. -/
def upG (f : Sol) : Sol := fun i => if i = 0 then f 0 else f (i - 1)
theorem below_setRow {n g : Nat} {w W : World} {cur xs : Array Value} {t : TypeId} (h : Below n w W) (hn : n ≤ g) (hg : W.heap[g]? = some (.cells cur t (0, 0))) : Below n w (W.setRow g xs) := by
  have hs : (W.setRow g xs).heap.size = W.heap.size := by unfold World.setRow; simp
  refine ⟨h.os, h.tape, h.output, by rw [hs]; exact h.size, fun b hb => ?_⟩
  have e : (W.setRow g xs).heap[b]? = W.heap[b]? := by
    unfold World.setRow
    simp only [Array.getElem?_modify]
    rw [if_neg (by omega)]
  rw [e]
  exact h.block b hb
set_option maxHeartbeats 1000000 in
theorem up_copy (W : World) (B : Nat) (f : Sol) (h : BoxD W B f) :
    ∃ W2, (Builtin.copy_ #[190, 190] 3 #[.slice (some ⟨B, 1, none⟩) 7 7, .slice (some ⟨B, 0, none⟩) 8 8]).run Tryz.prog W = .ok (goInt 7) W2 ∧ BoxD W2 B (upG f) ∧ (∀ b, b ≠ B → W2.heap[b]? = W.heap[b]?) ∧ ∀ n w, n ≤ B → Below n w W → Below n w W2 := by
  have hr := run_copy_row (P := Tryz.prog) W 190 190 3 23 B 1 7 7 ⟨B, 0, none⟩ 8 8 _ 88 [.int .u64 (f 0), .int .u64 (f 1), .int .u64 (f 2), .int .u64 (f 3), .int .u64 (f 4), .int .u64 (f 5), .int .u64 (f 6)] Tryz.underlying190 (by kernel_rfl) h (by rfl) (fun j v hj => by
    have hj7 : j < 7 := (List.getElem?_eq_some_iff.1 hj).1
    have e : (⟨B, 0, none⟩ : Addr).add j = ⟨B, j, none⟩ := by rw [show (⟨B, 0, none⟩ : Addr).add j = ⟨B, 0 + j, none⟩ from (by unfold Addr.add; split <;> simp_all), Nat.zero_add]
    rw [e, h.cell (k := j) (by omega)]
    rcases (show j = 0 ∨ j = 1 ∨ j = 2 ∨ j = 3 ∨ j = 4 ∨ j = 5 ∨ j = 6 by omega) with rfl | rfl | rfl | rfl | rfl | rfl | rfl <;> exact hj) (by simp) (by simp [Value.oneCell'])
  refine ⟨_, hr, ?_, ?_, ?_⟩
  · exact setRow_heap W B _ _ 88 _ h
  · intro b hb
    unfold World.setRow
    simp only [Array.getElem?_modify]
    rw [if_neg (fun e => hb e.symm)]
  · intro n w hn hbw
    exact below_setRow hbw hn h
set_option maxHeartbeats 1000000 in
theorem up_ok (f : Sol) (w : World) (hf : Fit f) : Calls Tryz.prog 149 #[sol f] w (RetB (sol (upF f)) w) := by
  have hA : BoxD ((w.alloc (.cells (solC f) 88)).alloc (.cells (solC fun _ => 0) 88)) w.heap.size f := (BoxK.new _ w f).alloc _
  have hR : BoxD ((w.alloc (.cells (solC f) 88)).alloc (.cells (solC fun _ => 0) 88)) (w.heap.size + 1) (fun _ => 0) := BoxK.zero (by simp)
  have hB : Below w.heap.size w ((w.alloc (.cells (solC f) 88)).alloc (.cells (solC fun _ => 0) 88)) := by repeat' (first | (with_reducible exact Below.refl _ _) | (with_reducible assumption) | (with_reducible refine Below.alloc ?_ ?_ _) | (with_reducible refine Below.drew ?_) | (with_reducible refine below_drewN ?_ _) | (with_reducible refine Below.setCell ?_ ?_ _) | go_size)
  go_enter Tryz.func149, Tryz.ntmps149
  go_wp2
  obtain ⟨W, hW⟩ : ∃ W, W = ((w.alloc (.cells (solC f) 88)).alloc (.cells (solC fun _ => 0) 88)) := ⟨_, rfl⟩
  have e0 : ((w.alloc (.cells #[.int .u64 (f 0), .int .u64 (f 1), .int .u64 (f 2), .int .u64 (f 3), .int .u64 (f 4), .int .u64 (f 5), .int .u64 (f 6), .int .u64 (f 7)] 88)).alloc (.cells #[.int .u64 0, .int .u64 0, .int .u64 0, .int .u64 0, .int .u64 0, .int .u64 0, .int .u64 0, .int .u64 0] 88)) = W := hW.symm
  rw [← hW] at hA hR hB
  try rw [e0]
  clear hW e0
  obtain ⟨W2, hcp, h1, h2, h3⟩ := up_copy W.drew w.heap.size f hA
  have hR2 : BoxD W2 (w.heap.size + 1) (fun _ => 0) := (h2 _ (by omega)).trans hR
  have hB2 : Below w.heap.size w W2 := h3 _ _ (Nat.le_refl _) hB.drew
  go_region
  have f0 := h1.free 0
  obtain ⟨old, ho⟩ : ∃ v, W2.cell? ⟨w.heap.size, 0, none⟩ = some v := ⟨_, h1.cell (k := 0) (by omega)⟩
  have h4 : BoxD (W2.setCell ⟨w.heap.size, 0, none⟩ (.int .u64 0)) w.heap.size (upF f) := (h1.set (k := 0) (by omega) 0).congr fun k hk => by
    unfold up8 upG upF
    split <;> rfl
  have hR3 : BoxD (W2.setCell ⟨w.heap.size, 0, none⟩ (.int .u64 0)) (w.heap.size + 1) (fun _ => 0) := hR2.other (by omega) _
  have hB3 : Below w.heap.size w (W2.setCell ⟨w.heap.size, 0, none⟩ (.int .u64 0)) := hB2.setCell (by simp) _
  have c0 := (h4).cell (k := 0) (by omega); have c1 := (h4).cell (k := 1) (by omega); have c2 := (h4).cell (k := 2) (by omega); have c3 := (h4).cell (k := 3) (by omega); have c4 := (h4).cell (k := 4) (by omega); have c5 := (h4).cell (k := 5) (by omega); have c6 := (h4).cell (k := 6) (by omega); have c7 := (h4).cell (k := 7) (by omega)
  have r0 := (hR3).cell (k := 0) (by omega); have r1 := (hR3).cell (k := 1) (by omega); have r2 := (hR3).cell (k := 2) (by omega); have r3 := (hR3).cell (k := 3) (by omega); have r4 := (hR3).cell (k := 4) (by omega); have r5 := (hR3).cell (k := 5) (by omega); have r6 := (hR3).cell (k := 6) (by omega); have r7 := (hR3).cell (k := 7) (by omega)
  have q0 := (hR3).free 0; have q1 := (hR3).free 1; have q2 := (hR3).free 2; have q3 := (hR3).free 3; have q4 := (hR3).free 4; have q5 := (hR3).free 5; have q6 := (hR3).free 6; have q7 := (hR3).free 7
  go_wp2
  refine bodyPost_ret (res_d (hR3.put (upF f)) Tryz.results149 rfl) rfl ⟨rfl, ?_⟩
  repeat' (first | (with_reducible exact Below.refl _ _) | (with_reducible assumption) | (with_reducible refine Below.alloc ?_ ?_ _) | (with_reducible refine Below.drew ?_) | (with_reducible refine below_drewN ?_ _) | (with_reducible refine Below.setCell ?_ ?_ _) | go_size)
end Go.Proofs.YtoajocgfmbakjaaGreatDoor
/-
  Bodies: empty, touching.
-/
set_option linter.unusedVariables false
set_option linter.unusedSimpArgs false
namespace Go.Proofs.YtoajocgfmbakjaaGreatDoor
open Go Go.RowKit

theorem isEmpty_ok (f : Sol) (w : World) : Calls Tryz.prog 85 #[sol f] w (RetB (.bool (emptyS f)) w) := by
  go_enter Tryz.func85, Tryz.ntmps85
  go_wp2
  go_ret
  exact ⟨rfl, by go_grown⟩
def touchB (f g : Sol) : Bool := !emptyS (meetF f g)
set_option maxHeartbeats 1000000 in
theorem touches_ok (f g : Sol) (w : World) (hf : Fit f) (hg : Fit g) : Calls Tryz.prog 99 #[sol f, sol g] w (RetB (.bool (touchB f g)) w) := by
  have H1 := Lib.hid (fun W : World => meet_ok f g W hf hg)
  have H2 := Lib.hid (fun W : World => isEmpty_ok (meetF f g) W)
  have A0 : BoxD ((w.alloc (.cells (solC f) 88)).alloc (.cells (solC g) 88)) w.heap.size f := (BoxK.new _ w f).alloc _
  have B0 : BoxD ((w.alloc (.cells (solC f) 88)).alloc (.cells (solC g) 88)) (w.heap.size + 1) g := BoxK.new' (by simp)
  have hB0 : Below w.heap.size w ((w.alloc (.cells (solC f) 88)).alloc (.cells (solC g) 88)) := by repeat' (first | (with_reducible exact Below.refl _ _) | (with_reducible assumption) | (with_reducible refine Below.alloc ?_ ?_ _) | (with_reducible refine Below.drew ?_) | (with_reducible refine below_drewN ?_ _) | (with_reducible refine Below.setCell ?_ ?_ _) | go_size)
  have a0 := (A0).cell (k := 0) (by omega); have a1 := (A0).cell (k := 1) (by omega); have a2 := (A0).cell (k := 2) (by omega); have a3 := (A0).cell (k := 3) (by omega); have a4 := (A0).cell (k := 4) (by omega); have a5 := (A0).cell (k := 5) (by omega); have a6 := (A0).cell (k := 6) (by omega); have a7 := (A0).cell (k := 7) (by omega)
  have b0 := (B0).cell (k := 0) (by omega); have b1 := (B0).cell (k := 1) (by omega); have b2 := (B0).cell (k := 2) (by omega); have b3 := (B0).cell (k := 3) (by omega); have b4 := (B0).cell (k := 4) (by omega); have b5 := (B0).cell (k := 5) (by omega); have b6 := (B0).cell (k := 6) (by omega); have b7 := (B0).cell (k := 7) (by omega)
  go_enter Tryz.func99, Tryz.ntmps99
  go_wp2_with fail
  refine (H1.out _).mono ?_
  rintro e w1 ⟨rfl, hb1⟩
  have hB1 := up hb1 hB0
  go_wp2_with fail
  refine (H2.out _).mono ?_
  rintro e w2 ⟨rfl, hb2⟩
  go_wp2
  go_ret
  exact ⟨rfl, up hb2 hB1⟩
end Go.Proofs.YtoajocgfmbakjaaGreatDoor
