/-
  The walk of first: the binary search for the least number for which a function says yes.
-/
import Derived.Test.YtgonaamjjhhiiaaGreatDoorNum
import Derived.Deep.LoopGhost
set_option linter.unusedVariables false
set_option linter.unusedSimpArgs false
namespace Go.Proofs.YtgonaamjjhhiiaaGreatDoor
open Go Go.RowKit

/-- What the function value says of a number, whatever the call's own memory: p; it may look at what captured points to, below B. -/
def Says (p : Int → Bool) (f : FuncId) (cap : Array Value) (lo hi : Int) (w : World) : Prop :=
  ∀ (n : Int) (W : World), Below w.heap.size w W → lo ≤ n → n < hi → Calls Tryz.prog f (#[.int .i64 n] ++ cap) W fun e w' => e = .returned (.bool (p n)) ∧ Below W.heap.size W w'

def FirstPost (p : Int → Bool) (lo hi : Int) (w : World) (e : Ending) (w' : World) : Prop := ∃ r, e = .returned (.int .i64 r) ∧ lo ≤ r ∧ r ≤ hi ∧ (∀ n, lo ≤ n → n < r → p n = false) ∧ (r < hi → p r = true) ∧ Below w.heap.size w w'

set_option maxRecDepth 100000 in
set_option maxHeartbeats 1000000 in
theorem first_s1 (p : Int → Bool) (c : Value) (lo hi : Int) (w : World) (h0 : 0 ≤ lo) (h1 : lo ≤ hi) (h2 : hi ≤ 2000000)
    (hf : Says p 40 #[c] lo hi w) (hmono : ∀ n m, lo ≤ n → n ≤ m → m < hi → p n = true → p m = true) :
    Calls Tryz.prog 39 #[.int .i64 lo, .int .i64 hi, .func (.func 40) #[] #[c]] w (FirstPost p lo hi w) := by
  have HF := Lib.hid hf
  have HM := Lib.hid hmono
  clear hf hmono
  go_enter Tryz.func39, Tryz.ntmps39
  go_wp2
  go_loopw [0, 1] (fun x y wr => ∃ a b : Int, x = .int .i64 a ∧ y = .int .i64 b ∧ lo ≤ a ∧ a ≤ b ∧ b ≤ hi ∧ Hid (∀ n, lo ≤ n → n < a → p n = false) ∧ Hid (b < hi → p b = true) ∧ Below w.heap.size w wr) (fun x y _ => (intOf y - intOf x).toNat)
  case atStart => exact ⟨lo, hi, rfl, rfl, by omega, h1, by omega, fun n a b => by omega, fun h => by omega, Below.refl _ _⟩
  case round =>
    obtain ⟨a, b, rfl, rfl, i1, i2, i3, HA, HB, hB⟩ := hrel
    by_cases hk : a < b
    · have d1 : 0 ≤ b - a := by omega
      have hq : (b - a) / 2 * 2 ≤ b - a := Int.ediv_mul_le _ (by omega)
      have hq0 : 0 ≤ (b - a) / 2 := by omega
      have hq1 : a + (b - a) / 2 < b := by omega
      go_wp2_with fail
      refine (HF.out (a + (b - a) / 2) wr hB (by omega) (by omega)).mono ?_
      rintro e w1 ⟨rfl, hb1⟩
      have hB1 : Below w.heap.size w w1 := up hb1 hB
      cases hp : p (a + (b - a) / 2) with
      | true =>
        have HP := Lib.hid hp
        clear hp
        go_wp2
        go_roundw
        case rel => exact ⟨a, a + (b - a) / 2, rfl, rfl, i1, by omega, by omega, HA, fun _ => HP.out, hB1⟩
        case measure => simp [intOf]; omega
      | false =>
        have HP := Lib.hid hp
        clear hp
        go_wp2
        go_roundw
        case rel => exact ⟨a + (b - a) / 2 + 1, b, rfl, rfl, by omega, by omega, i3, fun n n1 n2 => by
          cases hn : p n with
          | false => rfl
          | true =>
            have := HM.out n (a + (b - a) / 2) n1 (by omega) (by omega) hn
            rw [HP.out] at this; exact absurd this (by decide), HB, hB1⟩
        case measure => simp [intOf]; omega
    · have hab : a = b := by omega
      subst hab
      go_wp2
      go_returns
      exact ⟨a, rfl, i1, i3, HA.out, HB.out, hB⟩
set_option maxRecDepth 100000 in
set_option maxHeartbeats 1000000 in
theorem first_s2 (p : Int → Bool) (c : Value) (lo hi : Int) (w : World) (h0 : 0 ≤ lo) (h1 : lo ≤ hi) (h2 : hi ≤ 2000000)
    (hf : Says p 43 #[c] lo hi w) (hmono : ∀ n m, lo ≤ n → n ≤ m → m < hi → p n = true → p m = true) :
    Calls Tryz.prog 39 #[.int .i64 lo, .int .i64 hi, .func (.func 43) #[] #[c]] w (FirstPost p lo hi w) := by
  have HF := Lib.hid hf
  have HM := Lib.hid hmono
  clear hf hmono
  go_enter Tryz.func39, Tryz.ntmps39
  go_wp2
  go_loopw [0, 1] (fun x y wr => ∃ a b : Int, x = .int .i64 a ∧ y = .int .i64 b ∧ lo ≤ a ∧ a ≤ b ∧ b ≤ hi ∧ Hid (∀ n, lo ≤ n → n < a → p n = false) ∧ Hid (b < hi → p b = true) ∧ Below w.heap.size w wr) (fun x y _ => (intOf y - intOf x).toNat)
  case atStart => exact ⟨lo, hi, rfl, rfl, by omega, h1, by omega, fun n a b => by omega, fun h => by omega, Below.refl _ _⟩
  case round =>
    obtain ⟨a, b, rfl, rfl, i1, i2, i3, HA, HB, hB⟩ := hrel
    by_cases hk : a < b
    · have d1 : 0 ≤ b - a := by omega
      have hq : (b - a) / 2 * 2 ≤ b - a := Int.ediv_mul_le _ (by omega)
      have hq0 : 0 ≤ (b - a) / 2 := by omega
      have hq1 : a + (b - a) / 2 < b := by omega
      go_wp2_with fail
      refine (HF.out (a + (b - a) / 2) wr hB (by omega) (by omega)).mono ?_
      rintro e w1 ⟨rfl, hb1⟩
      have hB1 : Below w.heap.size w w1 := up hb1 hB
      cases hp : p (a + (b - a) / 2) with
      | true =>
        have HP := Lib.hid hp
        clear hp
        go_wp2
        go_roundw
        case rel => exact ⟨a, a + (b - a) / 2, rfl, rfl, i1, by omega, by omega, HA, fun _ => HP.out, hB1⟩
        case measure => simp [intOf]; omega
      | false =>
        have HP := Lib.hid hp
        clear hp
        go_wp2
        go_roundw
        case rel => exact ⟨a + (b - a) / 2 + 1, b, rfl, rfl, by omega, by omega, i3, fun n n1 n2 => by
          cases hn : p n with
          | false => rfl
          | true =>
            have := HM.out n (a + (b - a) / 2) n1 (by omega) (by omega) hn
            rw [HP.out] at this; exact absurd this (by decide), HB, hB1⟩
        case measure => simp [intOf]; omega
    · have hab : a = b := by omega
      subst hab
      go_wp2
      go_returns
      exact ⟨a, rfl, i1, i3, HA.out, HB.out, hB⟩
set_option maxRecDepth 100000 in
set_option maxHeartbeats 1000000 in
theorem first_b1 (p : Int → Bool) (c : Value) (lo hi : Int) (w : World) (h0 : 0 ≤ lo) (h1 : lo ≤ hi) (h2 : hi ≤ 2000000)
    (hf : Says p 45 #[c] lo hi w) (hmono : ∀ n m, lo ≤ n → n ≤ m → m < hi → p n = true → p m = true) :
    Calls Tryz.prog 39 #[.int .i64 lo, .int .i64 hi, .func (.func 45) #[] #[c]] w (FirstPost p lo hi w) := by
  have HF := Lib.hid hf
  have HM := Lib.hid hmono
  clear hf hmono
  go_enter Tryz.func39, Tryz.ntmps39
  go_wp2
  go_loopw [0, 1] (fun x y wr => ∃ a b : Int, x = .int .i64 a ∧ y = .int .i64 b ∧ lo ≤ a ∧ a ≤ b ∧ b ≤ hi ∧ Hid (∀ n, lo ≤ n → n < a → p n = false) ∧ Hid (b < hi → p b = true) ∧ Below w.heap.size w wr) (fun x y _ => (intOf y - intOf x).toNat)
  case atStart => exact ⟨lo, hi, rfl, rfl, by omega, h1, by omega, fun n a b => by omega, fun h => by omega, Below.refl _ _⟩
  case round =>
    obtain ⟨a, b, rfl, rfl, i1, i2, i3, HA, HB, hB⟩ := hrel
    by_cases hk : a < b
    · have d1 : 0 ≤ b - a := by omega
      have hq : (b - a) / 2 * 2 ≤ b - a := Int.ediv_mul_le _ (by omega)
      have hq0 : 0 ≤ (b - a) / 2 := by omega
      have hq1 : a + (b - a) / 2 < b := by omega
      go_wp2_with fail
      refine (HF.out (a + (b - a) / 2) wr hB (by omega) (by omega)).mono ?_
      rintro e w1 ⟨rfl, hb1⟩
      have hB1 : Below w.heap.size w w1 := up hb1 hB
      cases hp : p (a + (b - a) / 2) with
      | true =>
        have HP := Lib.hid hp
        clear hp
        go_wp2
        go_roundw
        case rel => exact ⟨a, a + (b - a) / 2, rfl, rfl, i1, by omega, by omega, HA, fun _ => HP.out, hB1⟩
        case measure => simp [intOf]; omega
      | false =>
        have HP := Lib.hid hp
        clear hp
        go_wp2
        go_roundw
        case rel => exact ⟨a + (b - a) / 2 + 1, b, rfl, rfl, by omega, by omega, i3, fun n n1 n2 => by
          cases hn : p n with
          | false => rfl
          | true =>
            have := HM.out n (a + (b - a) / 2) n1 (by omega) (by omega) hn
            rw [HP.out] at this; exact absurd this (by decide), HB, hB1⟩
        case measure => simp [intOf]; omega
    · have hab : a = b := by omega
      subst hab
      go_wp2
      go_returns
      exact ⟨a, rfl, i1, i3, HA.out, HB.out, hB⟩
end Go.Proofs.YtgonaamjjhhiiaaGreatDoor
