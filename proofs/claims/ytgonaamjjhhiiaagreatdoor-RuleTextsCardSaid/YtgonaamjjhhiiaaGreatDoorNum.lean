/-
  Walks of the small functions of package rule that take numbers and fractions: what each returns, and that it leaves all older memory alone.
-/
import Derived.Test.YtgonaamjjhhiiaaGreatDoorProg
import Derived.Test.YtgonaamjjhhiiaaGreatDoorMath
import Derived.WalkKit
import Derived.ProofKit
import Derived.Below
import Derived.LoopTactic
import Derived.RegionTactic
import Derived.Deep.QuietTactic
import Derived.BigQuiet
import Derived.Deep.RegionHeld3
import Derived.Outline
import Derived.Lib.Hide
import Derived.KernelRfl
import Derived.Handy
set_option linter.unusedVariables false
set_option linter.unusedSimpArgs false
namespace Go.Proofs.YtgonaamjjhhiiaaGreatDoor
open Go Go.RowKit

theorem bcell {W w1 : World} (hb : Below W.heap.size W w1) : (∀ b o, b < W.heap.size → w1.cell? ⟨b, o, none⟩ = W.cell? ⟨b, o, none⟩) ∧ (∀ b o, b < W.heap.size → w1.frozen? ⟨b, o, none⟩ = W.frozen? ⟨b, o, none⟩) :=
  ⟨fun b o h => hb.cell (p := ⟨b, o, none⟩) h, fun b o h => hb.frozen (p := ⟨b, o, none⟩) h⟩
theorem below_drewN {B : Nat} {a w : World} (h : Below B a w) (n : Nat) : Below B a (w.drewN n) := ⟨h.os, h.tape, h.output, h.size, h.block⟩
theorem up {w W w1 : World} (h : Below W.heap.size W w1) (k : Below w.heap.size w W) : Below w.heap.size w w1 := k.trans (h.mono k.size)
theorem retI {k : IntKind} {a b : Int} (h : a = b) : Ending.returned (.int k a) = .returned (.int k b) := by rw [h]
theorem retB {a b : Bool} (h : a = b) : Ending.returned (.bool a) = .returned (.bool b) := by rw [h]

set_option maxHeartbeats 400000 in
theorem divisor_any (a b : Int) (w : World) (ha : -4000000000000000000 ≤ a) (ha' : a ≤ 4000000000000000000) (hb : -4000000000000000000 ≤ b) (hb' : b ≤ 4000000000000000000) :
    Calls Tryz.prog 59 #[.int .i64 a, .int .i64 b] w fun e w' => e = .returned (.int .i64 (gc a b)) ∧ Below w.heap.size w w' := by
  go_enter Tryz.func59, Tryz.ntmps59
  go_wp2
  go_loopw [0, 1] (fun x y wr => ∃ p q : Int, x = .int .i64 p ∧ y = .int .i64 q ∧ gc p q = gc a b ∧ -4000000000000000000 ≤ p ∧ p ≤ 4000000000000000000 ∧ -4000000000000000000 ≤ q ∧ q ≤ 4000000000000000000 ∧ Below w.heap.size w wr) (fun _ y _ => (intOf y).natAbs)
  case atStart => exact ⟨a, b, rfl, rfl, rfl, ha, ha', hb, hb', Below.refl _ _⟩
  case round =>
    obtain ⟨p, q, rfl, rfl, hg, h1, h2, h3, h4, hB⟩ := hrel
    have HG := Lib.hid hg
    clear hg
    by_cases hq : q = 0
    · subst hq
      have hz := gc_zero p
      have HZ := Lib.hid hz
      clear hz
      go_wp2
      all_goals
        go_ret
        exact ⟨retI (by have := HZ.out; have := HG.out; omega), hB⟩
    · have hne : (q != 0) = true := by simpa using hq
      have hlt := tmod_lt p hq
      have hb1 : -4000000000000000000 ≤ p.tmod q := by omega
      have hb2 : p.tmod q ≤ 4000000000000000000 := by omega
      go_wp2
      go_quiet (fail)
      go_roundw
      case rel => exact ⟨_, _, _, _, _, _, _, _, ⟨q, p.tmod q, rfl, rfl, by rw [gc_tmod]; exact HG.out, h3, h4, hb1, hb2, below_drewN hB _⟩, rfl⟩
      case measure => rw [Int.natAbs_tmod] at hlt; simp [intOf]; exact hlt

theorem whole_any (n : Int) (w : World) : Calls Tryz.prog 31 #[.int .i64 n] w fun e w' => e = .returned (.agg #[.int .i64 (n), .int .i64 (1)]) ∧ Below w.heap.size w w' := by
  go_enter Tryz.func31, Tryz.ntmps31
  go_wp2
  go_returns
  exact ⟨rfl, by go_grown⟩

/-- The bounds of a product that fits. -/
def Fits (n : Int) : Prop := -9000000000000000000 ≤ n ∧ n ≤ 9000000000000000000

theorem gap_any (an ad bn bd : Int) (w : World) (h1 : -4000000000000000000 ≤ an * bd) (h2 : an * bd ≤ 4000000000000000000) (h3 : -4000000000000000000 ≤ bn * ad) (h4 : bn * ad ≤ 4000000000000000000) :
    Calls Tryz.prog 29 #[.agg #[.int .i64 (an), .int .i64 (ad)], .agg #[.int .i64 (bn), .int .i64 (bd)]] w fun e w' => e = .returned (.int .i64 (an * bd - bn * ad)) ∧ Below w.heap.size w w' := by
  go_enter Tryz.func29, Tryz.ntmps29
  go_wp2
  go_returns
  exact ⟨rfl, by go_grown⟩
theorem plus_any (an ad bn bd : Int) (w : World) (h1 : -4000000000000000000 ≤ an * bd) (h2 : an * bd ≤ 4000000000000000000) (h3 : -4000000000000000000 ≤ bn * ad) (h4 : bn * ad ≤ 4000000000000000000) (h5 : -4000000000000000000 ≤ ad * bd) (h6 : ad * bd ≤ 4000000000000000000) :
    Calls Tryz.prog 70 #[.agg #[.int .i64 (an), .int .i64 (ad)], .agg #[.int .i64 (bn), .int .i64 (bd)]] w fun e w' => e = .returned (.agg #[.int .i64 (an * bd + bn * ad), .int .i64 (ad * bd)]) ∧ Below w.heap.size w w' := by
  go_enter Tryz.func70, Tryz.ntmps70
  go_wp2
  go_returns
  exact ⟨rfl, by go_grown⟩
theorem times_any (an ad bn bd : Int) (w : World) (h1 : -4000000000000000000 ≤ an * bn) (h2 : an * bn ≤ 4000000000000000000) (h5 : -4000000000000000000 ≤ ad * bd) (h6 : ad * bd ≤ 4000000000000000000) :
    Calls Tryz.prog 67 #[.agg #[.int .i64 (an), .int .i64 (ad)], .agg #[.int .i64 (bn), .int .i64 (bd)]] w fun e w' => e = .returned (.agg #[.int .i64 (an * bn), .int .i64 (ad * bd)]) ∧ Below w.heap.size w w' := by
  go_enter Tryz.func67, Tryz.ntmps67
  go_wp2
  go_returns
  exact ⟨rfl, by go_grown⟩
theorem over_pos (an ad bn bd : Int) (w : World) (hb : 0 ≤ bn) (h1 : -4000000000000000000 ≤ an * bd) (h2 : an * bd ≤ 4000000000000000000) (h3 : -4000000000000000000 ≤ bn * ad) (h4 : bn * ad ≤ 4000000000000000000) :
    Calls Tryz.prog 71 #[.agg #[.int .i64 (an), .int .i64 (ad)], .agg #[.int .i64 (bn), .int .i64 (bd)]] w fun e w' => e = .returned (.agg #[.int .i64 (an * bd), .int .i64 (bn * ad)]) ∧ Below w.heap.size w w' := by
  go_enter Tryz.func71, Tryz.ntmps71
  go_wp2
  go_returns
  exact ⟨rfl, by go_grown⟩
theorem over_neg (an ad bn bd : Int) (w : World) (hb : bn < 0) (ha : -4000000000000000000 ≤ an) (ha' : an ≤ 4000000000000000000) (hb' : -4000000000000000000 ≤ bn) (h1 : -4000000000000000000 ≤ -an * bd) (h2 : -an * bd ≤ 4000000000000000000) (h3 : -4000000000000000000 ≤ -bn * ad) (h4 : -bn * ad ≤ 4000000000000000000) :
    Calls Tryz.prog 71 #[.agg #[.int .i64 (an), .int .i64 (ad)], .agg #[.int .i64 (bn), .int .i64 (bd)]] w fun e w' => e = .returned (.agg #[.int .i64 (-an * bd), .int .i64 (-bn * ad)]) ∧ Below w.heap.size w w' := by
  go_enter Tryz.func71, Tryz.ntmps71
  go_wp2
  go_returns
  exact ⟨rfl, by go_grown⟩
theorem floor_any (n d : Int) (w : World) (hd : 1 ≤ d) (h1 : -4000000000000000000 ≤ n) (h2 : n ≤ 4000000000000000000) (hd' : d ≤ 4000000000000000000) :
    Calls Tryz.prog 62 #[.agg #[.int .i64 (n), .int .i64 (d)]] w fun e w' => e = .returned (.int .i64 (n / d)) ∧ Below w.heap.size w w' := by
  have hf := floor_code (n := n) hd
  have HF := Lib.hid hf
  clear hf
  have b1 := Int.natAbs_tdiv_le_natAbs n d
  have b2 : (n.tmod d).natAbs < d.natAbs := tmod_lt n (by omega)
  have b3 : -4000000000000000000 ≤ n.tdiv d := by omega
  have b4 : n.tdiv d ≤ 4000000000000000000 := by omega
  have b5 : -4000000000000000000 ≤ n.tmod d := by omega
  have b6 : n.tmod d ≤ 4000000000000000000 := by omega
  have hne : ¬ d = 0 := by omega
  by_cases hn : n.tmod d < 0
  · go_enter Tryz.func62, Tryz.ntmps62
    go_wp2
    go_returns
    exact ⟨retI (by have := HF.out; rw [if_pos hn] at this; exact this), by go_grown⟩
  · have hn' : 0 ≤ n.tmod d := by omega
    clear hn
    go_enter Tryz.func62, Tryz.ntmps62
    go_wp2
    go_returns
    exact ⟨retI (by have := HF.out; rw [if_neg (by omega)] at this; exact this), by go_grown⟩
theorem ceil_any (n d : Int) (w : World) (hd : 1 ≤ d) (h1 : -4000000000000000000 ≤ n) (h2 : n ≤ 4000000000000000000) (hd' : d ≤ 4000000000000000000) :
    Calls Tryz.prog 61 #[.agg #[.int .i64 (n), .int .i64 (d)]] w fun e w' => e = .returned (.int .i64 (ceilQ n d)) ∧ Below w.heap.size w w' := by
  have hb := floor_bd (n := -n) (d := d) (B := 4000000000000000000) hd (by omega) (by omega)
  go_enter Tryz.func61, Tryz.ntmps61
  go_wp2_with (go_at_call 62; refine (floor_any (-n) d _ hd (by omega) (by omega) hd').mono ?_; rintro e w1 ⟨rfl, hb1⟩; obtain ⟨hc1, hf1⟩ := bcell hb1; have hB1 : Below w.heap.size w w1 := up hb1 (by go_grown); have hz1 := hb1.size; (try simp at hz1); (try have hz1_w_p1 : w.heap.size < w1.heap.size + 1 := (by omega)); (try have hz1_w_p2 : w.heap.size < w1.heap.size + 1 + 1 := (by omega)); (try have hz1_w_p3 : w.heap.size < w1.heap.size + 1 + 1 + 1 := (by omega)); (try have hz1_w_0 : w.heap.size < w1.heap.size := (by omega)); (try have hz1_w_1 : w.heap.size + 1 < w1.heap.size := (by omega)); (try have hz1_w_2 : w.heap.size + 1 + 1 < w1.heap.size := (by omega)); (try have hz1_w_3 : w.heap.size + 1 + 1 + 1 < w1.heap.size := (by omega)); (try have hz1_w_4 : w.heap.size + 1 + 1 + 1 + 1 < w1.heap.size := (by omega)); (try have hz1_w_5 : w.heap.size + 1 + 1 + 1 + 1 + 1 < w1.heap.size := (by omega)); (try have hz1_w_6 : w.heap.size + 1 + 1 + 1 + 1 + 1 + 1 < w1.heap.size := (by omega)))
  go_returns
  exact ⟨rfl, by go_grown⟩
theorem between_any (an ad bn bd : Int) (w : World) (h1 : -4000000000000000000 ≤ an + bn) (h2 : an + bn ≤ 4000000000000000000) (h3 : -4000000000000000000 ≤ ad + bd) (h4 : ad + bd ≤ 4000000000000000000) :
    Calls Tryz.prog 33 #[.agg #[.int .i64 (an), .int .i64 (ad)], .agg #[.int .i64 (bn), .int .i64 (bd)]] w fun e w' => e = .returned (.agg #[.int .i64 (an + bn), .int .i64 (ad + bd)]) ∧ Below w.heap.size w w' := by
  go_enter Tryz.func33, Tryz.ntmps33
  go_wp2
  go_returns
  exact ⟨rfl, by go_grown⟩
end Go.Proofs.YtgonaamjjhhiiaaGreatDoor
