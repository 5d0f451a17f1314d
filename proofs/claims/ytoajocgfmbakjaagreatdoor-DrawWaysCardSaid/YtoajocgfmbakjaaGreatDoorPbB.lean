/-
  Join, Meet and Less.
-/
import Derived.Test.YtoajocgfmbakjaaGreatDoorPbA
set_option linter.unusedVariables false
set_option linter.unusedSimpArgs false
namespace Go.Proofs.YtoajocgfmbakjaaGreatDoor
open Go Go.RowKit

def joinF (f g : Sol) : Sol := fun i => f i ||| g i
def meetF (f g : Sol) : Sol := fun i => f i &&& g i
def lessF (f g : Sol) : Sol := fun i => andN (f i) (g i)
def mix (k : Nat) (f g : Sol) : Sol := fun i => if i < k then f i else g i
theorem mix_zero (f g : Sol) : mix 0 f g = g := rfl
theorem mix_succ (k : Nat) (f g : Sol) : up8 (mix k f g) k (f k) = mix (k + 1) f g := by
  funext i
  unfold up8 mix
  by_cases h : i = k
  · subst h; simp
  · rw [if_neg h]
    by_cases h1 : i < k
    · rw [if_pos h1, if_pos (by omega)]
    · rw [if_neg h1, if_neg (by omega)]

set_option maxHeartbeats 1000000 in
theorem join_ok (f g : Sol) (w : World) (hf : Fit f) (hg : Fit g) :
    Calls Tryz.prog 84 #[sol f, sol g] w fun e w' => e = .returned (sol (joinF f g)) ∧ Below w.heap.size w w' := by
  go_enter Tryz.func84, Tryz.ntmps84
  go_wp2
  go_loopw [5, 6] (fun z c wr => ∃ k : Nat, k ≤ 8 ∧ c = .int .i64 k ∧ BoxD wr w.heap.size (mix k (joinF f g) f) ∧ BoxD wr (w.heap.size + 1) g ∧ BoxD wr (w.heap.size + 1 + 1) (fun _ => 0) ∧ wr.heap.size = w.heap.size + 3 ∧ Below w.heap.size w wr) (fun _ c _ => 8 - (intOf c).toNat)
  case atStart => exact ⟨0, by omega, rfl, ((BoxK.new _ w f).alloc _).alloc _, (BoxK.new' (by simp)).alloc _, BoxK.zero (by simp), by simp, by go_grown⟩
  case round =>
    obtain ⟨k, hk, rfl, hA, hB, hR, hs, hw⟩ := hrel
    by_cases hlt : k < 8
    · have cA := hA.cell hlt
      have cB := hB.cell hlt
      have fA := hA.free k
      have b1 : f k < 18446744073709551616 := hf k
      have b2 : g k < 18446744073709551616 := hg k
      have e1 : mix k (joinF f g) f k = f k := by unfold mix; rw [if_neg (by omega)]
      have e2 : bits .or .u64 (f k : Int) (g k : Int) = ((joinF f g k : Nat) : Int) := bits_or b1 b2
      rw [e1] at cA
      have E2 := Lib.hid e2
      clear e1 e2
      go_wp2
      go_region
      rw [E2.out]
      have hA' : BoxD (wr.setCell ⟨w.heap.size, k, none⟩ (.int .u64 ((joinF f g k : Nat) : Int))).drew w.heap.size (mix (k + 1) (joinF f g) f) := by rw [← mix_succ]; exact hA.set hlt _
      have hB' : BoxD (wr.setCell ⟨w.heap.size, k, none⟩ (.int .u64 ((joinF f g k : Nat) : Int))).drew (w.heap.size + 1) g := hB.other (by omega) _
      have hR' : BoxD (wr.setCell ⟨w.heap.size, k, none⟩ (.int .u64 ((joinF f g k : Nat) : Int))).drew (w.heap.size + 1 + 1) (fun _ => 0) := hR.other (by omega) _
      have hw' : Below w.heap.size w (wr.setCell ⟨w.heap.size, k, none⟩ (.int .u64 ((joinF f g k : Nat) : Int))).drew := (hw.setCell (by simp) _).drew
      go_wp2
      go_roundw
      case rel => exact ⟨k + 1, by omega, by go_num, hA', hB', hR', by simp [hs], hw'⟩
      case measure => simp [intOf]; omega
    · obtain rfl : k = 8 := by omega
      have c0 := (hA).cell (k := 0) (by omega); have c1 := (hA).cell (k := 1) (by omega); have c2 := (hA).cell (k := 2) (by omega); have c3 := (hA).cell (k := 3) (by omega); have c4 := (hA).cell (k := 4) (by omega); have c5 := (hA).cell (k := 5) (by omega); have c6 := (hA).cell (k := 6) (by omega); have c7 := (hA).cell (k := 7) (by omega)
      have r0 := (hR).cell (k := 0) (by omega); have r1 := (hR).cell (k := 1) (by omega); have r2 := (hR).cell (k := 2) (by omega); have r3 := (hR).cell (k := 3) (by omega); have r4 := (hR).cell (k := 4) (by omega); have r5 := (hR).cell (k := 5) (by omega); have r6 := (hR).cell (k := 6) (by omega); have r7 := (hR).cell (k := 7) (by omega)
      have q0 := (hR).free 0; have q1 := (hR).free 1; have q2 := (hR).free 2; have q3 := (hR).free 3; have q4 := (hR).free 4; have q5 := (hR).free 5; have q6 := (hR).free 6; have q7 := (hR).free 7
      go_wp2
      refine bodyPost_ret (res_d ((hR.put (mix 8 (joinF f g) f)).congr fun i hi => ?_) Tryz.results84 rfl) rfl ⟨rfl, ?_⟩
      · unfold mix; rw [if_pos hi]
      · repeat' (first | (with_reducible exact Below.refl _ _) | (with_reducible assumption) | (with_reducible refine Below.alloc ?_ ?_ _) | (with_reducible refine Below.drew ?_) | (with_reducible refine below_drewN ?_ _) | (with_reducible refine Below.setCell ?_ ?_ _) | go_size)
set_option maxHeartbeats 1000000 in
theorem meet_ok (f g : Sol) (w : World) (hf : Fit f) (hg : Fit g) :
    Calls Tryz.prog 100 #[sol f, sol g] w fun e w' => e = .returned (sol (meetF f g)) ∧ Below w.heap.size w w' := by
  go_enter Tryz.func100, Tryz.ntmps100
  go_wp2
  go_loopw [5, 6] (fun z c wr => ∃ k : Nat, k ≤ 8 ∧ c = .int .i64 k ∧ BoxD wr w.heap.size (mix k (meetF f g) f) ∧ BoxD wr (w.heap.size + 1) g ∧ BoxD wr (w.heap.size + 1 + 1) (fun _ => 0) ∧ wr.heap.size = w.heap.size + 3 ∧ Below w.heap.size w wr) (fun _ c _ => 8 - (intOf c).toNat)
  case atStart => exact ⟨0, by omega, rfl, ((BoxK.new _ w f).alloc _).alloc _, (BoxK.new' (by simp)).alloc _, BoxK.zero (by simp), by simp, by go_grown⟩
  case round =>
    obtain ⟨k, hk, rfl, hA, hB, hR, hs, hw⟩ := hrel
    by_cases hlt : k < 8
    · have cA := hA.cell hlt
      have cB := hB.cell hlt
      have fA := hA.free k
      have b1 : f k < 18446744073709551616 := hf k
      have b2 : g k < 18446744073709551616 := hg k
      have e1 : mix k (meetF f g) f k = f k := by unfold mix; rw [if_neg (by omega)]
      have e2 : bits .and .u64 (f k : Int) (g k : Int) = ((meetF f g k : Nat) : Int) := bits_and b1 b2
      rw [e1] at cA
      have E2 := Lib.hid e2
      clear e1 e2
      go_wp2
      go_region
      rw [E2.out]
      have hA' : BoxD (wr.setCell ⟨w.heap.size, k, none⟩ (.int .u64 ((meetF f g k : Nat) : Int))).drew w.heap.size (mix (k + 1) (meetF f g) f) := by rw [← mix_succ]; exact hA.set hlt _
      have hB' : BoxD (wr.setCell ⟨w.heap.size, k, none⟩ (.int .u64 ((meetF f g k : Nat) : Int))).drew (w.heap.size + 1) g := hB.other (by omega) _
      have hR' : BoxD (wr.setCell ⟨w.heap.size, k, none⟩ (.int .u64 ((meetF f g k : Nat) : Int))).drew (w.heap.size + 1 + 1) (fun _ => 0) := hR.other (by omega) _
      have hw' : Below w.heap.size w (wr.setCell ⟨w.heap.size, k, none⟩ (.int .u64 ((meetF f g k : Nat) : Int))).drew := (hw.setCell (by simp) _).drew
      go_wp2
      go_roundw
      case rel => exact ⟨k + 1, by omega, by go_num, hA', hB', hR', by simp [hs], hw'⟩
      case measure => simp [intOf]; omega
    · obtain rfl : k = 8 := by omega
      have c0 := (hA).cell (k := 0) (by omega); have c1 := (hA).cell (k := 1) (by omega); have c2 := (hA).cell (k := 2) (by omega); have c3 := (hA).cell (k := 3) (by omega); have c4 := (hA).cell (k := 4) (by omega); have c5 := (hA).cell (k := 5) (by omega); have c6 := (hA).cell (k := 6) (by omega); have c7 := (hA).cell (k := 7) (by omega)
      have r0 := (hR).cell (k := 0) (by omega); have r1 := (hR).cell (k := 1) (by omega); have r2 := (hR).cell (k := 2) (by omega); have r3 := (hR).cell (k := 3) (by omega); have r4 := (hR).cell (k := 4) (by omega); have r5 := (hR).cell (k := 5) (by omega); have r6 := (hR).cell (k := 6) (by omega); have r7 := (hR).cell (k := 7) (by omega)
      have q0 := (hR).free 0; have q1 := (hR).free 1; have q2 := (hR).free 2; have q3 := (hR).free 3; have q4 := (hR).free 4; have q5 := (hR).free 5; have q6 := (hR).free 6; have q7 := (hR).free 7
      go_wp2
      refine bodyPost_ret (res_d ((hR.put (mix 8 (meetF f g) f)).congr fun i hi => ?_) Tryz.results100 rfl) rfl ⟨rfl, ?_⟩
      · unfold mix; rw [if_pos hi]
      · repeat' (first | (with_reducible exact Below.refl _ _) | (with_reducible assumption) | (with_reducible refine Below.alloc ?_ ?_ _) | (with_reducible refine Below.drew ?_) | (with_reducible refine below_drewN ?_ _) | (with_reducible refine Below.setCell ?_ ?_ _) | go_size)
set_option maxHeartbeats 1000000 in
theorem less_ok (f g : Sol) (w : World) (hf : Fit f) (hg : Fit g) :
    Calls Tryz.prog 87 #[sol f, sol g] w fun e w' => e = .returned (sol (lessF f g)) ∧ Below w.heap.size w w' := by
  go_enter Tryz.func87, Tryz.ntmps87
  go_wp2
  go_loopw [5, 6] (fun z c wr => ∃ k : Nat, k ≤ 8 ∧ c = .int .i64 k ∧ BoxD wr w.heap.size (mix k (lessF f g) f) ∧ BoxD wr (w.heap.size + 1) g ∧ BoxD wr (w.heap.size + 1 + 1) (fun _ => 0) ∧ wr.heap.size = w.heap.size + 3 ∧ Below w.heap.size w wr) (fun _ c _ => 8 - (intOf c).toNat)
  case atStart => exact ⟨0, by omega, rfl, ((BoxK.new _ w f).alloc _).alloc _, (BoxK.new' (by simp)).alloc _, BoxK.zero (by simp), by simp, by go_grown⟩
  case round =>
    obtain ⟨k, hk, rfl, hA, hB, hR, hs, hw⟩ := hrel
    by_cases hlt : k < 8
    · have cA := hA.cell hlt
      have cB := hB.cell hlt
      have fA := hA.free k
      have b1 : f k < 18446744073709551616 := hf k
      have b2 : g k < 18446744073709551616 := hg k
      have e1 : mix k (lessF f g) f k = f k := by unfold mix; rw [if_neg (by omega)]
      have e2 : bits .andNot .u64 (f k : Int) (g k : Int) = ((lessF f g k : Nat) : Int) := bits_andNot b1 b2
      rw [e1] at cA
      have E2 := Lib.hid e2
      clear e1 e2
      go_wp2
      go_region
      rw [E2.out]
      have hA' : BoxD (wr.setCell ⟨w.heap.size, k, none⟩ (.int .u64 ((lessF f g k : Nat) : Int))).drew w.heap.size (mix (k + 1) (lessF f g) f) := by rw [← mix_succ]; exact hA.set hlt _
      have hB' : BoxD (wr.setCell ⟨w.heap.size, k, none⟩ (.int .u64 ((lessF f g k : Nat) : Int))).drew (w.heap.size + 1) g := hB.other (by omega) _
      have hR' : BoxD (wr.setCell ⟨w.heap.size, k, none⟩ (.int .u64 ((lessF f g k : Nat) : Int))).drew (w.heap.size + 1 + 1) (fun _ => 0) := hR.other (by omega) _
      have hw' : Below w.heap.size w (wr.setCell ⟨w.heap.size, k, none⟩ (.int .u64 ((lessF f g k : Nat) : Int))).drew := (hw.setCell (by simp) _).drew
      go_wp2
      go_roundw
      case rel => exact ⟨k + 1, by omega, by go_num, hA', hB', hR', by simp [hs], hw'⟩
      case measure => simp [intOf]; omega
    · obtain rfl : k = 8 := by omega
      have c0 := (hA).cell (k := 0) (by omega); have c1 := (hA).cell (k := 1) (by omega); have c2 := (hA).cell (k := 2) (by omega); have c3 := (hA).cell (k := 3) (by omega); have c4 := (hA).cell (k := 4) (by omega); have c5 := (hA).cell (k := 5) (by omega); have c6 := (hA).cell (k := 6) (by omega); have c7 := (hA).cell (k := 7) (by omega)
      have r0 := (hR).cell (k := 0) (by omega); have r1 := (hR).cell (k := 1) (by omega); have r2 := (hR).cell (k := 2) (by omega); have r3 := (hR).cell (k := 3) (by omega); have r4 := (hR).cell (k := 4) (by omega); have r5 := (hR).cell (k := 5) (by omega); have r6 := (hR).cell (k := 6) (by omega); have r7 := (hR).cell (k := 7) (by omega)
      have q0 := (hR).free 0; have q1 := (hR).free 1; have q2 := (hR).free 2; have q3 := (hR).free 3; have q4 := (hR).free 4; have q5 := (hR).free 5; have q6 := (hR).free 6; have q7 := (hR).free 7
      go_wp2
      refine bodyPost_ret (res_d ((hR.put (mix 8 (lessF f g) f)).congr fun i hi => ?_) Tryz.results87 rfl) rfl ⟨rfl, ?_⟩
      · unfold mix; rw [if_pos hi]
      · repeat' (first | (with_reducible exact Below.refl _ _) | (with_reducible assumption) | (with_reducible refine Below.alloc ?_ ?_ _) | (with_reducible refine Below.drew ?_) | (with_reducible refine below_drewN ?_ _) | (with_reducible refine Below.setCell ?_ ?_ _) | go_size)
end Go.Proofs.YtoajocgfmbakjaaGreatDoor
