/-
  Count.
-/
import Derived.Test.YtadkaplafaeebaaGreatDoorOnesQ
import Derived.Test.YtadkaplafaeebaaGreatDoorPkXBQ
import Derived.Test.YtadkaplafaeebaaGreatDoorPkBQ
set_option linter.unusedVariables false
set_option linter.unusedSimpArgs false
namespace Go.Proofs.YtadkaplafaeebaaGreatDoor
open Go Go.RowKit

theorem num_rest (f : Sol) {k : Nat} (h : k < 8) : (restL f k).length = (bitsOf 64 (f k)).length + (restL f (k + 1)).length := by
  rw [restL_succ f h, List.length_append]
  unfold planeL
  rw [List.length_map]
theorem bits_le (x : Nat) : (bitsOf 64 x).length ≤ 64 := by
  unfold bitsOf
  exact Nat.le_trans (List.length_filter_le _ _) (by simp)
theorem num_le512 (f : Sol) : numF f ≤ 512 := cellsL_len f
set_option maxRecDepth 100000 in
set_option maxHeartbeats 2000000 in
theorem count_ok (f : Sol) (w : World) (hf : Fit f) :
    Calls Tryz.prog 28 #[sol f] w fun e w' => e = .returned (.int .i64 (numF f : Nat)) ∧ Below w.heap.size w w' := by
  have HF := Lib.hid hf
  have HN := num_le512 f
  clear hf
  go_enter Tryz.func28, Tryz.ntmps28
  go_wp2_with fail
  go_loopw [3, 7] (fun c z wr => ∃ k n : Nat, k ≤ 8 ∧ c = .int .i64 n ∧ z = .int .i64 k ∧ n + (restL f k).length = numF f ∧ Below w.heap.size w wr) (fun _ z _ => 8 - (intOf z).toNat)
  case atStart => exact ⟨0, 0, by omega, rfl, rfl, by unfold numF cellsL; omega, by repeat' (first | (with_reducible exact Below.refl _ _) | (with_reducible assumption) | (with_reducible refine Below.alloc ?_ ?_ _) | (with_reducible refine Below.drew ?_) | (with_reducible refine below_drewN ?_ _) | (with_reducible refine Below.setCell ?_ ?_ _) | go_size)⟩
  case round =>
    obtain ⟨k, n, hk, rfl, rfl, hn, hB⟩ := hrel
    by_cases hlt : k < 8
    · have hd : decide ((k : Int) < 8) = true := decide_eq_true (by omega)
      have hr := num_rest f hlt
      obtain ⟨x, hx⟩ : ∃ x, x = f k := ⟨_, rfl⟩
      have hx2 : x < 18446744073709551616 := by rw [hx]; exact HF.out k
      rw [← hx] at hr
      have hle := bits_le x
      have hix := run_index_sol f k hlt
      rw [← hx] at hix
      obtain ⟨b, hb⟩ : ∃ b, b = (bitsOf 64 x).length := ⟨_, rfl⟩
      have HO := Lib.hid (ones_ok x · hx2)
      rw [← hb] at HO hr hle
      have hwr : IntKind.i64.wrap ((n : Int) + (b : Int)) = ((n + b : Nat) : Int) := by rw [IntWalk.i64_in _ (by omega)]; omega
      clear hb hx
      go_wp2_with fail
      refine (HO.out _).mono ?_
      rintro e w2 ⟨rfl, hb2⟩
      have hB2 : Below w.heap.size w w2 := up hb2 hB
      go_wp2_with fail
      case roundEnd => exact ⟨⟨k + 1, n + b, by omega, by simp, by simp, by omega, hB2⟩, by simp [intOf]; omega⟩
    · obtain rfl : k = 8 := by omega
      have hd : decide (((8 : Nat) : Int) < 8) = false := by decide
      rw [restL_end] at hn
      have hn2 : n = numF f := by simpa using hn
      subst hn2
      go_wp2_with fail
      go_ret
      exact ⟨rfl, hB⟩
end Go.Proofs.YtadkaplafaeebaaGreatDoor
