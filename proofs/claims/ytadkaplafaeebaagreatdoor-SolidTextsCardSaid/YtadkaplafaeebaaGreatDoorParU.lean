/-
  ParseUint at base 16, at every text.
-/
import Derived.Test.YtadkaplafaeebaaGreatDoorTxM
import Derived.Test.YtadkaplafaeebaaGreatDoorPkS
set_option linter.unusedVariables false
set_option linter.unusedSimpArgs false
namespace Go.Proofs.YtadkaplafaeebaaGreatDoor
open Go Go.RowKit

/-- The tuple that the inner ParseUint returns. -/
def parV : Except Nat Nat → Value
  | .ok u => .tuple #[.int .u64 u, .nilIface]
  | .error 1 => .tuple #[.int .u64 18446744073709551615, .iface 177 (.int .i64 1)]
  | .error _ => .tuple #[.int .u64 0, .iface 177 (.int .i64 2)]
theorem or_low {c : Nat} (h : c < 256) : bits .or .u8 (c : Int) 32 = ((c ||| 32 : Nat) : Int) := by
  have : ∀ c : Fin 256, bits .or .u8 ((c.val : Nat) : Int) 32 = ((c.val ||| 32 : Nat) : Int) := by decide +kernel
  exact this ⟨c, h⟩
theorem or_lt {c : Nat} (h : c < 256) : c ||| 32 < 256 := Nat.or_lt_two_pow (n := 8) h (by decide)
set_option maxRecDepth 100000 in
set_option maxHeartbeats 1000000 in
theorem lower_ok (c : Nat) (h : c < 256) (w : World) : Calls Tryz.prog 194 #[.int .u8 c] w fun e w' => e = .returned (.int .u8 ((c ||| 32 : Nat) : Int)) ∧ w' = w := by
  have hb := or_low h
  have hl := or_lt h
  go_enter Tryz.func194, Tryz.ntmps194
  go_wp2
  go_ret
  exact ⟨rfl, rfl⟩
set_option maxRecDepth 100000 in
set_option maxHeartbeats 8000000 in
theorem parI_ok (s : ByteArray) (hlim : s.size ≤ 1000000) (w : World) : Calls Tryz.prog 173 #[.string s, .int .i64 16, .int .i64 64] w fun e w' => e = .returned (parV (parT s.data.toList)) ∧ Below w.heap.size w w' := by
  by_cases hne : s.size = 0
  · have hs : s = ⟨#[]⟩ := by
      cases s with
      | mk d => congr; exact Array.eq_empty_of_size_eq_zero hne
    subst hs
    have hP : parV (parT (ByteArray.mk #[]).data.toList) = .tuple #[.int .u64 0, .iface 177 (.int .i64 2)] := rfl
    rw [hP]
    go_enter Tryz.func173, Tryz.ntmps173
    go_wp2
    go_returns
    exact ⟨rfl, Below.refl _ _⟩
  have hemp : s.toList.isEmpty = false := by
    rw [← decide_eq_emptyBytes]
    exact decide_eq_false (fun h => hne (by rw [h]; rfl))
  have hcv := Lib.run_convert_string_bytes (P := Tryz.prog) w 9 132 5 s (u := .string) Tryz.underlying9 Tryz.underlying132 Tryz.underlying5
  have hB : ∀ j, j < s.size → (Lib.bytesWorld w 5 s).cell? ⟨w.heap.size, j, none⟩ = some (.int .u8 (s.data.toList.getD j 0).toNat) := fun j hj => Lib.bytesWorld_cell w 5 s j hj
  have hBel : Below w.heap.size w (Lib.bytesWorld w 5 s) := ⟨rfl, rfl, rfl, by rw [Lib.bytesWorld_size]; omega, fun k hk => Lib.bytesWorld_at_old w _ _ k hk⟩
  obtain ⟨W1, hW1⟩ : ∃ W1, W1 = Lib.bytesWorld w 5 s := ⟨_, rfl⟩
  rw [← hW1] at hcv hB hBel
  clear hW1
  obtain ⟨bs, hL⟩ : ∃ bs, bs = s.data.toList := ⟨_, rfl⟩
  have hLn : bs.length = s.size := by rw [hL]; simp
  have hT : parT bs = parU 0 bs := by
    unfold parT
    rw [if_neg (fun e => hne (by rw [← hLn, e]; rfl))]
  rw [← hL] at hB ⊢
  rw [hT]
  clear hL hT
  have hmv : IntKind.u64.wrap (IntKind.u64.wrap 18446744073709551616 - 1) = 18446744073709551615 := by
    rw [IntKind.wrap_u64, IntKind.wrap_u64]
    decide
  go_enter Tryz.func173, Tryz.ntmps173
  go_wp2
  go_loopw [12, 13, 101] (fun vu vn vi wr => ∃ (k acc : Nat) (a : Int), vu = .bool false ∧ vn = .int .u64 a ∧ vi = .int .i64 k ∧ k ≤ s.size ∧ Hid (a = (acc : Int) ∧ acc < 18446744073709551616 ∧ parU 0 bs = parU acc (bs.drop k)) ∧ wr = W1)
    (fun _ _ vi _ => s.size - (intOf vi).toNat)
  case atStart => exact ⟨0, 0, 0, rfl, rfl, rfl, by omega, Lib.hid ⟨rfl, by omega, rfl⟩, rfl⟩
  case round =>
    obtain ⟨k, acc, a, rfl, rfl, rfl, hk, hh, rfl⟩ := hrel
    obtain ⟨ha, hacc, hdec⟩ := hh.out
    clear hh
    have a0 : 0 ≤ a := by omega
    have a1 : a < 18446744073709551616 := by omega
    by_cases hkn : k < s.size
    · have hc := hB k hkn
      have hdrop : bs.drop k = bs[k]'(by omega) :: bs.drop (k + 1) := List.drop_eq_getElem_cons (by omega)
      have hget : bs.getD k 0 = bs[k]'(by omega) := by simp [List.getD, List.getElem?_eq_getElem (show k < bs.length by omega)]
      rw [hdrop] at hdec
      rw [hget] at hc
      generalize bs[k]'(by omega) = c at hc hdec
      obtain ⟨n, hn⟩ : ∃ n, n = c.toNat := ⟨_, rfl⟩
      have hc256 : n < 256 := hn ▸ c.toNat_lt
      rw [← hn] at hc
      have hdig : parU acc (c :: bs.drop (k + 1)) = match digP n with
        | none => .error 2
        | some d => if 1152921504606846976 ≤ acc then .error 1 else parU (16 * acc + d) (bs.drop (k + 1)) := by rw [hn]; rfl
      rw [hdig] at hdec
      clear hB hdrop hget hdig hn
      have HL := Lib.hid (lower_ok n hc256)
      have ol := or_lt hc256
      have HU : Hid (∀ W : World, Calls Tryz.prog 194 #[.int .u8 95] W fun e w' => e = .returned (.int .u8 127) ∧ w' = W) := Lib.hid fun W => lower_ok 95 (by omega) W
      by_cases h09 : 48 ≤ n ∧ n ≤ 57
      · have hD : digP n = some (n - 48) := by unfold digP; rw [if_pos h09]
        rw [hD] at hdec
        simp only at hdec
        obtain ⟨hd0, hd1⟩ := h09
        by_cases hcut : 1152921504606846976 ≤ acc
        · rw [if_pos hcut] at hdec
          have icut : 1152921504606846976 ≤ a := by omega
          have HD := Lib.hid hdec
          clear hcut hacc hD ha hdec
          go_wp2
          rw [HD.out]
          go_returns
          exact ⟨rfl, hBel⟩
        · rw [if_neg hcut] at hdec
          have icut : a < 1152921504606846976 := by omega
          have HN : Hid (a * 16 + ((n : Int) - 48) = ((16 * acc + (n - 48) : Nat) : Int) ∧ 16 * acc + (n - 48) < 18446744073709551616 ∧ parU 0 bs = parU (16 * acc + (n - 48)) (bs.drop (k + 1))) := Lib.hid ⟨by omega, by omega, hdec⟩
          clear hcut hacc hD hdec ha
          go_wp2
          refine ⟨⟨k + 1, 16 * acc + (n - 48), a * 16 + ((n : Int) - 48), rfl, (by first | rfl | (congr 1; omega)), (by first | rfl | (congr 1; omega)), by omega, HN, trivial⟩, by simp [intOf]; omega⟩
      · by_cases hal : 97 ≤ n ||| 32 ∧ n ||| 32 ≤ 102
        · have hD : digP n = some ((n ||| 32) - 87) := by unfold digP; rw [if_neg h09, if_pos hal]
          rw [hD] at hdec
          simp only at hdec
          obtain ⟨m, hm⟩ : ∃ m, m = n ||| 32 := ⟨_, rfl⟩
          have h95 : ((n : Int) == 95) = false := by
            have : n ≠ 95 := fun e => by rw [e] at hal; revert hal; decide
            simpa using (show ¬ (n : Int) = 95 by omega)
          have h95' : ¬ (n : Int) = 95 := by simpa using h95
          rw [← hm] at HL hdec hal ol
          clear hm hD HU
          obtain ⟨hl0, hl1⟩ := hal
          have hge : ¬ (48 ≤ n ∧ n ≤ 57) := h09
          by_cases hcut : 1152921504606846976 ≤ acc
          · rw [if_pos hcut] at hdec
            have icut : 1152921504606846976 ≤ a := by omega
            have HD := Lib.hid hdec
            clear hcut hacc ha hdec
            go_wp2_with (refine (HL.out _).mono ?_; rintro e w' ⟨rfl, rfl⟩)
            all_goals first | (exfalso; omega) | skip
            all_goals (rw [HD.out]; go_returns; exact ⟨rfl, hBel⟩)
          · rw [if_neg hcut] at hdec
            have icut : a < 1152921504606846976 := by omega
            have HN : Hid (a * 16 + ((m : Int) - 97 + 10) = ((16 * acc + (m - 87) : Nat) : Int) ∧ 16 * acc + (m - 87) < 18446744073709551616 ∧ parU 0 bs = parU (16 * acc + (m - 87)) (bs.drop (k + 1))) := Lib.hid ⟨by omega, by omega, hdec⟩
            clear hcut hacc hdec ha
            go_wp2_with (refine (HL.out _).mono ?_; rintro e w' ⟨rfl, rfl⟩)
            all_goals first | (exfalso; omega) | skip
            all_goals refine ⟨⟨k + 1, 16 * acc + (m - 87), a * 16 + ((m : Int) - 97 + 10), rfl, (by first | rfl | (congr 1; omega)), (by first | rfl | (congr 1; omega)), by omega, HN, trivial⟩, by simp [intOf]; omega⟩
        · have hD : digP n = none := by unfold digP; rw [if_neg h09, if_neg hal]
          rw [hD] at hdec
          simp only at hdec
          have HD := Lib.hid hdec
          by_cases h95 : n = 95
          · subst h95
            clear hD hdec hacc ha HL hal h09 ol
            go_wp2_with (refine (HU.out _).mono ?_; rintro e w' ⟨rfl, rfl⟩)
            all_goals (rw [HD.out]; go_returns; exact ⟨rfl, hBel⟩)
          · have h95a : ((n : Int) == 95) = false := by simpa using (show ¬ (n : Int) = 95 by omega)
            have h95' : ¬ (n : Int) = 95 := by omega
            obtain ⟨m, hm⟩ : ∃ m, m = n ||| 32 := ⟨_, rfl⟩
            rw [← hm] at HL hal ol
            clear hm hD hdec hacc ha HU
            go_wp2_with (refine (HL.out _).mono ?_; rintro e w' ⟨rfl, rfl⟩)
            all_goals first | (exfalso; omega) | skip
            all_goals (rw [HD.out]; go_returns; exact ⟨rfl, hBel⟩)
    · have hkk : k = s.size := by omega
      subst hkk
      have hF : parU acc (bs.drop s.size) = .ok acc := by rw [List.drop_eq_nil_of_le (by omega)]; rfl
      rw [hF] at hdec
      subst ha
      have HD := Lib.hid hdec
      clear hacc hF a0 a1 hdec
      go_wp2
      rw [HD.out]
      go_returns
      exact ⟨rfl, hBel⟩
end Go.Proofs.YtadkaplafaeebaaGreatDoor
