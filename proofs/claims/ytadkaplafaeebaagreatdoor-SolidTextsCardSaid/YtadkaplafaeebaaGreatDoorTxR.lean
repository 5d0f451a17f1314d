/-
  Texts of the reference: hex, digit, Write.
-/
import Derived.Test.YtadkaplafaeebaaGreatDoorTxM
import Derived.Test.YtadkaplafaeebaaGreatDoorPkW
set_option linter.unusedVariables false
set_option linter.unusedSimpArgs false
namespace Go.Proofs.YtadkaplafaeebaaGreatDoor
open Go Go.RowKit Go.Shelf

theorem hex_slice (d : Nat) (h : d < 16) (W : World) : (Instr.sliceAt 9 (.string ⟨#[48, 49, 50, 51, 52, 53, 54, 55, 56, 57, 97, 98, 99, 100, 101, 102]⟩) (some (.int .u64 (d : Int))) (some (.int .u64 ((d : Int) + 1))) none).run Tryz.prog W = .ok (.string ⟨#[dig d]⟩) W := by
  rcases (show d = 0 ∨ d = 1 ∨ d = 2 ∨ d = 3 ∨ d = 4 ∨ d = 5 ∨ d = 6 ∨ d = 7 ∨ d = 8 ∨ d = 9 ∨ d = 10 ∨ d = 11 ∨ d = 12 ∨ d = 13 ∨ d = 14 ∨ d = 15 by omega) with rfl | rfl | rfl | rfl | rfl | rfl | rfl | rfl | rfl | rfl | rfl | rfl | rfl | rfl | rfl | rfl <;> kernel_rfl
set_option maxRecDepth 100000 in
set_option maxHeartbeats 2000000 in
theorem hex_small (u : Nat) (h : u < 16) (w : World) : Calls Tryz.prog 136 #[.int .u64 u] w (RetB (.string ⟨#[dig u]⟩) w) := by
  have hs := hex_slice u h
  have hr : (u : Int).tmod 16 = u := by rw [Int.tmod_eq_emod_of_nonneg (by omega)]; omega
  have hd : decide ((u : Int) < 16) = true := decide_eq_true (by omega)
  go_enter Tryz.func136, Tryz.ntmps136
  go_wp2
  go_ret
  exact ⟨rfl, Below.refl _ _⟩
set_option maxRecDepth 100000 in
set_option maxHeartbeats 2000000 in
theorem hex_big (u : Nat) (h : 16 ≤ u) (hu : u < 18446744073709551616) (S : ByteArray) (hS : S.size ≤ 20) (w : World) (H : Hid (∀ W, Calls Tryz.prog 136 #[.int .u64 ((u / 16 : Nat) : Int)] W (RetB (.string S) W))) :
    Calls Tryz.prog 136 #[.int .u64 u] w (RetB (.string (S ++ ⟨#[dig (u % 16)]⟩)) w) := by
  obtain ⟨d, hd⟩ : ∃ d, d = u % 16 := ⟨_, rfl⟩
  have hd16 : d < 16 := by omega
  have hs := hex_slice d hd16
  obtain ⟨q, hq⟩ : ∃ q, q = u / 16 := ⟨_, rfl⟩
  rw [← hq] at H
  rw [← hd]
  have hr : (u : Int).tmod 16 = d := by rw [Int.tmod_eq_emod_of_nonneg (by omega)]; omega
  have hqt : (u : Int).tdiv 16 = q := by rw [Int.tdiv_eq_ediv_of_nonneg (by omega)]; omega
  have hlt : decide ((u : Int) < 16) = false := decide_eq_false (by omega)
  have hM : ¬ 9223372036854775807 < S.size + 1 := by omega
  have hN : S.size + 1 ≤ 9223372036854775807 := by omega
  have hq64 : q < 18446744073709551616 := by omega
  clear hd hq
  go_enter Tryz.func136, Tryz.ntmps136
  go_wp2_with fail
  refine (H.out _).mono ?_
  rintro e w1 ⟨rfl, hb1⟩
  go_wp2
  go_ret
  exact ⟨rfl, hb1⟩
theorem hex_ok : ∀ (m u : Nat), u < 16 ^ m → 0 < m → m ≤ 16 → ∀ w : World, Calls Tryz.prog 136 #[.int .u64 u] w (RetB (.string ⟨(hexL m u).toArray⟩) w)
  | 0, u, h, h0, _, w => by omega
  | m + 1, u, h, _, hm, w => by
    have h64 : u < 18446744073709551616 := by
      have h1 : 16 ^ (m + 1) ≤ 16 ^ 16 := Nat.pow_le_pow_right (by omega) hm
      have h2 : (16 : Nat) ^ 16 = 18446744073709551616 := by decide
      omega
    unfold hexL
    by_cases hu : 16 ≤ u
    · rw [if_pos hu]
      have hm0 : 0 < m := Nat.pos_of_ne_zero fun e => by subst e; simp at h; omega
      have hl := hexL_len m (u / 16)
      have := hex_big u hu h64 ⟨(hexL m (u / 16)).toArray⟩ (by show ((hexL m (u / 16)).toArray).size ≤ 20; simp; omega) w (Lib.hid fun W => hex_ok m (u / 16) (pow16 h) hm0 (by omega) W)
      rw [ByteArray.mk_append_mk] at this
      simpa using this
    · rw [if_neg hu]
      exact hex_small u (by omega) w
theorem hex16_ok (u : Nat) (h : u < 18446744073709551616) (w : World) : Calls Tryz.prog 136 #[.int .u64 u] w (RetB (.string ⟨(hexL 16 u).toArray⟩) w) := hex_ok 16 u (by simpa using h) (by omega) (by omega) w
set_option maxRecDepth 100000 in
set_option maxHeartbeats 2000000 in
theorem digit_ok (c : Nat) (hc : c < 256) (w : World) : Calls Tryz.prog 135 #[.int .u8 c] w fun e w' => (∃ v b, e = .returned (.tuple #[.int .u64 v, .bool b]) ∧ ((∃ d : Nat, digR c = some d ∧ v = (d : Int) ∧ b = true) ∨ (digR c = none ∧ b = false))) ∧ Below w.heap.size w w' := by
  by_cases h1 : 48 ≤ c
  · by_cases h2 : c ≤ 57
    · have hD : Hid (digR c = some (c - 48)) := Lib.hid (by unfold digR; rw [if_pos ⟨h1, h2⟩])
      have d1 : decide ((48 : Int) ≤ c) = true := decide_eq_true (by omega)
      have d2 : decide ((c : Int) ≤ 57) = true := decide_eq_true (by omega)
      go_enter Tryz.func135, Tryz.ntmps135
      go_wp2
      go_returns
      exact ⟨⟨_, _, rfl, .inl ⟨c - 48, hD.out, by omega, rfl⟩⟩, Below.refl _ _⟩
    · have d1 : decide ((48 : Int) ≤ c) = true := decide_eq_true (by omega)
      have d2 : decide ((c : Int) ≤ 57) = false := decide_eq_false (by omega)
      by_cases h3 : 97 ≤ c
      · have d3 : decide ((97 : Int) ≤ c) = true := decide_eq_true (by omega)
        by_cases h4 : c ≤ 102
        · have d4 : decide ((c : Int) ≤ 102) = true := decide_eq_true (by omega)
          have hD : Hid (digR c = some (c - 87)) := Lib.hid (by unfold digR; rw [if_neg (by omega), if_pos ⟨h3, h4⟩])
          go_enter Tryz.func135, Tryz.ntmps135
          go_wp2
          go_returns
          exact ⟨⟨_, _, rfl, .inl ⟨c - 87, hD.out, by omega, rfl⟩⟩, Below.refl _ _⟩
        · have d4 : decide ((c : Int) ≤ 102) = false := decide_eq_false (by omega)
          have hD : Hid (digR c = none) := Lib.hid (by unfold digR; rw [if_neg (by omega), if_neg (by omega)])
          go_enter Tryz.func135, Tryz.ntmps135
          go_wp2
          go_returns
          exact ⟨⟨_, _, rfl, .inr ⟨hD.out, rfl⟩⟩, Below.refl _ _⟩
      · have d3 : decide ((97 : Int) ≤ c) = false := decide_eq_false (by omega)
        have hD : Hid (digR c = none) := Lib.hid (by unfold digR; rw [if_neg (by omega), if_neg (by omega)])
        go_enter Tryz.func135, Tryz.ntmps135
        go_wp2
        go_returns
        exact ⟨⟨_, _, rfl, .inr ⟨hD.out, rfl⟩⟩, Below.refl _ _⟩
  · have d1 : decide ((48 : Int) ≤ c) = false := decide_eq_false (by omega)
    have d3 : decide ((97 : Int) ≤ c) = false := decide_eq_false (by omega)
    have hD : Hid (digR c = none) := Lib.hid (by unfold digR; rw [if_neg (by omega), if_neg (by omega)])
    go_enter Tryz.func135, Tryz.ntmps135
    go_wp2
    go_returns
    exact ⟨⟨_, _, rfl, .inr ⟨hD.out, rfl⟩⟩, Below.refl _ _⟩
/-- The last plane below k that has a cell. -/
def lastN (f : Sol) : Nat → Nat
  | 0 => 0
  | k + 1 => if f k = 0 then lastN f k else k
theorem top_last (f : Sol) : ∀ k, topP f (k + 1) = lastN f (k + 1) + 1
  | 0 => by
    unfold topP lastN
    rw [if_neg (by omega)]
    split <;> simp [lastN]
  | k + 1 => by
    rw [topP, lastN]
    by_cases h : f (k + 1) = 0
    · rw [if_pos ⟨by omega, h⟩, if_pos h, top_last f k]
    · rw [if_neg (fun x => h x.2), if_neg h]
theorem lastN_lt (f : Sol) : ∀ k, lastN f (k + 1) ≤ k
  | 0 => by unfold lastN; split <;> simp [lastN]
  | k + 1 => by
    unfold lastN
    split
    · have := lastN_lt f k; omega
    · omega
/-- What is written up to the plane k. -/
def wrL (f : Sol) (k : Nat) : List UInt8 := hexL 16 (f 0) ++ Lib.joinTail [46] ((List.range' 1 k).map fun i => hexL 16 (f i))
theorem wrL_succ (f : Sol) (k : Nat) : wrL f (k + 1) = wrL f k ++ 46 :: hexL 16 (f (k + 1)) := by
  unfold wrL
  rw [List.range'_concat, List.map_append]
  simp [Lib.joinTail, Nat.add_comm]
theorem wrL_len (f : Sol) : ∀ k, (wrL f k).length ≤ 16 + 17 * k
  | 0 => by have := hexL_len 16 (f 0); simp [wrL, Lib.joinTail]; omega
  | k + 1 => by
    have h1 := wrL_len f k
    have h2 := hexL_len 16 (f (k + 1))
    rw [wrL_succ]
    simp
    omega
theorem writeL_wr (f : Sol) : writeL f = wrL f (lastN f 8) := by
  rw [writeL_eq, top_last f 7]
  rfl
theorem writeL_len (f : Sol) : (writeL f).length ≤ 135 := by
  rw [writeL_wr]
  have h1 := wrL_len f (lastN f 8)
  have h2 : lastN f 8 ≤ 7 := lastN_lt f 7
  omega
set_option maxRecDepth 100000 in
set_option maxHeartbeats 2000000 in
theorem rwrite_ok (f : Sol) (hf : Fit f) (w : World) : Calls Tryz.prog 85 #[sol f] w (RetB (.string (writeF f)) w) := by
  have HX := Lib.hid (fun (k : Nat) (W : World) => hex16_ok (f k) (hf k) W)
  have bS0 : BoxS (w.alloc (.cells (solC f) 24)) w.heap.size f := BoxS.new w f
  have hB0 : Below w.heap.size w (w.alloc (.cells (solC f) 24)) := by repeat' (first | (with_reducible exact Below.refl _ _) | (with_reducible assumption) | (with_reducible refine Below.alloc ?_ ?_ _) | (with_reducible refine Below.drew ?_) | (with_reducible refine below_drewN ?_ _) | (with_reducible refine Below.setCell ?_ ?_ _) | go_size)
  go_enter Tryz.func85, Tryz.ntmps85
  go_wp2_with fail
  obtain ⟨W0, hW0⟩ : ∃ W0, W0 = w.alloc (.cells (solC f) 24) := ⟨_, rfl⟩
  rw [← hW0] at bS0 hB0 ⊢
  clear hW0
  go_loopw [3, 4] (fun l z wr => ∃ k n : Nat, k ≤ 8 ∧ n ≤ 8 ∧ z = .int .i64 k ∧ l = .int .i64 n ∧ Hid (n = lastN f k) ∧ wr = W0) (fun _ z _ => 8 - (intOf z).toNat)
  case atStart => exact ⟨0, 0, by omega, by omega, rfl, rfl, Lib.hid rfl, rfl⟩
  case round =>
    obtain ⟨k, n, hk, hn, rfl, rfl, HN, rfl⟩ := hrel
    by_cases h8 : k < 8
    · have d8 : decide ((k : Int) < 8) = true := decide_eq_true (by omega)
      have ck := bS0.cell (k := k) (by omega)
      by_cases h0 : f k = 0
      · have HL := Lib.hid (show n = lastN f (k + 1) by unfold lastN; rw [if_pos h0]; exact HN.out)
        rw [h0] at ck
        go_wp2
        exact ⟨⟨k + 1, n, by omega, hn, by go_num, rfl, HL, trivial⟩, by simp [intOf]; omega⟩
      · have HL := Lib.hid (show k = lastN f (k + 1) by unfold lastN; rw [if_neg h0])
        have hne : ((f k : Int) != 0) = true := by simpa using h0
        have hne2 : ((f k : Int) == 0) = false := by simpa using h0
        go_wp2
        exact ⟨⟨k + 1, k, by omega, by omega, by go_num, rfl, HL, trivial⟩, by simp [intOf]; omega⟩
    · have d8 : decide ((k : Int) < 8) = false := decide_eq_false (by omega)
      obtain rfl : k = 8 := by omega
      have c0 := bS0.cell (k := 0) (by omega)
      go_wp2_with fail
      refine (HX.out 0 _).mono ?_
      rintro e w1 ⟨rfl, hb1⟩
      have bS1 := bS0.below hb1 bS0.lt
      have hB1 : Below w.heap.size w w1 := hB0.trans (hb1.mono hB0.size)
      clear c0
      have HW := Lib.hid (show writeF f = ⟨(wrL f n).toArray⟩ by rw [writeF_eq, writeL_wr, HN.out])
      have n7 : n ≤ 7 := by rw [HN.out]; exact lastN_lt f 7
      go_wp2_with fail
      go_loopw [5, 6] (fun o z wr => ∃ k : Nat, k ≤ n ∧ z = .int .i64 ((k : Int) + 1) ∧ o = .string ⟨(wrL f k).toArray⟩ ∧ BoxS wr w.heap.size f ∧ Below w.heap.size w wr) (fun _ z _ => 9 - (intOf z).toNat)
      case atStart => exact ⟨0, by omega, rfl, by simp [wrL, Lib.joinTail], bS1, hB1⟩
      case round =>
        obtain ⟨k, hk, rfl, rfl, bS, hB⟩ := hrel
        by_cases hlt : k < n
        · have dk : decide ((k : Int) + 1 ≤ (n : Int)) = true := decide_eq_true (by omega)
          have ck := bS.cell (k := k + 1) (by omega)
          have hl := wrL_len f k
          have hl2 := hexL_len 16 (f (k + 1))
          have hM1 : ¬ 9223372036854775807 < (wrL f k).length + 1 := by omega
          have hN1 : (wrL f k).length + 1 ≤ 9223372036854775807 := by omega
          have hM2 : ¬ 9223372036854775807 < (wrL f k).length + 1 + (hexL 16 (f (k + 1))).length := by omega
          have hN2 : (wrL f k).length + 1 + (hexL 16 (f (k + 1))).length ≤ 9223372036854775807 := by omega
          have HS := Lib.hid (wrL_succ f k)
          go_wp2_with fail
          refine (HX.out (k + 1) _).mono ?_
          rintro e w2 ⟨rfl, hb2⟩
          go_wp2
          refine ⟨⟨k + 1, by omega, by go_num, ?_, bS.below hb2 bS.lt, hB.trans (hb2.mono hB.size)⟩, by simp [intOf]; omega⟩
          rw [HS.out]
          simp [ByteArray.mk_append_mk]
        · obtain rfl : k = n := by omega
          have dk : decide ((k : Int) + 1 ≤ (k : Int)) = false := decide_eq_false (by omega)
          go_wp2
          go_ret
          rw [HW.out]
          exact ⟨rfl, hB⟩
end Go.Proofs.YtadkaplafaeebaaGreatDoor
