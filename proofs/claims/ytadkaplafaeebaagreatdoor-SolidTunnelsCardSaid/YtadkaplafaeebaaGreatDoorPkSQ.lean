/-
  A number's text at base 16.
-/
import Derived.Test.YtadkaplafaeebaaGreatDoorPkGQ
import Derived.Test.YtadkaplafaeebaaGreatDoorPkBQ
import Derived.Laws.IdiomCopy
import Derived.Test.YtadkaplafaeebaaGreatDoorPkMQ
import Derived.LoopN
import Derived.Lib.ConvBytes
import Derived.Test.YtadkaplafaeebaaGreatDoorShelf
import Derived.LoopNIn
import Derived.Test.YtadkaplafaeebaaGreatDoorPkZQ
import Derived.RecoverIn
set_option linter.unusedVariables false
set_option linter.unusedSimpArgs false
namespace Go.Proofs.YtadkaplafaeebaaGreatDoor
open Go Go.RowKit Go.Shelf

/-- The digit of a number below 16. -/
def dig (d : Nat) : UInt8 := if d < 10 then UInt8.ofNat (48 + d) else UInt8.ofNat (87 + d)
/-- The digits of a number, from the last place that is told on; fuel: how many may be. -/
def hexL : Nat → Nat → List UInt8
  | 0, _ => []
  | m + 1, u => if 16 ≤ u then hexL m (u / 16) ++ [dig (u % 16)] else [dig u]
theorem hexL_len : ∀ m u, (hexL m u).length ≤ m
  | 0, _ => by simp [hexL]
  | m + 1, u => by
    unfold hexL
    split
    · have := hexL_len m (u / 16)
      simp; omega
    · simp
set_option maxRecDepth 100000 in
set_option maxHeartbeats 1000000 in
theorem pow2_ok (w : World) : Calls Tryz.prog 188 #[.int .i64 16] w fun e w' => e = .returned (.bool true) ∧ w = w' := by
  go_enter Tryz.func188, Tryz.ntmps188
  go_wp2
  go_ret
  exact ⟨rfl, rfl⟩
set_option maxRecDepth 100000 in
set_option maxHeartbeats 1000000 in
theorem tzn_ok (w : World) (hT : Tab64 w) : Calls Tryz.prog 189 #[.int .u64 16] w fun e w' => e = .returned (.int .i64 4) ∧ w = w' := by
  have h := Lib.hid (tz_ok 16 w (by decide) (by decide) hT)
  go_enter Tryz.func189, Tryz.ntmps189
  go_wp2_with (refine h.out.mono ?_; rintro e w' ⟨rfl, rfl⟩)
  go_ret
  exact ⟨by rw [show low 16 = 4 from by decide +kernel]; rfl, rfl⟩
/-- The bytes at an array's end. -/
def ArrB (W : World) (B : Nat) (l : List UInt8) : Prop := ∃ cur, W.heap[B]? = some (.cells cur 173 (0, 0)) ∧ cur.size = 65 ∧ l.length ≤ 65 ∧ cur.toList.drop (65 - l.length) = l.map fun b => .int .u8 (b.toNat : Int)
theorem ArrB.push {W : World} {B : Nat} {l : List UInt8} (h : ArrB W B l) (hl : l.length < 65) (b : UInt8) {i : Nat} (hi : i = 64 - l.length) : ArrB (W.setCell ⟨B, i, none⟩ (.int .u8 (b.toNat : Int))) B (b :: l) := by
  obtain ⟨cur, h1, h2, h3, h4⟩ := h
  subst hi
  refine ⟨_, blk_set h1 _, by simpa using h2, by simp; omega, ?_⟩
  rw [List.length_cons, show 65 - (l.length + 1) = 64 - l.length by omega, Array.toList_setIfInBounds]
  have hlt : 64 - l.length < (cur.toList.set (64 - l.length) (.int .u8 (b.toNat : Int))).length := by simp; omega
  rw [List.drop_eq_getElem_cons hlt, List.getElem_set_self, List.drop_set_of_lt (by omega), show 64 - l.length + 1 = 65 - l.length by omega, h4]
  rfl
theorem ArrB.old {W : World} {B : Nat} {l : List UInt8} (h : ArrB W B l) {i : Nat} (hi : i < 65) : (∃ v, W.cell? ⟨B, i, none⟩ = some v) ∧ W.frozen? ⟨B, i, none⟩ = false := by
  obtain ⟨cur, h1, h2, h3, h4⟩ := h
  exact ⟨⟨cur[i], by rw [blk_cell h1]; exact Array.getElem?_eq_getElem (by omega)⟩, blk_free h1⟩
theorem ArrB.conv {W : World} {B : Nat} {l : List UInt8} (h : ArrB W B l) (c : Nat) {i : Nat} (hi : i = 65 - l.length) : (convert 132 9 (.slice (some ⟨B, i, none⟩) l.length c)).run Tryz.prog W = .ok (.string ⟨l.toArray⟩) W := by
  obtain ⟨cur, h1, h2, h3, h4⟩ := h
  subst hi
  refine run_convert_bytes_back W _ _ _ ⟨B, 65 - l.length, none⟩ c l Tryz.underlying132 Tryz.underlying5 Tryz.underlying9 ?_
  intro j hj
  rw [show (⟨B, 65 - l.length, none⟩ : Addr).add j = ⟨B, 65 - l.length + j, none⟩ by simp [Addr.add]]
  rw [blk_cell h1, ← Array.getElem?_toList, ← List.getElem?_drop, h4, List.getElem?_map, List.getElem?_eq_getElem hj]
  rfl
theorem dig_index (d : Nat) (h : d < 16) (W : World) : (Instr.index 9 (.string ⟨#[48, 49, 50, 51, 52, 53, 54, 55, 56, 57, 97, 98, 99, 100, 101, 102, 103, 104, 105, 106, 107, 108, 109, 110, 111, 112, 113, 114, 115, 116, 117, 118, 119, 120, 121, 122]⟩) (.int .u64 (d : Int))).run Tryz.prog W = .ok (.int .u8 ((dig d).toNat : Int)) W := by
  rcases (show d = 0 ∨ d = 1 ∨ d = 2 ∨ d = 3 ∨ d = 4 ∨ d = 5 ∨ d = 6 ∨ d = 7 ∨ d = 8 ∨ d = 9 ∨ d = 10 ∨ d = 11 ∨ d = 12 ∨ d = 13 ∨ d = 14 ∨ d = 15 by omega) with rfl | rfl | rfl | rfl | rfl | rfl | rfl | rfl | rfl | rfl | rfl | rfl | rfl | rfl | rfl | rfl <;> kernel_rfl
theorem slice65 (B q : Nat) (h1 : 1 ≤ q) (h2 : q ≤ 65) (W : World) : (Instr.sliceAt 173 (.pointer (some ⟨B, 0, none⟩)) (some (.int .i64 ((q : Int) - 1))) none none).run Tryz.prog W = .ok (.slice (some ⟨B, q - 1, none⟩) (65 - (q - 1)) (65 - (q - 1))) W := by
  have hl : Tryz.prog.arrayLen 173 = 65 := by kernel_rfl
  have hs : (sizeOf (Tryz.prog.elem 173)).run Tryz.prog W = .ok 1 W := by kernel_rfl
  have h := run_sliceAt_array_l (P := Tryz.prog) W 173 ⟨B, 0, none⟩ (by kernel_rfl) .i64 ((q : Int) - 1) (by omega) (by rw [hl]; omega)
  rw [h, hs, hl]
  have e : ((q : Int) - 1).toNat = q - 1 := by omega
  simp only [Result.andThen_ok, slicedAt, e]
  rw [if_neg (by omega)]
  simp [Addr.add]
  omega
theorem zeros65 : (Tryz.zeroCells173).size = 65 := by kernel_rfl
set_option maxRecDepth 100000 in
set_option maxHeartbeats 1000000 in
theorem bits_ok (u : Nat) (w : World) (hu : u < 18446744073709551616) (hT : Tab64 w) :
    Calls Tryz.prog 167 #[.slice none 0 0, .int .u64 u, .int .i64 16, .bool false, .bool false] w fun e w' => e = .returned (.tuple #[.slice none 0 0, .string ⟨(hexL 16 u).toArray⟩]) ∧ Below w.heap.size w w' := by
  have hT1 := Lib.hid (hT.below (n := w.heap.size) (show Below w.heap.size w (w.alloc (.cells Tryz.zeroCells173 173)) by repeat' (first | (with_reducible exact Below.refl _ _) | (with_reducible assumption) | (with_reducible refine Below.alloc ?_ ?_ _) | (with_reducible refine Below.drew ?_) | (with_reducible refine below_drewN ?_ _) | (with_reducible refine Below.setCell ?_ ?_ _) | go_size)) (Nat.le_refl _))
  clear hT
  go_enter Tryz.func167, Tryz.ntmps167
  go_wp2_with (first | (refine (pow2_ok _).mono ?_; rintro e w' ⟨rfl, rfl⟩) | (refine (tzn_ok _ hT1.out).mono ?_; rintro e w' ⟨rfl, rfl⟩))
  have hA0 : ArrB (w.alloc (.cells Tryz.zeroCells173 173)) w.heap.size [] := ⟨_, blk_new rfl, zeros65, by simp, by simp [zeros65]⟩
  have hB0 : Below w.heap.size w (w.alloc (.cells Tryz.zeroCells173 173)) := by repeat' (first | (with_reducible exact Below.refl _ _) | (with_reducible assumption) | (with_reducible refine Below.alloc ?_ ?_ _) | (with_reducible refine Below.drew ?_) | (with_reducible refine below_drewN ?_ _) | (with_reducible refine Below.setCell ?_ ?_ _) | go_size)
  go_loopw [13, 1] (fun i c wr => ∃ (q v : Nat) (l : List UInt8), q + l.length = 65 ∧ l.length ≤ 15 ∧ i = .int .i64 (q : Int) ∧ c = .int .u64 v ∧ Hid (v < 16 ^ (16 - l.length)) ∧ Hid (hexL 16 u = hexL (16 - l.length) v ++ l) ∧ Hid (ArrB wr w.heap.size l) ∧ Below w.heap.size w wr) (fun _ c _ => (intOf c).toNat)
  case atStart => exact ⟨65, u, [], rfl, by simp, rfl, rfl, Lib.hid (by simpa using hu), Lib.hid (by simp), Lib.hid hA0, hB0⟩
  case round =>
    clear hA0 hB0
    obtain ⟨q, v, l, hq, hl, rfl, rfl, hv, HX, hA, hB⟩ := hrel
    have hv64 : v < 18446744073709551616 := by
      have h1 := hv.out
      have h2 : 16 ^ (16 - l.length) ≤ 16 ^ 16 := Nat.pow_le_pow_right (by omega) (by omega)
      have h3 : (16 : Nat) ^ 16 = 18446744073709551616 := by decide
      omega
    obtain ⟨⟨old, ho⟩, hfz⟩ := hA.out.old (i := q - 1) (by omega)
    by_cases h16 : 16 ≤ v
    · have hl15 : l.length < 15 := Classical.byContradiction fun hc => by
        have h1 := hv.out
        rw [show 16 - l.length = 1 by omega] at h1
        omega
      have hd : decide ((16 : Int) ≤ (v : Int)) = true := decide_eq_true (by omega)
      have hand : bits .and .u64 (v : Int) 15 = ((v % 16 : Nat) : Int) := by
        have h1 := bits_and (x := v) (y := 15) hv64 (by decide)
        rw [show ((15 : Nat) : Int) = 15 from rfl] at h1
        rw [h1]
        exact congrArg (fun n : Nat => (n : Int)) (Nat.and_two_pow_sub_one_eq_mod v 4)
      have hix := dig_index (v % 16) (Nat.mod_lt _ (by omega))
      obtain ⟨d, hdd⟩ : ∃ d, d = v % 16 := ⟨_, rfl⟩
      rw [← hdd] at hand hix
      have HDD := Lib.hid hdd
      have hA2 := Lib.hid (hA.out.push (by omega) (dig d) (i := q - 1) (by omega))
      have HH := Lib.hid (show hexL (16 - l.length) v = hexL (15 - l.length) (v / 16) ++ [dig d] by
        rw [show 16 - l.length = (15 - l.length) + 1 by omega, hexL, if_pos h16, hdd])
      clear hdd
      go_wp2
      refine ⟨⟨q - 1, v / 16, dig d :: l, by simp; omega, by simp; omega, by go_num, by go_num, Lib.hid ?_, Lib.hid ?_, hA2, hB.setCell (p := ⟨w.heap.size, q - 1, none⟩) (by simp) _⟩, by simp [intOf]; omega⟩
      · have h1 := hv.out
        rw [show 16 - l.length = (16 - (dig d :: l).length) + 1 by rw [List.length_cons]; omega, Nat.pow_succ] at h1
        omega
      · rw [HX.out, HH.out, show 16 - (dig d :: l).length = 15 - l.length by rw [List.length_cons]; omega]
        simp
    · have hd : decide ((16 : Int) ≤ (v : Int)) = false := decide_eq_false (by omega)
      have hix := dig_index v (by omega)
      have hsl := slice65 w.heap.size q (by omega) (by omega)
      have hA2 := hA.out.push (by omega) (dig v) (i := q - 1) (by omega)
      have hcv := hA2.conv (65 - (q - 1)) (i := q - 1) (by simp; omega)
      rw [show (dig v :: l).length = 65 - (q - 1) by simp; omega] at hcv
      have HH := Lib.hid (show hexL 16 u = dig v :: l by
        rw [HX.out, show 16 - l.length = (15 - l.length) + 1 by omega, hexL, if_neg h16]; rfl)
      have hq1 : (1 : Int) ≤ q := by omega
      have hq2 : (q : Int) ≤ 65 := by omega
      have hB2 := hB.setCell (p := ⟨w.heap.size, q - 1, none⟩) (by simp) (.int .u8 ((dig v).toNat : Int))
      clear h16 hv64 hA hB hA2 HX
      go_wp2
      rw [HH.out]
      go_returns
      exact ⟨rfl, hB2⟩
end Go.Proofs.YtadkaplafaeebaaGreatDoor
/-
  Write: a solid's text.
-/
set_option linter.unusedVariables false
set_option linter.unusedSimpArgs false
namespace Go.Proofs.YtadkaplafaeebaaGreatDoor
open Go Go.RowKit Go.Shelf

def hexB (u : Nat) : ByteArray := ⟨(hexL 16 u).toArray⟩
set_option maxRecDepth 100000 in
set_option maxHeartbeats 1000000 in
theorem fmtI_ok (u : Nat) (w : World) (hu : u < 18446744073709551616) (hT : Tab64 w) :
    Calls Tryz.prog 155 #[.int .u64 u, .int .i64 16] w fun e w' => e = .returned (.string (hexB u)) ∧ Below w.heap.size w w' := by
  have h := Lib.hid (bits_ok u w hu hT)
  clear hT
  go_enter Tryz.func155, Tryz.ntmps155
  go_wp2_with (refine h.out.mono ?_; rintro e w' ⟨rfl, hb⟩)
  go_ret
  exact ⟨rfl, hb⟩
set_option maxRecDepth 100000 in
set_option maxHeartbeats 1000000 in
theorem fmt_ok (u : Nat) (w : World) (hu : u < 18446744073709551616) (hT : Tab64 w) :
    Calls Tryz.prog 130 #[.int .u64 u, .int .i64 16] w fun e w' => e = .returned (.string (hexB u)) ∧ Below w.heap.size w w' := by
  have h := Lib.hid (fmtI_ok u w hu hT)
  clear hT
  go_enter Tryz.func130, Tryz.ntmps130
  go_wp2_with (refine h.out.mono ?_; rintro e w' ⟨rfl, hb⟩)
  go_ret
  exact ⟨rfl, hb⟩
/-- How many planes are written: up to the last one that has a cell, but one at least. -/
def topP (f : Sol) : Nat → Nat
  | 0 => 0
  | p + 1 => if 1 < p + 1 ∧ f p = 0 then topP f p else p + 1
def wordsN (f : Sol) (n : Nat) : List ByteArray := (List.range n).map fun i => hexB (f i)
theorem wordsN_succ (f : Sol) (n : Nat) : wordsN f (n + 1) = wordsN f n ++ [hexB (f n)] := by simp [wordsN, List.range_succ]
theorem wordsN_len (f : Sol) (n : Nat) : (wordsN f n).length = n := by simp [wordsN]
def strL (l : List ByteArray) : List Value := l.map .string
def writeF (f : Sol) : ByteArray := ⟨(Lib.join ((wordsN f (topP f 8)).map (·.data.toList)) [46]).toArray⟩
theorem words_lens (f : Sol) : ∀ n, Lib.lens ((wordsN f n).map (·.data.toList)) ≤ 16 * n
  | 0 => by simp [wordsN, Lib.lens]
  | n + 1 => by
    have h1 := words_lens f n
    have h2 := hexL_len 16 (f n)
    rw [wordsN_succ, List.map_append]
    simp only [Lib.lens, List.map_append, List.sum_append, List.map_cons, List.map_nil, List.sum_cons, List.sum_nil] at *
    have h3 : (hexB (f n)).data.toList.length ≤ 16 := h2
    omega
theorem write_len (f : Sol) {n : Nat} (hn : n ≤ 8) : (Lib.join ((wordsN f n).map (·.data.toList)) [46]).length ≤ 1000 := by
  cases hw : (wordsN f n).map (·.data.toList) with
  | nil => simp [Lib.join_nil]
  | cons x r =>
    have h1 := words_lens f n
    have h2 : ((wordsN f n).map (·.data.toList)).length = n := by simp [wordsN_len]
    rw [hw] at h1 h2
    rw [Lib.join_length]
    simp at h2
    simp
    omega
theorem info_str : (Tryz.prog.info? 9).map (fun i => (i.zero, i.size, i.bytes)) = some (some (.string ⟨#[]⟩), 1, 16) := by kernel_rfl
theorem under_strs : Tryz.prog.underlying 110 = some (.slice 9) := by kernel_rfl
theorem slice8 (B p : Nat) (h2 : p ≤ 8) (h1 : 1 ≤ p) (W : World) : (Instr.sliceAt 24 (.pointer (some ⟨B, 0, none⟩)) none (some (.int .i64 (p : Int))) none).run Tryz.prog W = .ok (.slice (some ⟨B, 0, none⟩) p 8) W := by
  have hl : Tryz.prog.arrayLen 24 = 8 := by kernel_rfl
  have hs : (sizeOf (Tryz.prog.elem 24)).run Tryz.prog W = .ok 1 W := by kernel_rfl
  have h := run_sliceAt_array_h (P := Tryz.prog) W 24 ⟨B, 0, none⟩ (by kernel_rfl) .i64 (p : Int) (by omega) (by rw [hl]; omega)
  rw [h, hs, hl]
  simp only [Result.andThen_ok, slicedAt]
  rw [if_neg (by omega)]
  simp [Addr.add]
set_option maxRecDepth 100000 in
set_option maxHeartbeats 1000000 in
theorem write_ok (f : Sol) (w : World) (hf : Fit f) (hT : Tab64 w) :
    Calls Tryz.prog 82 #[sol f] w fun e w' => e = .returned (.string (writeF f)) ∧ Below w.heap.size w w' := by
  obtain ⟨i0, hi, hz0, hz1, hz2⟩ := info_parts info_str
  have HF := Lib.hid hf
  have HT := Lib.hid hT
  clear hf hT
  have bS0 : BoxS (w.alloc (.cells (solC f) 24)) w.heap.size f := BoxS.new w f
  have hB0 : Below w.heap.size w (w.alloc (.cells (solC f) 24)) := by repeat' (first | (with_reducible exact Below.refl _ _) | (with_reducible assumption) | (with_reducible refine Below.alloc ?_ ?_ _) | (with_reducible refine Below.drew ?_) | (with_reducible refine below_drewN ?_ _) | (with_reducible refine Below.setCell ?_ ?_ _) | go_size)
  go_enter Tryz.func82, Tryz.ntmps82
  go_wp2_with fail
  obtain ⟨W0, hW0⟩ : ∃ W0, W0 = w.alloc (.cells (solC f) 24) := ⟨_, rfl⟩
  rw [← hW0] at bS0 hB0 ⊢
  clear hW0
  have hs0 := hB0.size
  have lS0 := bS0.lt
  go_loopw [3] (fun c wr => ∃ p : Nat, p ≤ 8 ∧ 1 ≤ p ∧ c = .int .i64 p ∧ Hid (topP f 8 = topP f p) ∧ wr = W0) (fun c _ => (intOf c).toNat)
  case atStart => exact ⟨8, by omega, by omega, rfl, Lib.hid rfl, rfl⟩
  case round =>
    obtain ⟨p, hp, hp1, rfl, HP, rfl⟩ := hrel
    by_cases h1 : 1 < p
    · have hd1 : decide ((1 : Int) < (p : Int)) = true := decide_eq_true (by omega)
      have cp := bS0.cell (k := p - 1) (by omega)
      by_cases h0 : f (p - 1) = 0
      · rw [h0] at cp
        have HPE := Lib.hid (show topP f p = topP f (p - 1) by
          obtain ⟨m, rfl⟩ : ∃ m, p = m + 1 := ⟨p - 1, by omega⟩
          rw [topP, if_pos ⟨h1, h0⟩]; rfl)
        go_wp2
        exact ⟨⟨p - 1, by omega, by omega, by go_num, Lib.hid (by rw [HP.out, HPE.out]), trivial⟩, by simp [intOf]; omega⟩
      · have hne : ((f (p - 1) : Int) == 0) = false := by simpa using h0
        have HPE := Lib.hid (show topP f p = p by
          obtain ⟨m, rfl⟩ : ∃ m, p = m + 1 := ⟨p - 1, by omega⟩
          rw [topP, if_neg (fun h => h0 h.2)])
        have hsl := slice8 w.heap.size p hp hp1
        go_wp2_with fail
        go_loopw [4, 21] (fun lv c wr => ∃ k : Nat, k ≤ p ∧ c = .int .i64 k ∧ BoxS wr w.heap.size f ∧ wr.ownsRow (w.heap.size + 1) 9 1 lv k (strL (wordsN f k)) ∧ Below w.heap.size w wr ∧ w.heap.size + 1 ≤ wr.heap.size) (fun _ c _ => p - (intOf c).toNat)
        case atStart => exact ⟨0, by omega, rfl, bS0, World.ownsRow_nil _ _ _ _, hB0, by omega⟩
        case round =>
          obtain ⟨k, hk, rfl, bS, hrow, hB, hsz⟩ := hrel
          have kS := bS.lt
          by_cases hlt : k < p
          · have hd : decide ((k : Int) < (p : Int)) = true := decide_eq_true (by omega)
            have ck := bS.cell (k := k) (by omega)
            have HS := Lib.hid (wordsN_succ f k)
            go_wp2_with fail
            refine (fmt_ok (f k) _ (HF.out k) (HT.out.below hB (Nat.le_refl _))).mono ?_
            rintro e w2 ⟨rfl, hb2⟩
            have hs2 := hb2.size
            have bS2 := bS.below hb2 kS
            have hrow2 := row_below hrow hb2
            have hB2 : Below w.heap.size w w2 := up hb2 hB
            clear ck
            go_wp2_with (at_builtin; refine wpList_append_own _ rfl _ _ 110 rfl (w.heap.size + 1) 9 i0 (.string ⟨#[]⟩) 1 16 under_strs hi hz0 hz1 hz2 rfl (by decide) u4 _ _ rfl (hrow2.alloc _) ⟨w2.heap.size, 0, none⟩ 1 1 [.string (hexB (f k))] rfl rfl (cell_one_new _ _ _) (by simp [Value.oneCell']) (by simp only [maxLen]; omega) (by omega) (by simp; omega) ?_; intro v' w4 hown' hgrow _; obtain ⟨g', cap', rfl⟩ := ownsRow_succ hown')
            have hb5 : Below (w.heap.size + 1) w2 w4 := ((Below.refl (w.heap.size + 1) w2).alloc (by omega) _).grown hgrow (by simp; omega) fun j ej => (hrow2.lt j ej).1
            have hs5 := hb5.size
            exact ⟨⟨k + 1, by omega, by go_num, (hb5.block _ (by omega)).trans bS2, by rw [HS.out]; simpa [strL] using hown', hB2.trans (hb5.mono (by omega)), by omega⟩, by simp [intOf]; omega⟩
          · obtain rfl : k = p := by omega
            have hd : decide ((k : Int) < (k : Int)) = false := decide_eq_false (by omega)
            obtain ⟨g, cap, rfl⟩ : ∃ g cap, u4 = .slice (some ⟨g, 0, none⟩) k cap := by
              obtain ⟨m, rfl⟩ : ∃ m, k = m + 1 := ⟨k - 1, by omega⟩
              exact ownsRow_succ hrow
            obtain ⟨hg1, hg2⟩ := hrow.lt g rfl
            have hcap : k ≤ cap := by
              rcases hrow.2 with ⟨h1, _⟩ | ⟨g', cap', cur, h1, _, _, h4, _⟩
              · cases h1
              · injection h1 with a1 a2 a3
                subst a3
                exact h4
            have hJ := Tryz.strings_Join g 0 cap (wordsN f k) ⟨#[46]⟩ wr (fun j x hx => by
              have h1 : (strL (wordsN f k))[j]? = some (.string x) := by unfold strL; rw [List.getElem?_map, hx]; rfl
              have h2 := hrow.cells (g := g) rfl j _ h1
              rw [addr_add] at h2
              rw [Nat.zero_add]
              exact h2) hg2 (by rw [wordsN_len]; omega) (by rw [wordsN_len]; exact hcap) (Nat.le_trans (write_len f hp) (by omega))
            rw [wordsN_len] at hJ
            have HJ := Lib.hid hJ
            have HW := Lib.hid (show writeF f = ⟨(Lib.join ((wordsN f k).map (·.data.toList)) [46]).toArray⟩ by unfold writeF; rw [HP.out, HPE.out])
            clear hJ hrow
            go_wp2_with fail
            refine HJ.out.mono ?_
            rintro e w5 ⟨rfl, hb5⟩
            go_wp2
            go_ret
            rw [HW.out]
            exact ⟨rfl, hB.trans (hb5.mono hB.size)⟩
    · have hd1 : decide ((1 : Int) < (p : Int)) = false := decide_eq_false (by omega)
      have HPE := Lib.hid (show topP f p = p by
        obtain ⟨m, rfl⟩ : ∃ m, p = m + 1 := ⟨p - 1, by omega⟩
        rw [topP, if_neg (fun h => h1 h.1)])
      have hsl := slice8 w.heap.size p hp hp1
      go_wp2_with fail
      go_loopw [4, 21] (fun lv c wr => ∃ k : Nat, k ≤ p ∧ c = .int .i64 k ∧ BoxS wr w.heap.size f ∧ wr.ownsRow (w.heap.size + 1) 9 1 lv k (strL (wordsN f k)) ∧ Below w.heap.size w wr ∧ w.heap.size + 1 ≤ wr.heap.size) (fun _ c _ => p - (intOf c).toNat)
      case atStart => exact ⟨0, by omega, rfl, bS0, World.ownsRow_nil _ _ _ _, hB0, by omega⟩
      case round =>
        obtain ⟨k, hk, rfl, bS, hrow, hB, hsz⟩ := hrel
        have kS := bS.lt
        by_cases hlt : k < p
        · have hd : decide ((k : Int) < (p : Int)) = true := decide_eq_true (by omega)
          have ck := bS.cell (k := k) (by omega)
          have HS := Lib.hid (wordsN_succ f k)
          go_wp2_with fail
          refine (fmt_ok (f k) _ (HF.out k) (HT.out.below hB (Nat.le_refl _))).mono ?_
          rintro e w2 ⟨rfl, hb2⟩
          have hs2 := hb2.size
          have bS2 := bS.below hb2 kS
          have hrow2 := row_below hrow hb2
          have hB2 : Below w.heap.size w w2 := up hb2 hB
          clear ck
          go_wp2_with (at_builtin; refine wpList_append_own _ rfl _ _ 110 rfl (w.heap.size + 1) 9 i0 (.string ⟨#[]⟩) 1 16 under_strs hi hz0 hz1 hz2 rfl (by decide) u4 _ _ rfl (hrow2.alloc _) ⟨w2.heap.size, 0, none⟩ 1 1 [.string (hexB (f k))] rfl rfl (cell_one_new _ _ _) (by simp [Value.oneCell']) (by simp only [maxLen]; omega) (by omega) (by simp; omega) ?_; intro v' w4 hown' hgrow _; obtain ⟨g', cap', rfl⟩ := ownsRow_succ hown')
          have hb5 : Below (w.heap.size + 1) w2 w4 := ((Below.refl (w.heap.size + 1) w2).alloc (by omega) _).grown hgrow (by simp; omega) fun j ej => (hrow2.lt j ej).1
          have hs5 := hb5.size
          exact ⟨⟨k + 1, by omega, by go_num, (hb5.block _ (by omega)).trans bS2, by rw [HS.out]; simpa [strL] using hown', hB2.trans (hb5.mono (by omega)), by omega⟩, by simp [intOf]; omega⟩
        · obtain rfl : k = p := by omega
          have hd : decide ((k : Int) < (k : Int)) = false := decide_eq_false (by omega)
          obtain ⟨g, cap, rfl⟩ : ∃ g cap, u4 = .slice (some ⟨g, 0, none⟩) k cap := by
            obtain ⟨m, rfl⟩ : ∃ m, k = m + 1 := ⟨k - 1, by omega⟩
            exact ownsRow_succ hrow
          obtain ⟨hg1, hg2⟩ := hrow.lt g rfl
          have hcap : k ≤ cap := by
            rcases hrow.2 with ⟨h1, _⟩ | ⟨g', cap', cur, h1, _, _, h4, _⟩
            · cases h1
            · injection h1 with a1 a2 a3
              subst a3
              exact h4
          have hJ := Tryz.strings_Join g 0 cap (wordsN f k) ⟨#[46]⟩ wr (fun j x hx => by
            have h1 : (strL (wordsN f k))[j]? = some (.string x) := by unfold strL; rw [List.getElem?_map, hx]; rfl
            have h2 := hrow.cells (g := g) rfl j _ h1
            rw [addr_add] at h2
            rw [Nat.zero_add]
            exact h2) hg2 (by rw [wordsN_len]; omega) (by rw [wordsN_len]; exact hcap) (Nat.le_trans (write_len f hp) (by omega))
          rw [wordsN_len] at hJ
          have HJ := Lib.hid hJ
          have HW := Lib.hid (show writeF f = ⟨(Lib.join ((wordsN f k).map (·.data.toList)) [46]).toArray⟩ by unfold writeF; rw [HP.out, HPE.out])
          clear hJ hrow
          go_wp2_with fail
          refine HJ.out.mono ?_
          rintro e w5 ⟨rfl, hb5⟩
          go_wp2
          go_ret
          rw [HW.out]
          exact ⟨rfl, hB.trans (hb5.mono hB.size)⟩
end Go.Proofs.YtadkaplafaeebaaGreatDoor
/-
  ParseUint at base 16, at the example's text.
-/
set_option linter.unusedVariables false
set_option linter.unusedSimpArgs false
namespace Go.Proofs.YtadkaplafaeebaaGreatDoor
open Go Go.RowKit

set_option maxRecDepth 100000 in
set_option maxHeartbeats 4000000 in
theorem parseI_ring (w : World) : Calls Tryz.prog 173 #[.string ⟨#[55, 48, 53, 48, 55]⟩, .int .i64 16, .int .i64 64] w fun e w' => e = .returned (.tuple #[.int .u64 460039, .nilIface]) ∧ Below w.heap.size w w' := by
  have hcv := Lib.run_convert_string_bytes (P := Tryz.prog) w 9 132 5 ⟨#[55, 48, 53, 48, 55]⟩ (u := .string) Tryz.underlying9 Tryz.underlying132 Tryz.underlying5
  have hB : ∀ j, j < 5 → (Lib.bytesWorld w 5 ⟨#[55, 48, 53, 48, 55]⟩).cell? ⟨w.heap.size, j, none⟩ = some (.int .u8 (([55, 48, 53, 48, 55] : List UInt8).getD j 0).toNat) := fun j hj => Lib.bytesWorld_cell w 5 ⟨#[55, 48, 53, 48, 55]⟩ j hj
  have hBel : Below w.heap.size w (Lib.bytesWorld w 5 ⟨#[55, 48, 53, 48, 55]⟩) := ⟨rfl, rfl, rfl, by rw [Lib.bytesWorld_size]; omega, fun k hk => Lib.bytesWorld_at_old w _ _ k hk⟩
  obtain ⟨W1, hW1⟩ : ∃ W1, W1 = Lib.bytesWorld w 5 ⟨#[55, 48, 53, 48, 55]⟩ := ⟨_, rfl⟩
  rw [← hW1] at hcv hB hBel
  clear hW1
  have b0 : W1.cell? ⟨w.heap.size, 0, none⟩ = some (.int .u8 55) := hB 0 (by omega)
  have b1 : W1.cell? ⟨w.heap.size, 1, none⟩ = some (.int .u8 48) := hB 1 (by omega)
  have b2 : W1.cell? ⟨w.heap.size, 2, none⟩ = some (.int .u8 53) := hB 2 (by omega)
  have b3 : W1.cell? ⟨w.heap.size, 3, none⟩ = some (.int .u8 48) := hB 3 (by omega)
  have b4 : W1.cell? ⟨w.heap.size, 4, none⟩ = some (.int .u8 55) := hB 4 (by omega)
  clear hB
  go_enter Tryz.func173, Tryz.ntmps173
  go_wp2
  refine wp_loop_rounds 6 ?_
  iterate 6 (rw [rounds_succ]; go_wp2)
  go_returns
  exact ⟨rfl, hBel⟩
set_option maxRecDepth 100000 in
set_option maxHeartbeats 1000000 in
theorem parse_ring (w : World) : Calls Tryz.prog 160 #[.string ⟨#[55, 48, 53, 48, 55]⟩, .int .i64 16, .int .i64 64] w fun e w' => e = .returned (.tuple #[.int .u64 460039, .nilIface]) ∧ Below w.heap.size w w' := by
  go_enter Tryz.func160, Tryz.ntmps160
  go_wp2_with (refine (parseI_ring _).mono ?_; rintro e w' ⟨rfl, hb⟩)
  go_returns
  exact ⟨rfl, hb⟩
set_option maxRecDepth 100000 in
set_option maxHeartbeats 1000000 in
theorem plane_ring (w : World) : Calls Tryz.prog 134 #[.string ⟨#[55, 48, 53, 48, 55]⟩] w fun e w' => e = .returned (.int .u64 460039) ∧ Below w.heap.size w w' := by
  go_enter Tryz.func134, Tryz.ntmps134
  go_wp2_with (refine (parse_ring _).mono ?_; rintro e w' ⟨rfl, hb⟩)
  go_ret
  exact ⟨rfl, hb⟩
end Go.Proofs.YtadkaplafaeebaaGreatDoor
/-
  SplitSeq of a text without a separator: the text itself.
-/
set_option linter.unusedVariables false
set_option linter.unusedSimpArgs false
namespace Go.Proofs.YtadkaplafaeebaaGreatDoor
open Go Go.RowKit Go.Shelf

attribute [local go_sem] Oper.semAt_some

set_option maxRecDepth 100000 in
set_option maxHeartbeats 1000000 in
theorem split_in (n : Nat) (s : ByteArray) (w : World) :
    CallsIn Fence.wide n Tryz.prog 133 #[.string s, .string ⟨#[46]⟩] w fun e w' => e = .returned (.func (.func 170) #[] #[.pointer (some ⟨w.heap.size + 1, 0, none⟩), .pointer (some ⟨w.heap.size, 0, none⟩), .pointer (some ⟨w.heap.size + 1 + 1, 0, none⟩)]) ∧
      w' = ((w.alloc (.cells #[.string s] 9)).alloc (.cells #[.string ⟨#[46]⟩] 9)).alloc (.cells #[.int .i64 0] 3) := by
  have hmf : ∀ (fn : Fn) (first cap : Array Value) (w : World), (Instr.makeFunc fn first cap).run Tryz.prog w = .ok (.func fn first cap) w := fun _ _ _ _ => rfl
  have h : ∀ W, CallsIn Fence.wide (n - 1) Tryz.prog 159 #[.string s, .string ⟨#[46]⟩, .int .i64 0] W fun e w' => e = .returned (.func (.func 170) #[] #[.pointer (some ⟨W.heap.size + 1, 0, none⟩), .pointer (some ⟨W.heap.size, 0, none⟩), .pointer (some ⟨W.heap.size + 1 + 1, 0, none⟩)]) ∧
      w' = ((W.alloc (.cells #[.string s] 9)).alloc (.cells #[.string ⟨#[46]⟩] 9)).alloc (.cells #[.int .i64 0] 3) := fun W => by
    refine callsIn_of_wp Tryz.func159 rfl trivial ?_ rfl
    simp only [Tryz.ntmps159, List.size_toArray, List.length_cons, List.length_nil, Nat.reduceAdd, Nat.reduceSub, Array.replicate_succ, Array.replicate_zero, List.push_toArray, List.append_toArray, List.nil_append, List.cons_append]
    gi_wp2
    go_ret
    exact ⟨rfl, rfl⟩
  have H := Lib.hid h
  clear h
  refine callsIn_of_wp Tryz.func133 rfl trivial ?_ rfl
  simp only [Tryz.ntmps133, List.size_toArray, List.length_cons, List.length_nil, Nat.reduceAdd, Nat.reduceSub, Array.replicate_succ, Array.replicate_zero, List.push_toArray, List.append_toArray, List.nil_append, List.cons_append]
  gi_wp2_with (refine ⟨trivial, fun h => (by cases h), ?_⟩; gi_at_call 159; refine (H.out _).mono ?_; rintro e w' ⟨rfl, rfl⟩)
  go_ret
  exact ⟨rfl, rfl⟩
set_option maxRecDepth 100000 in
set_option maxHeartbeats 1000000 in
theorem split1_in (n : Nat) (hn : 1 ≤ n) (l Bp Bs Bk B0 : Nat) (s : ByteArray) (hno : Lib.indexByte s.data.toList 46 = -1) (J Jx : List Unit → World → Prop) (hA : AbidesFrom B0 J)
    (hY : ∀ pre x W, J pre W → pre.length < 1 → YieldAt Fence.wide (n - 1) Tryz.prog l #[.string s] W fun e W' =>
      (e = .returned (.bool true) ∧ J (pre ++ [x]) W' ∧ True) ∨ (e = .returned (.bool false) ∧ Jx (pre ++ [x]) W'))
    (W : World) (hp : Boxed W Bp 9 (.string ⟨#[46]⟩)) (hs : Boxed W Bs 9 (.string s)) (hk : Boxed W Bk 3 (.int .i64 0)) (h0 : J [] W) :
    CallsIn Fence.wide n Tryz.prog 170 #[.func (.yield l) #[] #[], .pointer (some ⟨Bp, 0, none⟩), .pointer (some ⟨Bs, 0, none⟩), .pointer (some ⟨Bk, 0, none⟩)] W fun e W' => (∃ v, e = .returned v) ∧
      ((∃ ys, ys = [()] ∧ J ys W') ∨ (∃ pre, pre <+: [()] ∧ Jx pre W')) := by
  have hI : ∀ W, Calls Tryz.prog 172 #[.string s, .string ⟨#[46]⟩] W fun e w' => e = .returned (.int .i64 (-1)) ∧ w' = W := fun W => by
    have := Tryz.strings_Index_one s 46 W
    rwa [hno] at this
  have HI := Lib.hid hI
  clear hI hno
  obtain ⟨fn, tmps, assign, body, hy, hR⟩ := hY [] () W h0 (by simp)
  refine callsIn_of_wp Tryz.func170 rfl trivial ?_ rfl
  simp only [Tryz.ntmps170, List.size_toArray, List.length_cons, List.length_nil, Nat.reduceAdd, Nat.reduceSub, Array.replicate_succ, Array.replicate_zero, List.push_toArray, List.append_toArray, List.nil_append, List.cons_append]
  have cp := hp.cell
  have cs := hs.cell
  have ck := hk.cell
  gi_wp2
  refine wpIn_loop_rounds 1 ?_
  rw [roundsIn_succ]
  gi_wp2_with (refine ⟨trivial, ?_⟩; gi_at_call 172; refine (callsIn_wide.2 (HI.out _)).mono ?_; rintro e w1 ⟨rfl, rfl⟩)
  refine hR.mono ?_
  clear hR hy
  rintro e W1 (⟨rfl, hJ1, _⟩ | ⟨rfl, hJx⟩)
  · gi_wp2
    go_end0
    exact ⟨⟨_, rfl⟩, .inl ⟨_, rfl, hJ1⟩⟩
  · gi_wp2
    go_end0
    exact ⟨⟨_, rfl⟩, .inr ⟨_, List.prefix_refl _, hJx⟩⟩
theorem split_stops (n : Nat) (hn : 1 ≤ n) (Bp Bs Bk : Nat) (s : ByteArray) (hno : Lib.indexByte s.data.toList 46 = -1) (w : World) (hp : Boxed w Bp 9 (.string ⟨#[46]⟩)) (hs : Boxed w Bs 9 (.string s)) (hk : Boxed w Bk 3 (.int .i64 0)) :
    SeqStopsK Fence.wide n Tryz.prog 170 #[.pointer (some ⟨Bp, 0, none⟩), .pointer (some ⟨Bs, 0, none⟩), .pointer (some ⟨Bk, 0, none⟩)] (fun _ : Unit => #[.string s]) (fun _ _ => True) (fun ys => ys = [()]) (fun pre => pre <+: [()]) 1 w := fun l J Jx W hW hJ _ hY h0 =>
  split1_in n hn l Bp Bs Bk _ s hno J Jx hJ hY W ((hW.block _ hp.lt).trans hp) ((hW.block _ hs.lt).trans hs) ((hW.block _ hk.lt).trans hk) h0
end Go.Proofs.YtadkaplafaeebaaGreatDoor
/-
  Read at the example's text.
-/
set_option linter.unusedVariables false
set_option linter.unusedSimpArgs false
namespace Go.Proofs.YtadkaplafaeebaaGreatDoor
open Go Go.RowKit Go.Shelf

attribute [local go_sem] Oper.semAt_some

set_option maxRecDepth 100000 in
set_option maxHeartbeats 1000000 in
theorem catchRead_idle (n : Nat) (p q : Addr) (w : World) :
    CallsDIn Fence.wide n Tryz.prog 132 #[.pointer (some p), .pointer (some q)] .returning w fun e u' w' => e = .returned (.tuple #[]) ∧ u' = .returning ∧ w' = w := by
  refine callsDIn_of_wpSIn Tryz.func132 rfl trivial fun c₀ cs hu => ?_
  apply wpSIn_seq
  apply wpSIn_region
  simp [wpOpsSIn, go_sem, recoverD, hu, Tryz.ntmps132, Exit.thenS]
  refine wpSIn_cond (t := false) (by simp [Act.eval, Array.replicate]) ?_
  simp only [Bool.false_eq_true, if_false]
  refine wpSIn_of_wpIn rfl ?_
  gi_wp2
  cases c₀
  simp_all [bodyPostS, results, Tryz.results132]
def ringT : ByteArray := ⟨#[55, 48, 53, 48, 55]⟩
theorem plane_ringT (w : World) : Calls Tryz.prog 134 #[.string ringT] w fun e w' => e = .returned (.int .u64 460039) ∧ Below w.heap.size w w' := plane_ring w
theorem write_ring : writeF (oneS 460039) = ringT := by
  have : (writeF (oneS 460039)).data = ringT.data := by decide +kernel
  cases h : writeF (oneS 460039) with
  | mk d => rw [h] at this; simp only at this; rw [this]
theorem one_fit {n : Nat} (h : n < 18446744073709551616) : Fit (oneS n) := fun i => by unfold oneS; split <;> omega
theorem ringT_no : Lib.indexByte ringT.data.toList 46 = -1 := by decide +kernel
set_option maxRecDepth 100000 in
set_option maxHeartbeats 1000000 in
theorem read_ring (w : World) (hT : Tab64 w) :
    Calls Tryz.prog 83 #[.string ringT] w fun e w' => e = .returned (.tuple #[sol (oneS 460039), .int .i64 0]) ∧ Below w.heap.size w w' := by
  have hmf : ∀ (fn : Fn) (first cap : Array Value) (w : World), (Instr.makeFunc fn first cap).run Tryz.prog w = .ok (.func fn first cap) w := fun _ _ _ _ => rfl
  have HT := Lib.hid hT
  clear hT
  refine (callsIn_wide (n := 7)).1 ?_
  refine callsIn_of_wp_marks Tryz.func83 rfl trivial ?_ rfl
  simp only [Tryz.ntmps83, List.size_toArray, List.length_cons, List.length_nil, Nat.reduceAdd, Nat.reduceSub, Array.replicate_succ, Array.replicate_zero, List.push_toArray, List.append_toArray, List.nil_append, List.cons_append]
  gi_wp2_with (refine ⟨trivial, ?_⟩; gi_at_call 133; refine (split_in _ ringT _).mono ?_; rintro e w1 ⟨rfl, rfl⟩)
  have bX : BoxS ((((((w.alloc (.cells #[.int .u64 0, .int .u64 0, .int .u64 0, .int .u64 0, .int .u64 0, .int .u64 0, .int .u64 0, .int .u64 0] 24)).alloc (.cells #[.int .i64 0] 29)).alloc (.cells #[.int .i64 0] 3)).alloc (.cells #[.string ringT] 9)).alloc (.cells #[.string ⟨#[46]⟩] 9)).alloc (.cells #[.int .i64 0] 3)) w.heap.size (fun _ => 0) := (((((BoxS.zero rfl).alloc _).alloc _).alloc _).alloc _).alloc _
  have bE : Boxed ((((((w.alloc (.cells #[.int .u64 0, .int .u64 0, .int .u64 0, .int .u64 0, .int .u64 0, .int .u64 0, .int .u64 0, .int .u64 0] 24)).alloc (.cells #[.int .i64 0] 29)).alloc (.cells #[.int .i64 0] 3)).alloc (.cells #[.string ringT] 9)).alloc (.cells #[.string ⟨#[46]⟩] 9)).alloc (.cells #[.int .i64 0] 3)) (w.heap.size + 1) 29 (.int .i64 0) := ((((boxed_at (by simp)).alloc _).alloc _).alloc _).alloc _
  have bN : Boxed ((((((w.alloc (.cells #[.int .u64 0, .int .u64 0, .int .u64 0, .int .u64 0, .int .u64 0, .int .u64 0, .int .u64 0, .int .u64 0] 24)).alloc (.cells #[.int .i64 0] 29)).alloc (.cells #[.int .i64 0] 3)).alloc (.cells #[.string ringT] 9)).alloc (.cells #[.string ⟨#[46]⟩] 9)).alloc (.cells #[.int .i64 0] 3)) (w.heap.size + 1 + 1) 3 (.int .i64 0) := (((boxed_at (by simp)).alloc _).alloc _).alloc _
  have bS : Boxed ((((((w.alloc (.cells #[.int .u64 0, .int .u64 0, .int .u64 0, .int .u64 0, .int .u64 0, .int .u64 0, .int .u64 0, .int .u64 0] 24)).alloc (.cells #[.int .i64 0] 29)).alloc (.cells #[.int .i64 0] 3)).alloc (.cells #[.string ringT] 9)).alloc (.cells #[.string ⟨#[46]⟩] 9)).alloc (.cells #[.int .i64 0] 3)) (w.heap.size + 1 + 1 + 1) 9 (.string ringT) := ((boxed_at (by simp)).alloc _).alloc _
  have bP : Boxed ((((((w.alloc (.cells #[.int .u64 0, .int .u64 0, .int .u64 0, .int .u64 0, .int .u64 0, .int .u64 0, .int .u64 0, .int .u64 0] 24)).alloc (.cells #[.int .i64 0] 29)).alloc (.cells #[.int .i64 0] 3)).alloc (.cells #[.string ringT] 9)).alloc (.cells #[.string ⟨#[46]⟩] 9)).alloc (.cells #[.int .i64 0] 3)) (w.heap.size + 1 + 1 + 1 + 1) 9 (.string ⟨#[46]⟩) := (boxed_at (by simp)).alloc _
  have bK : Boxed ((((((w.alloc (.cells #[.int .u64 0, .int .u64 0, .int .u64 0, .int .u64 0, .int .u64 0, .int .u64 0, .int .u64 0, .int .u64 0] 24)).alloc (.cells #[.int .i64 0] 29)).alloc (.cells #[.int .i64 0] 3)).alloc (.cells #[.string ringT] 9)).alloc (.cells #[.string ⟨#[46]⟩] 9)).alloc (.cells #[.int .i64 0] 3)) (w.heap.size + 1 + 1 + 1 + 1 + 1) 3 (.int .i64 0) := boxed_at (by simp)
  have hB0 : Below w.heap.size w ((((((w.alloc (.cells #[.int .u64 0, .int .u64 0, .int .u64 0, .int .u64 0, .int .u64 0, .int .u64 0, .int .u64 0, .int .u64 0] 24)).alloc (.cells #[.int .i64 0] 29)).alloc (.cells #[.int .i64 0] 3)).alloc (.cells #[.string ringT] 9)).alloc (.cells #[.string ⟨#[46]⟩] 9)).alloc (.cells #[.int .i64 0] 3)) := by repeat' (first | (with_reducible exact Below.refl _ _) | (with_reducible assumption) | (with_reducible refine Below.alloc ?_ ?_ _) | (with_reducible refine Below.drew ?_) | (with_reducible refine below_drewN ?_ _) | (with_reducible refine Below.setCell ?_ ?_ _) | go_size)
  have hsz : ((((((w.alloc (.cells #[.int .u64 0, .int .u64 0, .int .u64 0, .int .u64 0, .int .u64 0, .int .u64 0, .int .u64 0, .int .u64 0] 24)).alloc (.cells #[.int .i64 0] 29)).alloc (.cells #[.int .i64 0] 3)).alloc (.cells #[.string ringT] 9)).alloc (.cells #[.string ⟨#[46]⟩] 9)).alloc (.cells #[.int .i64 0] 3)).heap.size = w.heap.size + 6 := by simp
  obtain ⟨W0, hW0⟩ : ∃ W0, W0 = ((((((w.alloc (.cells #[.int .u64 0, .int .u64 0, .int .u64 0, .int .u64 0, .int .u64 0, .int .u64 0, .int .u64 0, .int .u64 0] 24)).alloc (.cells #[.int .i64 0] 29)).alloc (.cells #[.int .i64 0] 3)).alloc (.cells #[.string ringT] 9)).alloc (.cells #[.string ⟨#[46]⟩] 9)).alloc (.cells #[.int .i64 0] 3)) := ⟨_, rfl⟩
  rw [← hW0] at bX bE bN bS bP bK hB0 hsz ⊢
  clear hW0
  have hsz1 : w.heap.size + 1 + 1 + 1 < W0.heap.size := by omega
  have HSZ := Lib.hid hsz
  clear hsz
  refine wpIn_rangeFunc_ownH rfl (by omega) (gf := 170) (lb := #[.pointer (some ⟨w.heap.size + 1 + 1 + 1 + 1, 0, none⟩), .pointer (some ⟨w.heap.size + 1 + 1 + 1, 0, none⟩), .pointer (some ⟨w.heap.size + 1 + 1 + 1 + 1 + 1, 0, none⟩)]) rfl trivial (enters_of Tryz.func170 (by kernel_rfl) rfl)
    (split_stops _ (by omega) _ _ _ ringT ringT_no W0 bP bS bK) (fun _ _ => trivial) (fun _ _ _ _ _ _ _ _ => trivial) (Below.refl _ _) (fun _ => rfl)
    (fun (pre : List Unit) W => BoxS W w.heap.size (oneS (460039 * pre.length)) ∧ Boxed W (w.heap.size + 1) 29 (.int .i64 0) ∧ Boxed W (w.heap.size + 1 + 1) 3 (.int .i64 (pre.length : Nat)) ∧ Below w.heap.size w W)
    (fun _ _ _ => False)
    (OwnFrom.and (own_block' _ _ (fun pre : List Unit => .cells (solC (oneS (460039 * pre.length))) 24 (0, 0)) fun _ => rfl) (OwnFrom.and (own_block _ _ _ rfl) (OwnFrom.and (own_block' _ _ (fun pre : List Unit => .cells #[.int .i64 (pre.length : Nat)] 3 (0, 0)) fun _ => rfl) (ownFrom_below (Nat.le_refl _) (by omega)))))
    (fun _ _ _ _ _ hs _ _ => hs)
    ⟨bX.congr (fun k hk => by simp [oneS]), bE, bN, hB0⟩
    (fun (x : Unit) a' W => a' = { tmps := #[.string ringT, undef, .pointer (some ⟨w.heap.size, 0, none⟩), .pointer (some ⟨w.heap.size + 1, 0, none⟩), .pointer (some ⟨w.heap.size + 1 + 1, 0, none⟩), .string ringT, .func (.func 132) #[] #[.pointer (some ⟨w.heap.size, 0, none⟩), .pointer (some ⟨w.heap.size + 1, 0, none⟩)], .string ringT,
      .func (.func 170) #[] #[.pointer (some ⟨w.heap.size + 1 + 1 + 1 + 1, 0, none⟩), .pointer (some ⟨w.heap.size + 1 + 1 + 1, 0, none⟩), .pointer (some ⟨w.heap.size + 1 + 1 + 1 + 1 + 1, 0, none⟩)], .string ringT, undef, undef, undef, undef, undef, undef, undef, undef, undef, undef, undef, undef, undef, undef, undef], defers := [] })
    (fun x a' s X Y row h hg hr => h) ?assign ?body ?done ?stop
  case assign =>
    rintro l pre x W K hI hK
    gi_wp2
    exact hK _ _ (KeepsFrom.refl _ _) trivial hI rfl
  case body =>
    rintro l pre x a' W hl ⟨r, hr⟩ ⟨i1, i2, i3, i4⟩ rfl hlt
    obtain rfl : pre = [] := by
      cases pre with
      | nil => rfl
      | cons a b => simp at hlt
    have i3' : Boxed W (w.heap.size + 1 + 1) 3 (.int .i64 0) := i3
    have i1' : BoxS W w.heap.size (fun _ => 0) := i1.congr (fun k hk => by simp [oneS])
    have cN := i3'.cell
    have fN := i3'.frozen
    have cX := i1'.cell (k := 0) (by omega)
    have fX := i1'.free 0
    have lX := i1'.lt
    have lN := i3'.lt
    have hmx : Tryz.prog.follows .mixedOrders = true := by kernel_rfl
    gi_wp2
    gi_region_with_o (refine ⟨trivial, ?_⟩; gi_at_call 134; (with_reducible refine CallsIn.mono (CallsIn.inRound l (callsIn_wide.2 (plane_ringT _))) ?_); rintro e w3 ⟨rfl, hb3⟩; replace hb3 := below_undrew hb3; obtain ⟨hc3, hf3⟩ := bcell hb3)
    all_goals
      gi_wp2
      have hs3 := hb3.size
      have m1 := (i1'.below hb3 lX).set (k := 0) (by omega) 460039
      have m2 : Boxed w3 (w.heap.size + 1) 29 (.int .i64 0) := (hb3.block _ i2.lt).trans i2
      have m3 : Boxed w3 (w.heap.size + 1 + 1) 3 (.int .i64 0) := (hb3.block _ lN).trans i3'
      have m4 := i4.trans (hb3.mono i4.size)
      refine ⟨(keeps_below hb3).trans (((KeepsOthers.setCell _ _ _).trans (KeepsOthers.setCell _ _ _)).from _), trivial, ?_, ?_, ?_, ?_⟩
      · exact (m1.congr fun k hk => by simp [oneS, up8]).other (by omega) _
      · exact boxed_set (boxed_set m2 (by omega)) (by omega)
      · exact (boxed_set m3 (by omega)).set _
      · exact (m4.setCell (p := ⟨w.heap.size, 0, none⟩) (by simp) _).setCell (p := ⟨w.heap.size + 1 + 1, 0, none⟩) (by simp; omega) _
  case done =>
    rintro D ys W hD rfl ⟨i1, i2, i3, i4⟩ hK
    have i1' : BoxS W w.heap.size (oneS 460039) := i1
    have c0 := (i1').cell (k := 0) (by omega); have c1 := (i1').cell (k := 1) (by omega); have c2 := (i1').cell (k := 2) (by omega); have c3 := (i1').cell (k := 3) (by omega); have c4 := (i1').cell (k := 4) (by omega); have c5 := (i1').cell (k := 5) (by omega); have c6 := (i1').cell (k := 6) (by omega); have c7 := (i1').cell (k := 7) (by omega)
    have HWR := Lib.hid (write_ok (oneS 460039) W (one_fit (by decide)) (HT.out.below i4 (Nat.le_refl _)))
    rw [write_ring] at HWR
    gi_wp2_with (refine ⟨trivial, ?_⟩; gi_at_call 82; refine (callsIn_wide.2 HWR.out).mono ?_; rintro e w3 ⟨rfl, hb3⟩; have j1 := i1'.below hb3 i1'.lt; have d0 := (j1).cell (k := 0) (by omega); have d1 := (j1).cell (k := 1) (by omega); have d2 := (j1).cell (k := 2) (by omega); have d3 := (j1).cell (k := 3) (by omega); have d4 := (j1).cell (k := 4) (by omega); have d5 := (j1).cell (k := 5) (by omega); have d6 := (j1).cell (k := 6) (by omega); have d7 := (j1).cell (k := 7) (by omega); have q0 := (j1).free 0; have q1 := (j1).free 1; have q2 := (j1).free 2; have q3 := (j1).free 3; have q4 := (j1).free 4; have q5 := (j1).free 5; have q6 := (j1).free 6; have q7 := (j1).free 7; have j2 : Boxed w3 (w.heap.size + 1) 29 (.int .i64 0) := (hb3.block _ i2.lt).trans i2; have ce := j2.cell; have fe := j2.frozen)
    have hD3 : w3.heap[D]? = some (.deferred (some [])) := (hb3.block D (Array.getElem?_eq_some_iff.1 hK).1).trans hK
    have p1 : BoxS (put8 w3 w.heap.size (oneS 460039)) w.heap.size (oneS 460039) := j1.put _
    have p2 : Boxed (put8 w3 w.heap.size (oneS 460039)) (w.heap.size + 1) 29 (.int .i64 0) := boxed_set (boxed_set (boxed_set (boxed_set (boxed_set (boxed_set (boxed_set (boxed_set j2 (by omega)) (by omega)) (by omega)) (by omega)) (by omega)) (by omega)) (by omega)) (by omega)
    have p3 : (put8 w3 w.heap.size (oneS 460039)).heap[D]? = some (.deferred (some [])) := (keeps_put8 w3 w.heap.size (oneS 460039)).same D _ hD3 rfl
    have p4 : Below w.heap.size w (put8 w3 w.heap.size (oneS 460039)) := below_put8 (i4.trans (hb3.mono i4.size)) (Nat.le_refl _) _
    have q1 := p1.other (b := w.heap.size + 1) (o := 0) (by omega) (.int .i64 0)
    have q2 := p2.set (.int .i64 0)
    have q3 := (KeepsOthers.setCell (put8 w3 w.heap.size (oneS 460039)) ⟨w.heap.size + 1, 0, none⟩ (.int .i64 0)).same D _ p3 rfl
    have q4 := p4.setCell (p := ⟨w.heap.size + 1, 0, none⟩) (by simp) (.int .i64 0)
    have hDA : w.heap.size ≤ D := by omega
    refine ⟨by simp, .inl ⟨_, _, rfl, run_takeDeferred q3, ?_⟩⟩
    have hgr := grownBy_putObj' ((put8 w3 w.heap.size (oneS 460039)).setCell ⟨w.heap.size + 1, 0, none⟩ (.int .i64 0)) D (.deferred none)
    have r1 : BoxS (((put8 w3 w.heap.size (oneS 460039)).setCell ⟨w.heap.size + 1, 0, none⟩ (.int .i64 0)).putObj D (.deferred none)) w.heap.size (oneS 460039) := (hgr.block _ q1.lt (fun e => by cases e; omega)).trans q1
    have r2 : Boxed (((put8 w3 w.heap.size (oneS 460039)).setCell ⟨w.heap.size + 1, 0, none⟩ (.int .i64 0)).putObj D (.deferred none)) (w.heap.size + 1) 29 (.int .i64 0) := (hgr.block _ q2.lt (fun e => by cases e; omega)).trans q2
    have r4 := q4.trans (below_mark (n₀ := w.heap.size) (o' := .deferred none) hDA q3)
    refine ⟨by simp, .inr ⟨fun h => (by cases h), .func 132, _, 132, #[.pointer (some ⟨w.heap.size, 0, none⟩), .pointer (some ⟨w.heap.size + 1, 0, none⟩)], rfl, by simp [go_sem], fun _ _ => trivial, ?_⟩⟩
    refine (catchRead_idle _ _ _ _).mono ?_
    rintro e u' w'' ⟨rfl, rfl, rfl⟩
    have z0 := (r1).cell (k := 0) (by omega); have z1 := (r1).cell (k := 1) (by omega); have z2 := (r1).cell (k := 2) (by omega); have z3 := (r1).cell (k := 3) (by omega); have z4 := (r1).cell (k := 4) (by omega); have z5 := (r1).cell (k := 5) (by omega); have z6 := (r1).cell (k := 6) (by omega); have z7 := (r1).cell (k := 7) (by omega)
    have ze := r2.cell
    refine ⟨.tuple #[sol (oneS 460039), .int .i64 0], ?_, rfl, r4⟩
    simp [results, Tryz.results83, go_sem, z0, z1, z2, z3, z4, z5, z6, z7, ze]
  case stop =>
    rintro D c pre W _ _ h _
    exact h.elim
end Go.Proofs.YtadkaplafaeebaaGreatDoor
