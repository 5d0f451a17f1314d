/-
  The reference's has.
-/
import Derived.Test.YtoajocgfmbakjaaGreatDoorPdS
import Derived.Test.YtoajocgfmbakjaaGreatDoorPdN
import Derived.Test.YtoajocgfmbakjaaGreatDoorPdB
import Derived.Test.YtoajocgfmbakjaaGreatDoorPdI
set_option linter.unusedVariables false
set_option linter.unusedSimpArgs false
namespace Go.Proofs.YtoajocgfmbakjaaGreatDoor
open Go Go.RowKit Go.Shelf

/-- Whether a solid has a cell, wherever it is. -/
def hasR (f : Sol) (x y z : Int) : Bool := decide (0 ≤ x ∧ x ≤ 7 ∧ 0 ≤ y ∧ y ≤ 7 ∧ 0 ≤ z ∧ z ≤ 7) && (f z.toNat).testBit (8 * y + x).toNat
set_option maxRecDepth 100000 in
set_option maxHeartbeats 2000000 in
theorem hasR_ok (f : Sol) (x y z : Int) (w : World) (hf : Fit f) : Calls Tryz.prog 155 #[sol f, .int .i64 x, .int .i64 y, .int .i64 z] w (RetB (.bool (hasR f x y z)) w) := by
  have HF := Lib.hid hf
  by_cases hg : 0 ≤ x ∧ x ≤ 7 ∧ 0 ≤ y ∧ y ≤ 7 ∧ 0 ≤ z ∧ z ≤ 7
  · obtain ⟨h1, h2, h3, h4, h5, h6⟩ := hg
    have HR := Lib.hid (show hasR f x y z = (f z.toNat).testBit (8 * y + x).toNat by unfold hasR; rw [decide_eq_true ⟨h1, h2, h3, h4, h5, h6⟩, Bool.true_and])
    obtain ⟨a, rfl⟩ : ∃ n : Nat, x = n := ⟨x.toNat, by omega⟩
    obtain ⟨b, rfl⟩ : ∃ n : Nat, y = n := ⟨y.toNat, by omega⟩
    obtain ⟨c, rfl⟩ : ∃ n : Nat, z = n := ⟨z.toNat, by omega⟩
    have d1 : decide ((a : Int) < 0) = false := decide_eq_false (by omega)
    have d2 : decide ((7 : Int) < (a : Int)) = false := decide_eq_false (by omega)
    have d3 : decide ((b : Int) < 0) = false := decide_eq_false (by omega)
    have d4 : decide ((7 : Int) < (b : Int)) = false := decide_eq_false (by omega)
    have d5 : decide ((c : Int) < 0) = false := decide_eq_false (by omega)
    have d6 : decide ((7 : Int) < (c : Int)) = false := decide_eq_false (by omega)
    have hc8 : (c : Int) < 8 := by omega
    have hw1 : IntKind.i64.wrap (8 * (b : Int)) = 8 * (b : Int) := by rw [IntWalk.i64_in] <;> omega
    have hw2 : IntKind.i64.wrap (8 * (b : Int) + (a : Int)) = 8 * (b : Int) + (a : Int) := by rw [IntWalk.i64_in] <;> omega
    have k0 : BoxS (w.alloc (.cells (solC f) 25)) w.heap.size f := BoxK.new _ w f
    have cz := k0.cell (show c < 8 by omega)
    have hB : Below w.heap.size w (w.alloc (.cells (solC f) 25)) := by repeat' (first | (with_reducible exact Below.refl _ _) | (with_reducible assumption) | (with_reducible refine Below.alloc ?_ ?_ _) | (with_reducible refine Below.drew ?_) | (with_reducible refine below_drewN ?_ _) | (with_reducible refine Below.setCell ?_ ?_ _) | go_size)
    go_enter Tryz.func155, Tryz.ntmps155
    go_wp2_with fail
    go_ret
    refine ⟨retB ?_, hB⟩
    rw [HR.out, show (8 * (b : Int) + (a : Int)).toNat = 8 * b + a by omega, Int.toNat_natCast, Nat.testBit_eq_decide_div_mod_eq]
    have hd : ((f c : Nat) : Int) / 2 ^ (8 * b + a) = ((f c / 2 ^ (8 * b + a) : Nat) : Int) := by norm_cast
    have hl : f c / 2 ^ (8 * b + a) < 18446744073709551616 := Nat.lt_of_le_of_lt (Nat.div_le_self _ _) (HF.out c)
    have he := bits_and (x := f c / 2 ^ (8 * b + a)) (y := 1) hl (by decide)
    rw [show ((1 : Nat) : Int) = 1 from rfl] at he
    rw [hd, he, Nat.and_one_is_mod]
    generalize f c / 2 ^ (8 * b + a) % 2 = r
    rw [Bool.eq_iff_iff]
    simp
    omega
  · have HR := Lib.hid (show hasR f x y z = false by unfold hasR; rw [decide_eq_false hg, Bool.false_and])
    rw [HR.out]
    have hB : Below w.heap.size w (w.alloc (.cells (solC f) 25)) := by repeat' (first | (with_reducible exact Below.refl _ _) | (with_reducible assumption) | (with_reducible refine Below.alloc ?_ ?_ _) | (with_reducible refine Below.drew ?_) | (with_reducible refine below_drewN ?_ _) | (with_reducible refine Below.setCell ?_ ?_ _) | go_size)
    go_enter Tryz.func155, Tryz.ntmps155
    by_cases h1 : x < 0
    · go_wp2_with fail
      go_ret
      exact ⟨rfl, hB⟩
    · by_cases h2 : 7 < x
      · go_wp2_with fail
        go_ret
        exact ⟨rfl, hB⟩
      · by_cases h3 : y < 0
        · go_wp2_with fail
          go_ret
          exact ⟨rfl, hB⟩
        · by_cases h4 : 7 < y
          · go_wp2_with fail
            go_ret
            exact ⟨rfl, hB⟩
          · by_cases h5 : z < 0
            · go_wp2_with fail
              go_ret
              exact ⟨rfl, hB⟩
            · have h6 : 7 < z := by omega
              go_wp2_with fail
              go_ret
              exact ⟨rfl, hB⟩
end Go.Proofs.YtoajocgfmbakjaaGreatDoor
/-
  The reference's shift, piece, IsMove.
-/
set_option linter.unusedVariables false
set_option linter.unusedSimpArgs false
namespace Go.Proofs.YtoajocgfmbakjaaGreatDoor
open Go Go.RowKit Go.Shelf

def sdR (far k : Nat) : Nat := if k ≤ far then k else far
def dxR (s far k : Nat) : Int := if s = 1 then (sdR far k : Int) else if s = 3 then -(sdR far k : Int) else 0
def dyR (s far k : Nat) : Int := if s = 2 then (sdR far k : Int) else if s = 4 then -(sdR far k : Int) else 0
def upR (far k : Nat) : Nat := k - sdR far k
set_option maxRecDepth 100000 in
set_option maxHeartbeats 2000000 in
theorem shiftR_ok (p : Int) (s far k : Nat) (hs : s ≤ 4) (hf : far ≤ 7) (hk : k ≤ 16) (w : World) :
    Calls Tryz.prog 154 #[.agg #[.int .i64 (p), .int .i64 (s), .int .i64 (far)], .int .i64 k] w (RetB (.tuple #[.int .i64 (dxR s far k), .int .i64 (dyR s far k), .int .i64 (upR far k), .bool (decide (upR far k ≤ 8))]) w) := by
  have q1 : BoxM (w.alloc (.cells #[.int .i64 (p), .int .i64 (s), .int .i64 (far)] 40)) w.heap.size p s far := World.alloc_heap_new w _
  obtain ⟨c0, c1, c2⟩ := BoxM.cells q1
  have hB : Below w.heap.size w (w.alloc (.cells #[.int .i64 (p), .int .i64 (s), .int .i64 (far)] 40)) := by repeat' (first | (with_reducible exact Below.refl _ _) | (with_reducible assumption) | (with_reducible refine Below.alloc ?_ ?_ _) | (with_reducible refine Below.drew ?_) | (with_reducible refine below_drewN ?_ _) | (with_reducible refine Below.setCell ?_ ?_ _) | go_size)
  obtain ⟨d, hd⟩ : ∃ d, d = sdR far k := ⟨_, rfl⟩
  have hdk : d ≤ k := by rw [hd]; unfold sdR; split <;> omega
  have hd7 : d ≤ 7 := by rw [hd]; unfold sdR; split <;> omega
  have hw1 : IntKind.i64.wrap ((k : Int) - (d : Int)) = (k : Int) - (d : Int) := by rw [IntWalk.i64_in] <;> omega
  have hw2 : IntKind.i64.wrap (-(d : Int)) = -(d : Int) := by rw [IntWalk.i64_in] <;> omega
  have HU := Lib.hid (show (k : Int) - (d : Int) = ((upR far k : Nat) : Int) by unfold upR; rw [← hd]; omega)
  have HDU := Lib.hid (show decide ((k : Int) - (d : Int) ≤ 8) = decide (upR far k ≤ 8) by rw [HU.out, Bool.eq_iff_iff, decide_eq_true_eq, decide_eq_true_eq]; omega)
  have HX := Lib.hid (show dxR s far k = if s = 1 then (d : Int) else if s = 3 then -(d : Int) else 0 by unfold dxR; rw [← hd])
  have HY := Lib.hid (show dyR s far k = if s = 2 then (d : Int) else if s = 4 then -(d : Int) else 0 by unfold dyR; rw [← hd])
  rw [HX.out, HY.out, ← HU.out, ← HDU.out]
  clear HX HY HU HDU
  by_cases hkf : k ≤ far
  · obtain rfl : d = k := by rw [hd]; exact if_pos hkf
    have hkf2 : (d : Int) ≤ (far : Int) := by omega
    have hnl : ¬ far < d := by omega
    clear hd
    go_enter Tryz.func154, Tryz.ntmps154
    rcases (show s = 0 ∨ s = 1 ∨ s = 2 ∨ s = 3 ∨ s = 4 by omega) with rfl | rfl | rfl | rfl | rfl
    all_goals
      go_wp2_with fail
      go_returns
      exact ⟨by simp, hB⟩
  · obtain rfl : d = far := by rw [hd]; exact if_neg hkf
    have hkf2 : ¬ (k : Int) ≤ (d : Int) := by omega
    have hnl : d < k := by omega
    clear hd
    go_enter Tryz.func154, Tryz.ntmps154
    rcases (show s = 0 ∨ s = 1 ∨ s = 2 ∨ s = 3 ∨ s = 4 by omega) with rfl | rfl | rfl | rfl | rfl
    all_goals
      go_wp2_with fail
      go_returns
      exact ⟨by simp, hB⟩
def pieceK (x y z : Int) : Nat → List Sol → Int
  | _, [] => -1
  | i, f :: l => if hasR f x y z = true then i else pieceK x y z (i + 1) l
/-- The piece that has a cell, or -1. -/
def pieceR (ms : List Sol) (x y z : Int) : Int := pieceK x y z 0 ms
set_option maxRecDepth 100000 in
set_option maxHeartbeats 2000000 in
theorem pieceR_ok (ms : List Sol) (v : Value) (x y z : Int) (w : World) (hv : SolsAt w v ms) (hm : ∀ m ∈ ms, Fit m) : Calls Tryz.prog 156 #[v, .int .i64 x, .int .i64 y, .int .i64 z] w (RetB (.int .i64 (pieceR ms x y z)) w) := by
  have HV := Lib.hid hv
  have HM := Lib.hid hm
  obtain ⟨pa, cap, rfl, hmx, _⟩ := hv
  simp only [maxLen] at hmx
  obtain ⟨ans, hans⟩ : ∃ ans, ans = pieceR ms x y z := ⟨_, rfl⟩
  rw [← hans]
  have HA := Lib.hid hans
  clear hans hm
  go_enter Tryz.func156, Tryz.ntmps156
  go_wp2_with fail
  go_loopw [9] (fun c wr => ∃ i : Nat, i ≤ ms.length ∧ c = .int .i64 i ∧ Hid (ans = pieceK x y z i (ms.drop i)) ∧ Below w.heap.size w wr) (fun c _ => ms.length - (intOf c).toNat)
  case atStart => exact ⟨0, by omega, rfl, Lib.hid HA.out, Below.refl _ _⟩
  case round =>
    obtain ⟨i, hi, rfl, HT, hB⟩ := hrel
    by_cases hlt : i < ms.length
    · have hd : decide ((i : Int) < (ms.length : Int)) = true := decide_eq_true (by omega)
      have hii : (i : Int) < (ms.length : Int) := by omega
      have hw1 : IntKind.i64.wrap ((i : Int) + 1) = (i : Int) + 1 := by rw [IntWalk.i64_in] <;> omega
      obtain ⟨m, hmi⟩ : ∃ m, ms[i]? = some m := ⟨_, List.getElem?_eq_getElem hlt⟩
      obtain ⟨b, o, cap', he, hb, hcs⟩ := (HV.out.below hB (Nat.le_refl _)).at hmi
      obtain ⟨rfl, rfl⟩ : pa = some ⟨b, o, none⟩ ∧ cap = cap' := by injection he with e1 e2 e3; exact ⟨e1, e3⟩
      have x0 := hcs 0 (by omega); have x1 := hcs 1 (by omega); have x2 := hcs 2 (by omega); have x3 := hcs 3 (by omega); have x4 := hcs 4 (by omega); have x5 := hcs 5 (by omega); have x6 := hcs 6 (by omega); have x7 := hcs 7 (by omega)
      rw [Nat.add_zero] at x0
      have HE := Lib.hid (show pieceK x y z i (ms.drop i) = if hasR m x y z = true then (i : Int) else pieceK x y z (i + 1) (ms.drop (i + 1)) by
        rw [List.drop_eq_getElem_cons hlt]
        have : ms[i] = m := by rw [List.getElem?_eq_getElem hlt] at hmi; exact Option.some.inj hmi
        rw [this]; rfl)
      have HH := Lib.hid (fun W => hasR_ok m x y z W (HM.out m (List.mem_of_getElem? hmi)))
      obtain ⟨hb2, hhb⟩ : ∃ hb2, hb2 = hasR m x y z := ⟨_, rfl⟩
      rw [← hhb] at HH HE
      clear hcs he hmi hhb
      cases hb2 with
      | true =>
        have HR := Lib.hid (show ans = (i : Int) by rw [HT.out, HE.out]; rfl)
        go_wp2_with fail
        refine (HH.out _).mono ?_
        rintro e w1 ⟨rfl, hb1⟩
        go_wp2_with fail
        go_ret
        exact ⟨by rw [HR.out]; rfl, up hb1 hB⟩
      | false =>
        have HR := Lib.hid (show ans = pieceK x y z (i + 1) (ms.drop (i + 1)) by rw [HT.out, HE.out]; rfl)
        go_wp2_with fail
        refine (HH.out _).mono ?_
        rintro e w1 ⟨rfl, hb1⟩
        go_wp2_with fail
        case roundEnd => exact ⟨⟨i + 1, by omega, by go_num, HR, up hb1 hB⟩, by simp [intOf]; omega⟩
    · obtain rfl : i = ms.length := by omega
      have hd : decide ((ms.length : Int) < (ms.length : Int)) = false := decide_eq_false (by omega)
      have HR := Lib.hid (show ans = -1 by rw [HT.out, List.drop_length]; rfl)
      go_wp2
      go_ret
      exact ⟨by rw [HR.out]; rfl, hB⟩
end Go.Proofs.YtoajocgfmbakjaaGreatDoor
/-
  The reference's IsMove and Stand.
-/
set_option linter.unusedVariables false
set_option linter.unusedSimpArgs false
namespace Go.Proofs.YtoajocgfmbakjaaGreatDoor
open Go Go.RowKit Go.Shelf

set_option maxRecDepth 100000 in
set_option maxHeartbeats 2000000 in
theorem isMoveR_ok (n : Nat) (p s far : Int) (w : World) : Calls Tryz.prog 93 #[.int .i64 n, .agg #[.int .i64 (p), .int .i64 (s), .int .i64 (far)]] w (RetB (.bool (moveB n p s far)) w) := by
  have q1 : BoxM (w.alloc (.cells #[.int .i64 (p), .int .i64 (s), .int .i64 (far)] 40)) w.heap.size p s far := World.alloc_heap_new w _
  obtain ⟨c0, c1, c2⟩ := BoxM.cells q1
  have hB : Below w.heap.size w (w.alloc (.cells #[.int .i64 (p), .int .i64 (s), .int .i64 (far)] 40)) := by repeat' (first | (with_reducible exact Below.refl _ _) | (with_reducible assumption) | (with_reducible refine Below.alloc ?_ ?_ _) | (with_reducible refine Below.drew ?_) | (with_reducible refine below_drewN ?_ _) | (with_reducible refine Below.setCell ?_ ?_ _) | go_size)
  have HM := Lib.hid (show moveB n p s far = (decide (0 ≤ p ∧ p < n) && decide (s = 0 ∧ far = 0 ∨ 1 ≤ s ∧ s ≤ 4 ∧ 1 ≤ far ∧ far ≤ 7)) from rfl)
  obtain ⟨ans, hans⟩ : ∃ ans, ans = moveB n p s far := ⟨_, rfl⟩
  rw [← hans] at HM ⊢
  clear hans
  have no : (¬ (0 ≤ p ∧ p < n) ∨ ¬ (s = 0 ∧ far = 0 ∨ 1 ≤ s ∧ s ≤ 4 ∧ 1 ≤ far ∧ far ≤ 7)) → ans = false := fun h => by
    rw [HM.out]
    rcases h with h | h
    · rw [decide_eq_false h]; rfl
    · rw [decide_eq_false h, Bool.and_false]
  have yes : 0 ≤ p ∧ p < n → (s = 0 ∧ far = 0 ∨ 1 ≤ s ∧ s ≤ 4 ∧ 1 ≤ far ∧ far ≤ 7) → ans = true := fun h k => by
    rw [HM.out, decide_eq_true h, decide_eq_true k]; rfl
  have NO := Lib.hid no
  have YES := Lib.hid yes
  clear no yes HM
  go_enter Tryz.func93, Tryz.ntmps93
  by_cases h1 : p < 0
  · obtain rfl := NO.out (.inl (by omega))
    go_wp2_with fail
    go_ret
    exact ⟨rfl, hB⟩
  · by_cases h2 : (n : Int) ≤ p
    · obtain rfl := NO.out (.inl (by omega))
      go_wp2_with fail
      go_ret
      exact ⟨rfl, hB⟩
    · by_cases h3 : s < 0
      · obtain rfl := NO.out (.inr (by omega))
        go_wp2_with fail
        go_ret
        exact ⟨rfl, hB⟩
      · by_cases h4 : 4 < s
        · obtain rfl := NO.out (.inr (by omega))
          go_wp2_with fail
          go_ret
          exact ⟨rfl, hB⟩
        · by_cases h5 : s = 0
          · subst h5
            by_cases h6 : far = 0
            · subst h6
              obtain rfl := YES.out (by omega) (by omega)
              go_wp2_with fail
              go_ret
              exact ⟨rfl, hB⟩
            · obtain rfl := NO.out (.inr (by omega))
              have h7 : (far == 0) = false := by simpa using h6
              go_wp2_with fail
              go_ret
              exact ⟨by first | rfl | (rw [h7]; rfl), hB⟩
          · have h8 : (s == 0) = false := by simpa using h5
            by_cases h6 : 1 ≤ far
            · by_cases h7 : far ≤ 7
              · obtain rfl := YES.out (by omega) (by omega)
                go_wp2_with fail
                go_ret
                exact ⟨rfl, hB⟩
              · obtain rfl := NO.out (.inr (by omega))
                go_wp2_with fail
                go_ret
                exact ⟨rfl, hB⟩
            · obtain rfl := NO.out (.inr (by omega))
              go_wp2_with fail
              go_ret
              exact ⟨rfl, hB⟩
/-- A cell, moved, leaves the grid at a side. -/
def offAt (f : Sol) (dx dy : Int) (n : Nat) : Bool := hasR f ((n : Int) % 8) ((n : Int) / 8 % 8) ((n : Int) / 64) && (decide (((n : Int) % 8) + dx < 0) || decide (7 < ((n : Int) % 8) + dx) || decide (((n : Int) / 8 % 8) + dy < 0) || decide (7 < ((n : Int) / 8 % 8) + dy))
/-- What a moved piece stands on at a cell. -/
def hitAt (ms : List Sol) (gone : List Int) (p : Nat) (f : Sol) (dx dy : Int) (up n : Nat) : Option Int :=
  if hasR f (((n : Int) % 8) - dx) (((n : Int) / 8 % 8) - dy) (((n : Int) / 64) - (up : Int)) = true then
    (if pieceR ms ((n : Int) % 8) ((n : Int) / 8 % 8) ((n : Int) / 64) ≠ (p : Int) ∧ (pieceR ms ((n : Int) % 8) ((n : Int) / 8 % 8) ((n : Int) / 64) < 0 ∨ pieceR ms ((n : Int) % 8) ((n : Int) / 8 % 8) ((n : Int) / 64) ∉ gone) then some (pieceR ms ((n : Int) % 8) ((n : Int) / 8 % 8) ((n : Int) / 64)) else none) else none
def offK (f : Sol) (dx dy : Int) : Nat → Nat → Bool
  | 0, _ => false
  | k + 1, n => if offAt f dx dy n = true then true else offK f dx dy k (n + 1)
def hitK (ms : List Sol) (gone : List Int) (p : Nat) (f : Sol) (dx dy : Int) (up : Nat) : Nat → Nat → Option (Int × Int)
  | 0, _ => none
  | k + 1, n => match hitAt ms gone p f dx dy up n with
    | some q => some ((n : Int), q)
    | none => hitK ms gone p f dx dy up k (n + 1)
theorem offK_step (f : Sol) (dx dy : Int) {n : Nat} (h : n < 512) : offK f dx dy (512 - n) n = if offAt f dx dy n = true then true else offK f dx dy (512 - (n + 1)) (n + 1) := by
  obtain ⟨j, hj⟩ : ∃ j, 512 - n = j + 1 := ⟨511 - n, by omega⟩
  rw [hj, show 512 - (n + 1) = j by omega]
  rfl
theorem hitK_step (ms : List Sol) (gone : List Int) (p : Nat) (f : Sol) (dx dy : Int) (up : Nat) {n : Nat} (h : n < 512) : hitK ms gone p f dx dy up (512 - n) n = match hitAt ms gone p f dx dy up n with
    | some q => some ((n : Int), q)
    | none => hitK ms gone p f dx dy up (512 - (n + 1)) (n + 1) := by
  obtain ⟨j, hj⟩ : ∃ j, 512 - n = j + 1 := ⟨511 - n, by omega⟩
  rw [hj, show 512 - (n + 1) = j by omega]
  rfl
/-- What a piece stands on at a step. -/
def stepR (ms : List Sol) (gone : List Int) (p : Nat) (f : Sol) (s far k : Nat) : Option (Int × Int) :=
  if offK f (dxR s far k) (dyR s far k) 512 0 = true then some (-1, -1) else hitK ms gone p f (dxR s far k) (dyR s far k) (upR far k) 512 0
def standK (ms : List Sol) (gone : List Int) (p : Nat) (f : Sol) (s far : Nat) : Nat → Nat → Option (Int × Int)
  | 0, _ => none
  | n + 1, k => if upR far k ≤ 8 then (match stepR ms gone p f s far k with | some r => some r | none => standK ms gone p f s far n (k + 1)) else none
/-- What a piece stands on first. -/
def standR (ms : List Sol) (gone : List Int) (p : Nat) (f : Sol) (s far : Nat) : Option (Int × Int) := standK ms gone p f s far 16 1
def standV : Option (Int × Int) → Value
  | some r => .tuple #[.int .i64 r.1, .int .i64 r.2, .bool true]
  | none => .tuple #[.int .i64 0, .int .i64 0, .bool false]
theorem dx_bound (s far k : Nat) (hk : far ≤ 7) : -7 ≤ dxR s far k ∧ dxR s far k ≤ 7 ∧ -7 ≤ dyR s far k ∧ dyR s far k ≤ 7 := by
  have h : sdR far k ≤ 7 := by unfold sdR; split <;> omega
  unfold dxR dyR
  refine ⟨?_, ?_, ?_, ?_⟩ <;> (repeat' split) <;> omega
end Go.Proofs.YtoajocgfmbakjaaGreatDoor
/-
  Steps of a body, cell by cell: mathematics.
-/
set_option linter.unusedVariables false
set_option linter.unusedSimpArgs false
namespace Go.Proofs.YtoajocgfmbakjaaGreatDoor
open Go Go.RowKit

theorem hasR_nat (f : Sol) {x y z : Nat} (hx : x < 8) (hy : y < 8) (hz : z < 8) : hasR f x y z = (f z).testBit (8 * y + x) := by
  unfold hasR
  rw [decide_eq_true ⟨by omega, by omega, by omega, by omega, by omega, by omega⟩, Bool.true_and, Int.toNat_natCast, show (8 * (y : Int) + (x : Int)).toNat = 8 * y + x by omega]
theorem hasR_out (f : Sol) {x y z : Int} (h : ¬(0 ≤ x ∧ x ≤ 7 ∧ 0 ≤ y ∧ y ≤ 7 ∧ 0 ≤ z ∧ z ≤ 7)) : hasR f x y z = false := by
  unfold hasR
  rw [decide_eq_false h, Bool.false_and]
theorem edge_east : ∀ n, n < 64 → (9259542123273814144 : Nat).testBit n = decide (n % 8 = 7) := by decide +kernel
theorem edge_west : ∀ n, n < 64 → (72340172838076673 : Nat).testBit n = decide (n % 8 = 0) := by decide +kernel
theorem mod_bit (x n : Nat) : (x % 18446744073709551616).testBit n = (decide (n < 64) && x.testBit n) := Nat.testBit_mod_two_pow x 64 n
theorem mul2_bit (x n : Nat) : (x * 2).testBit (n + 1) = x.testBit n := by
  rw [Nat.mul_comm]
  have := Nat.testBit_two_pow_mul (i := 1) (j := n + 1) (a := x)
  rw [Nat.pow_one] at this
  rw [this]
  simp
theorem mul2_bit0 (x : Nat) : (x * 2).testBit 0 = false := by simp
theorem east_bit {f : Sol} {x y z : Nat} (hx : x < 8) (hy : y < 8) : (eastF f z).testBit (8 * y + x) = (decide (0 < x) && (f z).testBit (8 * y + x - 1)) := by
  unfold eastF
  rw [mod_bit, decide_eq_true (show 8 * y + x < 64 by omega), Bool.true_and]
  rcases Nat.eq_zero_or_pos (8 * y + x) with h0 | h0
  · have : x = 0 := by omega
    rw [h0, mul2_bit0, this]; rfl
  · obtain ⟨m, hm⟩ : ∃ m, 8 * y + x = m + 1 := ⟨8 * y + x - 1, by omega⟩
    rw [hm, mul2_bit, andN_bit, edge_east m (by omega), Nat.add_sub_cancel]
    by_cases hx0 : x = 0
    · rw [decide_eq_true (show m % 8 = 7 by omega), decide_eq_false (show ¬ 0 < x by omega)]
      simp
    · rw [decide_eq_false (show ¬ m % 8 = 7 by omega), decide_eq_true (show 0 < x by omega)]
      simp
theorem west_bit {f : Sol} {x y z : Nat} (hx : x < 8) (hy : y < 8) (hf : Fit f) : (westF f z).testBit (8 * y + x) = (decide (x < 7) && (f z).testBit (8 * y + x + 1)) := by
  unfold westF
  rw [show (andN (f z) 72340172838076673 / 2).testBit (8 * y + x) = (andN (f z) 72340172838076673).testBit (8 * y + x + 1) from Nat.testBit_div_two _ _, andN_bit]
  by_cases h7 : x = 7
  · by_cases hy7 : 8 * y + x + 1 < 64
    · rw [edge_west _ hy7, decide_eq_true (show (8 * y + x + 1) % 8 = 0 by omega), decide_eq_false (show ¬ x < 7 by omega)]
      simp
    · have : (f z).testBit (8 * y + x + 1) = false := Nat.testBit_lt_two_pow (Nat.lt_of_lt_of_le (hf z) (Nat.pow_le_pow_right (n := 2) (by decide) (show 64 ≤ 8 * y + x + 1 by omega)))
      rw [this]
      simp
  · rw [edge_west _ (by omega), decide_eq_false (show ¬ (8 * y + x + 1) % 8 = 0 by omega), decide_eq_true (show x < 7 by omega)]
    simp
theorem south_bit {f : Sol} {x y z : Nat} (hx : x < 8) (hy : y < 8) : (southF f z).testBit (8 * y + x) = (decide (0 < y) && (f z).testBit (8 * y + x - 8)) := by
  unfold southF
  rw [mod_bit, decide_eq_true (show 8 * y + x < 64 by omega), Bool.true_and, Nat.mul_comm, show (256 : Nat) = 2 ^ 8 from rfl, Nat.testBit_two_pow_mul]
  by_cases h0 : y = 0
  · rw [decide_eq_false (show ¬ 8 * y + x ≥ 8 by omega), decide_eq_false (show ¬ 0 < y by omega)]
    try simp
  · rw [decide_eq_true (show 8 * y + x ≥ 8 by omega), decide_eq_true (show 0 < y by omega)]
theorem north_bit {f : Sol} {x y z : Nat} (hx : x < 8) (hy : y < 8) (hf : Fit f) : (northF f z).testBit (8 * y + x) = (decide (y < 7) && (f z).testBit (8 * y + x + 8)) := by
  unfold northF
  rw [show (256 : Nat) = 2 ^ 8 from rfl, Nat.testBit_div_two_pow]
  by_cases h7 : y = 7
  · have : (f z).testBit (8 + (8 * y + x)) = false := Nat.testBit_lt_two_pow (Nat.lt_of_lt_of_le (hf z) (Nat.pow_le_pow_right (n := 2) (by decide) (show 64 ≤ 8 + (8 * y + x) by omega)))
    rw [Nat.add_comm (8 * y + x) 8, this]
    simp
  · rw [decide_eq_true (show y < 7 by omega), Bool.true_and, Nat.add_comm]
/-- How far a step to a side goes. -/
def sx (s : Nat) : Int := if s = 1 then 1 else if s = 3 then -1 else 0
def sy (s : Nat) : Int := if s = 2 then 1 else if s = 4 then -1 else 0
/-- A step to a side: what stands at a cell stood one cell back. -/
theorem step_has {f : Sol} (hf : Fit f) {s : Nat} (hs1 : 1 ≤ s) (hs : s ≤ 4) {x y z : Int} (hx : 0 ≤ x) (hx7 : x ≤ 7) (hy : 0 ≤ y) (hy7 : y ≤ 7) (hz : 0 ≤ z) (hz7 : z ≤ 7) : hasR (stepF f s) x y z = hasR f (x - sx s) (y - sy s) z := by
  obtain ⟨a, rfl⟩ : ∃ n : Nat, x = n := ⟨x.toNat, by omega⟩
  obtain ⟨b, rfl⟩ : ∃ n : Nat, y = n := ⟨y.toNat, by omega⟩
  obtain ⟨c, rfl⟩ : ∃ n : Nat, z = n := ⟨z.toNat, by omega⟩
  have ha : a < 8 := by omega
  have hb : b < 8 := by omega
  have hc : c < 8 := by omega
  rw [hasR_nat _ ha hb hc]
  rcases (show s = 1 ∨ s = 2 ∨ s = 3 ∨ s = 4 by omega) with rfl | rfl | rfl | rfl
  · show (eastF f c).testBit (8 * b + a) = hasR f ((a : Int) - 1) ((b : Int) - 0) c
    rw [east_bit ha hb]
    by_cases h : a = 0
    · rw [hasR_out f (by omega), decide_eq_false (show ¬ 0 < a by omega)]; rfl
    · obtain ⟨a', rfl⟩ : ∃ a', a = a' + 1 := ⟨a - 1, by omega⟩
      rw [decide_eq_true (show 0 < a' + 1 by omega), Bool.true_and, show (((a' + 1 : Nat) : Int) - 1) = (a' : Int) by omega, Int.sub_zero, hasR_nat f (by omega) hb hc]
      rfl
  · show (southF f c).testBit (8 * b + a) = hasR f ((a : Int) - 0) ((b : Int) - 1) c
    rw [south_bit ha hb]
    by_cases h : b = 0
    · rw [hasR_out f (by omega), decide_eq_false (show ¬ 0 < b by omega)]; rfl
    · obtain ⟨b', rfl⟩ : ∃ b', b = b' + 1 := ⟨b - 1, by omega⟩
      rw [decide_eq_true (show 0 < b' + 1 by omega), Bool.true_and, show (((b' + 1 : Nat) : Int) - 1) = (b' : Int) by omega, Int.sub_zero, hasR_nat f ha (by omega) hc]
      congr 1
      omega
  · show (westF f c).testBit (8 * b + a) = hasR f ((a : Int) - (-1)) ((b : Int) - 0) c
    rw [west_bit ha hb hf]
    by_cases h : a = 7
    · rw [hasR_out f (by omega), decide_eq_false (show ¬ a < 7 by omega)]; rfl
    · rw [decide_eq_true (show a < 7 by omega), Bool.true_and, show ((a : Int) - (-1)) = ((a + 1 : Nat) : Int) by omega, Int.sub_zero, hasR_nat f (by omega) hb hc]
      congr 1
  · show (northF f c).testBit (8 * b + a) = hasR f ((a : Int) - 0) ((b : Int) - (-1)) c
    rw [north_bit ha hb hf]
    by_cases h : b = 7
    · rw [hasR_out f (by omega), decide_eq_false (show ¬ b < 7 by omega)]; rfl
    · rw [decide_eq_true (show b < 7 by omega), Bool.true_and, show ((b : Int) - (-1)) = ((b + 1 : Nat) : Int) by omega, Int.sub_zero, hasR_nat f ha (by omega) hc]
      congr 1
      omega
/-- A step up. -/
theorem up_has (f : Sol) {x y z : Int} (hz : 0 ≤ z) (hz7 : z ≤ 7) : hasR (upF f) x y z = hasR f x y (z - 1) := by
  obtain ⟨c, rfl⟩ : ∃ n : Nat, z = n := ⟨z.toNat, by omega⟩
  by_cases hg : 0 ≤ x ∧ x ≤ 7 ∧ 0 ≤ y ∧ y ≤ 7
  · obtain ⟨h1, h2, h3, h4⟩ := hg
    obtain ⟨a, rfl⟩ : ∃ n : Nat, x = n := ⟨x.toNat, by omega⟩
    obtain ⟨b, rfl⟩ : ∃ n : Nat, y = n := ⟨y.toNat, by omega⟩
    rw [hasR_nat _ (by omega) (by omega) (by omega)]
    unfold upF
    by_cases h : c = 0
    · rw [if_pos h, hasR_out f (by omega)]; simp
    · obtain ⟨c', rfl⟩ : ∃ c', c = c' + 1 := ⟨c - 1, by omega⟩
      rw [if_neg h, show (((c' + 1 : Nat) : Int) - 1) = (c' : Int) by omega, hasR_nat f (by omega) (by omega) (by omega)]
      rfl
  · rw [hasR_out _ (by omega), hasR_out _ (by omega)]
end Go.Proofs.YtoajocgfmbakjaaGreatDoor
/-
  A step to a side loses no cell exactly if none leaves the grid: mathematics.
-/
set_option linter.unusedVariables false
set_option linter.unusedSimpArgs false
namespace Go.Proofs.YtoajocgfmbakjaaGreatDoor
open Go Go.RowKit

/-- How many numbers there are below n for which a test holds. -/
def cn : Nat → (Nat → Bool) → Nat
  | 0, _ => 0
  | n + 1, p => cn n p + (if p n = true then 1 else 0)
theorem bits_cn (x : Nat) : ∀ n, (bitsOf n x).length = cn n fun i => x.testBit i
  | 0 => rfl
  | n + 1 => by
    unfold bitsOf
    rw [List.range_succ, List.filter_append, List.length_append]
    have := bits_cn x n
    unfold bitsOf at this
    rw [this, cn]
    congr 1
    cases h : x.testBit n <;> simp [h]
theorem cn_congr {p q : Nat → Bool} : ∀ n, (∀ i, i < n → p i = q i) → cn n p = cn n q
  | 0, _ => rfl
  | n + 1, h => by rw [cn, cn, cn_congr n fun i hi => h i (by omega), h n (by omega)]
theorem cn_add (p : Nat → Bool) (k : Nat) : ∀ n, cn (k + n) p = cn k p + cn n fun i => p (k + i)
  | 0 => rfl
  | n + 1 => by
    rw [← Nat.add_assoc, cn, cn_add p k n, cn]
    omega
theorem cn_none {p : Nat → Bool} (n : Nat) (h : ∀ i, i < n → p i = false) : cn n p = 0 := by
  induction n with
  | zero => rfl
  | succ n ih => rw [cn, ih fun i hi => h i (by omega), h n (by omega)]; rfl
theorem cn_and (p c : Nat → Bool) : ∀ n, cn n (fun i => c i && p i) ≤ cn n p ∧ (cn n (fun i => c i && p i) = cn n p ↔ ∀ i, i < n → p i = true → c i = true)
  | 0 => ⟨Nat.le_refl _, by simp [cn]⟩
  | n + 1 => by
    obtain ⟨h1, h2⟩ := cn_and p c n
    rw [cn, cn]
    cases hp : p n with
    | false =>
      rw [Bool.and_false]
      refine ⟨h1, ?_⟩
      rw [if_neg Bool.false_ne_true, Nat.add_zero, Nat.add_zero, h2]
      constructor
      · intro h i hi hpi
        by_cases e : i = n
        · rw [e, hp] at hpi; cases hpi
        · exact h i (by omega) hpi
      · exact fun h i hi => h i (by omega)
    | true =>
      rw [Bool.and_true, if_pos rfl]
      cases hc : c n with
      | true =>
        rw [if_pos rfl]
        refine ⟨by omega, ?_⟩
        rw [Nat.add_right_cancel_iff, h2]
        constructor
        · intro h i hi hpi
          by_cases e : i = n
          · rw [e, hc]
          · exact h i (by omega) hpi
        · exact fun h i hi => h i (by omega)
      | false =>
        rw [if_neg Bool.false_ne_true]
        refine ⟨by omega, ?_⟩
        constructor
        · intro h; omega
        · intro h
          have := h n (by omega) hp
          rw [hc] at this
          cases this
theorem cn_at (p : Nat → Bool) {n m : Nat} (h : n = m) : cn n p = cn m p := by rw [h]
theorem cn_off {p : Nat → Bool} {n : Nat} (h : p n = false) : cn (n + 1) p = cn n p := by rw [cn, h]; rfl
/-- Whether a cell's number is none of a side's edge. -/
def inner (s i : Nat) : Bool := if s = 1 then decide (i % 8 ≠ 7) else if s = 2 then decide (i < 56) else if s = 3 then decide (i % 8 ≠ 0) else decide (8 ≤ i)
theorem east_cn (f : Sol) (z : Nat) : (cn 64 fun i => (eastF f z).testBit i) = cn 64 fun i => inner 1 i && (f z).testBit i := by
  have e1 : (cn 64 fun i => (eastF f z).testBit i) = cn (1 + 63) fun i => decide (0 < i % 8) && (f z).testBit (i - 1) := by
    refine cn_congr 64 fun i hi => ?_
    have := east_bit (f := f) (z := z) (show i % 8 < 8 by omega) (show i / 8 < 8 by omega)
    rw [show 8 * (i / 8) + i % 8 = i by omega] at this
    exact this
  rw [e1, cn_add _ 1 63]
  have e2 : (cn 1 fun i => decide (0 < i % 8) && (f z).testBit (i - 1)) = 0 := rfl
  have e3 : (cn (63 + 1) fun i => inner 1 i && (f z).testBit i) = cn 63 fun i => inner 1 i && (f z).testBit i := cn_off (by show (inner 1 63 && _) = false; rw [show inner 1 63 = false from rfl]; rfl)
  rw [e2, cn_at (fun i => inner 1 i && (f z).testBit i) (show 64 = 63 + 1 from rfl), e3, Nat.zero_add]
  refine cn_congr 63 fun i hi => ?_
  rw [Nat.add_sub_cancel_left]
  congr 1
  show decide (0 < (1 + i) % 8) = decide (i % 8 ≠ 7)
  rw [Bool.eq_iff_iff, decide_eq_true_eq, decide_eq_true_eq]
  omega
theorem west_cn {f : Sol} (hf : Fit f) (z : Nat) : (cn 64 fun i => (westF f z).testBit i) = cn 64 fun i => inner 3 i && (f z).testBit i := by
  have e1 : (cn 64 fun i => (westF f z).testBit i) = cn 64 fun i => inner 3 (1 + i) && (f z).testBit (1 + i) := by
    refine cn_congr 64 fun i hi => ?_
    have := west_bit (z := z) (show i % 8 < 8 by omega) (show i / 8 < 8 by omega) hf
    rw [show 8 * (i / 8) + i % 8 = i by omega] at this
    rw [this, Nat.add_comm 1 i]
    congr 1
    show decide (i % 8 < 7) = decide ((i + 1) % 8 ≠ 0)
    rw [Bool.eq_iff_iff, decide_eq_true_eq, decide_eq_true_eq]
    omega
  have e2 := cn_add (fun i => inner 3 i && (f z).testBit i) 1 64
  rw [e1]
  have e3 : (cn 1 fun i => inner 3 i && (f z).testBit i) = 0 := rfl
  rw [e3, Nat.zero_add] at e2
  rw [← e2, cn_at _ (show 1 + 64 = 64 + 1 from rfl)]
  exact cn_off (by show (inner 3 64 && _) = false; rw [show inner 3 64 = false from rfl]; rfl)
theorem south_cn (f : Sol) (z : Nat) : (cn 64 fun i => (southF f z).testBit i) = cn 64 fun i => inner 2 i && (f z).testBit i := by
  have e1 : (cn 64 fun i => (southF f z).testBit i) = cn 64 fun i => decide (0 < i / 8) && (f z).testBit (i - 8) := by
    refine cn_congr 64 fun i hi => ?_
    have := south_bit (f := f) (z := z) (show i % 8 < 8 by omega) (show i / 8 < 8 by omega)
    rw [show 8 * (i / 8) + i % 8 = i by omega] at this
    exact this
  obtain ⟨p1, h1⟩ : ∃ p1 : Nat → Bool, p1 = fun i => decide (0 < i / 8) && (f z).testBit (i - 8) := ⟨_, rfl⟩
  obtain ⟨p2, h2⟩ : ∃ p2 : Nat → Bool, p2 = fun i => inner 2 i && (f z).testBit i := ⟨_, rfl⟩
  rw [← h1] at e1
  rw [← h2]
  have l1 : cn 64 p1 = cn 56 fun i => p1 (8 + i) := by
    rw [cn_at p1 (show 64 = 8 + 56 from rfl), cn_add p1 8 56, cn_none 8 (p := p1) fun i hi => ?_, Nat.zero_add]
    rw [h1]
    show (decide (0 < i / 8) && _) = false
    rw [decide_eq_false (show ¬ 0 < i / 8 by omega)]; rfl
  have r1 : cn 64 p2 = cn 56 p2 := by
    rw [cn_at p2 (show 64 = 56 + 8 from rfl), cn_add p2 56 8, cn_none 8 (p := fun i => p2 (56 + i)) fun i hi => ?_, Nat.add_zero]
    rw [h2]
    show (decide (56 + i < 56) && _) = false
    rw [decide_eq_false (show ¬ 56 + i < 56 by omega)]; rfl
  refine e1.trans (l1.trans (Eq.trans (cn_congr 56 fun i hi => ?_) r1.symm))
  rw [h1, h2]
  show (decide (0 < (8 + i) / 8) && (f z).testBit (8 + i - 8)) = (decide (i < 56) && (f z).testBit i)
  rw [Nat.add_sub_cancel_left, decide_eq_true (show 0 < (8 + i) / 8 by omega), decide_eq_true hi]
theorem north_cn {f : Sol} (hf : Fit f) (z : Nat) : (cn 64 fun i => (northF f z).testBit i) = cn 64 fun i => inner 4 i && (f z).testBit i := by
  have e1 : (cn 64 fun i => (northF f z).testBit i) = cn 64 fun i => decide (i < 56) && (f z).testBit (8 + i) := by
    refine cn_congr 64 fun i hi => ?_
    have := north_bit (z := z) (show i % 8 < 8 by omega) (show i / 8 < 8 by omega) hf
    rw [show 8 * (i / 8) + i % 8 = i by omega] at this
    rw [this, Nat.add_comm 8 i]
    congr 1
    rw [Bool.eq_iff_iff, decide_eq_true_eq, decide_eq_true_eq]
    omega
  obtain ⟨p1, h1⟩ : ∃ p1 : Nat → Bool, p1 = fun i => decide (i < 56) && (f z).testBit (8 + i) := ⟨_, rfl⟩
  obtain ⟨p2, h2⟩ : ∃ p2 : Nat → Bool, p2 = fun i => inner 4 i && (f z).testBit i := ⟨_, rfl⟩
  rw [← h1] at e1
  rw [← h2]
  have l1 : cn 64 p1 = cn 56 p1 := by
    rw [cn_at p1 (show 64 = 56 + 8 from rfl), cn_add p1 56 8, cn_none 8 (p := fun i => p1 (56 + i)) fun i hi => ?_, Nat.add_zero]
    rw [h1]
    show (decide (56 + i < 56) && _) = false
    rw [decide_eq_false (show ¬ 56 + i < 56 by omega)]; rfl
  have r1 : cn 64 p2 = cn 56 fun i => p2 (8 + i) := by
    rw [cn_at p2 (show 64 = 8 + 56 from rfl), cn_add p2 8 56, cn_none 8 (p := p2) fun i hi => ?_, Nat.zero_add]
    rw [h2]
    show (decide (8 ≤ i) && _) = false
    rw [decide_eq_false (show ¬ 8 ≤ i by omega)]; rfl
  refine e1.trans (l1.trans (Eq.trans (cn_congr 56 fun i hi => ?_) r1.symm))
  rw [h1, h2]
  show (decide (i < 56) && (f z).testBit (8 + i)) = (decide (8 ≤ 8 + i) && (f z).testBit (8 + i))
  rw [decide_eq_true hi, decide_eq_true (show 8 ≤ 8 + i by omega)]
theorem step_cn {f : Sol} (hf : Fit f) {s : Nat} (hs1 : 1 ≤ s) (hs : s ≤ 4) (z : Nat) : (cn 64 fun i => (stepF f s z).testBit i) = cn 64 fun i => inner s i && (f z).testBit i := by
  rcases (show s = 1 ∨ s = 2 ∨ s = 3 ∨ s = 4 by omega) with rfl | rfl | rfl | rfl
  · exact east_cn f z
  · exact south_cn f z
  · exact west_cn hf z
  · exact north_cn hf z
theorem cntK_cn (f : Sol) : ∀ k, cntK f (k + 1) = cntK f k + cn 64 fun i => (f k).testBit i := fun k => by
  rw [cntK, bits_cn]
/-- A step to a side loses no cell exactly if none is at the edge. -/
theorem step_keeps {f : Sol} (hf : Fit f) {s : Nat} (hs1 : 1 ≤ s) (hs : s ≤ 4) : ∀ k, cntK (stepF f s) k ≤ cntK f k ∧ (cntK (stepF f s) k = cntK f k ↔ ∀ z, z < k → ∀ i, i < 64 → (f z).testBit i = true → inner s i = true)
  | 0 => ⟨Nat.le_refl _, by simp [cntK]⟩
  | k + 1 => by
    obtain ⟨h1, h2⟩ := step_keeps hf hs1 hs k
    obtain ⟨h3, h4⟩ := cn_and (fun i => (f k).testBit i) (inner s) 64
    rw [cntK_cn, cntK_cn, step_cn hf hs1 hs k]
    refine ⟨by omega, ?_⟩
    constructor
    · intro h z hz
      by_cases e : z = k
      · subst e; exact h4.1 (by omega)
      · exact h2.1 (by omega) z (by omega)
    · intro h
      have e1 := h2.2 fun z hz => h z (by omega)
      have e2 := h4.2 (h k (by omega))
      omega
theorem inner_iff {s x y : Nat} (hs1 : 1 ≤ s) (hs : s ≤ 4) (hx : x < 8) (hy : y < 8) : inner s (8 * y + x) = true ↔ 0 ≤ (x : Int) + sx s ∧ (x : Int) + sx s ≤ 7 ∧ 0 ≤ (y : Int) + sy s ∧ (y : Int) + sy s ≤ 7 := by
  rcases (show s = 1 ∨ s = 2 ∨ s = 3 ∨ s = 4 by omega) with rfl | rfl | rfl | rfl
  · show decide ((8 * y + x) % 8 ≠ 7) = true ↔ 0 ≤ (x : Int) + 1 ∧ (x : Int) + 1 ≤ 7 ∧ 0 ≤ (y : Int) + 0 ∧ (y : Int) + 0 ≤ 7
    rw [decide_eq_true_eq]; omega
  · show decide (8 * y + x < 56) = true ↔ 0 ≤ (x : Int) + 0 ∧ (x : Int) + 0 ≤ 7 ∧ 0 ≤ (y : Int) + 1 ∧ (y : Int) + 1 ≤ 7
    rw [decide_eq_true_eq]; omega
  · show decide ((8 * y + x) % 8 ≠ 0) = true ↔ 0 ≤ (x : Int) + (-1) ∧ (x : Int) + (-1) ≤ 7 ∧ 0 ≤ (y : Int) + 0 ∧ (y : Int) + 0 ≤ 7
    rw [decide_eq_true_eq]; omega
  · show decide (8 ≤ 8 * y + x) = true ↔ 0 ≤ (x : Int) + 0 ∧ (x : Int) + 0 ≤ 7 ∧ 0 ≤ (y : Int) + (-1) ∧ (y : Int) + (-1) ≤ 7
    rw [decide_eq_true_eq]; omega
/-- A step to a side loses no cell exactly if each one stays in the grid. -/
theorem step_cnt {f : Sol} (hf : Fit f) {s : Nat} (hs1 : 1 ≤ s) (hs : s ≤ 4) : cntF (stepF f s) = cntF f ↔ ∀ x y z : Int, hasR f x y z = true → 0 ≤ x + sx s ∧ x + sx s ≤ 7 ∧ 0 ≤ y + sy s ∧ y + sy s ≤ 7 := by
  unfold cntF
  rw [(step_keeps hf hs1 hs 8).2]
  constructor
  · intro h x y z hb
    have hg : 0 ≤ x ∧ x ≤ 7 ∧ 0 ≤ y ∧ y ≤ 7 ∧ 0 ≤ z ∧ z ≤ 7 := Classical.byContradiction fun hn => by
      rw [hasR_out f hn] at hb; cases hb
    obtain ⟨h1, h2, h3, h4, h5, h6⟩ := hg
    obtain ⟨a, rfl⟩ : ∃ n : Nat, x = n := ⟨x.toNat, by omega⟩
    obtain ⟨b, rfl⟩ : ∃ n : Nat, y = n := ⟨y.toNat, by omega⟩
    obtain ⟨c, rfl⟩ : ∃ n : Nat, z = n := ⟨z.toNat, by omega⟩
    rw [hasR_nat f (by omega) (by omega) (by omega)] at hb
    exact (inner_iff hs1 hs (by omega) (by omega)).1 (h c (by omega) (8 * b + a) (by omega) hb)
  · intro h z hz i hi hb
    have e : 8 * (i / 8) + i % 8 = i := by omega
    have h1 := h ((i % 8 : Nat) : Int) ((i / 8 : Nat) : Int) (z : Int) (by rw [hasR_nat f (by omega) (by omega) hz, e]; exact hb)
    have h2 := (inner_iff hs1 hs (show i % 8 < 8 by omega) (show i / 8 < 8 by omega)).2 h1
    rwa [e] at h2
end Go.Proofs.YtoajocgfmbakjaaGreatDoor
/-
  Where a solid stands at each step of a move: mathematics.
-/
set_option linter.unusedVariables false
set_option linter.unusedSimpArgs false
namespace Go.Proofs.YtoajocgfmbakjaaGreatDoor
open Go Go.RowKit

/-- Some steps to a side. -/
def sideI (s : Nat) (f : Sol) : Nat → Sol
  | 0 => f
  | k + 1 => stepF (sideI s f k) s
/-- Some steps up. -/
def upsI (f : Sol) : Nat → Sol
  | 0 => f
  | k + 1 => upF (upsI f k)
theorem sideI_fit {f : Sol} (hf : Fit f) (s : Nat) : ∀ k, Fit (sideI s f k)
  | 0 => hf
  | k + 1 => stepF_fit (sideI_fit hf s k) s
theorem upsI_fit {f : Sol} (hf : Fit f) : ∀ k, Fit (upsI f k)
  | 0 => hf
  | k + 1 => upF_fit (upsI_fit hf k)
def inG (x y z : Int) : Prop := 0 ≤ x ∧ x ≤ 7 ∧ 0 ≤ y ∧ y ≤ 7 ∧ 0 ≤ z ∧ z ≤ 7
theorem hasR_in {f : Sol} {x y z : Int} (h : hasR f x y z = true) : inG x y z := Classical.byContradiction fun hn => by
  rw [hasR_out f hn] at h; cases h
/-- What stands at a cell behind some steps to a side stood that much back. -/
theorem side_has {f : Sol} (hf : Fit f) {s : Nat} (hs1 : 1 ≤ s) (hs : s ≤ 4) : ∀ (k : Nat) (x y z : Int), hasR (sideI s f k) x y z = true ↔ inG x y z ∧ hasR f (x - k * sx s) (y - k * sy s) z = true
  | 0, x, y, z => by
    show hasR f x y z = true ↔ _
    rw [show x - ((0 : Nat) : Int) * sx s = x by simp, show y - ((0 : Nat) : Int) * sy s = y by simp]
    exact ⟨fun h => ⟨hasR_in h, h⟩, fun h => h.2⟩
  | k + 1, x, y, z => by
    have e1 : x - ((k + 1 : Nat) : Int) * sx s = x - sx s - (k : Int) * sx s := by rw [Int.natCast_add, Int.add_mul]; omega
    have e2 : y - ((k + 1 : Nat) : Int) * sy s = y - sy s - (k : Int) * sy s := by rw [Int.natCast_add, Int.add_mul]; omega
    rw [e1, e2]
    have ih := side_has hf hs1 hs k (x - sx s) (y - sy s) z
    constructor
    · intro h
      have hg := hasR_in h
      obtain ⟨h1, h2, h3, h4, h5, h6⟩ := id hg
      rw [show hasR (sideI s f (k + 1)) x y z = hasR (stepF (sideI s f k) s) x y z from rfl, step_has (sideI_fit hf s k) hs1 hs h1 h2 h3 h4 h5 h6] at h
      exact ⟨hg, (ih.1 h).2⟩
    · rintro ⟨hg, h⟩
      obtain ⟨h1, h2, h3, h4, h5, h6⟩ := hg
      rw [show hasR (sideI s f (k + 1)) x y z = hasR (stepF (sideI s f k) s) x y z from rfl, step_has (sideI_fit hf s k) hs1 hs h1 h2 h3 h4 h5 h6]
      refine ih.2 ⟨?_, h⟩
      obtain ⟨j1, j2, j3, j4, j5, j6⟩ := hasR_in h
      rcases (show s = 1 ∨ s = 2 ∨ s = 3 ∨ s = 4 by omega) with rfl | rfl | rfl | rfl
      · rw [show sx 1 = 1 from rfl] at *; rw [show sy 1 = 0 from rfl] at *
        unfold inG; omega
      · rw [show sx 2 = 0 from rfl] at *; rw [show sy 2 = 1 from rfl] at *
        unfold inG; omega
      · rw [show sx 3 = -1 from rfl] at *; rw [show sy 3 = 0 from rfl] at *
        unfold inG; omega
      · rw [show sx 4 = 0 from rfl] at *; rw [show sy 4 = -1 from rfl] at *
        unfold inG; omega
/-- .. and behind some steps up that much lower. -/
theorem ups_has (f : Sol) : ∀ (k : Nat) (x y z : Int), hasR (upsI f k) x y z = true ↔ inG x y z ∧ hasR f x y (z - k) = true
  | 0, x, y, z => by
    show hasR f x y z = true ↔ _
    rw [show z - ((0 : Nat) : Int) = z by simp]
    exact ⟨fun h => ⟨hasR_in h, h⟩, fun h => h.2⟩
  | k + 1, x, y, z => by
    have ih := ups_has f k x y (z - 1)
    rw [show z - ((k + 1 : Nat) : Int) = z - 1 - (k : Int) by omega]
    constructor
    · intro h
      have hg := hasR_in h
      obtain ⟨h1, h2, h3, h4, h5, h6⟩ := id hg
      rw [show hasR (upsI f (k + 1)) x y z = hasR (upF (upsI f k)) x y z from rfl, up_has _ h5 h6] at h
      exact ⟨hg, (ih.1 h).2⟩
    · rintro ⟨hg, h⟩
      obtain ⟨h1, h2, h3, h4, h5, h6⟩ := hg
      rw [show hasR (upsI f (k + 1)) x y z = hasR (upF (upsI f k)) x y z from rfl, up_has _ h5 h6]
      obtain ⟨j1, j2, j3, j4, j5, j6⟩ := hasR_in h
      exact ih.2 ⟨⟨h1, h2, h3, h4, by omega, by omega⟩, h⟩
/-- No cell of a solid, moved so far, leaves the grid at a side. -/
def stays (f : Sol) (dx dy : Int) : Prop := ∀ x y z : Int, hasR f x y z = true → 0 ≤ x + dx ∧ x + dx ≤ 7 ∧ 0 ≤ y + dy ∧ y + dy ≤ 7
/-- The body at a step to a side has all cells exactly if none has left. -/
theorem side_cnt {f : Sol} (hf : Fit f) {s : Nat} (hs1 : 1 ≤ s) (hs : s ≤ 4) {k : Nat} (hk : stays f (k * sx s) (k * sy s)) :
    cntF (sideI s f (k + 1)) = cntF (sideI s f k) ↔ stays f ((k + 1 : Nat) * sx s) ((k + 1 : Nat) * sy s) := by
  show cntF (stepF (sideI s f k) s) = cntF (sideI s f k) ↔ _
  rw [step_cnt (sideI_fit hf s k) hs1 hs]
  have e1 : ((k + 1 : Nat) : Int) * sx s = (k : Int) * sx s + sx s := by rw [Int.natCast_add, Int.add_mul]; omega
  have e2 : ((k + 1 : Nat) : Int) * sy s = (k : Int) * sy s + sy s := by rw [Int.natCast_add, Int.add_mul]; omega
  constructor
  · intro h x y z hb
    obtain ⟨j1, j2, j3, j4, j5, j6⟩ := hasR_in hb
    obtain ⟨i1, i2, i3, i4⟩ := hk x y z hb
    have := h (x + k * sx s) (y + k * sy s) z ((side_has hf hs1 hs k _ _ _).2 ⟨⟨i1, i2, i3, i4, j5, j6⟩, by
      rw [show x + (k : Int) * sx s - (k : Int) * sx s = x by omega, show y + (k : Int) * sy s - (k : Int) * sy s = y by omega]; exact hb⟩)
    rw [e1, e2]
    omega
  · intro h x y z hb
    obtain ⟨_, h2⟩ := (side_has hf hs1 hs k x y z).1 hb
    have := h _ _ _ h2
    rw [e1, e2] at this
    omega
/-- As long as none has left, all cells are there. -/
theorem side_all {f : Sol} (hf : Fit f) {s : Nat} (hs1 : 1 ≤ s) (hs : s ≤ 4) : ∀ {k : Nat}, (∀ j, j ≤ k → stays f (j * sx s) (j * sy s)) → cntF (sideI s f k) = cntF f
  | 0, _ => rfl
  | k + 1, h => by
    rw [(side_cnt hf hs1 hs (h k (by omega))).2 (h (k + 1) (Nat.le_refl _))]
    exact side_all hf hs1 hs fun j hj => h j (by omega)
end Go.Proofs.YtoajocgfmbakjaaGreatDoor
/-
  What a moved piece stands on first, cell by cell: mathematics.
-/
set_option linter.unusedVariables false
set_option linter.unusedSimpArgs false
namespace Go.Proofs.YtoajocgfmbakjaaGreatDoor
open Go Go.RowKit

/-- Whether a body has the cell with a number. -/
def cellB (f : Sol) (n : Nat) : Bool := (f (n / 64)).testBit (n % 64)
theorem has_cellB (f : Sol) {n : Nat} (h : n < 512) : hasR f ((n : Int) % 8) ((n : Int) / 8 % 8) ((n : Int) / 64) = cellB f n := by
  have := hasR_nat f (x := n % 8) (y := n / 8 % 8) (z := n / 64) (by omega) (by omega) (by omega)
  rw [show ((n % 8 : Nat) : Int) = (n : Int) % 8 by omega, show ((n / 8 % 8 : Nat) : Int) = (n : Int) / 8 % 8 by omega, show ((n / 64 : Nat) : Int) = (n : Int) / 64 by omega] at this
  rw [this]
  unfold cellB
  congr 1
  omega
theorem lowB_spec {x : Nat} (hx : x < 18446744073709551616) (h0 : x ≠ 0) : lowB x < 64 ∧ x.testBit (lowB x) = true ∧ ∀ i, i < lowB x → x.testBit i = false := by
  obtain ⟨m, hm, hk⟩ := Lib.ctzFrom_spec 64 x (by omega) hx
  have e : lowB x = Lib.ctzFrom 64 x := by unfold lowB Lib.ctz; rw [if_neg h0]
  rw [← e] at hm hk
  clear e
  generalize lowB x = k at hm hk ⊢
  refine ⟨hk, ?_, fun i hi => ?_⟩
  · rw [hm, Nat.mul_comm, Nat.testBit_mul_two_pow]
    simp
  · rw [hm, Nat.mul_comm, Nat.testBit_mul_two_pow, decide_eq_false (by omega)]
    rfl
theorem leastN_spec {g : Sol} (hg : Fit g) (h : emptyS g = false) : leastN g < 512 ∧ cellB g (leastN g) = true ∧ ∀ m, m < leastN g → cellB g m = false := by
  obtain ⟨h1, h2, h3⟩ := leastZ_spec h
  obtain ⟨k1, k2, k3⟩ := lowB_spec (hg _) h2
  unfold leastN
  refine ⟨by omega, ?_, fun m hm => ?_⟩
  · unfold cellB
    rw [show (64 * leastZ g + lowB (g (leastZ g))) / 64 = leastZ g by omega, show (64 * leastZ g + lowB (g (leastZ g))) % 64 = lowB (g (leastZ g)) by omega]
    exact k2
  · unfold cellB
    by_cases e : m / 64 = leastZ g
    · rw [e]
      exact k3 _ (by omega)
    · rw [h3 (m / 64) (by omega)]
      simp
theorem hitK_none {ms : List Sol} {gone : List Int} {p : Nat} {f : Sol} {dx dy : Int} {up : Nat} : ∀ (k n : Nat), (∀ m, n ≤ m → m < n + k → hitAt ms gone p f dx dy up m = none) → hitK ms gone p f dx dy up k n = none
  | 0, n, _ => rfl
  | k + 1, n, h => by
    rw [hitK, h n (Nat.le_refl _) (by omega)]
    exact hitK_none k (n + 1) fun m h1 h2 => h m (by omega) (by omega)
theorem hitK_some {ms : List Sol} {gone : List Int} {p : Nat} {f : Sol} {dx dy : Int} {up m : Nat} {q : Int} (hm : hitAt ms gone p f dx dy up m = some q) : ∀ (k n : Nat), n ≤ m → m < n + k → (∀ j, n ≤ j → j < m → hitAt ms gone p f dx dy up j = none) → hitK ms gone p f dx dy up k n = some ((m : Int), q)
  | 0, n, h1, h2, _ => by omega
  | k + 1, n, h1, h2, h => by
    by_cases e : n = m
    · subst e
      rw [hitK, hm]
    · rw [hitK, h n (Nat.le_refl _) (by omega)]
      exact hitK_some hm k (n + 1) (by omega) (by omega) fun j h3 h4 => h j (by omega) h4
/-- The piece that has a cell. -/
theorem piece_own (ms : List Sol) {n : Nat} (hn : n < 512) : pieceR ms ((n : Int) % 8) ((n : Int) / 8 % 8) ((n : Int) / 64) = ownP ms (n / 64) (n % 64) := by
  have key : ∀ (k i : Nat), i + k = ms.length → pieceK ((n : Int) % 8) ((n : Int) / 8 % 8) ((n : Int) / 64) i (ms.drop i) = ownK ms (n / 64) (n % 64) k i := by
    intro k
    induction k with
    | zero => intro i hi; rw [List.drop_of_length_le (by omega)]; rfl
    | succ k ih =>
      intro i hi
      have hlt : i < ms.length := by omega
      rw [List.drop_eq_getElem_cons hlt, pieceK, ownK, List.getElem?_eq_getElem hlt, has_cellB _ hn, ih (i + 1) (by omega)]
      rfl
  have := key ms.length 0 (by omega)
  rw [List.drop_zero] at this
  exact this
theorem own_spec (ms : List Sol) (z r : Nat) : (ownP ms z r = -1 ∧ ∀ (j : Nat) (m : Sol), ms[j]? = some m → (m z).testBit r = false) ∨ ∃ (j : Nat) (m : Sol), ownP ms z r = (j : Int) ∧ ms[j]? = some m ∧ (m z).testBit r = true := by
  have key : ∀ (k i : Nat), i + k = ms.length → (ownK ms z r k i = -1 ∧ ∀ (j : Nat) (m : Sol), i ≤ j → ms[j]? = some m → (m z).testBit r = false) ∨ ∃ (j : Nat) (m : Sol), ownK ms z r k i = (j : Int) ∧ ms[j]? = some m ∧ (m z).testBit r = true := by
    intro k
    induction k with
    | zero =>
      intro i hi
      refine .inl ⟨rfl, fun j m hj hm => ?_⟩
      have := (List.getElem?_eq_some_iff.1 hm).1
      omega
    | succ k ih =>
      intro i hi
      have hlt : i < ms.length := by omega
      rw [ownK, List.getElem?_eq_getElem hlt]
      dsimp only
      by_cases hb : (ms[i] z).testBit r = true
      · rw [if_pos hb]
        exact .inr ⟨i, ms[i], rfl, List.getElem?_eq_getElem hlt, hb⟩
      · rw [if_neg hb]
        rcases ih (i + 1) (by omega) with ⟨h1, h2⟩ | h
        · refine .inl ⟨h1, fun j m hj hm => ?_⟩
          by_cases e : j = i
          · subst e
            rw [List.getElem?_eq_getElem hlt] at hm
            cases hm
            simpa using hb
          · exact h2 j m (by omega) hm
        · exact .inr h
  rcases key ms.length 0 (by omega) with ⟨h1, h2⟩ | h
  · exact .inl ⟨h1, fun j m hm => h2 j m (by omega) hm⟩
  · exact .inr h
/-- A cell is one of what has not gone: by its piece. -/
theorem there_own {ms : List Sol} (hm : ∀ m ∈ ms, Fit m) (ha : Apart ms) {s z r : Nat} (hz : z < 8) (hr : r < 64) : (restF ms s z).testBit r = true ↔ ∀ j : Nat, ownP ms z r = (j : Int) → s.testBit j = false := by
  rw [restF_bit hm]
  constructor
  · rintro ⟨_, h⟩ j hj
    rcases own_spec ms z r with ⟨h1, _⟩ | ⟨j', m, h1, h2, h3⟩
    · rw [h1] at hj; omega
    · have : j' = j := by rw [h1] at hj; omega
      subst this
      cases hb : s.testBit j' with
      | false => rfl
      | true => rw [h j' hb m h2] at h3; cases h3
  · intro h
    refine ⟨hr, fun q hq m hmq => ?_⟩
    cases hb : (m z).testBit r with
    | false => rfl
    | true =>
      rcases own_spec ms z r with ⟨h1, h2⟩ | ⟨j', m', h1, h2, h3⟩
      · rw [h2 q m hmq] at hb; cases hb
      · by_cases e : j' = q
        · subst e
          rw [h j' h1] at hq
          cases hq
        · have := ha j' q m' m e h2 hmq
          rw [touch_iff.2 ⟨z, r, hz, h3, hb⟩] at this
          cases this
/-- A cell at which a moved piece stands on something. -/
theorem hit_val {ms : List Sol} (hm : ∀ m ∈ ms, Fit m) (ha : Apart ms) {g p : Nat} (hg : g < 65536) {f b : Sol} {dx dy : Int} {up n : Nat} (hn : n < 512)
    (hb : ∀ x y z : Int, inG x y z → (hasR b x y z = true ↔ hasR f (x - dx) (y - dy) (z - up) = true)) :
    hitAt ms ((listS g).map fun x : Nat => (x : Int)) p f dx dy up n = if cellB (meetF b (restF ms (g ||| 2 ^ p))) n = true then some (ownP ms (n / 64) (n % 64)) else none := by
  have hin : inG ((n : Int) % 8) ((n : Int) / 8 % 8) ((n : Int) / 64) := by unfold inG; omega
  have h1 := hb _ _ _ hin
  rw [has_cellB b hn] at h1
  have h2 : cellB (meetF b (restF ms (g ||| 2 ^ p))) n = true ↔ cellB b n = true ∧ ∀ j : Nat, ownP ms (n / 64) (n % 64) = (j : Int) → (g ||| 2 ^ p).testBit j = false := by
    rw [← there_own hm ha (show n / 64 < 8 by omega) (show n % 64 < 64 by omega)]
    unfold cellB meetF
    rw [Nat.testBit_and, Bool.and_eq_true]
  have h3 : (ownP ms (n / 64) (n % 64) ≠ (p : Int) ∧ (ownP ms (n / 64) (n % 64) < 0 ∨ ownP ms (n / 64) (n % 64) ∉ ((listS g).map fun x : Nat => (x : Int)))) ↔ ∀ j : Nat, ownP ms (n / 64) (n % 64) = (j : Int) → (g ||| 2 ^ p).testBit j = false := by
    rcases own_spec ms (n / 64) (n % 64) with ⟨k1, _⟩ | ⟨j', m', k1, _, _⟩
    · rw [k1]
      exact ⟨fun _ j hj => by omega, fun _ => ⟨by omega, .inl (by omega)⟩⟩
    · rw [k1]
      have hmem : ((j' : Nat) : Int) ∈ ((listS g).map fun x : Nat => (x : Int)) ↔ g.testBit j' = true := by
        rw [List.mem_map]
        constructor
        · rintro ⟨y, hy, e⟩
          have : y = j' := by omega
          rw [← this]
          exact (mem_listS hg).1 hy
        · exact fun h => ⟨j', (mem_listS hg).2 h, rfl⟩
      rw [hmem]
      constructor
      · rintro ⟨h4, h5⟩ j hj
        have : j = j' := by omega
        subst this
        rw [or_pow_bit, Bool.or_eq_false_iff]
        refine ⟨?_, decide_eq_false fun e => h4 (by rw [e])⟩
        rcases h5 with h5 | h5
        · omega
        · simpa using h5
      · intro h
        have h6 := h j' rfl
        rw [or_pow_bit, Bool.or_eq_false_iff] at h6
        refine ⟨fun e => ?_, .inr (by rw [h6.1]; simp)⟩
        have : p = j' := by omega
        exact of_decide_eq_false h6.2 this
  unfold hitAt
  rw [piece_own ms hn]
  by_cases hc : cellB b n = true
  · rw [if_pos (h1.1 hc)]
    by_cases hd : ∀ j : Nat, ownP ms (n / 64) (n % 64) = (j : Int) → (g ||| 2 ^ p).testBit j = false
    · rw [if_pos (h3.2 hd), if_pos (h2.2 ⟨hc, hd⟩)]
    · rw [if_neg fun h => hd (h3.1 h), if_neg fun h => hd (h2.1 h).2]
  · rw [if_neg fun h => hc (h1.2 h), if_neg fun h => hc (h2.1 h).1]
/-- The first cell at which a moved piece stands on something. -/
theorem hit_first {ms : List Sol} (hm : ∀ m ∈ ms, Fit m) (ha : Apart ms) {g p : Nat} (hg : g < 65536) {f b : Sol} (hbf : Fit b) {dx dy : Int} {up : Nat}
    (hb : ∀ x y z : Int, inG x y z → (hasR b x y z = true ↔ hasR f (x - dx) (y - dy) (z - up) = true)) :
    hitK ms ((listS g).map fun x : Nat => (x : Int)) p f dx dy up 512 0 = if touchB b (restF ms (g ||| 2 ^ p)) = true then some (((leastN (meetF b (restF ms (g ||| 2 ^ p))) : Nat) : Int), ownP ms (leastZ (meetF b (restF ms (g ||| 2 ^ p)))) (lowB (meetF b (restF ms (g ||| 2 ^ p)) (leastZ (meetF b (restF ms (g ||| 2 ^ p))))))) else none := by
  obtain ⟨t, ht⟩ : ∃ t, t = meetF b (restF ms (g ||| 2 ^ p)) := ⟨_, rfl⟩
  have htf : Fit t := by rw [ht]; exact fun i => Nat.lt_of_le_of_lt Nat.and_le_left (hbf i)
  have hv : ∀ n, n < 512 → hitAt ms ((listS g).map fun x : Nat => (x : Int)) p f dx dy up n = if cellB t n = true then some (ownP ms (n / 64) (n % 64)) else none := fun n hn => by
    rw [ht]; exact hit_val hm ha hg hn hb
  rw [show touchB b (restF ms (g ||| 2 ^ p)) = !emptyS t by rw [ht]; rfl, ← ht]
  cases he : emptyS t with
  | true =>
    rw [if_neg (by simp)]
    refine hitK_none 512 0 fun m _ h2 => ?_
    rw [hv m (by omega), if_neg]
    unfold cellB
    rw [empty_iff.1 he (m / 64) (by omega)]
    simp
  | false =>
    rw [if_pos (show (!false) = true from rfl)]
    obtain ⟨k1, k2, k3⟩ := leastN_spec htf he
    have e1 : leastN t / 64 = leastZ t ∧ leastN t % 64 = lowB (t (leastZ t)) := by
      obtain ⟨h1, h2, _⟩ := leastZ_spec he
      have := (lowB_spec (htf _) h2).1
      unfold leastN
      omega
    refine hitK_some ?_ 512 0 (by omega) (by omega) fun j _ hj => ?_
    · rw [hv _ k1, if_pos k2, e1.1, e1.2]
    · rw [hv j (by omega), if_neg (by rw [k3 j hj]; simp)]
end Go.Proofs.YtoajocgfmbakjaaGreatDoor
