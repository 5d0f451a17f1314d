/-
  Turns as signed permutations; what a turned solid has.
-/
import Derived.Test.YtadkaplafaeebaaGreatDoorPkUQ
import Derived.Test.YtadkaplafaeebaaGreatDoorPkIQ
import Derived.Test.YtadkaplafaeebaaGreatDoorPkEQ
import Derived.Test.YtadkaplafaeebaaGreatDoorPkFQ
import Derived.Test.YtadkaplafaeebaaGreatDoorPkGQ
import Derived.Test.YtadkaplafaeebaaGreatDoorPkRQ
set_option linter.unusedVariables false
set_option linter.unusedSimpArgs false
namespace Go.Proofs.YtadkaplafaeebaaGreatDoor
open Go Go.RowKit

abbrev Sg := (Nat × Bool) × (Nat × Bool) × (Nat × Bool)
def coor (c : I3) (i : Nat) : Int := match i with | 0 => c.1 | 1 => c.2.1 | _ => c.2.2
def pk (b : Int) (c : I3) (q : Nat × Bool) : Int := if q.2 then b - coor c q.1 else coor c q.1
def ap (b : Int) (s : Sg) (c : I3) : I3 := (pk b c s.1, pk b c s.2.1, pk b c s.2.2)
def sel (s : Sg) (i : Nat) : Nat × Bool := match i with | 0 => s.1 | 1 => s.2.1 | _ => s.2.2
def through (s : Sg) (p : Nat × Bool) : Nat × Bool := ((sel s p.1).1, xor p.2 (sel s p.1).2)
def cmp2 (s1 s2 : Sg) : Sg := (through s2 s1.1, through s2 s1.2.1, through s2 s1.2.2)
theorem coor_ap (b : Int) (s : Sg) (c : I3) (i : Nat) : coor (ap b s c) i = pk b c (sel s i) := by
  unfold coor sel ap
  split <;> rfl
theorem pk_ap (b : Int) (s : Sg) (c : I3) (p : Nat × Bool) : pk b (ap b s c) p = pk b c (through s p) := by
  unfold through
  obtain ⟨i, f⟩ := p
  simp only [pk, coor_ap]
  cases f <;> cases (sel s i).2 <;> simp <;> omega
theorem ap_ap (b : Int) (s1 s2 : Sg) (c : I3) : ap b s1 (ap b s2 c) = ap b (cmp2 s1 s2) c := by
  show (pk b (ap b s2 c) s1.1, pk b (ap b s2 c) s1.2.1, pk b (ap b s2 c) s1.2.2) = _
  rw [pk_ap, pk_ap, pk_ap]
  rfl
def sgRoll : Nat → Sg
  | 1 => ((0, false), (2, true), (1, false))
  | 2 => ((0, false), (1, true), (2, true))
  | 3 => ((0, false), (2, false), (1, true))
  | 4 => ((2, false), (1, false), (0, true))
  | 5 => ((2, true), (1, false), (0, false))
  | _ => ((0, false), (1, false), (2, false))
def sgUp : Sg := ((1, true), (0, false), (2, false))
def sgUpN : Nat → Sg → Sg
  | 0, s => s
  | n + 1, s => cmp2 sgUp (sgUpN n s)
def sgT (t : Nat) : Sg := sgUpN (t % 4) (sgRoll (t / 4))
theorem roll_ap (b : Int) (k : Nat) (c : I3) (h : k < 6) : rollI b k c = ap b (sgRoll k) c := by
  obtain ⟨x, y, z⟩ := c
  rcases (show k = 0 ∨ k = 1 ∨ k = 2 ∨ k = 3 ∨ k = 4 ∨ k = 5 by omega) with rfl | rfl | rfl | rfl | rfl | rfl <;> rfl
theorem upN_ap (b : Int) (s : Sg) (c : I3) : ∀ n, upN b n (ap b s c) = ap b (sgUpN n s) c
  | 0 => rfl
  | n + 1 => by
    unfold upN sgUpN
    rw [upN_ap b s c n, ← ap_ap]
    rfl
theorem turn_ap (b : Int) (t : Nat) (c : I3) (h : t < 24) : turnI b t c = ap b (sgT t) c := by
  unfold turnI sgT
  rw [roll_ap b (t / 4) c (by omega), upN_ap]
theorem has_set (g : Sol) (c d : Cl) : hasC (setC g c) d = (hasC g d || decide (d = c)) := by
  unfold hasC setC up8
  by_cases hz : cZ d = cZ c
  · rw [if_pos hz, Nat.testBit_or, ← hz]
    unfold bitN
    rw [Nat.testBit_two_pow]
    congr 1
    refine decide_eq_decide.2 ⟨fun h => Fin.ext ?_, fun h => by rw [h]⟩
    unfold cX cY cZ at *
    omega
  · rw [if_neg hz]
    have : ¬ d = c := fun e => hz (by rw [e])
    simp [this]
theorem has_solOf (l : List Cl) (d : Cl) : hasC (solOf l) d = decide (d ∈ l) := by
  have : ∀ (l : List Cl) (g : Sol), hasC (l.foldl setC g) d = (hasC g d || decide (d ∈ l)) := by
    intro l
    induction l with
    | nil => intro g; simp
    | cons c l ih =>
      intro g
      rw [List.foldl_cons, ih, has_set]
      cases hasC g d <;> simp [List.mem_cons]
  have h := this l (fun _ => 0)
  rw [show hasC (fun _ => 0) d = false by simp [hasC]] at h
  simpa [solOf] using h
end Go.Proofs.YtadkaplafaeebaaGreatDoor
/-
  Turned solids: which cells they have; what turns of turns make.
-/
set_option linter.unusedVariables false
set_option linter.unusedSimpArgs false
namespace Go.Proofs.YtadkaplafaeebaaGreatDoor
open Go Go.RowKit

theorem eq_has {f g : Sol} (hf : Fit f) (hg : Fit g) (h : ∀ c, hasC f c = hasC g c) : eqS f g = true := by
  have key : ∀ k, k < 8 → f k = g k := fun k hk => by
    apply Nat.eq_of_testBit_eq
    intro i
    by_cases hi : i < 64
    · have h1 := h ⟨64 * k + i, by omega⟩
      unfold hasC cX cY cZ at h1
      simp only at h1
      rwa [show (64 * k + i) / 64 = k by omega, show 8 * ((64 * k + i) / 8 % 8) + (64 * k + i) % 8 = i by omega] at h1
    · have big : ∀ x : Nat, x < 18446744073709551616 → x.testBit i = false := fun x hx =>
        Nat.testBit_lt_two_pow (Nat.lt_of_lt_of_le hx (by rw [show (18446744073709551616 : Nat) = 2 ^ 64 by decide]; exact Nat.pow_le_pow_right (by omega) (by omega)))
      rw [big _ (hf k), big _ (hg k)]
  unfold eqS
  exact decide_eq_true ⟨key 0 (by omega), key 1 (by omega), key 2 (by omega), key 3 (by omega), key 4 (by omega), key 5 (by omega), key 6 (by omega), key 7 (by omega)⟩
theorem mem_cells (f : Sol) (d : Cl) : d ∈ cellsL f ↔ hasC f d = true := by
  unfold cellsL restL planeL bitsOf hasC
  rw [List.mem_flatMap]
  constructor
  · rintro ⟨i, hi, hd⟩
    obtain ⟨b, hb, rfl⟩ := List.mem_map.1 hd
    obtain ⟨hb1, hb2⟩ := List.mem_filter.1 hb
    have hb3 := List.mem_range.1 hb1
    have hi2 : i < 8 := by simpa using hi
    unfold ci cX cY cZ
    simp only
    rw [show (64 * i + b) % 512 = 64 * i + b by omega, show (64 * i + b) / 64 = i by omega, show 8 * ((64 * i + b) / 8 % 8) + (64 * i + b) % 8 = b by omega]
    exact hb2
  · intro h
    refine ⟨cZ d, ?_, List.mem_map.2 ⟨8 * cY d + cX d, List.mem_filter.2 ⟨List.mem_range.2 ?_, h⟩, ?_⟩⟩
    · have := d.2
      unfold cZ
      simp
      omega
    · unfold cX cY
      omega
    · apply Fin.ext
      have := d.2
      unfold ci cX cY cZ
      simp only
      omega
theorem has_turned (f : Sol) (t : Nat) (d : Cl) : hasC (turnedF f t) d = true ↔ ∃ c, hasC f c = true ∧ turnC t c = d := by
  unfold turnedF
  rw [has_solOf, decide_eq_true_eq, List.mem_map]
  exact ⟨fun ⟨c, h1, h2⟩ => ⟨c, (mem_cells f c).1 h1, h2⟩, fun ⟨c, h1, h2⟩ => ⟨c, (mem_cells f c).2 h1, h2⟩⟩
end Go.Proofs.YtadkaplafaeebaaGreatDoor
/-
  Solids as sets of places: what moves, turns and the corner make of them.
-/
set_option linter.unusedVariables false
set_option linter.unusedSimpArgs false
set_option maxRecDepth 100000
namespace Go.Proofs.YtadkaplafaeebaaGreatDoor
open Go Go.RowKit

theorem shadow_bit (f : Sol) (i : Nat) : ∀ k, (shadow f k).testBit i = true ↔ ∃ z, z < k ∧ (f z).testBit i = true
  | 0 => by simp [shadow]
  | k + 1 => by
    unfold shadow
    rw [Nat.testBit_or, Bool.or_eq_true, shadow_bit f i k]
    constructor
    · rintro (⟨z, h1, h2⟩ | h)
      · exact ⟨z, by omega, h2⟩
      · exact ⟨k, by omega, h⟩
    · rintro ⟨z, h1, h2⟩
      by_cases e : z = k
      · subst e; exact .inr h2
      · exact .inl ⟨z, by omega, h2⟩
theorem rowAt_bit (s k i : Nat) : (rowAt s k).testBit i = (decide (i < 8) && s.testBit (8 * k + i)) := by
  unfold rowAt
  rw [show (256 : Nat) = 2 ^ 8 by decide, Nat.testBit_mod_two_pow, Nat.testBit_div_two_pow, Nat.add_comm i]
theorem rowX_bit (s i : Nat) : ∀ k, (rowX s k).testBit i = true ↔ ∃ y, y < k ∧ (rowAt s y).testBit i = true
  | 0 => by simp [rowX]
  | k + 1 => by
    unfold rowX
    rw [Nat.testBit_or, Bool.or_eq_true, rowX_bit s i k]
    constructor
    · rintro (⟨z, h1, h2⟩ | h)
      · exact ⟨z, by omega, h2⟩
      · exact ⟨k, by omega, h⟩
    · rintro ⟨z, h1, h2⟩
      by_cases e : z = k
      · subst e; exact .inr h2
      · exact .inl ⟨z, by omega, h2⟩
theorem rowsY_bit (s i : Nat) : ∀ k, (rowsY s k).testBit i = true ↔ i < k ∧ rowAt s i ≠ 0
  | 0 => by simp [rowsY]
  | k + 1 => by
    unfold rowsY
    by_cases h : rowAt s k = 0
    · rw [if_pos h, rowsY_bit s i k]
      constructor
      · exact fun ⟨a, b⟩ => ⟨by omega, b⟩
      · exact fun ⟨a, b⟩ => ⟨by have : i ≠ k := (fun e => b (e ▸ h)); omega, b⟩
    · rw [if_neg h, Nat.testBit_or, Bool.or_eq_true, rowsY_bit s i k, Nat.testBit_two_pow]
      constructor
      · rintro (⟨a, b⟩ | e)
        · exact ⟨by omega, b⟩
        · have := of_decide_eq_true e
          subst this
          exact ⟨by omega, h⟩
      · rintro ⟨a, b⟩
        by_cases e : i = k
        · exact .inr (decide_eq_true e.symm)
        · exact .inl ⟨by omega, b⟩
theorem ne_of_bit {x i : Nat} (h : x.testBit i = true) : x ≠ 0 := fun e => by subst e; simp at h
theorem top_bit_fin : ∀ x : Fin 256, x.1 ≠ 0 → x.1.testBit (top x.1 - 1) = true := by decide +kernel
theorem top_bit {x : Nat} (hx : x < 256) (h : x ≠ 0) : x.testBit (top x - 1) = true := top_bit_fin ⟨x, hx⟩ h
/-- A bit of a solid: its cell's coordinates as numbers from 0 on. -/
abbrev bitX (f : Sol) (x y z : Nat) : Bool := (f z).testBit (8 * y + x)
theorem rx_iff (f : Sol) {x : Nat} (hx : x < 8) : (rowX (shadow f 8) 8).testBit x = true ↔ ∃ y z, y < 8 ∧ z < 8 ∧ bitX f x y z = true := by
  rw [rowX_bit]
  constructor
  · rintro ⟨y, hy, h⟩
    rw [rowAt_bit, decide_eq_true hx, Bool.true_and, shadow_bit] at h
    obtain ⟨z, hz, h⟩ := h
    exact ⟨y, z, hy, hz, h⟩
  · rintro ⟨y, z, hy, hz, h⟩
    refine ⟨y, hy, ?_⟩
    rw [rowAt_bit, decide_eq_true hx, Bool.true_and, shadow_bit]
    exact ⟨z, hz, h⟩
theorem ry_iff (f : Sol) {y : Nat} (hy : y < 8) : (rowsY (shadow f 8) 8).testBit y = true ↔ ∃ x z, x < 8 ∧ z < 8 ∧ bitX f x y z = true := by
  rw [rowsY_bit]
  constructor
  · rintro ⟨_, h⟩
    obtain ⟨i, hi⟩ := Nat.exists_testBit_of_ne_zero h
    rw [rowAt_bit, Bool.and_eq_true, shadow_bit] at hi
    obtain ⟨h1, z, hz, h2⟩ := hi
    exact ⟨i, z, of_decide_eq_true h1, hz, h2⟩
  · rintro ⟨x, z, hx, hz, h⟩
    refine ⟨hy, ne_of_bit (i := x) ?_⟩
    rw [rowAt_bit, decide_eq_true hx, Bool.true_and, shadow_bit]
    exact ⟨z, hz, h⟩
theorem rz_iff {f : Sol} (hf : Fit f) {z : Nat} (hz : z < 8) : (levels f 8).testBit z = true ↔ ∃ x y, x < 8 ∧ y < 8 ∧ bitX f x y z = true := by
  rw [levels_bit, decide_eq_true_eq]
  constructor
  · rintro ⟨_, h⟩
    obtain ⟨i, hi⟩ := Nat.exists_testBit_of_ne_zero h
    have h64 : i < 64 := by
      refine Nat.lt_of_not_le fun h => ?_
      rw [Nat.testBit_lt_two_pow (Nat.lt_of_lt_of_le (hf z) (by rw [show (18446744073709551616 : Nat) = 2 ^ 64 by decide]; exact Nat.pow_le_pow_right (by omega) h))] at hi
      cases hi
    refine ⟨i % 8, i / 8, by omega, by omega, ?_⟩
    unfold bitX
    rw [show 8 * (i / 8) + i % 8 = i by omega]
    exact hi
  · rintro ⟨x, y, _, _, h⟩
    exact ⟨hz, ne_of_bit h⟩
structure Within (f : Sol) (x y z : Nat) : Prop where
  x0 : lowX f ≤ x
  x1 : x < highX f
  y0 : lowY f ≤ y
  y1 : y < highY f
  z0 : lowZ f ≤ z
  z1 : z < highZ f
theorem within {f : Sol} (hf : Fit f) {x y z : Nat} (hx : x < 8) (hy : y < 8) (hz : z < 8) (h : bitX f x y z = true) : Within f x y z := by
  have a := (rx_iff f hx).2 ⟨y, z, hy, hz, h⟩
  have b := (ry_iff f hy).2 ⟨x, z, hx, hz, h⟩
  have c := (rz_iff hf hz).2 ⟨x, y, hx, hy, h⟩
  exact ⟨low_le a, top_gt (rowX_lt _ _) hx a, low_le b, top_gt (rowsY_lt _ _ (by omega)) hy b, low_le c, top_gt (levels_lt _ _ (by omega)) hz c⟩
theorem bit_some {f : Sol} (hf : Fit f) (h : emptyS f = false) : ∃ x y z, x < 8 ∧ y < 8 ∧ z < 8 ∧ bitX f x y z = true := by
  refine Classical.byContradiction fun hc => ?_
  have : ∀ k, k < 8 → f k = 0 := fun k hk => by
    refine Classical.byContradiction fun hne => ?_
    obtain ⟨i, hi⟩ := Nat.exists_testBit_of_ne_zero hne
    have h64 : i < 64 := by
      refine Nat.lt_of_not_le fun h => ?_
      rw [Nat.testBit_lt_two_pow (Nat.lt_of_lt_of_le (hf k) (by rw [show (18446744073709551616 : Nat) = 2 ^ 64 by decide]; exact Nat.pow_le_pow_right (by omega) h))] at hi
      cases hi
    refine hc ⟨i % 8, i / 8, k, by omega, by omega, hk, ?_⟩
    unfold bitX
    rw [show 8 * (i / 8) + i % 8 = i by omega]
    exact hi
  rw [(empty_iff f).2 this] at h
  cases h
theorem sides {f : Sol} (hf : Fit f) (h : emptyS f = false) : rowX (shadow f 8) 8 ≠ 0 ∧ rowsY (shadow f 8) 8 ≠ 0 ∧ levels f 8 ≠ 0 := by
  obtain ⟨x, y, z, hx, hy, hz, hb⟩ := bit_some hf h
  exact ⟨ne_of_bit ((rx_iff f hx).2 ⟨y, z, hy, hz, hb⟩), ne_of_bit ((ry_iff f hy).2 ⟨x, z, hx, hz, hb⟩), ne_of_bit ((rz_iff hf hz).2 ⟨x, y, hx, hy, hb⟩)⟩
theorem at_lowX {f : Sol} (hf : Fit f) (h : emptyS f = false) : ∃ y z, y < 8 ∧ z < 8 ∧ bitX f (lowX f) y z = true :=
  (rx_iff f (low_lt _ 8 (sides hf h).1 (rowX_lt _ _))).1 (low_bit _ (sides hf h).1).1
theorem at_lowY {f : Sol} (hf : Fit f) (h : emptyS f = false) : ∃ x z, x < 8 ∧ z < 8 ∧ bitX f x (lowY f) z = true :=
  (ry_iff f (low_lt _ 8 (sides hf h).2.1 (rowsY_lt _ _ (by omega)))).1 (low_bit _ (sides hf h).2.1).1
theorem at_lowZ {f : Sol} (hf : Fit f) (h : emptyS f = false) : ∃ x y, x < 8 ∧ y < 8 ∧ bitX f x y (lowZ f) = true :=
  (rz_iff hf (low_lt _ 8 (sides hf h).2.2 (levels_lt _ _ (by omega)))).1 (low_bit _ (sides hf h).2.2).1
theorem at_highX {f : Sol} (hf : Fit f) (h : emptyS f = false) : ∃ y z, y < 8 ∧ z < 8 ∧ bitX f (highX f - 1) y z = true := by
  have b := boundN hf h
  have := b.x0
  have := b.x1
  exact (rx_iff f (by omega)).1 (top_bit (rowX_lt _ _) (sides hf h).1)
theorem at_highY {f : Sol} (hf : Fit f) (h : emptyS f = false) : ∃ x z, x < 8 ∧ z < 8 ∧ bitX f x (highY f - 1) z = true := by
  have b := boundN hf h
  have := b.y0
  have := b.y1
  exact (ry_iff f (by omega)).1 (top_bit (rowsY_lt _ _ (by omega)) (sides hf h).2.1)
theorem at_highZ {f : Sol} (hf : Fit f) (h : emptyS f = false) : ∃ x y, x < 8 ∧ y < 8 ∧ bitX f x y (highZ f - 1) = true := by
  have b := boundN hf h
  have := b.z0
  have := b.z1
  exact (rz_iff hf (by omega)).1 (top_bit (levels_lt _ _ (by omega)) (sides hf h).2.2)
theorem bit_small {p i : Nat} (hp : p < 18446744073709551616) (h : p.testBit i = true) : i < 64 := by
  refine Nat.lt_of_not_le fun h1 => ?_
  rw [Nat.testBit_lt_two_pow (Nat.lt_of_lt_of_le hp (by rw [show (18446744073709551616 : Nat) = 2 ^ 64 by decide]; exact Nat.pow_le_pow_right (by omega) h1))] at h
  cases h
theorem shl_neg {by_ : Int} (h : by_ < 0) (p i : Nat) : (shl by_ p).testBit i = p.testBit (i + (-by_).toNat) := by
  unfold shl
  rw [if_pos h, Nat.testBit_div_two_pow]
theorem shl_pos {by_ : Int} (h : ¬ by_ < 0) (p i : Nat) : (shl by_ p).testBit i = (decide (i < 64) && (decide (by_.toNat ≤ i) && p.testBit (i - by_.toNat))) := by
  unfold shl
  rw [if_neg h, show (18446744073709551616 : Nat) = 2 ^ 64 by decide, Nat.testBit_mod_two_pow, Nat.testBit_mul_two_pow]
theorem shl_zero (by_ : Int) : shl by_ 0 = 0 := by
  unfold shl
  split <;> simp
theorem shiftF_at (f : Sol) (x y z : Int) (j : Nat) : ∀ n, (∀ k : Nat, k < n → f k ≠ 0 → 0 ≤ (k : Int) + z) → shiftF f x y z n j = if 0 ≤ (j : Int) - z ∧ (j : Int) - z < n then shl (8 * y + x) (f ((j : Int) - z).toNat) else 0
  | 0, _ => by
    rw [if_neg (by omega)]
    rfl
  | n + 1, h => by
    have ih := shiftF_at f x y z j n fun k hk => h k (by omega)
    unfold shiftF
    by_cases h0 : f n = 0
    · rw [if_pos h0, ih]
      by_cases h1 : 0 ≤ (j : Int) - z ∧ (j : Int) - z < n
      · rw [if_pos h1, if_pos (by omega)]
      · rw [if_neg h1]
        by_cases h2 : 0 ≤ (j : Int) - z ∧ (j : Int) - z < (n + 1 : Nat)
        · rw [if_pos h2, show ((j : Int) - z).toNat = n by omega, h0, shl_zero]
        · rw [if_neg h2]
    · rw [if_neg h0]
      have := h n (by omega) h0
      unfold up8
      by_cases h1 : j = ((n : Int) + z).toNat
      · rw [if_pos h1, if_pos (by omega), show ((j : Int) - z).toNat = n by omega]
      · rw [if_neg h1, ih]
        by_cases h2 : 0 ≤ (j : Int) - z ∧ (j : Int) - z < n
        · rw [if_pos h2, if_pos (by omega)]
        · rw [if_neg h2, if_neg (by omega)]
theorem out_facts {f : Sol} {x y z : Int} (ho : outB f x y z = false) : -(lowX f : Int) ≤ x ∧ x ≤ 8 - highX f ∧ -(lowY f : Int) ≤ y ∧ y ≤ 8 - highY f ∧ -(lowZ f : Int) ≤ z ∧ z ≤ 8 - highZ f := by
  have := of_decide_eq_false ho
  omega
theorem out_iff {f : Sol} (hf : Fit f) (he : emptyS f = false) (x y z : Int) : outB f x y z = false ↔ ∀ a b c : Nat, a < 8 → b < 8 → c < 8 → bitX f a b c = true → 0 ≤ (a : Int) + x ∧ (a : Int) + x ≤ 7 ∧ 0 ≤ (b : Int) + y ∧ (b : Int) + y ≤ 7 ∧ 0 ≤ (c : Int) + z ∧ (c : Int) + z ≤ 7 := by
  constructor
  · intro ho a b c ha hb hc h
    obtain ⟨w1, w2, w3, w4, w5, w6⟩ := within hf ha hb hc h
    have := out_facts ho
    omega
  · intro h
    have bn := boundN hf he
    have := bn.x0
    have := bn.x1
    have := bn.y0
    have := bn.y1
    have := bn.z0
    have := bn.z1
    obtain ⟨y1, z1, a1, a2, a3⟩ := at_lowX hf he
    obtain ⟨y2, z2, b1, b2, b3⟩ := at_highX hf he
    obtain ⟨x3, z3, c1, c2, c3⟩ := at_lowY hf he
    obtain ⟨x4, z4, d1, d2, d3⟩ := at_highY hf he
    obtain ⟨x5, y5, e1, e2, e3⟩ := at_lowZ hf he
    obtain ⟨x6, y6, f1, f2, f3⟩ := at_highZ hf he
    have := h _ _ _ (by omega) a1 a2 a3
    have := h _ _ _ (by omega) b1 b2 b3
    have := h _ _ _ c1 (by omega) c2 c3
    have := h _ _ _ d1 (by omega) d2 d3
    have := h _ _ _ e1 e2 (by omega) e3
    have := h _ _ _ f1 f2 (by omega) f3
    exact decide_eq_false (by omega)
theorem plane_of_bit {f : Sol} {a b c : Nat} (h : bitX f a b c = true) : f c ≠ 0 := ne_of_bit h
theorem shift_bit {f : Sol} (hf : Fit f) {x y z : Int} (ho : outB f x y z = false) {X Y Z : Nat} (hX : X < 8) (hY : Y < 8) (hZ : Z < 8) :
    bitX (shiftS f x y z) X Y Z = true ↔ ∃ a b c : Nat, (a < 8 ∧ b < 8 ∧ c < 8) ∧ bitX f a b c = true ∧ (a : Int) + x = X ∧ (b : Int) + y = Y ∧ (c : Int) + z = Z := by
  have of := out_facts ho
  have hk : ∀ k : Nat, k < 8 → f k ≠ 0 → 0 ≤ (k : Int) + z := fun k hk h => by
    have := plane_in hk h
    omega
  show (shiftF f x y z 8 Z).testBit (8 * Y + X) = true ↔ _
  rw [shiftF_at f x y z Z 8 hk]
  constructor
  · intro h
    by_cases hc : 0 ≤ (Z : Int) - z ∧ (Z : Int) - z < (8 : Nat)
    · rw [if_pos hc] at h
      by_cases hb : 8 * y + x < 0
      · rw [shl_neg hb] at h
        have hn := bit_small (hf _) h
        obtain ⟨n, hnn⟩ : ∃ n, n = 8 * Y + X + (-(8 * y + x)).toNat := ⟨_, rfl⟩
        rw [← hnn] at h hn
        have hbit : bitX f (n % 8) (n / 8) ((Z : Int) - z).toNat = true := by
          unfold bitX
          rw [show 8 * (n / 8) + n % 8 = n by omega]
          exact h
        obtain ⟨w1, w2, w3, w4, w5, w6⟩ := within hf (by omega) (by omega) (by omega) hbit
        exact ⟨n % 8, n / 8, ((Z : Int) - z).toNat, ⟨by omega, by omega, by omega⟩, hbit, by omega, by omega, by omega⟩
      · rw [shl_pos hb, Bool.and_eq_true, Bool.and_eq_true] at h
        obtain ⟨_, h1, h⟩ := h
        have h1 := of_decide_eq_true h1
        have hn := bit_small (hf _) h
        obtain ⟨n, hnn⟩ : ∃ n, n = 8 * Y + X - (8 * y + x).toNat := ⟨_, rfl⟩
        rw [← hnn] at h hn
        have hbit : bitX f (n % 8) (n / 8) ((Z : Int) - z).toNat = true := by
          unfold bitX
          rw [show 8 * (n / 8) + n % 8 = n by omega]
          exact h
        obtain ⟨w1, w2, w3, w4, w5, w6⟩ := within hf (by omega) (by omega) (by omega) hbit
        exact ⟨n % 8, n / 8, ((Z : Int) - z).toNat, ⟨by omega, by omega, by omega⟩, hbit, by omega, by omega, by omega⟩
    · rw [if_neg hc] at h
      simp at h
  · rintro ⟨a, b, c, ⟨ha, hb, hc⟩, hbit, e1, e2, e3⟩
    rw [if_pos (by omega), show ((Z : Int) - z).toNat = c by omega]
    by_cases hb : 8 * y + x < 0
    · rw [shl_neg hb, show 8 * Y + X + (-(8 * y + x)).toNat = 8 * b + a by omega]
      exact hbit
    · rw [shl_pos hb, show 8 * Y + X - (8 * y + x).toNat = 8 * b + a by omega, decide_eq_true (by omega), decide_eq_true (by omega)]
      exact hbit
theorem hasI_iff (f : Sol) (p : I3) : hasI f p = true ↔ ∃ a b c : Nat, (a < 8 ∧ b < 8 ∧ c < 8) ∧ p = ((a : Int), (b : Int), (c : Int)) ∧ bitX f a b c = true := by
  unfold hasI
  rw [Bool.and_eq_true]
  constructor
  · rintro ⟨h1, h2⟩
    have h7 : In7 p := by unfold In7; exact of_decide_eq_true h1
    obtain ⟨x, y, z⟩ := p
    have h8 : 0 ≤ x ∧ x ≤ 7 ∧ 0 ≤ y ∧ y ≤ 7 ∧ 0 ≤ z ∧ z ≤ 7 := h7
    refine ⟨x.toNat, y.toNat, z.toNat, by omega, by simp; omega, ?_⟩
    have v := ofI_val (p := (x, y, z)) h7
    unfold hasC cX cY cZ at h2
    rw [v] at h2
    simp only at h2
    unfold bitX
    rwa [show (64 * z.toNat + 8 * y.toNat + x.toNat) / 64 = z.toNat by omega, show 8 * ((64 * z.toNat + 8 * y.toNat + x.toNat) / 8 % 8) + (64 * z.toNat + 8 * y.toNat + x.toNat) % 8 = 8 * y.toNat + x.toNat by omega] at h2
  · rintro ⟨a, b, c, ⟨ha, hb, hc⟩, rfl, h⟩
    have h7 : In7 ((a : Int), (b : Int), (c : Int)) := by unfold In7; simp only; omega
    refine ⟨by unfold inG; exact decide_eq_true (by simp only; omega), ?_⟩
    have v := ofI_val h7
    unfold hasC cX cY cZ
    rw [v]
    simp only [Int.toNat_natCast]
    rw [show (64 * c + 8 * b + a) / 64 = c by omega, show 8 * ((64 * c + 8 * b + a) / 8 % 8) + (64 * c + 8 * b + a) % 8 = 8 * b + a by omega]
    exact h
abbrev plus (p v : I3) : I3 := (p.1 + v.1, p.2.1 + v.2.1, p.2.2 + v.2.2)
theorem has_in7 {f : Sol} {p : I3} (h : hasI f p = true) : In7 p := by
  obtain ⟨a, b, c, h1, rfl, _⟩ := (hasI_iff f p).1 h
  unfold In7
  simp only
  omega
theorem out_has {f : Sol} (hf : Fit f) (he : emptyS f = false) (v : I3) : outB f v.1 v.2.1 v.2.2 = false ↔ ∀ p, hasI f p = true → In7 (plus p v) := by
  rw [out_iff hf he]
  constructor
  · intro h p hp
    obtain ⟨a, b, c, ⟨h1, h2, h3⟩, rfl, h4⟩ := (hasI_iff f p).1 hp
    exact h a b c h1 h2 h3 h4
  · intro h a b c h1 h2 h3 h4
    exact h ((a : Int), (b : Int), (c : Int)) ((hasI_iff f _).2 ⟨a, b, c, ⟨h1, h2, h3⟩, rfl, h4⟩)
theorem has_shift {f : Sol} (hf : Fit f) {x y z : Int} (ho : outB f x y z = false) (p : I3) : hasI (shiftS f x y z) p = true ↔ ∃ c, hasI f c = true ∧ plus c (x, y, z) = p := by
  constructor
  · intro h
    obtain ⟨X, Y, Z, ⟨h1, h2, h3⟩, rfl, h4⟩ := (hasI_iff _ p).1 h
    obtain ⟨a, b, c, ha, hb, e1, e2, e3⟩ := (shift_bit hf ho h1 h2 h3).1 h4
    exact ⟨((a : Int), (b : Int), (c : Int)), (hasI_iff f _).2 ⟨a, b, c, ha, rfl, hb⟩, by simp [plus, e1, e2, e3]⟩
  · rintro ⟨q, hq, rfl⟩
    obtain ⟨a, b, c, ⟨h1, h2, h3⟩, rfl, h4⟩ := (hasI_iff _ q).1 hq
    obtain ⟨w1, w2, w3, w4, w5, w6⟩ := within hf h1 h2 h3 h4
    have of := out_facts ho
    have b1 : highX f ≤ 8 := top_le (rowX_lt _ _)
    have b2 : highY f ≤ 8 := top_le (rowsY_lt _ _ (by omega))
    have b3 : highZ f ≤ 8 := top_le (levels_lt _ _ (by omega))
    refine (hasI_iff _ _).2 ⟨((a : Int) + x).toNat, ((b : Int) + y).toNat, ((c : Int) + z).toNat, ⟨by omega, by omega, by omega⟩, by simp [plus]; omega, (shift_bit hf ho (by omega) (by omega) (by omega)).2 ⟨a, b, c, ⟨h1, h2, h3⟩, h4, by omega, by omega, by omega⟩⟩
theorem has_ext {f g : Sol} (hf : Fit f) (hg : Fit g) (h : ∀ p, hasI f p = true ↔ hasI g p = true) : eqS f g = true :=
  eq_has hf hg fun c => by
    have h1 := h (toI c)
    have hi : inG (toI c).1 (toI c).2.1 (toI c).2.2 = true := by
      have := toI_in7 c
      unfold inG
      exact decide_eq_true this
    have e : ofI (toI c) = c := Fin.ext (by
      rw [ofI_val (toI_in7 c)]
      unfold toI cX cY cZ
      simp only
      omega)
    unfold hasI at h1
    rw [hi, e, Bool.true_and, Bool.true_and] at h1
    exact Bool.eq_iff_iff.2 h1
theorem has_cell (f : Sol) (c : Cl) : hasI f (toI c) = hasC f c := by
  have hi : inG (toI c).1 (toI c).2.1 (toI c).2.2 = true := by
    have := toI_in7 c
    unfold inG
    exact decide_eq_true this
  have e : ofI (toI c) = c := Fin.ext (by
    rw [ofI_val (toI_in7 c)]
    unfold toI cX cY cZ
    simp only
    omega)
  unfold hasI
  rw [hi, e, Bool.true_and]
theorem toI_ofI {p : I3} (h : In7 p) : toI (ofI p) = p := by
  unfold toI
  rw [ofI_x h, ofI_y h, ofI_z h]
theorem has_turn {f : Sol} {t : Nat} (p : I3) : hasI (turnedF f t) p = true ↔ ∃ c, hasI f c = true ∧ turnI 7 t c = p := by
  constructor
  · intro h
    have h7 := has_in7 h
    have h1 : hasC (turnedF f t) (ofI p) = true := by rw [← has_cell, toI_ofI h7]; exact h
    obtain ⟨c, hc, e⟩ := (has_turned f t _).1 h1
    refine ⟨toI c, by rw [has_cell]; exact hc, ?_⟩
    have := congrArg toI e
    rw [toI_ofI h7] at this
    unfold turnC at this
    rwa [toI_ofI (turnI_in7 (toI_in7 c) t)] at this
  · rintro ⟨c, hc, rfl⟩
    have h7 := has_in7 hc
    have h8 := turnI_in7 h7 t
    rw [← toI_ofI h8, has_cell]
    refine (has_turned f t _).2 ⟨ofI c, by rw [← has_cell, toI_ofI h7]; exact hc, ?_⟩
    unfold turnC
    rw [toI_ofI h7]
def invT (t : Nat) : Nat := ((List.range 24).find? fun u => decide (cmp2 (sgT u) (sgT t) = sgT 0)).getD 0
theorem inv_fin : ∀ t : Fin 24, invT t.1 < 24 ∧ cmp2 (sgT (invT t.1)) (sgT t.1) = sgT 0 ∧ cmp2 (sgT t.1) (sgT (invT t.1)) = sgT 0 := by decide +kernel
theorem inv_lt {t : Nat} (h : t < 24) : invT t < 24 := (inv_fin ⟨t, h⟩).1
theorem turn_id (b : Int) (p : I3) : ap b (sgT 0) p = p := rfl
theorem inv_turn (b : Int) {t : Nat} (h : t < 24) (p : I3) : turnI b (invT t) (turnI b t p) = p := by
  rw [turn_ap b t p h, turn_ap b _ _ (inv_lt h), ap_ap, (inv_fin ⟨t, h⟩).2.1, turn_id]
theorem turn_inv (b : Int) {t : Nat} (h : t < 24) (p : I3) : turnI b t (turnI b (invT t) p) = p := by
  rw [turn_ap b _ p (inv_lt h), turn_ap b _ _ h, ap_ap, (inv_fin ⟨t, h⟩).2.2, turn_id]
theorem empty_has {f : Sol} (hf : Fit f) : emptyS f = true ↔ ∀ p, hasI f p = false := by
  constructor
  · intro h p
    cases hp : hasI f p with
    | false => rfl
    | true =>
      obtain ⟨a, b, c, ⟨_, _, h3⟩, _, h4⟩ := (hasI_iff f p).1 hp
      exact absurd ((empty_iff f).1 h c h3) (plane_of_bit h4)
  · intro h
    cases he : emptyS f with
    | true => rfl
    | false =>
      obtain ⟨x, y, z, hx, hy, hz, hb⟩ := bit_some hf he
      have := (hasI_iff f ((x : Int), (y : Int), (z : Int))).2 ⟨x, y, z, ⟨hx, hy, hz⟩, rfl, hb⟩
      rw [h] at this
      cases this
/-- The one is the other, moved. -/
def Trans (f g : Sol) : Prop := ∃ v : I3, ∀ p, hasI f p = hasI g (plus p v)
abbrev neg (v : I3) : I3 := (-v.1, -v.2.1, -v.2.2)
theorem I3.ext' {p q : I3} (h1 : p.1 = q.1) (h2 : p.2.1 = q.2.1) (h3 : p.2.2 = q.2.2) : p = q := Prod.ext h1 (Prod.ext h2 h3)
theorem plus_neg (p v : I3) : plus (plus p v) (neg v) = p := I3.ext' (by simp only [plus, neg]; omega) (by simp only [plus, neg]; omega) (by simp only [plus, neg]; omega)
theorem neg_plus (p v : I3) : plus (plus p (neg v)) v = p := I3.ext' (by simp only [plus, neg]; omega) (by simp only [plus, neg]; omega) (by simp only [plus, neg]; omega)
theorem plus_plus (p u v : I3) : plus (plus p u) v = plus p (plus u v) := I3.ext' (by simp only [plus]; omega) (by simp only [plus]; omega) (by simp only [plus]; omega)
theorem Trans.refl (f : Sol) : Trans f f := ⟨(0, 0, 0), fun p => by simp [plus]⟩
theorem Trans.symm {f g : Sol} (h : Trans f g) : Trans g f := by
  obtain ⟨v, h⟩ := h
  exact ⟨neg v, fun p => by rw [h, neg_plus]⟩
theorem Trans.trans {f g k : Sol} (h : Trans f g) (h' : Trans g k) : Trans f k := by
  obtain ⟨u, h⟩ := h
  obtain ⟨v, h'⟩ := h'
  exact ⟨plus u v, fun p => by rw [h, h', plus_plus]⟩
theorem has_congr {f g : Sol} (h : eqS f g = true) (p : I3) : hasI f p = hasI g p := by
  obtain ⟨h0, h1, h2, h3, h4, h5, h6, h7⟩ := of_decide_eq_true h
  have e : ∀ z, z < 8 → f z = g z := fun z hz => by
    rcases lt8 hz with rfl | rfl | rfl | rfl | rfl | rfl | rfl | rfl <;> assumption
  unfold hasI hasC
  rw [e _ (by have := Z_le (ofI p); omega)]
theorem corn_out (f : Sol) (hf : Fit f) : outB f (-(lowX f : Int)) (-(lowY f : Int)) (-(lowZ f : Int)) = false := by
  have b1 : highX f ≤ 8 := top_le (rowX_lt _ _)
  have b2 : highY f ≤ 8 := top_le (rowsY_lt _ _ (by omega))
  have b3 : highZ f ≤ 8 := top_le (levels_lt _ _ (by omega))
  exact decide_eq_false (by omega)
abbrev lowV (f : Sol) : I3 := ((lowX f : Int), (lowY f : Int), (lowZ f : Int))
theorem has_corn {f : Sol} (hf : Fit f) (p : I3) : hasI (cornF f) p = hasI f (plus p (lowV f)) := by
  rw [Bool.eq_iff_iff]
  unfold cornF
  rw [has_shift hf (corn_out f hf)]
  constructor
  · rintro ⟨c, hc, rfl⟩
    rw [show plus (plus c (-(lowX f : Int), -(lowY f : Int), -(lowZ f : Int))) (lowV f) = c from neg_plus c (lowV f)]
    exact hc
  · intro h
    exact ⟨_, h, plus_neg p (lowV f)⟩
theorem corn_trans {f : Sol} (hf : Fit f) : Trans (cornF f) f := ⟨lowV f, has_corn hf⟩
theorem has_at_low {f : Sol} (hf : Fit f) (he : emptyS f = false) : (∃ p, hasI f p = true ∧ p.1 = lowX f) ∧ (∃ p, hasI f p = true ∧ p.2.1 = lowY f) ∧ (∃ p, hasI f p = true ∧ p.2.2 = lowZ f) := by
  have bn := boundN hf he
  have := bn.x0
  have := bn.x1
  have := bn.y0
  have := bn.y1
  have := bn.z0
  have := bn.z1
  obtain ⟨y1, z1, a1, a2, a3⟩ := at_lowX hf he
  obtain ⟨x3, z3, c1, c2, c3⟩ := at_lowY hf he
  obtain ⟨x5, y5, e1, e2, e3⟩ := at_lowZ hf he
  exact ⟨⟨_, (hasI_iff f _).2 ⟨_, _, _, ⟨by omega, a1, a2⟩, rfl, a3⟩, rfl⟩, ⟨_, (hasI_iff f _).2 ⟨_, _, _, ⟨c1, by omega, c2⟩, rfl, c3⟩, rfl⟩, ⟨_, (hasI_iff f _).2 ⟨_, _, _, ⟨e1, e2, by omega⟩, rfl, e3⟩, rfl⟩⟩
theorem has_low {f : Sol} (hf : Fit f) {p : I3} (h : hasI f p = true) : (lowX f : Int) ≤ p.1 ∧ (lowY f : Int) ≤ p.2.1 ∧ (lowZ f : Int) ≤ p.2.2 := by
  obtain ⟨a, b, c, ⟨h1, h2, h3⟩, rfl, h4⟩ := (hasI_iff f p).1 h
  obtain ⟨w1, w2, w3, w4, w5, w6⟩ := within hf h1 h2 h3 h4
  simp only
  omega
theorem has_turn' {f : Sol} {t : Nat} (ht : t < 24) (p : I3) : hasI (turnedF f t) p = hasI f (turnI 7 (invT t) p) := by
  rw [Bool.eq_iff_iff, has_turn]
  constructor
  · rintro ⟨c, hc, rfl⟩
    rw [inv_turn 7 ht]
    exact hc
  · intro h
    exact ⟨_, h, turn_inv 7 ht p⟩
theorem turn_zero_has (f : Sol) (p : I3) : hasI (turnedF f 0) p = hasI f p := by
  rw [Bool.eq_iff_iff, has_turn]
  constructor
  · rintro ⟨c, hc, e⟩
    have : turnI 7 0 c = c := rfl
    rw [this] at e
    subst e
    exact hc
  · exact fun h => ⟨p, h, rfl⟩
end Go.Proofs.YtadkaplafaeebaaGreatDoor
/-
  Images as orbits: counted by turns; lists that are sorted, each once; the least image.
-/
set_option linter.unusedVariables false
set_option linter.unusedSimpArgs false
set_option maxRecDepth 100000
namespace Go.Proofs.YtadkaplafaeebaaGreatDoor
open Go Go.RowKit Go.Sort

theorem sort8_pair (d : Array S8) : (sort8 d).toList.Pairwise (fun x y => ltOf cf8 y x = false) := by
  have h : (d.toList.mergeSort fun x y => !(ltOf cf8) y x).Pairwise fun x y => (!(ltOf cf8) y x) = true := by
    refine List.pairwise_mergeSort ?_ ?_ _
    · intro a b c h1 h2
      simp only [Bool.not_eq_true'] at h1 h2 ⊢
      exact swo8.ntrans c b a h2 h1
    · intro a b
      cases h : (ltOf cf8) b a with
      | false => simp
      | true => simp [swo8.asymmA h]
  exact h.imp fun h => by simpa using h
theorem sort8_at {d : Array S8} {i j : Nat} (h : i ≤ j) (hj : j < (sort8 d).size) : ltOf cf8 (sort8 d)[j]! (sort8 d)[i]! = false := by
  by_cases e : i = j
  · subst e
    exact swo8.irrefl _
  · have h1 := List.pairwise_iff_getElem.1 (sort8_pair d) i j (by simp; omega) (by simpa using hj) (by omega)
    rw [getElem!_pos _ i (by omega), getElem!_pos _ j hj]
    simpa using h1
theorem keeps_ne {d : Array S8} {i j : Nat} (h : i < j) (hj : j < (sort8 d).size) (hk : Lib.keeps (sort8 d) j = true) : (sort8 d)[i]! ≠ (sort8 d)[j]! := by
  intro e
  have h1 := sort8_at (d := d) (i := i) (j := j - 1) (by omega) (by omega)
  have h2 := sort8_at (d := d) (i := j - 1) (j := j) (by omega) hj
  rw [e] at h1
  have h3 := tot8 _ _ h1 h2
  rcases of_decide_eq_true hk with hk | hk
  · omega
  · exact hk h3.symm
theorem once8_has (d : Array S8) : ∀ j, j < (sort8 d).size → (sort8 d)[j]! ∈ once8 d
  | j, hj => by
    cases hk : Lib.keeps (sort8 d) j with
    | true =>
      unfold once8 Lib.compactUpTo
      exact List.mem_map.2 ⟨j, List.mem_filter.2 ⟨List.mem_range.2 hj, hk⟩, rfl⟩
    | false =>
      have h0 := of_decide_eq_false hk
      have h3 : j ≠ 0 := fun e => h0 (.inl e)
      have h4 : (sort8 d)[j]! = (sort8 d)[j - 1]! := Classical.byContradiction fun e => h0 (.inr e)
      rw [h4]
      exact once8_has d (j - 1) (by omega)
theorem sort8_mem (d : Array S8) (x : S8) : x ∈ (sort8 d).toList ↔ x ∈ d.toList := by
  unfold sort8
  exact List.mem_mergeSort
theorem once8_mem (d : Array S8) (x : S8) : x ∈ once8 d ↔ x ∈ d.toList := by
  rw [← sort8_mem d x]
  constructor
  · intro h
    unfold once8 Lib.compactUpTo at h
    obtain ⟨j, hj, rfl⟩ := List.mem_map.1 h
    have h1 := List.mem_range.1 (List.mem_filter.1 hj).1
    rw [getElem!_pos _ j h1]
    exact Array.getElem_mem_toList h1
  · intro h
    obtain ⟨j, hj, rfl⟩ := List.getElem_of_mem h
    have h1 : j < (sort8 d).size := by simpa using hj
    have := once8_has d j h1
    rw [getElem!_pos _ j h1] at this
    simpa using this
theorem cmpFrom_congr (f f' g g' : Sol) : ∀ n k, (∀ j, j < n → f (k + j) = f' (k + j) ∧ g (k + j) = g' (k + j)) → cmpFrom f g n k = cmpFrom f' g' n k
  | 0, _, _ => rfl
  | n + 1, k, h => by
    unfold cmpFrom
    have h0 := h 0 (by omega)
    simp only [Nat.add_zero] at h0
    rw [h0.1, h0.2, cmpFrom_congr f f' g g' n (k + 1) fun j hj => by
      have := h (j + 1) (by omega)
      rwa [show k + (j + 1) = k + 1 + j by omega] at this]
theorem eqS_at {f g : Sol} (h : eqS f g = true) : ∀ k, k < 8 → f k = g k := fun k hk => by
  obtain ⟨h0, h1, h2, h3, h4, h5, h6, h7⟩ := of_decide_eq_true h
  rcases lt8 hk with rfl | rfl | rfl | rfl | rfl | rfl | rfl | rfl <;> assumption
theorem eqS_of {f g : Sol} (h : ∀ k, k < 8 → f k = g k) : eqS f g = true :=
  decide_eq_true ⟨h 0 (by omega), h 1 (by omega), h 2 (by omega), h 3 (by omega), h 4 (by omega), h 5 (by omega), h 6 (by omega), h 7 (by omega)⟩
theorem cmp_congr {f f' g g' : Sol} (h : eqS f f' = true) (h' : eqS g g' = true) : cmpS f g = cmpS f' g' :=
  cmpFrom_congr f f' g g' 8 0 fun j hj => by rw [Nat.zero_add]; exact ⟨eqS_at h j hj, eqS_at h' j hj⟩
theorem cmp_anti {f g : Sol} (h : cmpS f g ≤ 0) (h' : cmpS g f ≤ 0) : eqS f g = true := by
  have e := cmpFrom_neg f g 8 0
  unfold cmpS at h h'
  refine eqS_of fun k hk => ?_
  have := cmpFrom_eq f g 8 0 (by omega) k hk
  rwa [Nat.zero_add] at this
theorem eqS_trans {f g h : Sol} (a : eqS f g = true) (b : eqS g h = true) : eqS f h = true := eqS_of fun k hk => (eqS_at a k hk).trans (eqS_at b k hk)
theorem eqS_symm {f g : Sol} (a : eqS f g = true) : eqS g f = true := eqS_of fun k hk => (eqS_at a k hk).symm
end Go.Proofs.YtadkaplafaeebaaGreatDoor
