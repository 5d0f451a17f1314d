/-
  Turns as signed permutations; what a turned solid has.
-/
import Derived.Test.YtadkaplafaeebaaGreatDoorPkUQ
import Derived.Test.YtadkaplafaeebaaGreatDoorPkIQ
import Derived.Test.YtadkaplafaeebaaGreatDoorPkEQ
import Derived.Test.YtadkaplafaeebaaGreatDoorPkFQ
import Derived.Test.YtadkaplafaeebaaGreatDoorPkGQ
import Derived.Test.YtadkaplafaeebaaGreatDoorPkRQ
set_option linter.unusedVariables false
set_option linter.unusedSimpArgs false
namespace Go.Proofs.YtadkaplafaeebaaGreatDoor
open Go Go.RowKit

abbrev Sg := (Nat × Bool) × (Nat × Bool) × (Nat × Bool)
def sel (s : Sg) (i : Nat) : Nat × Bool := match i with | 0 => s.1 | 1 => s.2.1 | _ => s.2.2
def through (s : Sg) (p : Nat × Bool) : Nat × Bool := ((sel s p.1).1, xor p.2 (sel s p.1).2)
theorem has_set (g : Sol) (c d : Cl) : hasC (setC g c) d = (hasC g d || decide (d = c)) := by
  unfold hasC setC up8
  by_cases hz : cZ d = cZ c
  · rw [if_pos hz, Nat.testBit_or, ← hz]
    unfold bitN
    rw [Nat.testBit_two_pow]
    congr 1
    refine decide_eq_decide.2 ⟨fun h => Fin.ext ?_, fun h => by rw [h]⟩
    unfold cX cY cZ at *
    omega
  · rw [if_neg hz]
    have : ¬ d = c := fun e => hz (by rw [e])
    simp [this]
end Go.Proofs.YtadkaplafaeebaaGreatDoor
/-
  Turned solids: which cells they have; what turns of turns make.
-/
set_option linter.unusedVariables false
set_option linter.unusedSimpArgs false
namespace Go.Proofs.YtadkaplafaeebaaGreatDoor
open Go Go.RowKit

theorem eq_has {f g : Sol} (hf : Fit f) (hg : Fit g) (h : ∀ c, hasC f c = hasC g c) : eqS f g = true := by
  have key : ∀ k, k < 8 → f k = g k := fun k hk => by
    apply Nat.eq_of_testBit_eq
    intro i
    by_cases hi : i < 64
    · have h1 := h ⟨64 * k + i, by omega⟩
      unfold hasC cX cY cZ at h1
      simp only at h1
      rwa [show (64 * k + i) / 64 = k by omega, show 8 * ((64 * k + i) / 8 % 8) + (64 * k + i) % 8 = i by omega] at h1
    · have big : ∀ x : Nat, x < 18446744073709551616 → x.testBit i = false := fun x hx =>
        Nat.testBit_lt_two_pow (Nat.lt_of_lt_of_le hx (by rw [show (18446744073709551616 : Nat) = 2 ^ 64 by decide]; exact Nat.pow_le_pow_right (by omega) (by omega)))
      rw [big _ (hf k), big _ (hg k)]
  unfold eqS
  exact decide_eq_true ⟨key 0 (by omega), key 1 (by omega), key 2 (by omega), key 3 (by omega), key 4 (by omega), key 5 (by omega), key 6 (by omega), key 7 (by omega)⟩
theorem mem_cells (f : Sol) (d : Cl) : d ∈ cellsL f ↔ hasC f d = true := by
  unfold cellsL restL planeL bitsOf hasC
  rw [List.mem_flatMap]
  constructor
  · rintro ⟨i, hi, hd⟩
    obtain ⟨b, hb, rfl⟩ := List.mem_map.1 hd
    obtain ⟨hb1, hb2⟩ := List.mem_filter.1 hb
    have hb3 := List.mem_range.1 hb1
    have hi2 : i < 8 := by simpa using hi
    unfold ci cX cY cZ
    simp only
    rw [show (64 * i + b) % 512 = 64 * i + b by omega, show (64 * i + b) / 64 = i by omega, show 8 * ((64 * i + b) / 8 % 8) + (64 * i + b) % 8 = b by omega]
    exact hb2
  · intro h
    refine ⟨cZ d, ?_, List.mem_map.2 ⟨8 * cY d + cX d, List.mem_filter.2 ⟨List.mem_range.2 ?_, h⟩, ?_⟩⟩
    · have := d.2
      unfold cZ
      simp
      omega
    · unfold cX cY
      omega
    · apply Fin.ext
      have := d.2
      unfold ci cX cY cZ
      simp only
      omega
end Go.Proofs.YtadkaplafaeebaaGreatDoor
/-
  Solids as sets of places: what moves, turns and the corner make of them.
-/
set_option linter.unusedVariables false
set_option linter.unusedSimpArgs false
set_option maxRecDepth 100000
namespace Go.Proofs.YtadkaplafaeebaaGreatDoor
open Go Go.RowKit

theorem shadow_bit (f : Sol) (i : Nat) : ∀ k, (shadow f k).testBit i = true ↔ ∃ z, z < k ∧ (f z).testBit i = true
  | 0 => by simp [shadow]
  | k + 1 => by
    unfold shadow
    rw [Nat.testBit_or, Bool.or_eq_true, shadow_bit f i k]
    constructor
    · rintro (⟨z, h1, h2⟩ | h)
      · exact ⟨z, by omega, h2⟩
      · exact ⟨k, by omega, h⟩
    · rintro ⟨z, h1, h2⟩
      by_cases e : z = k
      · subst e; exact .inr h2
      · exact .inl ⟨z, by omega, h2⟩
theorem rowAt_bit (s k i : Nat) : (rowAt s k).testBit i = (decide (i < 8) && s.testBit (8 * k + i)) := by
  unfold rowAt
  rw [show (256 : Nat) = 2 ^ 8 by decide, Nat.testBit_mod_two_pow, Nat.testBit_div_two_pow, Nat.add_comm i]
theorem rowX_bit (s i : Nat) : ∀ k, (rowX s k).testBit i = true ↔ ∃ y, y < k ∧ (rowAt s y).testBit i = true
  | 0 => by simp [rowX]
  | k + 1 => by
    unfold rowX
    rw [Nat.testBit_or, Bool.or_eq_true, rowX_bit s i k]
    constructor
    · rintro (⟨z, h1, h2⟩ | h)
      · exact ⟨z, by omega, h2⟩
      · exact ⟨k, by omega, h⟩
    · rintro ⟨z, h1, h2⟩
      by_cases e : z = k
      · subst e; exact .inr h2
      · exact .inl ⟨z, by omega, h2⟩
theorem rowsY_bit (s i : Nat) : ∀ k, (rowsY s k).testBit i = true ↔ i < k ∧ rowAt s i ≠ 0
  | 0 => by simp [rowsY]
  | k + 1 => by
    unfold rowsY
    by_cases h : rowAt s k = 0
    · rw [if_pos h, rowsY_bit s i k]
      constructor
      · exact fun ⟨a, b⟩ => ⟨by omega, b⟩
      · exact fun ⟨a, b⟩ => ⟨by have : i ≠ k := (fun e => b (e ▸ h)); omega, b⟩
    · rw [if_neg h, Nat.testBit_or, Bool.or_eq_true, rowsY_bit s i k, Nat.testBit_two_pow]
      constructor
      · rintro (⟨a, b⟩ | e)
        · exact ⟨by omega, b⟩
        · have := of_decide_eq_true e
          subst this
          exact ⟨by omega, h⟩
      · rintro ⟨a, b⟩
        by_cases e : i = k
        · exact .inr (decide_eq_true e.symm)
        · exact .inl ⟨by omega, b⟩
theorem ne_of_bit {x i : Nat} (h : x.testBit i = true) : x ≠ 0 := fun e => by subst e; simp at h
theorem top_bit_fin : ∀ x : Fin 256, x.1 ≠ 0 → x.1.testBit (top x.1 - 1) = true := by decide +kernel
theorem top_bit {x : Nat} (hx : x < 256) (h : x ≠ 0) : x.testBit (top x - 1) = true := top_bit_fin ⟨x, hx⟩ h
/-- A bit of a solid: its cell's coordinates as numbers from 0 on. -/
abbrev bitX (f : Sol) (x y z : Nat) : Bool := (f z).testBit (8 * y + x)
theorem rx_iff (f : Sol) {x : Nat} (hx : x < 8) : (rowX (shadow f 8) 8).testBit x = true ↔ ∃ y z, y < 8 ∧ z < 8 ∧ bitX f x y z = true := by
  rw [rowX_bit]
  constructor
  · rintro ⟨y, hy, h⟩
    rw [rowAt_bit, decide_eq_true hx, Bool.true_and, shadow_bit] at h
    obtain ⟨z, hz, h⟩ := h
    exact ⟨y, z, hy, hz, h⟩
  · rintro ⟨y, z, hy, hz, h⟩
    refine ⟨y, hy, ?_⟩
    rw [rowAt_bit, decide_eq_true hx, Bool.true_and, shadow_bit]
    exact ⟨z, hz, h⟩
theorem ry_iff (f : Sol) {y : Nat} (hy : y < 8) : (rowsY (shadow f 8) 8).testBit y = true ↔ ∃ x z, x < 8 ∧ z < 8 ∧ bitX f x y z = true := by
  rw [rowsY_bit]
  constructor
  · rintro ⟨_, h⟩
    obtain ⟨i, hi⟩ := Nat.exists_testBit_of_ne_zero h
    rw [rowAt_bit, Bool.and_eq_true, shadow_bit] at hi
    obtain ⟨h1, z, hz, h2⟩ := hi
    exact ⟨i, z, of_decide_eq_true h1, hz, h2⟩
  · rintro ⟨x, z, hx, hz, h⟩
    refine ⟨hy, ne_of_bit (i := x) ?_⟩
    rw [rowAt_bit, decide_eq_true hx, Bool.true_and, shadow_bit]
    exact ⟨z, hz, h⟩
theorem rz_iff {f : Sol} (hf : Fit f) {z : Nat} (hz : z < 8) : (levels f 8).testBit z = true ↔ ∃ x y, x < 8 ∧ y < 8 ∧ bitX f x y z = true := by
  rw [levels_bit, decide_eq_true_eq]
  constructor
  · rintro ⟨_, h⟩
    obtain ⟨i, hi⟩ := Nat.exists_testBit_of_ne_zero h
    have h64 : i < 64 := by
      refine Nat.lt_of_not_le fun h => ?_
      rw [Nat.testBit_lt_two_pow (Nat.lt_of_lt_of_le (hf z) (by rw [show (18446744073709551616 : Nat) = 2 ^ 64 by decide]; exact Nat.pow_le_pow_right (by omega) h))] at hi
      cases hi
    refine ⟨i % 8, i / 8, by omega, by omega, ?_⟩
    unfold bitX
    rw [show 8 * (i / 8) + i % 8 = i by omega]
    exact hi
  · rintro ⟨x, y, _, _, h⟩
    exact ⟨hz, ne_of_bit h⟩
structure Within (f : Sol) (x y z : Nat) : Prop where
  x0 : lowX f ≤ x
  x1 : x < highX f
  y0 : lowY f ≤ y
  y1 : y < highY f
  z0 : lowZ f ≤ z
  z1 : z < highZ f
theorem within {f : Sol} (hf : Fit f) {x y z : Nat} (hx : x < 8) (hy : y < 8) (hz : z < 8) (h : bitX f x y z = true) : Within f x y z := by
  have a := (rx_iff f hx).2 ⟨y, z, hy, hz, h⟩
  have b := (ry_iff f hy).2 ⟨x, z, hx, hz, h⟩
  have c := (rz_iff hf hz).2 ⟨x, y, hx, hy, h⟩
  exact ⟨low_le a, top_gt (rowX_lt _ _) hx a, low_le b, top_gt (rowsY_lt _ _ (by omega)) hy b, low_le c, top_gt (levels_lt _ _ (by omega)) hz c⟩
theorem bit_some {f : Sol} (hf : Fit f) (h : emptyS f = false) : ∃ x y z, x < 8 ∧ y < 8 ∧ z < 8 ∧ bitX f x y z = true := by
  refine Classical.byContradiction fun hc => ?_
  have : ∀ k, k < 8 → f k = 0 := fun k hk => by
    refine Classical.byContradiction fun hne => ?_
    obtain ⟨i, hi⟩ := Nat.exists_testBit_of_ne_zero hne
    have h64 : i < 64 := by
      refine Nat.lt_of_not_le fun h => ?_
      rw [Nat.testBit_lt_two_pow (Nat.lt_of_lt_of_le (hf k) (by rw [show (18446744073709551616 : Nat) = 2 ^ 64 by decide]; exact Nat.pow_le_pow_right (by omega) h))] at hi
      cases hi
    refine hc ⟨i % 8, i / 8, k, by omega, by omega, hk, ?_⟩
    unfold bitX
    rw [show 8 * (i / 8) + i % 8 = i by omega]
    exact hi
  rw [(empty_iff f).2 this] at h
  cases h
theorem sides {f : Sol} (hf : Fit f) (h : emptyS f = false) : rowX (shadow f 8) 8 ≠ 0 ∧ rowsY (shadow f 8) 8 ≠ 0 ∧ levels f 8 ≠ 0 := by
  obtain ⟨x, y, z, hx, hy, hz, hb⟩ := bit_some hf h
  exact ⟨ne_of_bit ((rx_iff f hx).2 ⟨y, z, hy, hz, hb⟩), ne_of_bit ((ry_iff f hy).2 ⟨x, z, hx, hz, hb⟩), ne_of_bit ((rz_iff hf hz).2 ⟨x, y, hx, hy, hb⟩)⟩
theorem at_lowX {f : Sol} (hf : Fit f) (h : emptyS f = false) : ∃ y z, y < 8 ∧ z < 8 ∧ bitX f (lowX f) y z = true :=
  (rx_iff f (low_lt _ 8 (sides hf h).1 (rowX_lt _ _))).1 (low_bit _ (sides hf h).1).1
theorem at_lowY {f : Sol} (hf : Fit f) (h : emptyS f = false) : ∃ x z, x < 8 ∧ z < 8 ∧ bitX f x (lowY f) z = true :=
  (ry_iff f (low_lt _ 8 (sides hf h).2.1 (rowsY_lt _ _ (by omega)))).1 (low_bit _ (sides hf h).2.1).1
theorem at_lowZ {f : Sol} (hf : Fit f) (h : emptyS f = false) : ∃ x y, x < 8 ∧ y < 8 ∧ bitX f x y (lowZ f) = true :=
  (rz_iff hf (low_lt _ 8 (sides hf h).2.2 (levels_lt _ _ (by omega)))).1 (low_bit _ (sides hf h).2.2).1
theorem at_highX {f : Sol} (hf : Fit f) (h : emptyS f = false) : ∃ y z, y < 8 ∧ z < 8 ∧ bitX f (highX f - 1) y z = true := by
  have b := boundN hf h
  have := b.x0
  have := b.x1
  exact (rx_iff f (by omega)).1 (top_bit (rowX_lt _ _) (sides hf h).1)
theorem at_highY {f : Sol} (hf : Fit f) (h : emptyS f = false) : ∃ x z, x < 8 ∧ z < 8 ∧ bitX f x (highY f - 1) z = true := by
  have b := boundN hf h
  have := b.y0
  have := b.y1
  exact (ry_iff f (by omega)).1 (top_bit (rowsY_lt _ _ (by omega)) (sides hf h).2.1)
theorem at_highZ {f : Sol} (hf : Fit f) (h : emptyS f = false) : ∃ x y, x < 8 ∧ y < 8 ∧ bitX f x y (highZ f - 1) = true := by
  have b := boundN hf h
  have := b.z0
  have := b.z1
  exact (rz_iff hf (by omega)).1 (top_bit (levels_lt _ _ (by omega)) (sides hf h).2.2)
theorem plane_of_bit {f : Sol} {a b c : Nat} (h : bitX f a b c = true) : f c ≠ 0 := ne_of_bit h
theorem hasI_iff (f : Sol) (p : I3) : hasI f p = true ↔ ∃ a b c : Nat, (a < 8 ∧ b < 8 ∧ c < 8) ∧ p = ((a : Int), (b : Int), (c : Int)) ∧ bitX f a b c = true := by
  unfold hasI
  rw [Bool.and_eq_true]
  constructor
  · rintro ⟨h1, h2⟩
    have h7 : In7 p := by unfold In7; exact of_decide_eq_true h1
    obtain ⟨x, y, z⟩ := p
    have h8 : 0 ≤ x ∧ x ≤ 7 ∧ 0 ≤ y ∧ y ≤ 7 ∧ 0 ≤ z ∧ z ≤ 7 := h7
    refine ⟨x.toNat, y.toNat, z.toNat, by omega, by simp; omega, ?_⟩
    have v := ofI_val (p := (x, y, z)) h7
    unfold hasC cX cY cZ at h2
    rw [v] at h2
    simp only at h2
    unfold bitX
    rwa [show (64 * z.toNat + 8 * y.toNat + x.toNat) / 64 = z.toNat by omega, show 8 * ((64 * z.toNat + 8 * y.toNat + x.toNat) / 8 % 8) + (64 * z.toNat + 8 * y.toNat + x.toNat) % 8 = 8 * y.toNat + x.toNat by omega] at h2
  · rintro ⟨a, b, c, ⟨ha, hb, hc⟩, rfl, h⟩
    have h7 : In7 ((a : Int), (b : Int), (c : Int)) := by unfold In7; simp only; omega
    refine ⟨by unfold inG; exact decide_eq_true (by simp only; omega), ?_⟩
    have v := ofI_val h7
    unfold hasC cX cY cZ
    rw [v]
    simp only [Int.toNat_natCast]
    rw [show (64 * c + 8 * b + a) / 64 = c by omega, show 8 * ((64 * c + 8 * b + a) / 8 % 8) + (64 * c + 8 * b + a) % 8 = 8 * b + a by omega]
    exact h
abbrev plus (p v : I3) : I3 := (p.1 + v.1, p.2.1 + v.2.1, p.2.2 + v.2.2)
theorem has_in7 {f : Sol} {p : I3} (h : hasI f p = true) : In7 p := by
  obtain ⟨a, b, c, h1, rfl, _⟩ := (hasI_iff f p).1 h
  unfold In7
  simp only
  omega
theorem has_ext {f g : Sol} (hf : Fit f) (hg : Fit g) (h : ∀ p, hasI f p = true ↔ hasI g p = true) : eqS f g = true :=
  eq_has hf hg fun c => by
    have h1 := h (toI c)
    have hi : inG (toI c).1 (toI c).2.1 (toI c).2.2 = true := by
      have := toI_in7 c
      unfold inG
      exact decide_eq_true this
    have e : ofI (toI c) = c := Fin.ext (by
      rw [ofI_val (toI_in7 c)]
      unfold toI cX cY cZ
      simp only
      omega)
    unfold hasI at h1
    rw [hi, e, Bool.true_and, Bool.true_and] at h1
    exact Bool.eq_iff_iff.2 h1
theorem has_cell (f : Sol) (c : Cl) : hasI f (toI c) = hasC f c := by
  have hi : inG (toI c).1 (toI c).2.1 (toI c).2.2 = true := by
    have := toI_in7 c
    unfold inG
    exact decide_eq_true this
  have e : ofI (toI c) = c := Fin.ext (by
    rw [ofI_val (toI_in7 c)]
    unfold toI cX cY cZ
    simp only
    omega)
  unfold hasI
  rw [hi, e, Bool.true_and]
theorem toI_ofI {p : I3} (h : In7 p) : toI (ofI p) = p := by
  unfold toI
  rw [ofI_x h, ofI_y h, ofI_z h]
theorem empty_has {f : Sol} (hf : Fit f) : emptyS f = true ↔ ∀ p, hasI f p = false := by
  constructor
  · intro h p
    cases hp : hasI f p with
    | false => rfl
    | true =>
      obtain ⟨a, b, c, ⟨_, _, h3⟩, _, h4⟩ := (hasI_iff f p).1 hp
      exact absurd ((empty_iff f).1 h c h3) (plane_of_bit h4)
  · intro h
    cases he : emptyS f with
    | true => rfl
    | false =>
      obtain ⟨x, y, z, hx, hy, hz, hb⟩ := bit_some hf he
      have := (hasI_iff f ((x : Int), (y : Int), (z : Int))).2 ⟨x, y, z, ⟨hx, hy, hz⟩, rfl, hb⟩
      rw [h] at this
      cases this
/-- The one is the other, moved. -/
def Trans (f g : Sol) : Prop := ∃ v : I3, ∀ p, hasI f p = hasI g (plus p v)
abbrev neg (v : I3) : I3 := (-v.1, -v.2.1, -v.2.2)
theorem I3.ext' {p q : I3} (h1 : p.1 = q.1) (h2 : p.2.1 = q.2.1) (h3 : p.2.2 = q.2.2) : p = q := Prod.ext h1 (Prod.ext h2 h3)
theorem neg_plus (p v : I3) : plus (plus p (neg v)) v = p := I3.ext' (by simp only [plus, neg]; omega) (by simp only [plus, neg]; omega) (by simp only [plus, neg]; omega)
theorem plus_plus (p u v : I3) : plus (plus p u) v = plus p (plus u v) := I3.ext' (by simp only [plus]; omega) (by simp only [plus]; omega) (by simp only [plus]; omega)
theorem Trans.refl (f : Sol) : Trans f f := ⟨(0, 0, 0), fun p => by simp [plus]⟩
theorem Trans.symm {f g : Sol} (h : Trans f g) : Trans g f := by
  obtain ⟨v, h⟩ := h
  exact ⟨neg v, fun p => by rw [h, neg_plus]⟩
theorem Trans.trans {f g k : Sol} (h : Trans f g) (h' : Trans g k) : Trans f k := by
  obtain ⟨u, h⟩ := h
  obtain ⟨v, h'⟩ := h'
  exact ⟨plus u v, fun p => by rw [h, h', plus_plus]⟩
theorem has_congr {f g : Sol} (h : eqS f g = true) (p : I3) : hasI f p = hasI g p := by
  obtain ⟨h0, h1, h2, h3, h4, h5, h6, h7⟩ := of_decide_eq_true h
  have e : ∀ z, z < 8 → f z = g z := fun z hz => by
    rcases lt8 hz with rfl | rfl | rfl | rfl | rfl | rfl | rfl | rfl <;> assumption
  unfold hasI hasC
  rw [e _ (by have := Z_le (ofI p); omega)]
theorem has_at_low {f : Sol} (hf : Fit f) (he : emptyS f = false) : (∃ p, hasI f p = true ∧ p.1 = lowX f) ∧ (∃ p, hasI f p = true ∧ p.2.1 = lowY f) ∧ (∃ p, hasI f p = true ∧ p.2.2 = lowZ f) := by
  have bn := boundN hf he
  have := bn.x0
  have := bn.x1
  have := bn.y0
  have := bn.y1
  have := bn.z0
  have := bn.z1
  obtain ⟨y1, z1, a1, a2, a3⟩ := at_lowX hf he
  obtain ⟨x3, z3, c1, c2, c3⟩ := at_lowY hf he
  obtain ⟨x5, y5, e1, e2, e3⟩ := at_lowZ hf he
  exact ⟨⟨_, (hasI_iff f _).2 ⟨_, _, _, ⟨by omega, a1, a2⟩, rfl, a3⟩, rfl⟩, ⟨_, (hasI_iff f _).2 ⟨_, _, _, ⟨c1, by omega, c2⟩, rfl, c3⟩, rfl⟩, ⟨_, (hasI_iff f _).2 ⟨_, _, _, ⟨e1, e2, by omega⟩, rfl, e3⟩, rfl⟩⟩
theorem has_low {f : Sol} (hf : Fit f) {p : I3} (h : hasI f p = true) : (lowX f : Int) ≤ p.1 ∧ (lowY f : Int) ≤ p.2.1 ∧ (lowZ f : Int) ≤ p.2.2 := by
  obtain ⟨a, b, c, ⟨h1, h2, h3⟩, rfl, h4⟩ := (hasI_iff f p).1 h
  obtain ⟨w1, w2, w3, w4, w5, w6⟩ := within hf h1 h2 h3 h4
  simp only
  omega
end Go.Proofs.YtadkaplafaeebaaGreatDoor
/-
  Images as orbits: counted by turns; lists that are sorted, each once; the least image.
-/
set_option linter.unusedVariables false
set_option linter.unusedSimpArgs false
set_option maxRecDepth 100000
namespace Go.Proofs.YtadkaplafaeebaaGreatDoor
open Go Go.RowKit Go.Sort

theorem eqS_at {f g : Sol} (h : eqS f g = true) : ∀ k, k < 8 → f k = g k := fun k hk => by
  obtain ⟨h0, h1, h2, h3, h4, h5, h6, h7⟩ := of_decide_eq_true h
  rcases lt8 hk with rfl | rfl | rfl | rfl | rfl | rfl | rfl | rfl <;> assumption
theorem eqS_of {f g : Sol} (h : ∀ k, k < 8 → f k = g k) : eqS f g = true :=
  decide_eq_true ⟨h 0 (by omega), h 1 (by omega), h 2 (by omega), h 3 (by omega), h 4 (by omega), h 5 (by omega), h 6 (by omega), h 7 (by omega)⟩
end Go.Proofs.YtadkaplafaeebaaGreatDoor
