/-
  Turns as signed permutations; what a turned solid has.
-/
import Derived.Test.YtadkaplafaeebaaGreatDoorPkV
set_option linter.unusedVariables false
set_option linter.unusedSimpArgs false
namespace Go.Proofs.YtadkaplafaeebaaGreatDoor
open Go Go.RowKit

abbrev Sg := (Nat × Bool) × (Nat × Bool) × (Nat × Bool)
def coor (c : I3) (i : Nat) : Int := match i with | 0 => c.1 | 1 => c.2.1 | _ => c.2.2
def pk (b : Int) (c : I3) (q : Nat × Bool) : Int := if q.2 then b - coor c q.1 else coor c q.1
def ap (b : Int) (s : Sg) (c : I3) : I3 := (pk b c s.1, pk b c s.2.1, pk b c s.2.2)
def sel (s : Sg) (i : Nat) : Nat × Bool := match i with | 0 => s.1 | 1 => s.2.1 | _ => s.2.2
def through (s : Sg) (p : Nat × Bool) : Nat × Bool := ((sel s p.1).1, xor p.2 (sel s p.1).2)
def cmp2 (s1 s2 : Sg) : Sg := (through s2 s1.1, through s2 s1.2.1, through s2 s1.2.2)
theorem coor_ap (b : Int) (s : Sg) (c : I3) (i : Nat) : coor (ap b s c) i = pk b c (sel s i) := by
  unfold coor sel ap
  split <;> rfl
theorem pk_ap (b : Int) (s : Sg) (c : I3) (p : Nat × Bool) : pk b (ap b s c) p = pk b c (through s p) := by
  unfold through
  obtain ⟨i, f⟩ := p
  simp only [pk, coor_ap]
  cases f <;> cases (sel s i).2 <;> simp <;> omega
theorem ap_ap (b : Int) (s1 s2 : Sg) (c : I3) : ap b s1 (ap b s2 c) = ap b (cmp2 s1 s2) c := by
  show (pk b (ap b s2 c) s1.1, pk b (ap b s2 c) s1.2.1, pk b (ap b s2 c) s1.2.2) = _
  rw [pk_ap, pk_ap, pk_ap]
  rfl
def sgRoll : Nat → Sg
  | 1 => ((0, false), (2, true), (1, false))
  | 2 => ((0, false), (1, true), (2, true))
  | 3 => ((0, false), (2, false), (1, true))
  | 4 => ((2, false), (1, false), (0, true))
  | 5 => ((2, true), (1, false), (0, false))
  | _ => ((0, false), (1, false), (2, false))
def sgUp : Sg := ((1, true), (0, false), (2, false))
def sgUpN : Nat → Sg → Sg
  | 0, s => s
  | n + 1, s => cmp2 sgUp (sgUpN n s)
def sgT (t : Nat) : Sg := sgUpN (t % 4) (sgRoll (t / 4))
theorem roll_ap (b : Int) (k : Nat) (c : I3) (h : k < 6) : rollI b k c = ap b (sgRoll k) c := by
  obtain ⟨x, y, z⟩ := c
  rcases (show k = 0 ∨ k = 1 ∨ k = 2 ∨ k = 3 ∨ k = 4 ∨ k = 5 by omega) with rfl | rfl | rfl | rfl | rfl | rfl <;> rfl
theorem upN_ap (b : Int) (s : Sg) (c : I3) : ∀ n, upN b n (ap b s c) = ap b (sgUpN n s) c
  | 0 => rfl
  | n + 1 => by
    unfold upN sgUpN
    rw [upN_ap b s c n, ← ap_ap]
    rfl
theorem turn_ap (b : Int) (t : Nat) (c : I3) (h : t < 24) : turnI b t c = ap b (sgT t) c := by
  unfold turnI sgT
  rw [roll_ap b (t / 4) c (by omega), upN_ap]
def compT (t u : Nat) : Nat := ((List.range 24).find? fun T => decide (sgT T = cmp2 (sgT u) (sgT t))).getD 0
theorem comp_fin : ∀ t u : Fin 24, compT t.1 u.1 < 24 ∧ sgT (compT t.1 u.1) = cmp2 (sgT u.1) (sgT t.1) ∧ ∀ j : Fin 24, j.1 < compT t.1 u.1 → turnI 0 j.1 (1, 2, 3) ≠ turnI 0 u.1 (turnI 0 t.1 (1, 2, 3)) := by decide +kernel
theorem comp_lt {t u : Nat} (ht : t < 24) (hu : u < 24) : compT t u < 24 := (comp_fin ⟨t, ht⟩ ⟨u, hu⟩).1
theorem comp_turn (b : Int) {t u : Nat} (ht : t < 24) (hu : u < 24) (c : I3) : turnI b u (turnI b t c) = turnI b (compT t u) c := by
  rw [turn_ap b t c ht, turn_ap b u _ hu, ap_ap, turn_ap b (compT t u) c (comp_lt ht hu)]
  rw [show sgT (compT t u) = cmp2 (sgT u) (sgT t) from (comp_fin ⟨t, ht⟩ ⟨u, hu⟩).2.1]
theorem comp_to {t u : Nat} (ht : t < 24) (hu : u < 24) : toTurn (1, 2, 3) (turnI 0 u (turnI 0 t (1, 2, 3))) (compT t u) :=
  ⟨(comp_turn 0 ht hu _).symm, fun j hj => (comp_fin ⟨t, ht⟩ ⟨u, hu⟩).2.2 ⟨j, Nat.lt_trans hj (comp_lt ht hu)⟩ hj⟩
theorem comp_cell {t u : Nat} (ht : t < 24) (hu : u < 24) (c : Cl) : turnC u (turnC t c) = turnC (compT t u) c := by
  unfold turnC
  have h7 := turnI_in7 (toI_in7 c) t
  have e : toI (ofI (turnI 7 t (toI c))) = turnI 7 t (toI c) := by
    unfold toI
    rw [ofI_x h7, ofI_y h7, ofI_z h7]
  rw [e, comp_turn 7 ht hu]
theorem four_fin : sgUpN 3 sgUp = sgT 0 := by decide
theorem four_cell (c : Cl) : turnC 1 (turnC 1 (turnC 1 (turnC 1 c))) = c := by
  rw [comp_cell (by decide) (by decide), comp_cell (by decide) (by decide), comp_cell (by decide) (by decide), show compT 1 (compT 1 (compT 1 1)) = 0 by decide +kernel]
  unfold turnC
  have : turnI 7 0 (toI c) = toI c := rfl
  rw [this]
  apply Fin.ext
  rw [ofI_val (toI_in7 c)]
  unfold toI cX cY cZ
  simp only
  omega
theorem has_set (g : Sol) (c d : Cl) : hasC (setC g c) d = (hasC g d || decide (d = c)) := by
  unfold hasC setC up8
  by_cases hz : cZ d = cZ c
  · rw [if_pos hz, Nat.testBit_or, ← hz]
    unfold bitN
    rw [Nat.testBit_two_pow]
    congr 1
    refine decide_eq_decide.2 ⟨fun h => Fin.ext ?_, fun h => by rw [h]⟩
    unfold cX cY cZ at *
    omega
  · rw [if_neg hz]
    have : ¬ d = c := fun e => hz (by rw [e])
    simp [this]
theorem has_solOf (l : List Cl) (d : Cl) : hasC (solOf l) d = decide (d ∈ l) := by
  have : ∀ (l : List Cl) (g : Sol), hasC (l.foldl setC g) d = (hasC g d || decide (d ∈ l)) := by
    intro l
    induction l with
    | nil => intro g; simp
    | cons c l ih =>
      intro g
      rw [List.foldl_cons, ih, has_set]
      cases hasC g d <;> simp [List.mem_cons]
  have h := this l (fun _ => 0)
  rw [show hasC (fun _ => 0) d = false by simp [hasC]] at h
  simpa [solOf] using h
end Go.Proofs.YtadkaplafaeebaaGreatDoor
/-
  Turned solids: which cells they have; what turns of turns make.
-/
set_option linter.unusedVariables false
set_option linter.unusedSimpArgs false
namespace Go.Proofs.YtadkaplafaeebaaGreatDoor
open Go Go.RowKit

theorem eq_has {f g : Sol} (hf : Fit f) (hg : Fit g) (h : ∀ c, hasC f c = hasC g c) : eqS f g = true := by
  have key : ∀ k, k < 8 → f k = g k := fun k hk => by
    apply Nat.eq_of_testBit_eq
    intro i
    by_cases hi : i < 64
    · have h1 := h ⟨64 * k + i, by omega⟩
      unfold hasC cX cY cZ at h1
      simp only at h1
      rwa [show (64 * k + i) / 64 = k by omega, show 8 * ((64 * k + i) / 8 % 8) + (64 * k + i) % 8 = i by omega] at h1
    · have big : ∀ x : Nat, x < 18446744073709551616 → x.testBit i = false := fun x hx =>
        Nat.testBit_lt_two_pow (Nat.lt_of_lt_of_le hx (by rw [show (18446744073709551616 : Nat) = 2 ^ 64 by decide]; exact Nat.pow_le_pow_right (by omega) (by omega)))
      rw [big _ (hf k), big _ (hg k)]
  unfold eqS
  exact decide_eq_true ⟨key 0 (by omega), key 1 (by omega), key 2 (by omega), key 3 (by omega), key 4 (by omega), key 5 (by omega), key 6 (by omega), key 7 (by omega)⟩
theorem mem_cells (f : Sol) (d : Cl) : d ∈ cellsL f ↔ hasC f d = true := by
  unfold cellsL restL planeL bitsOf hasC
  rw [List.mem_flatMap]
  constructor
  · rintro ⟨i, hi, hd⟩
    obtain ⟨b, hb, rfl⟩ := List.mem_map.1 hd
    obtain ⟨hb1, hb2⟩ := List.mem_filter.1 hb
    have hb3 := List.mem_range.1 hb1
    have hi2 : i < 8 := by simpa using hi
    unfold ci cX cY cZ
    simp only
    rw [show (64 * i + b) % 512 = 64 * i + b by omega, show (64 * i + b) / 64 = i by omega, show 8 * ((64 * i + b) / 8 % 8) + (64 * i + b) % 8 = b by omega]
    exact hb2
  · intro h
    refine ⟨cZ d, ?_, List.mem_map.2 ⟨8 * cY d + cX d, List.mem_filter.2 ⟨List.mem_range.2 ?_, h⟩, ?_⟩⟩
    · have := d.2
      unfold cZ
      simp
      omega
    · unfold cX cY
      omega
    · apply Fin.ext
      have := d.2
      unfold ci cX cY cZ
      simp only
      omega
theorem has_turned (f : Sol) (t : Nat) (d : Cl) : hasC (turnedF f t) d = true ↔ ∃ c, hasC f c = true ∧ turnC t c = d := by
  unfold turnedF
  rw [has_solOf, decide_eq_true_eq, List.mem_map]
  exact ⟨fun ⟨c, h1, h2⟩ => ⟨c, (mem_cells f c).1 h1, h2⟩, fun ⟨c, h1, h2⟩ => ⟨c, (mem_cells f c).2 h1, h2⟩⟩
theorem turned_two (f : Sol) {t u : Nat} (ht : t < 24) (hu : u < 24) : eqS (turnedF f (compT t u)) (turnedF (turnedF f t) u) = true :=
  eq_has (turnedF_fit f _) (turnedF_fit _ _) fun d => by
    rw [Bool.eq_iff_iff, has_turned, has_turned]
    constructor
    · rintro ⟨c, h1, h2⟩
      exact ⟨turnC t c, (has_turned f t _).2 ⟨c, h1, rfl⟩, by rw [comp_cell ht hu]; exact h2⟩
    · rintro ⟨e, h1, h2⟩
      obtain ⟨c, h3, rfl⟩ := (has_turned f t e).1 h1
      exact ⟨c, h3, by rw [← comp_cell ht hu]; exact h2⟩
theorem turned_four (f : Sol) (hf : Fit f) : eqS (turnedF (turnedF (turnedF (turnedF f 1) 1) 1) 1) f = true :=
  eq_has (turnedF_fit _ _) hf fun d => by
    rw [Bool.eq_iff_iff, has_turned]
    constructor
    · rintro ⟨c3, h3, rfl⟩
      obtain ⟨c2, h2, rfl⟩ := (has_turned _ 1 c3).1 h3
      obtain ⟨c1, h1, rfl⟩ := (has_turned _ 1 c2).1 h2
      obtain ⟨c0, h0, rfl⟩ := (has_turned _ 1 c1).1 h1
      rw [four_cell]
      exact h0
    · intro h
      exact ⟨turnC 1 (turnC 1 (turnC 1 d)), (has_turned _ 1 _).2 ⟨_, (has_turned _ 1 _).2 ⟨_, (has_turned f 1 _).2 ⟨d, h, rfl⟩, rfl⟩, rfl⟩, four_cell d⟩
theorem shift_zero (f : Sol) (hf : Fit f) : eqS (shiftS f 0 0 0) f = true := by
  have key : ∀ n, n ≤ 8 → ∀ k, shiftF f 0 0 0 n k = if k < n then f k else 0 := by
    intro n
    induction n with
    | zero => intro _ k; simp [shiftF]
    | succ n ih =>
      intro hn k
      unfold shiftF
      have hs : shl (8 * 0 + 0) (f n) = f n := by
        unfold shl
        rw [if_neg (by decide)]
        simp
        exact hf n
      by_cases h0 : f n = 0
      · rw [if_pos h0, ih (by omega)]
        by_cases hk : k = n
        · subst hk; simp [h0]
        · by_cases h1 : k < n
          · rw [if_pos h1, if_pos (by omega)]
          · rw [if_neg h1, if_neg (by omega)]
      · rw [if_neg h0, hs]
        unfold up8
        by_cases hk : k = n
        · subst hk; simp
        · rw [if_neg (by simpa using hk), ih (by omega)]
          by_cases h1 : k < n
          · rw [if_pos h1, if_pos (by omega)]
          · rw [if_neg h1, if_neg (by omega)]
  unfold eqS shiftS
  refine decide_eq_true ⟨?_, ?_, ?_, ?_, ?_, ?_, ?_, ?_⟩ <;> rw [key 8 (by omega)] <;> rfl
end Go.Proofs.YtadkaplafaeebaaGreatDoor
