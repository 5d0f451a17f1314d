/-
  The places of a solid inside another one, as the program lists them and as the reference does.
-/
import Derived.Test.YtadkaplafaeebaaGreatDoorPkXBQ
set_option linter.unusedVariables false
set_option linter.unusedSimpArgs false
set_option maxRecDepth 100000
namespace Go.Proofs.YtadkaplafaeebaaGreatDoor
open Go Go.RowKit Go.Shelf

def negP (v : I3) : I3 := (-v.1, -v.2.1, -v.2.2)
theorem shift_has {m : Sol} (hm : Fit m) {x y z : Int} (ho : outB m x y z = false) (p : I3) : hasI (shiftS m x y z) (plus p (x, y, z)) = hasI m p := by
  rw [Bool.eq_iff_iff, has_shift hm ho]
  constructor
  · rintro ⟨c, hc, e⟩
    rw [← plus_inj e]
    exact hc
  · exact fun h => ⟨p, h, rfl⟩
theorem out_congr {m k : Sol} (hm : Fit m) (hk : Fit k) (he : emptyS m = false) (hke : emptyS k = false) (e : eqS m k = true) (x y z : Int) : outB m x y z = outB k x y z := by
  rw [Bool.eq_iff_iff]
  have h1 := out_has hm he (x, y, z)
  have h2 := out_has hk hke (x, y, z)
  simp only at h1 h2
  have key : outB m x y z = false ↔ outB k x y z = false := by
    rw [h1, h2]
    constructor <;> intro h p hp
    · exact h p (by rw [has_congr e]; exact hp)
    · exact h p (by rw [← has_congr e]; exact hp)
  cases h3 : outB m x y z <;> cases h4 : outB k x y z <;> simp_all
theorem shift_congr {m k : Sol} (hm : Fit m) (hk : Fit k) (he : emptyS m = false) (hke : emptyS k = false) (e : eqS m k = true) {x y z : Int} (ho : outB m x y z = false) : eqS (shiftS m x y z) (shiftS k x y z) = true := by
  have ho' : outB k x y z = false := by rw [← out_congr hm hk he hke e]; exact ho
  refine has_ext (shiftF_fit hm _ _ _ 8) (shiftF_fit hk _ _ _ 8) fun p => ?_
  rw [has_shift hm ho, has_shift hk ho']
  constructor
  · rintro ⟨c, hc, h⟩; exact ⟨c, by rw [← has_congr e]; exact hc, h⟩
  · rintro ⟨c, hc, h⟩; exact ⟨c, by rw [has_congr e]; exact hc, h⟩
theorem ne_has {f : Sol} (hf : Fit f) (he : emptyS f = false) : ∃ p, hasI f p = true := by
  obtain ⟨⟨p, hp, _⟩, _⟩ := has_at_low hf he
  exact ⟨p, hp⟩
theorem has_ne {f : Sol} (hf : Fit f) {p : I3} (h : hasI f p = true) : emptyS f = false := by
  cases he : emptyS f with
  | false => rfl
  | true => rw [(empty_has hf).1 he p] at h; cases h
theorem turned_ne {f : Sol} (hf : Fit f) (he : emptyS f = false) {t : Nat} : emptyS (turnedF f t) = false := by
  obtain ⟨p, hp⟩ := ne_has hf he
  exact has_ne (turnedF_fit f t) ((has_turn _).2 ⟨p, hp, rfl⟩)
theorem corn_ne {f : Sol} (hf : Fit f) (he : emptyS f = false) : emptyS (cornF f) = false := by
  obtain ⟨p, hp⟩ := ne_has hf he
  refine has_ne (cornF_fit hf) (p := plus p (negP (lowV f))) ?_
  rw [has_corn hf]
  have : plus (plus p (negP (lowV f))) (lowV f) = p := by unfold plus negP; ext <;> simp <;> omega
  rw [this]
  exact hp
theorem imgF_ne {f : Sol} (hf : Fit f) (he : emptyS f = false) (t : Nat) : emptyS (imgF f t) = false := corn_ne (turnedF_fit f t) (turned_ne hf he)
theorem empty_congr {f g : Sol} (hf : Fit f) (hg : Fit g) (e : eqS f g = true) (he : emptyS g = false) : emptyS f = false := by
  obtain ⟨p, hp⟩ := ne_has hg he
  exact has_ne hf (p := p) (by rw [has_congr e]; exact hp)
theorem corn_low {f : Sol} (hf : Fit f) (he : emptyS f = false) : lowX (cornF f) = 0 ∧ lowY (cornF f) = 0 ∧ lowZ (cornF f) = 0 := by
  obtain ⟨⟨a, ha, ea⟩, ⟨b, hb, eb⟩, c, hc, ec⟩ := has_at_low hf he
  have key : ∀ p, hasI f p = true → hasI (cornF f) (plus p (negP (lowV f))) = true := fun p hp => by
    rw [has_corn hf]
    have : plus (plus p (negP (lowV f))) (lowV f) = p := by unfold plus negP; ext <;> simp <;> omega
    rw [this]
    exact hp
  have k1 := has_low (cornF_fit hf) (key a ha)
  have k2 := has_low (cornF_fit hf) (key b hb)
  have k3 := has_low (cornF_fit hf) (key c hc)
  simp only [plus, negP, lowV] at k1 k2 k3
  omega
theorem imgF_low {f : Sol} (hf : Fit f) (he : emptyS f = false) (t : Nat) : lowX (imgF f t) = 0 ∧ lowY (imgF f t) = 0 ∧ lowZ (imgF f t) = 0 := corn_low (turnedF_fit f t) (turned_ne hf he)
/-- A place of a solid inside another one. -/
def PlaceP (f m y : Sol) : Prop := ∃ a b c : Int, outB m a b c = false ∧ inB (shiftS m a b c) f = true ∧ y = shiftS m a b c
def placeM (f m : Sol) : List Sol := (insideL f m).map fun p => p.2
theorem mem_placeM {f m : Sol} (hf : Fit f) (hm : Fit m) (hme : emptyS m = false) {y : Sol} : y ∈ placeM f m ↔ PlaceP f m y := by
  unfold placeM
  rw [List.mem_map]
  cases he : emptyS f with
  | true =>
    have e0 : insideL f m = [] := by unfold insideL; rw [if_pos he]
    rw [e0]
    constructor
    · rintro ⟨p, hp, _⟩; cases hp
    · rintro ⟨a, b, c, ho, hi, _⟩
      obtain ⟨p, hp⟩ := ne_has hm hme
      have := (in_iff (shiftF_fit hm _ _ _ 8)).1 hi (plus p (a, b, c)) ((shift_has hm ho p).trans hp)
      rw [(empty_has hf).1 he] at this
      cases this
  | false =>
    obtain ⟨f1, f2, f3, f4, f5, f6⟩ := boundN hf he
    obtain ⟨g1, g2, g3, g4, g5, g6⟩ := boundN hm hme
    constructor
    · rintro ⟨pl, hpl, rfl⟩
      obtain ⟨i, j, k, ⟨hi, hj, hk⟩, hin, rfl⟩ := (mem_inside he).1 hpl
      rw [gap_in f1 g1] at hi
      rw [gap_in f3 g3] at hj
      rw [gap_in f5 g5] at hk
      exact ⟨_, _, _, decide_eq_false (by omega), hin, rfl⟩
    · rintro ⟨a, b, c, ho, hin, rfl⟩
      have hv : ∀ p, hasI m p = true → hasI f (plus p (a, b, c)) = true := fun p hp => (in_iff (shiftF_fit hm _ _ _ 8)).1 hin _ ((shift_has hm ho p).trans hp)
      obtain ⟨⟨a1, ha, ea⟩, ⟨b1, hb, eb⟩, c1, hc, ec⟩ := has_at_low hm hme
      obtain ⟨⟨a', ha', ea'⟩, ⟨b', hb', eb'⟩, c', hc', ec'⟩ := has_at_high hm hme
      have k1 := has_low hf (hv a1 ha)
      have k2 := has_low hf (hv b1 hb)
      have k3 := has_low hf (hv c1 hc)
      have k4 := has_high hf (hv a' ha')
      have k5 := has_high hf (hv b' hb')
      have k6 := has_high hf (hv c' hc')
      simp only [plus] at k1 k2 k3 k4 k5 k6
      have e1 : (lowX f : Int) - (lowX m : Int) + (a - ((lowX f : Int) - (lowX m : Int))).toNat = a := by omega
      have e2 : (lowY f : Int) - (lowY m : Int) + (b - ((lowY f : Int) - (lowY m : Int))).toNat = b := by omega
      have e3 : (lowZ f : Int) - (lowZ m : Int) + (c - ((lowZ f : Int) - (lowZ m : Int))).toNat = c := by omega
      refine ⟨((a, b, c), shiftS m a b c), (mem_inside he).2 ⟨(a - ((lowX f : Int) - (lowX m : Int))).toNat, (b - ((lowY f : Int) - (lowY m : Int))).toNat, (c - ((lowZ f : Int) - (lowZ m : Int))).toNat, ⟨(gap_in f1 g1 _).2 (by omega), (gap_in f3 g3 _).2 (by omega), (gap_in f5 g5 _).2 (by omega)⟩, ?_, ?_⟩, rfl⟩
      · rw [e1, e2, e3]; exact hin
      · rw [e1, e2, e3]
theorem placeP_congr {f m k y : Sol} (hm : Fit m) (hk : Fit k) (he : emptyS m = false) (hke : emptyS k = false) (e : eqS m k = true) (h : PlaceP f m y) : ∃ y', PlaceP f k y' ∧ eqS y y' = true := by
  obtain ⟨a, b, c, ho, hin, rfl⟩ := h
  have h1 := shift_congr hm hk he hke e ho
  refine ⟨shiftS k a b c, ⟨a, b, c, by rw [← out_congr hm hk he hke e]; exact ho, ?_, rfl⟩, h1⟩
  refine (in_iff (shiftF_fit hk _ _ _ 8)).2 fun p hp => (in_iff (shiftF_fit hm _ _ _ 8)).1 hin p ?_
  exact (has_congr h1 p).trans hp
theorem flat_len {α β : Type} (c : Nat) (f : α → List β) : ∀ l : List α, (∀ x ∈ l, (f x).length ≤ c) → (l.flatMap f).length ≤ l.length * c
  | [], _ => by simp
  | x :: l, h => by
    have h1 := h x List.mem_cons_self
    have h2 := flat_len c f l fun y hy => h y (List.mem_cons_of_mem _ hy)
    rw [List.flatMap_cons, List.length_append, List.length_cons, Nat.add_mul]
    omega
theorem insX_len (f g : Sol) (y z lo : Int) (n : Nat) : (insX f g y z lo n 0).length ≤ n := by
  have := flat_len 1 (fun (i : Nat) => if inB (shiftF g (lo + (i : Int)) y z 8) f = true then [((lo + (i : Int), y, z), shiftF g (lo + (i : Int)) y z 8)] else []) (List.range' 0 (n - 0)) (fun x _ => by split <;> simp)
  simpa [insX] using this
theorem insY_len (f g : Sol) (z ly lx : Int) (ny nx : Nat) : (insY f g z ly lx ny nx 0).length ≤ ny * nx := by
  have := flat_len nx (fun (j : Nat) => insX f g (ly + (j : Int)) z lx nx 0) (List.range' 0 (ny - 0)) (fun x _ => insX_len _ _ _ _ _ _)
  simpa [insY] using this
theorem insZ_len (f g : Sol) (lz ly lx : Int) (nz ny nx : Nat) : (insZ f g lz ly lx nz ny nx 0).length ≤ nz * (ny * nx) := by
  have := flat_len (ny * nx) (fun (i : Nat) => insY f g (lz + (i : Int)) ly lx ny nx 0) (List.range' 0 (nz - 0)) (fun x _ => insY_len _ _ _ _ _ _ _)
  simpa [insZ] using this
theorem mul9 {a b c : Nat} (ha : a ≤ 9) (hb : b ≤ 9) (hc : c ≤ 9) : a * (b * c) ≤ 729 := Nat.mul_le_mul ha (Nat.mul_le_mul hb hc)
theorem inside_len {f : Sol} (hf : Fit f) (m : Sol) : (insideL f m).length ≤ 729 := by
  unfold insideL
  split
  · simp
  · rename_i h
    obtain ⟨f1, f2, f3, f4, f5, f6⟩ := boundN hf (by simpa using h)
    exact Nat.le_trans (insZ_len _ _ _ _ _ _ _ _) (mul9 (by unfold gap; omega) (by unfold gap; omega) (by unfold gap; omega))
end Go.Proofs.YtadkaplafaeebaaGreatDoor
