/-
  What the law of places says of a list of all places.
-/
import Derived.Test.YtadkaplafaeebaaGreatDoorPlcMQ
set_option linter.unusedVariables false
set_option linter.unusedSimpArgs false
set_option maxRecDepth 100000
namespace Go.Proofs.YtadkaplafaeebaaGreatDoor
open Go Go.RowKit Go.Shelf

/-- A list of all places, in order. -/
structure IsPl (f g : Sol) (L : List Sol) : Prop where
  asc : Strict L
  sound : ∀ x ∈ L, Fit x ∧ ∃ t, t < 24 ∧ ∃ y, PlaceP f (imgF g t) y ∧ eqS x y = true
  full : ∀ t, t < 24 → ∀ y, PlaceP f (imgF g t) y → ∃ x ∈ L, eqS x y = true
theorem num_congr {f g : Sol} (h : eqS f g = true) : numF f = numF g := by
  have h1 := (num_le (f := f) (g := g) id (fun p q e => e) fun p hp => by show hasI f p = true; rw [has_congr h]; exact hp).1
  have h2 := (num_le (f := g) (g := f) id (fun p q e => e) fun p hp => by show hasI g p = true; rw [← has_congr h]; exact hp).1
  omega
theorem num_trans {f g : Sol} (h : Trans f g) : numF f = numF g := by
  have key : ∀ {f g : Sol}, Trans f g → numF f ≤ numF g := fun {f g} ⟨v, hv⟩ => (num_le (f := g) (g := f) (fun p => plus p v) (fun p q e => plus_inj e) fun p hp => by rw [← hv]; exact hp).1
  exact Nat.le_antisymm (key h) (key h.symm)
theorem num_turn (f : Sol) {t : Nat} (ht : t < 24) : numF (turnedF f t) = numF f := by
  have h1 := (num_le (f := turnedF f t) (g := f) (turnI 7 t) (fun p q e => turn_inj 7 ht e) fun p hp => (has_turn _).2 ⟨p, hp, rfl⟩).1
  have h2 := (num_le (f := f) (g := turnedF f t) (turnI 7 (invT t)) (fun p q e => turn_inj 7 (inv_lt ht) e) fun p hp => by rw [← has_turn' ht]; exact hp).1
  omega
theorem shift_trans {m : Sol} (hm : Fit m) {x y z : Int} (ho : outB m x y z = false) : Trans m (shiftS m x y z) := ⟨(x, y, z), fun p => (shift_has hm ho p).symm⟩
theorem img_num {g : Sol} (hg : Fit g) {t : Nat} (ht : t < 24) : numF (imgF g t) = numF g :=
  (num_trans (corn_trans (turnedF_fit g t) : Trans (imgF g t) (turnedF g t))).trans (num_turn g ht)
theorem pl_num {f g : Sol} {L : List Sol} (h : IsPl f g L) (hg : Fit g) {x : Sol} (hx : x ∈ L) : numF x = numF g := by
  obtain ⟨_, t, ht, y, ⟨a, b, c, ho, _, rfl⟩, e⟩ := h.sound x hx
  rw [num_congr e, ← num_trans (shift_trans (imgF_fit g t) ho), img_num hg ht]
theorem pl_in {f g : Sol} {L : List Sol} (h : IsPl f g L) {x : Sol} (hx : x ∈ L) : inB x f = true := by
  obtain ⟨hxf, t, ht, y, ⟨a, b, c, ho, hi, rfl⟩, e⟩ := h.sound x hx
  refine (in_iff hxf).2 fun p hp => (in_iff (shiftF_fit (imgF_fit g t) _ _ _ 8)).1 hi p ?_
  exact (has_congr e p).symm.trans hp
/-- What is placed inside is one of them. -/
theorem pl_placed {f g : Sol} {L : List Sol} (h : IsPl f g L) (hg : Fit g) (hge : emptyS g = false) {t : Nat} (ht : t < 24) {x y z : Int} (ho : outB (turnedF g t) x y z = false) (hi : inB (shiftS (turnedF g t) x y z) f = true) :
    ∃ q ∈ L, eqS q (shiftS (turnedF g t) x y z) = true := by
  have hhf := turnedF_fit g t
  have hhe := turned_ne hg hge (t := t)
  obtain ⟨l, hl⟩ : ∃ l, l = lowV (turnedF g t) := ⟨_, rfl⟩
  have hc : ∀ p, hasI (imgF g t) p = hasI (turnedF g t) (plus p l) := fun p => by rw [hl]; exact has_corn hhf p
  have ho2 : outB (imgF g t) (l.1 + x) (l.2.1 + y) (l.2.2 + z) = false := by
    rw [out_has (imgF_fit g t) (imgF_ne hg hge t) (l.1 + x, l.2.1 + y, l.2.2 + z)]
    intro p hp
    rw [hc] at hp
    have := (out_has hhf hhe (x, y, z)).1 ho _ hp
    have e : plus (plus p l) (x, y, z) = plus p (l.1 + x, l.2.1 + y, l.2.2 + z) := by unfold plus; ext <;> simp <;> omega
    rw [← e]
    exact this
  have he : eqS (shiftS (imgF g t) (l.1 + x) (l.2.1 + y) (l.2.2 + z)) (shiftS (turnedF g t) x y z) = true := by
    refine has_ext (shiftF_fit (imgF_fit g t) _ _ _ 8) (shiftF_fit hhf _ _ _ 8) fun p => ?_
    rw [has_shift (imgF_fit g t) ho2, has_shift hhf ho]
    constructor
    · rintro ⟨c, hh, rfl⟩
      rw [hc] at hh
      exact ⟨_, hh, by unfold plus; ext <;> simp <;> omega⟩
    · rintro ⟨c, hh, rfl⟩
      refine ⟨plus c (negP l), ?_, by unfold plus negP; ext <;> simp <;> omega⟩
      rw [hc]
      have : plus (plus c (negP l)) l = c := by unfold plus negP; ext <;> simp <;> omega
      rw [this]
      exact hh
  have hi2 : inB (shiftS (imgF g t) (l.1 + x) (l.2.1 + y) (l.2.2 + z)) f = true := by
    refine (in_iff (shiftF_fit (imgF_fit g t) _ _ _ 8)).2 fun p hp => (in_iff (shiftF_fit hhf _ _ _ 8)).1 hi p ?_
    exact (has_congr he p).symm.trans hp
  obtain ⟨q, hq, hqe⟩ := h.full t ht _ ⟨_, _, _, ho2, hi2, rfl⟩
  exact ⟨q, hq, eqS_trans hqe he⟩
theorem in_congr {f p q : Sol} (hp : Fit p) (hq : Fit q) (e : eqS p q = true) (h : inB p f = true) : inB q f = true :=
  (in_iff hq).2 fun x hx => (in_iff hp).1 h x (by rw [has_congr e]; exact hx)
/-- One fits exactly if there is a place. -/
theorem pl_fits {f g : Sol} {L : List Sol} (h : IsPl f g L) (hf : Fit f) (hg : Fit g) (hge : emptyS g = false) : fitB f g = decide (0 < L.length) := by
  rw [Bool.eq_iff_iff, fitB_iff hf hg, decide_eq_true_eq]
  constructor
  · rintro ⟨t, ht, v, hv⟩
    have hhf := turnedF_fit g t
    have hhe := turned_ne hg hge (t := t)
    have ho : outB (turnedF g t) v.1 v.2.1 v.2.2 = false := (out_has hhf hhe v).2 fun p hp => has_in7 (hv p hp)
    obtain ⟨q, hq, _⟩ := pl_placed h hg hge ht ho ((in_iff (shiftF_fit hhf _ _ _ 8)).2 fun p hp => by
      obtain ⟨c, hc, rfl⟩ := (has_shift hhf ho p).1 hp
      exact hv c hc)
    exact List.length_pos_of_mem hq
  · intro hl
    obtain ⟨x, hx⟩ := List.exists_mem_of_ne_nil _ (List.length_pos_iff.1 hl)
    obtain ⟨hxf, t, ht, y, ⟨a, b, c, ho, hi, rfl⟩, e⟩ := h.sound x hx
    have hhf := turnedF_fit g t
    obtain ⟨l, hl⟩ : ∃ l, l = lowV (turnedF g t) := ⟨_, rfl⟩
    have hc : ∀ p, hasI (imgF g t) p = hasI (turnedF g t) (plus p l) := fun p => by rw [hl]; exact has_corn hhf p
    refine ⟨t, ht, plus (negP l) (a, b, c), fun p hp => ?_⟩
    have h1 : hasI (imgF g t) (plus p (negP l)) = true := by
      rw [hc]
      have : plus (plus p (negP l)) l = p := by unfold plus negP; ext <;> simp <;> omega
      rw [this]
      exact hp
    have h2 := (in_iff (shiftF_fit (imgF_fit g t) _ _ _ 8)).1 hi (plus (plus p (negP l)) (a, b, c)) ((shift_has (imgF_fit g t) ho _).trans h1)
    have e2 : plus p (plus (negP l) (a, b, c)) = plus (plus p (negP l)) (a, b, c) := by unfold plus; ext <;> simp <;> omega
    rw [e2]
    exact h2
theorem fitsFrom_at (f g : Sol) {t : Nat} {v : I3} : ∀ n u, fitsFrom f g n u = some (t, v) → u ≤ t ∧ t < u + n ∧ ∃ p, (v, p) ∈ insideL f (turnedF g t)
  | 0, u, h => by cases h
  | n + 1, u, h => by
    unfold fitsFrom at h
    cases hx : fitAt f g u with
    | none =>
      rw [hx] at h
      obtain ⟨h1, h2, h3⟩ := fitsFrom_at f g n (u + 1) h
      exact ⟨by omega, by omega, h3⟩
    | some x =>
      rw [hx] at h
      injection h with h
      subst h
      unfold fitAt at hx
      cases hh : (insideL f (turnedF g u)).head? with
      | none => rw [hh] at hx; cases hx
      | some pl =>
        rw [hh] at hx
        injection hx with hx
        injection hx with h1 h2
        subst h1 h2
        exact ⟨Nat.le_refl _, by omega, pl.2, List.mem_of_mem_head? (by rw [hh]; rfl)⟩
/-- The motion that Fits finds places inside. -/
theorem fits_motion {f g : Sol} (hf : Fit f) (hg : Fit g) (hge : emptyS g = false) {t : Nat} {v : I3} (h : fitsF f g = some (t, v)) :
    t < 24 ∧ outB (turnedF g t) v.1 v.2.1 v.2.2 = false ∧ inB (shiftS (turnedF g t) v.1 v.2.1 v.2.2) f = true := by
  obtain ⟨_, ht, p, hp⟩ := fitsFrom_at f g 24 0 h
  have hhf := turnedF_fit g t
  have hhe := turned_ne hg hge (t := t)
  have he : emptyS f = false := by
    cases he : emptyS f with
    | false => rfl
    | true => unfold insideL at hp; rw [if_pos he] at hp; cases hp
  obtain ⟨i, j, k, ⟨hi, hj, hk⟩, hin, e⟩ := (mem_inside he).1 hp
  obtain ⟨f1, f2, f3, f4, f5, f6⟩ := boundN hf he
  obtain ⟨g1, g2, g3, g4, g5, g6⟩ := boundN hhf hhe
  rw [gap_in f1 g1] at hi
  rw [gap_in f3 g3] at hj
  rw [gap_in f5 g5] at hk
  injection e with e1 e2
  subst e1
  refine ⟨by omega, ?_, hin⟩
  show outB (turnedF g t) ((lowX f : Int) - (lowX (turnedF g t) : Int) + i) ((lowY f : Int) - (lowY (turnedF g t) : Int) + j) ((lowZ f : Int) - (lowZ (turnedF g t) : Int) + k) = false
  exact decide_eq_false (by omega)
end Go.Proofs.YtadkaplafaeebaaGreatDoor
