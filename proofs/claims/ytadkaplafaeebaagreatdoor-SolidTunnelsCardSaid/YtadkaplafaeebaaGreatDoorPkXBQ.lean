/-
  Ascending lists of solids into which solids are put: mathematics.
-/
import Derived.Test.YtadkaplafaeebaaGreatDoorPkXQ
import Derived.Test.YtadkaplafaeebaaGreatDoorPkZQ
import Derived.Test.YtadkaplafaeebaaGreatDoorPkGQ
import Derived.Test.YtadkaplafaeebaaGreatDoorPkCQ
import Derived.Test.YtadkaplafaeebaaGreatDoorPkRQ
import Derived.Test.YtadkaplafaeebaaGreatDoorPkMQ
set_option linter.unusedVariables false
set_option linter.unusedSimpArgs false
namespace Go.Proofs.YtadkaplafaeebaaGreatDoor
open Go Go.RowKit

theorem cmpS_self (f : Sol) : cmpS f f = 0 := cmpFrom_self f 8 0
theorem cmpS_neg (f g : Sol) : cmpS f g = -cmpS g f := cmpFrom_neg f g 8 0
theorem cmpS_trans {f g h : Sol} (a : cmpS f g ≤ 0) (b : cmpS g h ≤ 0) : cmpS f h ≤ 0 ∧ (cmpS f g < 0 ∨ cmpS g h < 0 → cmpS f h < 0) := cmpFrom_trans f g h 8 0 a b
theorem cmpS_eq {f g : Sol} (h : eqS f g = true) : cmpS f g = 0 := by rw [cmp_congr h (show eqS g g = true from decide_eq_true ⟨rfl, rfl, rfl, rfl, rfl, rfl, rfl, rfl⟩)]; exact cmpS_self g
theorem cmpS_zero {f g : Sol} : cmpS f g = 0 ↔ eqS f g = true := by
  have := cmpS_neg f g
  exact ⟨fun h => cmp_anti (by omega) (by omega), cmpS_eq⟩
def Strict (l : List Sol) : Prop := l.Pairwise fun x y => cmpS x y < 0
def solAt (l : List Sol) (i : Nat) : Sol := l.getD i fun _ => 0
/-- The place of a solid in an ascending list, sought from the end. -/
def posF (l : List Sol) (s : Sol) : Nat → Nat
  | 0 => 0
  | n + 1 => if cmpS s (solAt l n) < 0 then posF l s n else n + 1
def isB (l : List Sol) (s : Sol) (p : Nat) : Bool := decide (0 < p) && eqS (solAt l (p - 1)) s
def putS (l : List Sol) (s : Sol) : List Sol := if isB l s (posF l s l.length) = true then l else l.take (posF l s l.length) ++ [s] ++ l.drop (posF l s l.length)
theorem posF_le (l : List Sol) (s : Sol) : ∀ n, posF l s n ≤ n
  | 0 => Nat.le_refl _
  | n + 1 => by
    unfold posF
    split
    · have := posF_le l s n
      omega
    · omega
theorem posF_hi (l : List Sol) (s : Sol) : ∀ n j, posF l s n ≤ j → j < n → cmpS s (solAt l j) < 0
  | 0, j, _, h => by omega
  | n + 1, j, h1, h2 => by
    unfold posF at h1
    split at h1
    · rename_i hlt
      by_cases hj : j = n
      · rw [hj]
        exact hlt
      · exact posF_hi l s n j h1 (by omega)
    · omega
theorem posF_lo (l : List Sol) (s : Sol) : ∀ n, 0 < posF l s n → ¬ cmpS s (solAt l (posF l s n - 1)) < 0
  | 0, h => by unfold posF at h; omega
  | n + 1, h => by
    unfold posF at h ⊢
    split
    · rename_i hlt
      rw [if_pos hlt] at h
      exact posF_lo l s n h
    · rename_i hlt
      simpa using hlt
theorem solAt_get {l : List Sol} {i : Nat} (h : i < l.length) : solAt l i = l[i] := by
  unfold solAt
  rw [List.getD_eq_getElem?_getD, List.getElem?_eq_getElem h]
  rfl
theorem strict_get {l : List Sol} (h : Strict l) {i j : Nat} (hij : i < j) (hj : j < l.length) : cmpS (solAt l i) (solAt l j) < 0 := by
  rw [solAt_get (by omega), solAt_get hj]
  exact List.pairwise_iff_getElem.1 h i j (by omega) hj hij
theorem pos_low {l : List Sol} (h : Strict l) (s : Sol) {j : Nat} (hj : j < posF l s l.length) : cmpS (solAt l j) s ≤ 0 := by
  have hp := posF_lo l s l.length (by omega)
  have hle := posF_le l s l.length
  have n1 := cmpS_neg s (solAt l (posF l s l.length - 1))
  by_cases e : j = posF l s l.length - 1
  · rw [e]
    omega
  · have := strict_get h (i := j) (j := posF l s l.length - 1) (by omega) (by omega)
    exact (cmpS_trans (f := solAt l j) (g := solAt l (posF l s l.length - 1)) (h := s) (by omega) (by omega)).1
theorem mem_solAt {l : List Sol} {x : Sol} (h : x ∈ l) : ∃ i, i < l.length ∧ x = solAt l i := by
  obtain ⟨i, hi, e⟩ := List.mem_iff_getElem.1 h
  exact ⟨i, hi, by rw [solAt_get hi]; exact e.symm⟩
theorem solAt_mem {l : List Sol} {i : Nat} (h : i < l.length) : solAt l i ∈ l := by
  rw [solAt_get h]
  exact List.getElem_mem h
theorem put_strict {l : List Sol} (h : Strict l) (s : Sol) : Strict (putS l s) := by
  unfold putS
  split
  · exact h
  · rename_i hb
    have hle := posF_le l s l.length
    have lo : ∀ x ∈ l.take (posF l s l.length), cmpS x s < 0 := fun x hx => by
      obtain ⟨j, hj, rfl⟩ := List.mem_take_iff_getElem.1 hx
      have hj' : j < posF l s l.length := by omega
      have h1 := pos_low h s hj'
      rw [solAt_get (by omega)] at h1
      by_cases e : j = posF l s l.length - 1
      · have hne : ¬ cmpS l[j] s = 0 := fun h0 => by
          refine hb ?_
          unfold isB
          rw [decide_eq_true (by omega), Bool.true_and, ← e, solAt_get (by omega)]
          exact cmpS_zero.1 h0
        omega
      · have h2 := strict_get h (i := j) (j := posF l s l.length - 1) (by omega) (by omega)
        have h3 := pos_low h s (j := posF l s l.length - 1) (by omega)
        rw [solAt_get (by omega : j < l.length)] at h2
        exact (cmpS_trans (by omega) h3).2 (.inl h2)
    have hi : ∀ y ∈ l.drop (posF l s l.length), cmpS s y < 0 := fun y hy => by
      obtain ⟨j, hj, rfl⟩ := List.mem_drop_iff_getElem.1 hy
      have := posF_hi l s l.length (posF l s l.length + j) (by omega) (by omega)
      rwa [solAt_get (by omega)] at this
    rw [List.append_assoc]
    refine List.pairwise_append.2 ⟨h.sublist (List.take_sublist _ _), List.pairwise_append.2 ⟨List.pairwise_singleton _ _, h.sublist (List.drop_sublist _ _), fun a ha b hb => ?_⟩, fun a ha b hb => ?_⟩
    · rw [List.mem_singleton.1 ha]
      exact hi b hb
    · rcases List.mem_append.1 hb with hb | hb
      · rw [List.mem_singleton.1 hb]
        exact lo a ha
      · have h1 := lo a ha
        have h2 := hi b hb
        exact (cmpS_trans (by omega) (by omega)).2 (.inl h1)
theorem put_sub {l : List Sol} {s x : Sol} (h : x ∈ putS l s) : x ∈ l ∨ x = s := by
  unfold putS at h
  split at h
  · exact .inl h
  · rcases List.mem_append.1 h with h | h
    · rcases List.mem_append.1 h with h | h
      · exact .inl (List.mem_of_mem_take h)
      · exact .inr (List.mem_singleton.1 h)
    · exact .inl (List.mem_of_mem_drop h)
theorem put_old {l : List Sol} {s x : Sol} (h : x ∈ l) : x ∈ putS l s := by
  unfold putS
  split
  · exact h
  · rw [← List.take_append_drop (posF l s l.length) l] at h
    rcases List.mem_append.1 h with h | h
    · exact List.mem_append_left _ (List.mem_append_left _ h)
    · exact List.mem_append_right _ h
theorem put_new (l : List Sol) (s : Sol) : ∃ y ∈ putS l s, eqS y s = true := by
  unfold putS
  split
  · rename_i hb
    unfold isB at hb
    rw [Bool.and_eq_true] at hb
    have h0 := of_decide_eq_true hb.1
    have hle := posF_le l s l.length
    exact ⟨_, solAt_mem (by omega), hb.2⟩
  · exact ⟨s, List.mem_append_left _ (List.mem_append_right _ (List.mem_singleton.2 rfl)), decide_eq_true ⟨rfl, rfl, rfl, rfl, rfl, rfl, rfl, rfl⟩⟩
/-- Ascending lists with the same solids are the same. -/
theorem strict_same : ∀ l m : List Sol, Strict l → Strict m → (∀ x ∈ l, ∃ y ∈ m, eqS x y = true) → (∀ y ∈ m, ∃ x ∈ l, eqS y x = true) → l.length = m.length ∧ ∀ i, eqS (solAt l i) (solAt m i) = true
  | [], [], _, _, _, _ => ⟨rfl, fun i => by unfold solAt; simp; exact decide_eq_true ⟨rfl, rfl, rfl, rfl, rfl, rfl, rfl, rfl⟩⟩
  | [], b :: m, _, _, _, h => by obtain ⟨x, hx, _⟩ := h b List.mem_cons_self; cases hx
  | a :: l, [], _, _, h, _ => by obtain ⟨x, hx, _⟩ := h a List.mem_cons_self; cases hx
  | a :: l, b :: m, hl, hm, h, h' => by
    obtain ⟨h1, h2⟩ := List.pairwise_cons.1 hl
    obtain ⟨k1, k2⟩ := List.pairwise_cons.1 hm
    have hab : cmpS a b = 0 := by
      obtain ⟨y, hy, ey⟩ := h a List.mem_cons_self
      obtain ⟨x, hx, ex⟩ := h' b List.mem_cons_self
      have ey := cmpS_eq ey
      have ex := cmpS_eq ex
      have n1 := cmpS_neg a b
      have n2 := cmpS_neg a y
      have n3 := cmpS_neg b x
      rcases List.mem_cons.1 hy with rfl | hy
      · exact ey
      · rcases List.mem_cons.1 hx with rfl | hx
        · omega
        · have q1 := k1 y hy
          have q2 := h1 x hx
          have q3 := (cmpS_trans (f := b) (g := y) (h := a) (by omega) (by omega)).2 (.inl q1)
          have q4 := (cmpS_trans (f := a) (g := x) (h := b) (by omega) (by omega)).2 (.inl q2)
          omega
    have rest : ∀ (u v : Sol) (L M : List Sol), cmpS u v = 0 → (∀ x ∈ L, cmpS u x < 0) → (∀ x ∈ u :: L, ∃ y ∈ v :: M, eqS x y = true) → ∀ x ∈ L, ∃ y ∈ M, eqS x y = true := fun u v L M huv hL hLM x hx => by
      obtain ⟨y, hy, ey⟩ := hLM x (List.mem_cons_of_mem _ hx)
      rcases List.mem_cons.1 hy with rfl | hy
      · have q := hL x hx
        have e := cmpS_eq ey
        have := (cmpS_trans (f := u) (g := x) (h := y) (by omega) (by omega)).2 (.inl q)
        omega
      · exact ⟨y, hy, ey⟩
    have hba : cmpS b a = 0 := by
      have := cmpS_neg b a
      omega
    obtain ⟨e1, e2⟩ := strict_same l m h2 k2 (rest a b l m hab h1 h) (rest b a m l hba k1 h')
    refine ⟨by simp [e1], fun i => ?_⟩
    cases i with
    | zero => exact cmpS_zero.1 hab
    | succ i => exact e2 i
end Go.Proofs.YtadkaplafaeebaaGreatDoor
/-
  What fits into what, told by places; counted; congruent solids.
-/
set_option linter.unusedVariables false
set_option linter.unusedSimpArgs false
set_option maxRecDepth 100000
namespace Go.Proofs.YtadkaplafaeebaaGreatDoor
open Go Go.RowKit

theorem has_meet (f g : Sol) (p : I3) : hasI (meetF f g) p = (hasI f p && hasI g p) := by
  unfold hasI hasC meetF
  rw [Nat.testBit_and]
  cases inG p.1 p.2.1 p.2.2 <;> simp
theorem meet_fit {f g : Sol} (hf : Fit f) : Fit (meetF f g) := fun i => Nat.lt_of_le_of_lt Nat.and_le_left (hf i)
theorem in_iff {f g : Sol} (hf : Fit f) : inB f g = true ↔ ∀ p, hasI f p = true → hasI g p = true := by
  unfold inB
  constructor
  · intro h p hp
    have := has_congr h p
    rw [has_meet, hp] at this
    simpa using this
  · intro h
    refine has_ext (meet_fit hf) hf fun p => ?_
    rw [has_meet, Bool.and_eq_true]
    exact ⟨fun h => h.1, fun hp => ⟨hp, h p hp⟩⟩
/-- The one, moved, lies in the other. -/
def SubT (h f : Sol) : Prop := ∃ v : I3, ∀ p, hasI h p = true → hasI f (plus p v) = true
theorem has_high {f : Sol} (hf : Fit f) {p : I3} (h : hasI f p = true) : p.1 < highX f ∧ p.2.1 < highY f ∧ p.2.2 < highZ f := by
  obtain ⟨a, b, c, ⟨h1, h2, h3⟩, rfl, h4⟩ := (hasI_iff f p).1 h
  obtain ⟨w1, w2, w3, w4, w5, w6⟩ := within hf h1 h2 h3 h4
  simp only
  omega
theorem has_at_high {f : Sol} (hf : Fit f) (he : emptyS f = false) : (∃ p, hasI f p = true ∧ p.1 = (highX f : Int) - 1) ∧ (∃ p, hasI f p = true ∧ p.2.1 = (highY f : Int) - 1) ∧ (∃ p, hasI f p = true ∧ p.2.2 = (highZ f : Int) - 1) := by
  have bn := boundN hf he
  have := bn.x0
  have := bn.x1
  have := bn.y0
  have := bn.y1
  have := bn.z0
  have := bn.z1
  obtain ⟨y1, z1, a1, a2, a3⟩ := at_highX hf he
  obtain ⟨x3, z3, c1, c2, c3⟩ := at_highY hf he
  obtain ⟨x5, y5, e1, e2, e3⟩ := at_highZ hf he
  exact ⟨⟨_, (hasI_iff f _).2 ⟨_, _, _, ⟨by omega, a1, a2⟩, rfl, a3⟩, by simp only; omega⟩, ⟨_, (hasI_iff f _).2 ⟨_, _, _, ⟨c1, by omega, c2⟩, rfl, c3⟩, by simp only; omega⟩, ⟨_, (hasI_iff f _).2 ⟨_, _, _, ⟨e1, e2, by omega⟩, rfl, e3⟩, by simp only; omega⟩⟩
theorem mem_insX {f g : Sol} {y z lo : Int} {n : Nat} {pl : Pl} : pl ∈ insX f g y z lo n 0 ↔ ∃ i : Nat, i < n ∧ inB (shiftF g (lo + (i : Int)) y z 8) f = true ∧ pl = ((lo + (i : Int), y, z), shiftF g (lo + (i : Int)) y z 8) := by
  unfold insX
  rw [List.mem_flatMap]
  constructor
  · rintro ⟨i, hi, h⟩
    have hi2 := List.mem_range'_1.1 hi
    split at h
    · rename_i hin
      exact ⟨i, by omega, hin, List.mem_singleton.1 h⟩
    · cases h
  · rintro ⟨i, hi, hin, rfl⟩
    exact ⟨i, List.mem_range'_1.2 ⟨by omega, by omega⟩, by rw [if_pos hin]; exact List.mem_singleton.2 rfl⟩
theorem mem_inside {f g : Sol} (he : emptyS f = false) {pl : Pl} : pl ∈ insideL f g ↔ ∃ i j k : Nat, (i < gap (lowX f) (highX f) (lowX g) (highX g) ∧ j < gap (lowY f) (highY f) (lowY g) (highY g) ∧ k < gap (lowZ f) (highZ f) (lowZ g) (highZ g)) ∧
    inB (shiftS g ((lowX f : Int) - (lowX g : Int) + i) ((lowY f : Int) - (lowY g : Int) + j) ((lowZ f : Int) - (lowZ g : Int) + k)) f = true ∧
    pl = (((lowX f : Int) - (lowX g : Int) + i, (lowY f : Int) - (lowY g : Int) + j, (lowZ f : Int) - (lowZ g : Int) + k), shiftS g ((lowX f : Int) - (lowX g : Int) + i) ((lowY f : Int) - (lowY g : Int) + j) ((lowZ f : Int) - (lowZ g : Int) + k)) := by
  unfold insideL
  rw [he, if_neg Bool.false_ne_true]
  unfold insZ
  rw [List.mem_flatMap]
  constructor
  · rintro ⟨k, hk, h⟩
    unfold insY at h
    obtain ⟨j, hj, h⟩ := List.mem_flatMap.1 h
    obtain ⟨i, hi, hin, rfl⟩ := mem_insX.1 h
    have hk2 := List.mem_range'_1.1 hk
    have hj2 := List.mem_range'_1.1 hj
    exact ⟨i, j, k, ⟨hi, by omega, by omega⟩, hin, rfl⟩
  · rintro ⟨i, j, k, ⟨hi, hj, hk⟩, hin, rfl⟩
    refine ⟨k, List.mem_range'_1.2 ⟨by omega, by omega⟩, ?_⟩
    unfold insY
    exact List.mem_flatMap.2 ⟨j, List.mem_range'_1.2 ⟨by omega, by omega⟩, mem_insX.2 ⟨i, hi, hin, rfl⟩⟩
theorem gap_in {a b c d : Nat} (h1 : a < b) (h2 : c < d) (i : Nat) : i < gap a b c d ↔ (a : Int) - c + i ≤ (b : Int) - d := by
  unfold gap
  omega
theorem inside_some {f h : Sol} (hf : Fit f) (hh : Fit h) (he : emptyS f = false) (hhe : emptyS h = false) : insideL f h ≠ [] ↔ SubT h f := by
  obtain ⟨f1, f2, f3, f4, f5, f6⟩ := boundN hf he
  obtain ⟨g1, g2, g3, g4, g5, g6⟩ := boundN hh hhe
  constructor
  · intro hne
    obtain ⟨pl, hpl⟩ := List.exists_mem_of_ne_nil _ hne
    obtain ⟨i, j, k, ⟨hi, hj, hk⟩, hin, _⟩ := (mem_inside he).1 hpl
    rw [gap_in f1 g1] at hi
    rw [gap_in f3 g3] at hj
    rw [gap_in f5 g5] at hk
    refine ⟨((lowX f : Int) - (lowX h : Int) + i, (lowY f : Int) - (lowY h : Int) + j, (lowZ f : Int) - (lowZ h : Int) + k), fun p hp => ?_⟩
    have ho : outB h ((lowX f : Int) - (lowX h : Int) + i) ((lowY f : Int) - (lowY h : Int) + j) ((lowZ f : Int) - (lowZ h : Int) + k) = false := decide_eq_false (by omega)
    exact (in_iff (shiftF_fit hh _ _ _ 8)).1 hin _ ((has_shift hh ho _).2 ⟨p, hp, rfl⟩)
  · rintro ⟨v, hv⟩
    obtain ⟨⟨a, ha, ea⟩, ⟨b, hb, eb⟩, c, hc, ec⟩ := has_at_low hh hhe
    obtain ⟨⟨a', ha', ea'⟩, ⟨b', hb', eb'⟩, c', hc', ec'⟩ := has_at_high hh hhe
    have k1 := has_low hf (hv a ha)
    have k2 := has_low hf (hv b hb)
    have k3 := has_low hf (hv c hc)
    have k4 := has_high hf (hv a' ha')
    have k5 := has_high hf (hv b' hb')
    have k6 := has_high hf (hv c' hc')
    simp only [plus] at k1 k2 k3 k4 k5 k6
    have e1 : (lowX f : Int) - (lowX h : Int) + (v.1 - ((lowX f : Int) - (lowX h : Int))).toNat = v.1 := by omega
    have e2 : (lowY f : Int) - (lowY h : Int) + (v.2.1 - ((lowY f : Int) - (lowY h : Int))).toNat = v.2.1 := by omega
    have e3 : (lowZ f : Int) - (lowZ h : Int) + (v.2.2 - ((lowZ f : Int) - (lowZ h : Int))).toNat = v.2.2 := by omega
    refine List.ne_nil_of_mem ((mem_inside he).2 ⟨(v.1 - ((lowX f : Int) - (lowX h : Int))).toNat, (v.2.1 - ((lowY f : Int) - (lowY h : Int))).toNat, (v.2.2 - ((lowZ f : Int) - (lowZ h : Int))).toNat, ⟨(gap_in f1 g1 _).2 (by omega), (gap_in f3 g3 _).2 (by omega), (gap_in f5 g5 _).2 (by omega)⟩, ?_, rfl⟩)
    rw [e1, e2, e3]
    have ho : outB h v.1 v.2.1 v.2.2 = false := decide_eq_false (by omega)
    refine (in_iff (shiftF_fit hh _ _ _ 8)).2 fun p hp => ?_
    obtain ⟨q, hq, rfl⟩ := (has_shift hh ho p).1 hp
    exact hv q hq
/-- The second one fits into the first one. -/
def FitP (f g : Sol) : Prop := ∃ t, t < 24 ∧ SubT (turnedF g t) f
theorem fitsFrom_some (f g : Sol) : ∀ n t, (fitsFrom f g n t).isSome = true ↔ ∃ u, t ≤ u ∧ u < t + n ∧ insideL f (turnedF g u) ≠ []
  | 0, t => by
    unfold fitsFrom
    constructor
    · intro h; cases h
    · rintro ⟨u, h1, h2, _⟩; omega
  | n + 1, t => by
    unfold fitsFrom
    cases h : fitAt f g t with
    | some x =>
      simp only [Option.isSome_some, true_iff]
      refine ⟨t, by omega, by omega, fun h0 => ?_⟩
      unfold fitAt at h
      rw [h0] at h
      cases h
    | none =>
      simp only
      rw [fitsFrom_some f g n (t + 1)]
      constructor
      · rintro ⟨u, h1, h2, h3⟩
        exact ⟨u, by omega, by omega, h3⟩
      · rintro ⟨u, h1, h2, h3⟩
        refine ⟨u, ?_, by omega, h3⟩
        by_cases e : u = t
        · subst e
          unfold fitAt at h
          rw [Option.map_eq_none_iff, List.head?_eq_none_iff] at h
          exact absurd h h3
        · omega
def fitB (f g : Sol) : Bool := if emptyS g = true then true else (fitsF f g).isSome
theorem fitB_iff {f g : Sol} (hf : Fit f) (hg : Fit g) : fitB f g = true ↔ FitP f g := by
  unfold fitB
  by_cases hge : emptyS g = true
  · rw [if_pos hge]
    simp only [true_iff]
    refine ⟨0, by omega, (0, 0, 0), fun p hp => ?_⟩
    rw [turn_zero_has, (empty_has hg).1 hge] at hp
    cases hp
  · have hge' : emptyS g = false := by simpa using hge
    rw [if_neg hge]
    unfold fitsF
    rw [fitsFrom_some]
    by_cases he : emptyS f = true
    · constructor
      · rintro ⟨u, _, _, h⟩
        exact absurd (by unfold insideL; rw [if_pos he]) h
      · rintro ⟨t, ht, v, hv⟩
        obtain ⟨⟨p, hp, _⟩, _⟩ := has_at_low (turnedF_fit g t) (turnedF_ne hg hge' t)
        have := hv p hp
        rw [(empty_has hf).1 he] at this
        cases this
    · have he' : emptyS f = false := by simpa using he
      constructor
      · rintro ⟨u, _, h2, h3⟩
        exact ⟨u, by omega, (inside_some hf (turnedF_fit g u) he' (turnedF_ne hg hge' u)).1 h3⟩
      · rintro ⟨t, ht, hv⟩
        exact ⟨t, by omega, by omega, (inside_some hf (turnedF_fit g t) he' (turnedF_ne hg hge' t)).2 hv⟩
theorem cells_asc (f : Sol) : (cellsL f).Pairwise fun a b => a.1 < b.1 := by
  unfold cellsL restL
  refine List.pairwise_flatMap.2 ⟨fun k hk => ?_, ?_⟩
  · have hk2 := List.mem_range'_1.1 hk
    unfold planeL
    refine List.pairwise_map.2 ?_
    have h1 : (bitsOf 64 (f k)).Pairwise (· < ·) := by unfold bitsOf; exact List.pairwise_lt_range.filter _
    refine h1.imp_of_mem fun {a b} ha hb hab => ?_
    have hb2 : b < 64 := by unfold bitsOf at hb; exact List.mem_range.1 (List.mem_filter.1 hb).1
    rw [ci_val (by omega) (by omega), ci_val (by omega) hb2]
    omega
  · have h1 : (List.range' 0 (8 - 0)).Pairwise (· < ·) := List.pairwise_lt_range'
    refine h1.imp_of_mem fun {a b} ha hb hab x hx y hy => ?_
    have ha2 := List.mem_range'_1.1 ha
    have hb2 := List.mem_range'_1.1 hb
    unfold planeL bitsOf at hx hy
    obtain ⟨i, hi, rfl⟩ := List.mem_map.1 hx
    obtain ⟨j, hj, rfl⟩ := List.mem_map.1 hy
    have hi2 := List.mem_range.1 (List.mem_filter.1 hi).1
    have hj2 := List.mem_range.1 (List.mem_filter.1 hj).1
    rw [ci_val (by omega) hi2, ci_val (by omega) hj2]
    omega
theorem cells_nodup (f : Sol) : (cellsL f).Nodup := (cells_asc f).imp fun h e => by subst e; omega
theorem sub_len {α : Type} [DecidableEq α] : ∀ (l m : List α), l.Nodup → (∀ x ∈ l, x ∈ m) → l.length ≤ m.length
  | [], m, _, _ => by simp
  | a :: l, m, hn, h => by
    obtain ⟨h1, h2⟩ := List.nodup_cons.1 hn
    have ha := h a List.mem_cons_self
    have ih := sub_len l (m.erase a) h2 fun x hx => (List.mem_erase_of_ne (by rintro rfl; exact h1 hx)).2 (h x (List.mem_cons_of_mem _ hx))
    rw [List.length_erase_of_mem ha] at ih
    have := List.length_pos_of_mem ha
    rw [List.length_cons]
    omega
theorem sub_all {α : Type} [DecidableEq α] {l m : List α} (hn : l.Nodup) (h : ∀ x ∈ l, x ∈ m) (he : m.length ≤ l.length) : ∀ x ∈ m, x ∈ l := fun x hx => by
  refine Classical.byContradiction fun hc => ?_
  have := sub_len (x :: l) m (List.nodup_cons.2 ⟨hc, hn⟩) fun y hy => by
    rcases List.mem_cons.1 hy with rfl | hy
    · exact hx
    · exact h y hy
  rw [List.length_cons] at this
  omega
def numF (f : Sol) : Nat := (cellsL f).length
theorem mem_cellI (f : Sol) (c : Cl) : c ∈ cellsL f ↔ hasI f (toI c) = true := by rw [mem_cells, has_cell]
theorem toI_inj {a b : Cl} (h : toI a = toI b) : a = b := by
  have e : ∀ c : Cl, ofI (toI c) = c := fun c => Fin.ext (by
    rw [ofI_val (toI_in7 c)]
    unfold toI cX cY cZ
    simp only
    omega)
  rw [← e a, ← e b, h]
/-- Places of the one that go to places of the other, no two to the same one: no fewer; and all, if there are as many. -/
theorem num_le {f g : Sol} (φ : I3 → I3) (hφ : ∀ p q, φ p = φ q → p = q) (h : ∀ p, hasI g p = true → hasI f (φ p) = true) : numF g ≤ numF f ∧ (numF f ≤ numF g → ∀ q, hasI f q = true → ∃ p, hasI g p = true ∧ φ p = q) := by
  have hn : ((cellsL g).map fun c => ofI (φ (toI c))).Nodup := by
    refine List.pairwise_map.2 ((cells_nodup g).imp_of_mem fun {a b} ha hb hab e => hab ?_)
    have h1 := congrArg toI e
    rw [toI_ofI (has_in7 (h _ ((mem_cellI g a).1 ha))), toI_ofI (has_in7 (h _ ((mem_cellI g b).1 hb)))] at h1
    exact toI_inj (hφ _ _ h1)
  have hs : ∀ x ∈ (cellsL g).map fun c => ofI (φ (toI c)), x ∈ cellsL f := fun x hx => by
    obtain ⟨c, hc, rfl⟩ := List.mem_map.1 hx
    have h1 := h _ ((mem_cellI g c).1 hc)
    rw [mem_cellI, toI_ofI (has_in7 h1)]
    exact h1
  have hl : ((cellsL g).map fun c => ofI (φ (toI c))).length = numF g := by rw [List.length_map]; rfl
  refine ⟨by rw [← hl]; exact sub_len _ _ hn hs, fun he q hq => ?_⟩
  have h1 := sub_all hn hs (by rw [hl]; exact he) (ofI q) (by rw [mem_cellI, toI_ofI (has_in7 hq)]; exact hq)
  obtain ⟨c, hc, e⟩ := List.mem_map.1 h1
  refine ⟨toI c, (mem_cellI g c).1 hc, ?_⟩
  have h2 := congrArg toI e
  rwa [toI_ofI (has_in7 (h _ ((mem_cellI g c).1 hc))), toI_ofI (has_in7 hq)] at h2
theorem turn_inj (b : Int) {t : Nat} (ht : t < 24) {p q : I3} (h : turnI b t p = turnI b t q) : p = q := by
  rw [← inv_turn b ht p, h, inv_turn b ht q]
theorem plus_inj {p q v : I3} (h : plus p v = plus q v) : p = q := by
  rw [← plus_neg p v, h, plus_neg]
end Go.Proofs.YtadkaplafaeebaaGreatDoor
/-
  The images of a solid, their number, their least one, their symmetries.
-/
set_option linter.unusedVariables false
set_option linter.unusedSimpArgs false
set_option maxRecDepth 100000
namespace Go.Proofs.YtadkaplafaeebaaGreatDoor
open Go Go.RowKit Go.Sort

theorem of_to (f : Sol) : eqS (ofS (toS f)) f = true := eqS_of fun k hk => ofS_toS f hk
theorem fit_ofS {f : Sol} (h : Fit f) : Fit (ofS (toS f)) := fun k => by
  by_cases hk : k < 8
  · rw [ofS_toS f hk]
    exact h k
  · have : ofS (toS f) k = 0 := by
      match k, hk with
      | k + 8, _ => rfl
    rw [this]
    omega
def imK (f : Sol) (t : Nat) : S8 := toS (imgF f t)
theorem imgs_has (f : Sol) (x : S8) : x ∈ once8 ((imgsN f 24).map toS).toArray ↔ ∃ t, t < 24 ∧ imK f t = x := by
  rw [once8_mem]
  show x ∈ (imgsN f 24).map toS ↔ _
  unfold imgsN
  rw [List.map_map, List.mem_map]
  exact ⟨fun ⟨t, h1, h2⟩ => ⟨t, List.mem_range.1 h1, h2⟩, fun ⟨t, h1, h2⟩ => ⟨t, List.mem_range.2 h1, h2⟩⟩
theorem imgs_at {f x : Sol} (h : x ∈ imgsF f) : Fit x ∧ ∃ t, t < 24 ∧ eqS x (imgF f t) = true := by
  unfold imgsF at h
  obtain ⟨y, hy, rfl⟩ := List.mem_map.1 h
  obtain ⟨t, ht, rfl⟩ := (imgs_has f y).1 hy
  exact ⟨fit_ofS (imgF_fit f t), t, ht, of_to _⟩
end Go.Proofs.YtadkaplafaeebaaGreatDoor
/-
  The images of a solid as a strictly ascending list, and as the reference puts them together.
-/
set_option linter.unusedVariables false
set_option linter.unusedSimpArgs false
namespace Go.Proofs.YtadkaplafaeebaaGreatDoor
open Go Go.RowKit Go.Shelf

theorem once8_strict (d : Array S8) : (once8 d).Pairwise fun x y => ltOf cf8 x y = true := by
  unfold once8 Lib.compactUpTo
  refine List.pairwise_map.2 ?_
  have h1 : ((List.range (sort8 d).size).filter (Lib.keeps (sort8 d))).Pairwise (· < ·) := List.pairwise_lt_range.filter _
  refine h1.imp_of_mem fun {a b} ha hb hab => ?_
  obtain ⟨b1, b2⟩ := List.mem_filter.1 hb
  have hne := keeps_ne hab (List.mem_range.1 b1) b2
  have hle := sort8_at (d := d) (i := a) (j := b) (by omega) (List.mem_range.1 b1)
  cases hx : ltOf cf8 (sort8 d)[a]! (sort8 d)[b]! with
  | true => rfl
  | false => exact absurd (tot8 _ _ hx hle) hne
theorem imgs_strict (f : Sol) : Strict (imgsF f) := by
  unfold Strict imgsF
  refine List.pairwise_map.2 ((once8_strict _).imp fun {a b} h => ?_)
  rw [lt8_iff] at h
  exact of_decide_eq_true h
def putN (f : Sol) : Nat → List Sol
  | 0 => []
  | t + 1 => putS (putN f t) (imgF f t)
theorem putN_strict (f : Sol) : ∀ t, Strict (putN f t)
  | 0 => List.Pairwise.nil
  | t + 1 => put_strict (putN_strict f t) _
theorem putN_mem (f : Sol) {x : Sol} : ∀ t, x ∈ putN f t → ∃ u, u < t ∧ x = imgF f u
  | 0, h => by cases h
  | t + 1, h => by
    rcases put_sub h with h | rfl
    · obtain ⟨u, hu, e⟩ := putN_mem f t h
      exact ⟨u, by omega, e⟩
    · exact ⟨t, by omega, rfl⟩
theorem putN_has (f : Sol) {u : Nat} : ∀ t, u < t → ∃ y ∈ putN f t, eqS y (imgF f u) = true
  | 0, h => absurd h (by omega)
  | t + 1, h => by
    by_cases e : u = t
    · subst e
      exact put_new _ _
    · obtain ⟨y, hy, he⟩ := putN_has f (u := u) t (by omega)
      exact ⟨y, put_old hy, he⟩
theorem imgs_put (f : Sol) : (imgsF f).length = (putN f 24).length ∧ ∀ i, eqS (solAt (imgsF f) i) (solAt (putN f 24) i) = true := by
  refine strict_same _ _ (imgs_strict f) (putN_strict f 24) (fun x hx => ?_) fun y hy => ?_
  · obtain ⟨_, t, ht, e⟩ := imgs_at hx
    obtain ⟨y, hy, h⟩ := putN_has f 24 ht
    exact ⟨y, hy, eqS_trans e (eqS_symm h)⟩
  · obtain ⟨u, hu, rfl⟩ := putN_mem f 24 hy
    refine ⟨ofS (imK f u), ?_, eqS_symm (of_to _)⟩
    unfold imgsF
    exact List.mem_map_of_mem ((imgs_has f _).2 ⟨u, hu, rfl⟩)
end Go.Proofs.YtadkaplafaeebaaGreatDoor
