/-
  Images as orbits: counted by turns; lists that are sorted, each once; the least image.
-/
import Derived.Test.YtadkaplafaeebaaGreatDoorGeo
import Derived.Test.YtadkaplafaeebaaGreatDoorPkR
import Derived.Test.YtadkaplafaeebaaGreatDoorPkH
set_option linter.unusedVariables false
set_option linter.unusedSimpArgs false
set_option maxRecDepth 100000
namespace Go.Proofs.YtadkaplafaeebaaGreatDoor
open Go Go.RowKit Go.Sort

theorem comp_one : ∀ t : Fin 24, compT t.1 (invT t.1) = 0 ∧ compT 0 t.1 = t.1 ∧ compT t.1 0 = t.1 := by decide +kernel
theorem comp_left : ∀ t u : Fin 24, compT t.1 (compT (invT t.1) u.1) = u.1 := by decide +kernel
theorem comp_back : ∀ t u : Fin 24, compT (compT t.1 (invT u.1)) u.1 = t.1 := by decide +kernel
theorem perm_right : ∀ v : Fin 24, ((List.range 24).map fun t => compT t v.1).isPerm (List.range 24) = true := by decide +kernel
theorem perm_conj : ∀ v : Fin 24, ((List.range 24).map fun t => compT (compT v.1 t) (invT v.1)).isPerm (List.range 24) = true := by decide +kernel
/-- Equal images stay equal when both are turned on. -/
def Acts {K : Type} (F : Nat → K) : Prop := ∀ t u v, t < 24 → u < 24 → v < 24 → F t = F u → F (compT t v) = F (compT u v)
theorem acts_back {K : Type} {F : Nat → K} (h : Acts F) {t u : Nat} (ht : t < 24) (hu : u < 24) : F t = F u ↔ F (compT t (invT u)) = F 0 := by
  constructor
  · intro e
    rw [h t u _ ht hu (inv_lt hu) e, (comp_one ⟨u, hu⟩).1]
  · intro e
    have := h _ _ u (comp_lt ht (inv_lt hu)) (by omega) hu e
    rwa [comp_back ⟨t, ht⟩ ⟨u, hu⟩, (comp_one ⟨u, hu⟩).2.1] at this
def stab {K : Type} [DecidableEq K] (F : Nat → K) : Nat := (List.range 24).countP fun t => decide (F t = F 0)
theorem count_at {K : Type} [DecidableEq K] {F : Nat → K} (h : Acts F) {u : Nat} (hu : u < 24) : (List.range 24).countP (fun t => decide (F t = F u)) = stab F := by
  have e : (List.range 24).countP (fun t => decide (F t = F u)) = (List.range 24).countP ((fun s => decide (F s = F 0)) ∘ fun t => compT t (invT u)) :=
    List.countP_congr fun t ht => by
      have := List.mem_range.1 ht
      simp only [Function.comp, decide_eq_true_eq]
      exact acts_back h this hu
  rw [e, ← List.countP_map]
  exact (List.isPerm_iff.1 (perm_right ⟨invT u, inv_lt hu⟩)).countP_eq _
theorem count_conj {K : Type} [DecidableEq K] {F : Nat → K} (h : Acts F) {u : Nat} (hu : u < 24) : (List.range 24).countP (fun t => decide (F (compT u t) = F u)) = stab F := by
  have e : (List.range 24).countP (fun t => decide (F (compT u t) = F u)) = (List.range 24).countP ((fun s => decide (F s = F 0)) ∘ fun t => compT (compT u t) (invT u)) :=
    List.countP_congr fun t ht => by
      have := List.mem_range.1 ht
      simp only [Function.comp, decide_eq_true_eq]
      exact acts_back h (comp_lt hu this) hu
  rw [e, ← List.countP_map]
  exact (List.isPerm_iff.1 (perm_conj ⟨u, hu⟩)).countP_eq _
theorem sum_add {K : Type} (L : List K) (a b : K → Nat) : (L.map fun x => a x + b x).sum = (L.map a).sum + (L.map b).sum := by
  induction L with
  | nil => rfl
  | cons x L ih => simp only [List.map_cons, List.sum_cons, ih]; omega
theorem sum_none {K : Type} [DecidableEq K] (L : List K) (k : K) (h : k ∉ L) : (L.map fun x => if k = x then 1 else 0).sum = 0 := by
  induction L with
  | nil => rfl
  | cons x L ih =>
    simp only [List.mem_cons, not_or] at h
    simp only [List.map_cons, List.sum_cons, ih h.2, if_neg h.1]
theorem sum_one {K : Type} [DecidableEq K] (L : List K) (hn : L.Nodup) (k : K) (h : k ∈ L) : (L.map fun x => if k = x then 1 else 0).sum = 1 := by
  induction L with
  | nil => cases h
  | cons x L ih =>
    obtain ⟨h1, h2⟩ := List.nodup_cons.1 hn
    simp only [List.map_cons, List.sum_cons]
    by_cases e : k = x
    · subst e
      rw [if_pos rfl, sum_none L k h1]
    · rw [if_neg e, ih h2 ((List.mem_cons.1 h).resolve_left e)]
theorem sum_same {K : Type} (L : List K) (a : K → Nat) (s : Nat) (h : ∀ x ∈ L, a x = s) : (L.map a).sum = L.length * s := by
  induction L with
  | nil => simp
  | cons x L ih =>
    simp only [List.map_cons, List.sum_cons, List.length_cons, ih fun y hy => h y (List.mem_cons_of_mem _ hy), h x List.mem_cons_self, Nat.succ_mul]
    omega
theorem count_sum {K : Type} [DecidableEq K] (F : Nat → K) (L : List K) (hn : L.Nodup) : ∀ l : List Nat, (∀ t ∈ l, F t ∈ L) → (L.map fun x => l.countP fun t => decide (F t = x)).sum = l.length
  | [], _ => by
    have := sum_same L (fun x => ([] : List Nat).countP fun t => decide (F t = x)) 0 fun _ _ => rfl
    simpa using this
  | t :: l, h => by
    have ih := count_sum F L hn l fun u hu => h u (List.mem_cons_of_mem _ hu)
    have e : (fun x => (t :: l).countP fun t => decide (F t = x)) = fun x => (l.countP fun t => decide (F t = x)) + if F t = x then 1 else 0 := by
      funext x
      rw [List.countP_cons]
      simp
    rw [e, sum_add, ih, sum_one L hn _ (h t List.mem_cons_self), List.length_cons]
/-- The number of the images times that of the turns that keep the first one. -/
theorem orbit {K : Type} [DecidableEq K] {F : Nat → K} (h : Acts F) (L : List K) (hn : L.Nodup) (hL : ∀ x, x ∈ L ↔ ∃ t, t < 24 ∧ F t = x) : L.length * stab F = 24 := by
  have h1 := count_sum F L hn (List.range 24) fun t ht => (hL _).2 ⟨t, List.mem_range.1 ht, rfl⟩
  rw [sum_same L _ (stab F) fun x hx => by
    obtain ⟨t, ht, rfl⟩ := (hL x).1 hx
    exact count_at h ht, List.length_range] at h1
  exact h1
theorem sort8_pair (d : Array S8) : (sort8 d).toList.Pairwise (fun x y => ltOf cf8 y x = false) := by
  have h : (d.toList.mergeSort fun x y => !(ltOf cf8) y x).Pairwise fun x y => (!(ltOf cf8) y x) = true := by
    refine List.pairwise_mergeSort ?_ ?_ _
    · intro a b c h1 h2
      simp only [Bool.not_eq_true'] at h1 h2 ⊢
      exact swo8.ntrans c b a h2 h1
    · intro a b
      cases h : (ltOf cf8) b a with
      | false => simp
      | true => simp [swo8.asymmA h]
  exact h.imp fun h => by simpa using h
theorem sort8_at {d : Array S8} {i j : Nat} (h : i ≤ j) (hj : j < (sort8 d).size) : ltOf cf8 (sort8 d)[j]! (sort8 d)[i]! = false := by
  by_cases e : i = j
  · subst e
    exact swo8.irrefl _
  · have h1 := List.pairwise_iff_getElem.1 (sort8_pair d) i j (by simp; omega) (by simpa using hj) (by omega)
    rw [getElem!_pos _ i (by omega), getElem!_pos _ j hj]
    simpa using h1
theorem keeps_ne {d : Array S8} {i j : Nat} (h : i < j) (hj : j < (sort8 d).size) (hk : Lib.keeps (sort8 d) j = true) : (sort8 d)[i]! ≠ (sort8 d)[j]! := by
  intro e
  have h1 := sort8_at (d := d) (i := i) (j := j - 1) (by omega) (by omega)
  have h2 := sort8_at (d := d) (i := j - 1) (j := j) (by omega) hj
  rw [e] at h1
  have h3 := tot8 _ _ h1 h2
  rcases of_decide_eq_true hk with hk | hk
  · omega
  · exact hk h3.symm
theorem once8_nodup (d : Array S8) : (once8 d).Nodup := by
  unfold once8 Lib.compactUpTo
  refine List.pairwise_map.2 ?_
  have h1 : ((List.range (sort8 d).size).filter (Lib.keeps (sort8 d))).Pairwise (· < ·) := List.pairwise_lt_range.filter _
  refine h1.imp_of_mem fun {a b} ha hb hab => ?_
  obtain ⟨b1, b2⟩ := List.mem_filter.1 hb
  exact keeps_ne hab (List.mem_range.1 b1) b2
theorem once8_has (d : Array S8) : ∀ j, j < (sort8 d).size → (sort8 d)[j]! ∈ once8 d
  | j, hj => by
    cases hk : Lib.keeps (sort8 d) j with
    | true =>
      unfold once8 Lib.compactUpTo
      exact List.mem_map.2 ⟨j, List.mem_filter.2 ⟨List.mem_range.2 hj, hk⟩, rfl⟩
    | false =>
      have h0 := of_decide_eq_false hk
      have h3 : j ≠ 0 := fun e => h0 (.inl e)
      have h4 : (sort8 d)[j]! = (sort8 d)[j - 1]! := Classical.byContradiction fun e => h0 (.inr e)
      rw [h4]
      exact once8_has d (j - 1) (by omega)
theorem sort8_mem (d : Array S8) (x : S8) : x ∈ (sort8 d).toList ↔ x ∈ d.toList := by
  unfold sort8
  exact List.mem_mergeSort
theorem once8_mem (d : Array S8) (x : S8) : x ∈ once8 d ↔ x ∈ d.toList := by
  rw [← sort8_mem d x]
  constructor
  · intro h
    unfold once8 Lib.compactUpTo at h
    obtain ⟨j, hj, rfl⟩ := List.mem_map.1 h
    have h1 := List.mem_range.1 (List.mem_filter.1 hj).1
    rw [getElem!_pos _ j h1]
    exact Array.getElem_mem_toList h1
  · intro h
    obtain ⟨j, hj, rfl⟩ := List.getElem_of_mem h
    have h1 : j < (sort8 d).size := by simpa using hj
    have := once8_has d j h1
    rw [getElem!_pos _ j h1] at this
    simpa using this
theorem once8_first (d : Array S8) (h : 0 < d.size) : ∃ l, once8 d = (sort8 d)[0]! :: l := by
  have hs : 0 < (sort8 d).size := by rw [sort8_size]; exact h
  unfold once8 Lib.compactUpTo
  obtain ⟨n, hn⟩ : ∃ n, (sort8 d).size = n + 1 := ⟨(sort8 d).size - 1, by omega⟩
  rw [hn, List.range_succ_eq_map, List.filter_cons_of_pos (by simp [Lib.keeps]), List.map_cons]
  exact ⟨_, rfl⟩
theorem once8_least (d : Array S8) (h : 0 < d.size) {x : S8} (hx : x ∈ d.toList) : ltOf cf8 x (sort8 d)[0]! = false := by
  obtain ⟨j, hj, rfl⟩ := List.getElem_of_mem ((sort8_mem d x).2 hx)
  have h1 : j < (sort8 d).size := by simpa using hj
  have := sort8_at (d := d) (i := 0) (j := j) (by omega) h1
  rw [getElem!_pos _ j h1] at this
  simpa using this
theorem cmpFrom_congr (f f' g g' : Sol) : ∀ n k, (∀ j, j < n → f (k + j) = f' (k + j) ∧ g (k + j) = g' (k + j)) → cmpFrom f g n k = cmpFrom f' g' n k
  | 0, _, _ => rfl
  | n + 1, k, h => by
    unfold cmpFrom
    have h0 := h 0 (by omega)
    simp only [Nat.add_zero] at h0
    rw [h0.1, h0.2, cmpFrom_congr f f' g g' n (k + 1) fun j hj => by
      have := h (j + 1) (by omega)
      rwa [show k + (j + 1) = k + 1 + j by omega] at this]
theorem eqS_at {f g : Sol} (h : eqS f g = true) : ∀ k, k < 8 → f k = g k := fun k hk => by
  obtain ⟨h0, h1, h2, h3, h4, h5, h6, h7⟩ := of_decide_eq_true h
  rcases lt8 hk with rfl | rfl | rfl | rfl | rfl | rfl | rfl | rfl <;> assumption
theorem eqS_of {f g : Sol} (h : ∀ k, k < 8 → f k = g k) : eqS f g = true :=
  decide_eq_true ⟨h 0 (by omega), h 1 (by omega), h 2 (by omega), h 3 (by omega), h 4 (by omega), h 5 (by omega), h 6 (by omega), h 7 (by omega)⟩
theorem cmp_congr {f f' g g' : Sol} (h : eqS f f' = true) (h' : eqS g g' = true) : cmpS f g = cmpS f' g' :=
  cmpFrom_congr f f' g g' 8 0 fun j hj => by rw [Nat.zero_add]; exact ⟨eqS_at h j hj, eqS_at h' j hj⟩
theorem cmp_anti {f g : Sol} (h : cmpS f g ≤ 0) (h' : cmpS g f ≤ 0) : eqS f g = true := by
  have e := cmpFrom_neg f g 8 0
  unfold cmpS at h h'
  refine eqS_of fun k hk => ?_
  have := cmpFrom_eq f g 8 0 (by omega) k hk
  rwa [Nat.zero_add] at this
theorem eqS_trans {f g h : Sol} (a : eqS f g = true) (b : eqS g h = true) : eqS f h = true := eqS_of fun k hk => (eqS_at a k hk).trans (eqS_at b k hk)
theorem eqS_symm {f g : Sol} (a : eqS f g = true) : eqS g f = true := eqS_of fun k hk => (eqS_at a k hk).symm
theorem canonN_le (f : Sol) : ∀ t, cmpS (canonN f t) (cornF f) ≤ 0 ∧ ∀ u, u < t → cmpS (canonN f t) (imgF f u) ≤ 0
  | 0 => ⟨by unfold canonN cmpS; rw [cmpFrom_self]; omega, fun u hu => by omega⟩
  | t + 1 => by
    obtain ⟨h1, h2⟩ := canonN_le f t
    unfold canonN
    split
    · rename_i hlt
      have hle : cmpS (imgF f t) (canonN f t) ≤ 0 := by omega
      refine ⟨(cmpFrom_trans _ _ _ 8 0 hle h1).1, fun u hu => ?_⟩
      by_cases e : u = t
      · subst e
        unfold cmpS
        rw [cmpFrom_self]
        omega
      · exact (cmpFrom_trans _ _ _ 8 0 hle (h2 u (by omega))).1
    · rename_i hlt
      refine ⟨h1, fun u hu => ?_⟩
      by_cases e : u = t
      · subst e
        have := cmpFrom_neg (canonN f u) (imgF f u) 8 0
        unfold cmpS at hlt ⊢
        omega
      · exact h2 u (by omega)
theorem canonN_mem {f : Sol} (hf : Fit f) : ∀ t, t ≤ 24 → ∃ u, u < 24 ∧ eqS (canonN f t) (imgF f u) = true
  | 0, _ => ⟨0, by omega, eqS_symm (img_zero hf)⟩
  | t + 1, h => by
    unfold canonN
    split
    · exact ⟨t, by omega, eqS_of fun _ _ => rfl⟩
    · exact canonN_mem hf t (by omega)
/-- Canon tells which solids have the same images. -/
theorem canon_eq {f g : Sol} (hf : Fit f) (hg : Fit g) (h : ∀ t, t < 24 → ∃ u, u < 24 ∧ eqS (imgF f t) (imgF g u) = true) (h' : ∀ t, t < 24 → ∃ u, u < 24 ∧ eqS (imgF g t) (imgF f u) = true) : eqS (canonF f) (canonF g) = true := by
  obtain ⟨t, ht, e1⟩ := canonN_mem hf 24 (by omega)
  obtain ⟨u, hu, e2⟩ := canonN_mem hg 24 (by omega)
  obtain ⟨t', ht', e3⟩ := h t ht
  obtain ⟨u', hu', e4⟩ := h' u hu
  refine cmp_anti ?_ ?_
  · have := (canonN_le f 24).2 u' hu'
    rwa [← cmp_congr (eqS_of fun _ _ => rfl) (eqS_trans e2 e4)] at this
  · have := (canonN_le g 24).2 t' ht'
    rwa [← cmp_congr (eqS_of fun _ _ => rfl) (eqS_trans e1 e3)] at this
theorem canon_img {f : Sol} (hf : Fit f) {t : Nat} (ht : t < 24) : eqS (canonF (imgF f t)) (canonF f) = true :=
  canon_eq (imgF_fit f t) hf (fun u hu => ⟨compT t u, comp_lt ht hu, img_img f ht hu⟩) fun u hu => by
    refine ⟨compT (invT t) u, comp_lt (inv_lt ht) hu, ?_⟩
    have h1 := img_img f ht (comp_lt (inv_lt ht) hu)
    have h2 : compT t (compT (invT t) u) = u := comp_left ⟨t, ht⟩ ⟨u, hu⟩
    rw [h2] at h1
    exact eqS_symm h1
theorem canon_congr {f g : Sol} (hf : Fit f) (hg : Fit g) (h : eqS f g = true) : eqS (canonF f) (canonF g) = true :=
  canon_eq hf hg (fun t ht => ⟨t, ht, img_congr h ht⟩) fun t ht => ⟨t, ht, img_congr (eqS_symm h) ht⟩
end Go.Proofs.YtadkaplafaeebaaGreatDoor
