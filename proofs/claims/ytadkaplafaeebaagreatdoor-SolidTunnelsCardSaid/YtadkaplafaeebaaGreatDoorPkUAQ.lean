/-
  Classes of cells: what the walk through a class reaches; the classes one after the other: mathematics.
-/
import Derived.Test.YtadkaplafaeebaaGreatDoorPkXBQ
import Derived.Test.YtadkaplafaeebaaGreatDoorPkKQ
import Derived.Test.YtadkaplafaeebaaGreatDoorPkLQ
import Derived.Test.YtadkaplafaeebaaGreatDoorPkNQ
import Derived.Test.YtadkaplafaeebaaGreatDoorPkXQ
set_option linter.unusedVariables false
set_option linter.unusedSimpArgs false
set_option maxRecDepth 100000
namespace Go.Proofs.YtadkaplafaeebaaGreatDoor
open Go Go.RowKit

/-- What is reached from a place, by neighbours that a solid has. -/
inductive Reach (nb : I3 → List I3) (r : Sol) : I3 → I3 → Prop
  | here {c : I3} : hasI r c = true → Reach nb r c c
  | on {c d p : I3} : hasI r c = true → d ∈ nb c → Reach nb r d p → Reach nb r c p
theorem Reach.mono {nb : I3 → List I3} {r s : Sol} (h : ∀ p, hasI r p = true → hasI s p = true) {c p : I3} (hr : Reach nb r c p) : Reach nb s c p := by
  induction hr with
  | here hc => exact .here (h _ hc)
  | on hc hd _ ih => exact .on (h _ hc) hd ih
theorem Reach.first {nb : I3 → List I3} {r : Sol} {c p : I3} (hr : Reach nb r c p) : hasI r c = true := by
  cases hr with
  | here h => exact h
  | on h _ _ => exact h
theorem Reach.last {nb : I3 → List I3} {r : Sol} {c p : I3} (hr : Reach nb r c p) : hasI r p = true := by
  induction hr with
  | here h => exact h
  | on _ _ _ ih => exact ih
theorem Reach.snoc {nb : I3 → List I3} {r : Sol} {c p q : I3} (hr : Reach nb r c p) (hq : q ∈ nb p) (hh : hasI r q = true) : Reach nb r c q := by
  induction hr with
  | here h => exact .on h hq (.here hh)
  | on h hd _ ih => exact .on h hd (ih hq)
theorem Reach.trans {nb : I3 → List I3} {r : Sol} {a b c : I3} (h : Reach nb r a b) (k : Reach nb r b c) : Reach nb r a c := by
  induction h with
  | here _ => exact k
  | on h hd _ ih => exact .on h hd (ih k)
theorem Reach.symm {nb : I3 → List I3} (hs : ∀ a b, b ∈ nb a → a ∈ nb b) {r : Sol} {a b : I3} (h : Reach nb r a b) : Reach nb r b a := by
  induction h with
  | here h => exact .here h
  | on h hd _ ih => exact ih.snoc (hs _ _ hd) h
theorem ofI_eq {p q : I3} (hp : In7 p) (hq : In7 q) : ofI p = ofI q ↔ p = q := by
  constructor
  · intro h
    have := congrArg toI h
    rwa [toI_ofI hp, toI_ofI hq] at this
  · rintro rfl
    rfl
theorem hasI_in {f : Sol} {p : I3} (h : In7 p) : hasI f p = hasC f (ofI p) := by
  unfold hasI
  rw [show inG p.1 p.2.1 p.2.2 = true by unfold inG In7 at *; exact decide_eq_true h, Bool.true_and]
theorem hasI_out {f : Sol} {p : I3} (h : ¬ In7 p) : hasI f p = false := by
  cases he : hasI f p with
  | false => rfl
  | true => exact absurd (has_in7 he) h
theorem has_delI (g : Sol) {c : I3} (hc : In7 c) (p : I3) : hasI (delS g (ofI c)) p = (hasI g p && decide (p ≠ c)) := by
  by_cases hp : In7 p
  · rw [hasI_in hp, hasI_in hp, has_del]
    congr 1
    exact decide_eq_decide.2 (not_congr (ofI_eq hp hc))
  · rw [hasI_out hp, hasI_out hp]
    rfl
theorem has_setI (g : Sol) {c : I3} (hc : In7 c) (p : I3) : hasI (setC g (ofI c)) p = (hasI g p || decide (p = c)) := by
  by_cases hp : In7 p
  · rw [hasI_in hp, hasI_in hp, has_set]
    congr 1
    exact decide_eq_decide.2 (ofI_eq hp hc)
  · rw [hasI_out hp, hasI_out hp, decide_eq_false (fun e => hp (by rw [e]; exact hc))]
    rfl
structure DfsS (nb : I3 → List I3) (L : List I3) (s t : Sol × Sol) : Prop where
  sub : ∀ p, hasI t.1 p = true → hasI s.1 p = true
  cls : ∀ p, hasI t.2 p = (hasI s.2 p || (hasI s.1 p && !hasI t.1 p))
  reach : ∀ p, hasI s.1 p = true → hasI t.1 p = false → ∃ d ∈ L, Reach nb s.1 d p
  gone : ∀ d ∈ L, hasI t.1 d = false
  shut : ∀ p q, hasI s.1 p = true → hasI t.1 p = false → q ∈ nb p → hasI t.1 q = false
theorem dfs_fold {nb : I3 → List I3} {n : Nat} (ih : ∀ c s, cnt s.1 < n → DfsS nb [c] s (dfs nb n c s)) : ∀ (L : List I3) (s : Sol × Sol), cnt s.1 < n → DfsS nb L s (dfsL nb n L s)
  | [], s, _ => ⟨fun p h => h, fun p => by show hasI s.2 p = (hasI s.2 p || (hasI s.1 p && !hasI s.1 p)); cases hasI s.2 p <;> cases hasI s.1 p <;> rfl, fun p h h' => (by rw [show dfsL nb n [] s = s from rfl] at h'; rw [h] at h'; cases h'), fun d hd => (by cases hd), fun p q h h' => (by rw [show dfsL nb n [] s = s from rfl] at h'; rw [h] at h'; cases h')⟩
  | c :: L, s, hn => by
    have h1 := ih c s hn
    have h2 := dfs_fold ih L (dfs nb n c s) (Nat.lt_of_le_of_lt (dfs_cnt nb n c s) hn)
    rw [show dfsL nb n (c :: L) s = dfsL nb n L (dfs nb n c s) from rfl]
    generalize dfsL nb n L (dfs nb n c s) = t at *
    generalize dfs nb n c s = u at *
    refine ⟨fun p h => h1.sub p (h2.sub p h), fun p => ?_, fun p h h' => ?_, fun d hd => ?_, fun p q h h' hq => ?_⟩
    · rw [h2.cls, h1.cls]
      have a := h1.sub p
      have b := h2.sub p
      cases ha : hasI s.1 p <;> cases hb : hasI u.1 p <;> cases hc : hasI t.1 p <;> cases hd : hasI s.2 p <;> simp_all
    · cases hu : hasI u.1 p with
      | false =>
        obtain ⟨d, hd, hr⟩ := h1.reach p h hu
        rw [List.mem_singleton.1 hd] at hr
        exact ⟨c, List.mem_cons_self, hr⟩
      | true =>
        obtain ⟨d, hd, hr⟩ := h2.reach p hu h'
        exact ⟨d, List.mem_cons_of_mem _ hd, hr.mono h1.sub⟩
    · rcases List.mem_cons.1 hd with rfl | hd
      · have := h1.gone d List.mem_cons_self
        cases ht : hasI t.1 d with
        | false => rfl
        | true => rw [h2.sub d ht] at this; cases this
      · exact h2.gone d hd
    · cases hu : hasI u.1 p with
      | false =>
        have := h1.shut p q h hu hq
        cases ht : hasI t.1 q with
        | false => rfl
        | true => rw [h2.sub q ht] at this; cases this
      | true => exact h2.shut p q hu h' hq
theorem dfs_spec (nb : I3 → List I3) : ∀ n c s, cnt s.1 < n → DfsS nb [c] s (dfs nb n c s)
  | 0, c, s, h => by omega
  | n + 1, c, s, h => by
    by_cases hc : hasI s.1 c = true
    · have h7 := has_in7 hc
      have hcnt : cnt (delS s.1 (ofI c)) < cnt s.1 := cnt_del (by rw [← hasI_in h7]; exact hc)
      have hf := dfs_fold (dfs_spec nb n) (nb c) (delS s.1 (ofI c), setC s.2 (ofI c)) (by show cnt (delS s.1 (ofI c)) < n; omega)
      rw [show dfs nb (n + 1) c s = dfsL nb n (nb c) (delS s.1 (ofI c), setC s.2 (ofI c)) by rw [dfs, if_pos hc]; rfl]
      generalize dfsL nb n (nb c) (delS s.1 (ofI c), setC s.2 (ofI c)) = t at *
      have hd := has_delI s.1 h7
      have hs := has_setI s.2 h7
      have sub : ∀ p, hasI t.1 p = true → hasI s.1 p = true := fun p h => by
        have := hf.sub p h
        simp only [hd, Bool.and_eq_true] at this
        exact this.1
      have gone : hasI t.1 c = false := by
        cases ht : hasI t.1 c with
        | false => rfl
        | true =>
          have := hf.sub c ht
          simp [hd] at this
      refine ⟨sub, fun p => ?_, fun p h h' => ⟨c, List.mem_cons_self, ?_⟩, fun d hd => by rw [List.mem_singleton.1 hd]; exact gone, fun p q h h' hq => ?_⟩
      · rw [hf.cls p]
        simp only [hd, hs]
        by_cases e : p = c
        · subst e
          rw [gone, hc]
          simp
        · simp [e]
      · by_cases e : p = c
        · subst e
          exact .here hc
        · obtain ⟨d, hd', hr⟩ := hf.reach p (by simp [hd, h, e]) h'
          exact .on hc hd' (hr.mono fun q hq => by simp only [hd, Bool.and_eq_true] at hq; exact hq.1)
      · by_cases e : p = c
        · subst e
          exact hf.gone q hq
        · exact hf.shut p q (by simp [hd, h, e]) h' hq
    · rw [show dfs nb (n + 1) c s = s by rw [dfs, if_neg hc]]
      have hc0 : hasI s.1 c = false := by simpa using hc
      refine ⟨fun p h => h, fun p => ?_, fun p h h' => ?_, fun d hd => ?_, fun p q h h' => ?_⟩
      · cases hasI s.2 p <;> cases hasI s.1 p <;> rfl
      · rw [h] at h'; cases h'
      · rw [List.mem_singleton.1 hd]; exact hc0
      · rw [h] at h'; cases h'
/-- The class of a cell, and what is left. -/
def clsOf (nb : I3 → List I3) (r : Sol) (c : I3) : Sol × Sol := dfs nb 513 c (r, fun _ => 0)
theorem has_zero (p : I3) : hasI (fun _ => 0) p = false := by
  unfold hasI hasC
  rw [Nat.zero_testBit, Bool.and_false]
theorem cls_spec (nb : I3 → List I3) (r : Sol) (c : I3) : (∀ p, hasI (clsOf nb r c).2 p = true ↔ Reach nb r c p) ∧ ∀ p, hasI (clsOf nb r c).1 p = (hasI r p && !hasI (clsOf nb r c).2 p) := by
  have h := dfs_spec nb 513 c (r, fun _ => 0) (by have := cnt_le r; show cnt r < 513; omega)
  unfold clsOf
  generalize dfs nb 513 c (r, fun _ => 0) = t at *
  have zero := has_zero
  have hcls : ∀ p, hasI t.2 p = (hasI r p && !hasI t.1 p) := fun p => by rw [h.cls p]; simp [zero]
  have key : ∀ a p, Reach nb r a p → hasI t.1 a = false → hasI t.1 p = false := fun a p hr => by
    induction hr with
    | here _ => exact fun h => h
    | on hc hd _ ih => exact fun h0 => ih (h.shut _ _ hc h0 hd)
  refine ⟨fun p => ⟨fun hp => ?_, fun hp => ?_⟩, fun p => ?_⟩
  · rw [hcls p, Bool.and_eq_true, Bool.not_eq_true'] at hp
    obtain ⟨d, hd, hr⟩ := h.reach p hp.1 hp.2
    rwa [List.mem_singleton.1 hd] at hr
  · rw [hcls p, hp.last, key c p hp (h.gone c List.mem_cons_self)]
    rfl
  · rw [hcls p]
    have := h.sub p
    cases ha : hasI r p <;> cases hb : hasI t.1 p <;> simp_all
theorem cls_fit (nb : I3 → List I3) {r : Sol} (h : Fit r) (c : I3) : Fit (clsOf nb r c).1 ∧ Fit (clsOf nb r c).2 := dfs_fit nb 513 c (r, fun _ => 0) h fit0
/-- The classes, each time that of the first cell left. -/
def clsR (nb : I3 → List I3) : Nat → Sol → List Sol
  | 0, _ => []
  | n + 1, r => match cellsL r with
    | [] => []
    | c :: _ => (clsOf nb r (toI c)).2 :: clsR nb n (clsOf nb r (toI c)).1
theorem cnt_zero {r : Sol} {c : Cl} (h : hasC r c = true) : 0 < cnt r := by
  have := cnt_del h
  omega
theorem cls_cnt (nb : I3 → List I3) {r : Sol} {c : Cl} (h : hasC r c = true) : cnt (clsOf nb r (toI c)).1 < cnt r := by
  have hd : cnt (clsOf nb r (toI c)).1 ≤ cnt (delS r c) := by
    refine countP_le _ _ (fun d hd => ?_) _
    have hs := cls_spec nb r (toI c)
    have h1 := hs.2 (toI d)
    rw [has_cell, has_cell, hd] at h1
    rw [has_del]
    have h2 : hasC r d = true := by
      cases hq : hasC r d with
      | true => rfl
      | false =>
        rw [hq] at h1
        cases h1
    rw [h2, Bool.true_and]
    refine decide_eq_true fun e => ?_
    subst e
    have h3 := (hs.1 (toI d)).2 (.here (by rw [has_cell]; exact h))
    rw [h3, h2] at h1
    cases h1
  have := cnt_del h
  omega
theorem cells_head {r : Sol} {c : Cl} {l : List Cl} (hc : hasC r c = true) (hl : (c :: l).Pairwise fun a b => a.1 < b.1) (ha : ∀ d, hasC r d = true → d ∈ c :: l) : ∃ t, cellsL r = c :: t := by
  have hm : c ∈ cellsL r := (mem_cells r c).2 hc
  cases he : cellsL r with
  | nil => rw [he] at hm; cases hm
  | cons d t =>
    have hs := cells_asc r
    rw [he] at hs hm
    have hd := ha d ((mem_cells r d).1 (by rw [he]; exact List.mem_cons_self))
    have : d = c := by
      rcases List.mem_cons.1 hd with e | hd
      · exact e
      · rcases List.mem_cons.1 hm with e | hm
        · exact e.symm
        · have a1 := (List.pairwise_cons.1 hl).1 d hd
          have a2 := (List.pairwise_cons.1 hs).1 c hm
          omega
    exact ⟨t, by rw [this]⟩
theorem cl_of' {f : Sol} {p : I3} (h : hasI f p = true) : ∃ c ∈ cellsL f, toI c = p := by
  have h7 := has_in7 h
  exact ⟨ofI p, (mem_cellI f _).2 (by rw [toI_ofI h7]; exact h), toI_ofI h7⟩
theorem cls_fold (nb : I3 → List I3) : ∀ (l : List Cl) (r : Sol) (L : List Sol) (n : Nat), l.Pairwise (fun a b => a.1 < b.1) → (∀ d, hasC r d = true → d ∈ l) → cnt r ≤ n → (l.foldl (clsStep nb) (r, L)).2 = L ++ clsR nb n r
  | [], r, L, n, _, ha, _ => by
    have : cellsL r = [] := List.eq_nil_iff_forall_not_mem.2 fun d hd => by have := ha d ((mem_cells r d).1 hd); cases this
    cases n with
    | zero => simp [clsR]
    | succ n => simp [clsR, this]
  | c :: l, r, L, n, hl, ha, hn => by
    rw [List.foldl_cons]
    have hl' := (List.pairwise_cons.1 hl).2
    by_cases hc : hasC r c = true
    · obtain ⟨t, ht⟩ := cells_head hc hl ha
      have h0 := cnt_zero hc
      obtain ⟨m, rfl⟩ : ∃ m, n = m + 1 := ⟨n - 1, by omega⟩
      have hs := cls_spec nb r (toI c)
      have hcl := cls_cnt nb hc
      have hmem : hasI (clsOf nb r (toI c)).2 (toI c) = true := (hs.1 _).2 (.here (by rw [has_cell]; exact hc))
      have hne : emptyS (clsOf nb r (toI c)).2 = false := by
        cases he : emptyS (clsOf nb r (toI c)).2 with
        | false => rfl
        | true =>
          have e := has_congr (show eqS (clsOf nb r (toI c)).2 (fun _ => 0) = true from he) (toI c)
          rw [hmem, has_zero] at e
          cases e
      have hstep : clsStep nb (r, L) c = ((clsOf nb r (toI c)).1, L ++ [(clsOf nb r (toI c)).2]) := by
        show ((clsOf nb r (toI c)).1, if emptyS (clsOf nb r (toI c)).2 = true then L else L ++ [(clsOf nb r (toI c)).2]) = _
        rw [if_neg (by rw [hne]; simp)]
      rw [hstep, cls_fold nb l _ _ m hl' (fun d hd => ?_) (by omega)]
      · rw [show clsR nb (m + 1) r = (clsOf nb r (toI c)).2 :: clsR nb m (clsOf nb r (toI c)).1 by rw [clsR, ht]]
        simp
      · have h1 := hs.2 (toI d)
        rw [has_cell, has_cell, hd] at h1
        have h2 : hasC r d = true := by
          cases hq : hasC r d with
          | true => rfl
          | false =>
            rw [hq] at h1
            cases h1
        rcases List.mem_cons.1 (ha d h2) with e | h
        · subst e
          rw [hmem, h2] at h1
          cases h1
        · exact h
    · have hc0 : hasI r (toI c) = false := by rw [has_cell]; simpa using hc
      have hdf : dfs nb 513 (toI c) (r, fun _ => 0) = (r, fun _ => 0) := by rw [dfs, if_neg (by rw [hc0]; simp)]
      have hstep : clsStep nb (r, L) c = (r, L) := by
        show ((dfs nb 513 (toI c) (r, fun _ => 0)).1, if emptyS (dfs nb 513 (toI c) (r, fun _ => 0)).2 = true then L else L ++ [(dfs nb 513 (toI c) (r, fun _ => 0)).2]) = _
        rw [hdf]
        rfl
      rw [hstep]
      refine cls_fold nb l r L n hl' (fun d hd => ?_) hn
      rcases List.mem_cons.1 (ha d hd) with e | h
      · subst e
        exact absurd hd hc
      · exact h
theorem cls_is (nb : I3 → List I3) (f : Sol) {n : Nat} (h : cnt f ≤ n) : clsF nb f = clsR nb n f := by
  have := cls_fold nb (cellsL f) f [] n (cells_asc f) (fun d hd => (mem_cells f d).2 hd) h
  rw [List.nil_append] at this
  exact this
end Go.Proofs.YtadkaplafaeebaaGreatDoor
/-
  The neighbours of a place; the points of a solid, each once, and the sum of their signs: mathematics.
-/
set_option linter.unusedVariables false
set_option linter.unusedSimpArgs false
set_option maxRecDepth 100000
namespace Go.Proofs.YtadkaplafaeebaaGreatDoor
open Go Go.RowKit

theorem mem_row {x y z : Int} {k : Nat} (h : k ≤ 3) {q : I3} : q ∈ rowT x y z k ↔ x - 1 + k ≤ q.1 ∧ q.1 ≤ x + 1 ∧ q.2.1 = y ∧ q.2.2 = z := by
  unfold rowT
  rw [List.mem_map]
  constructor
  · rintro ⟨i, hi, rfl⟩
    have := List.mem_range'_1.1 hi
    exact ⟨show x - 1 + (k : Int) ≤ x - 1 + (i : Int) by omega, show x - 1 + (i : Int) ≤ x + 1 by omega, rfl, rfl⟩
  · rintro ⟨h1, h2, h3, h4⟩
    refine ⟨(q.1 - x + 1).toNat, List.mem_range'_1.2 (by omega), ?_⟩
    refine I3.ext' ?_ ?_ ?_ <;> simp only <;> omega
theorem mem_plane {x y z : Int} {k : Nat} (h : k ≤ 3) {q : I3} : q ∈ planeT x y z k ↔ (x - 1 ≤ q.1 ∧ q.1 ≤ x + 1) ∧ (y - 1 + k ≤ q.2.1 ∧ q.2.1 ≤ y + 1) ∧ q.2.2 = z := by
  unfold planeT
  rw [List.mem_flatMap]
  constructor
  · rintro ⟨i, hi, hq⟩
    have := List.mem_range'_1.1 hi
    have := (mem_row (by omega)).1 hq
    omega
  · rintro ⟨h1, h2, h3⟩
    exact ⟨(q.2.1 - y + 1).toNat, List.mem_range'_1.2 (by omega), (mem_row (by omega)).2 (by omega)⟩
theorem mem_touch {c q : I3} : q ∈ touchL c ↔ (c.1 - 1 ≤ q.1 ∧ q.1 ≤ c.1 + 1) ∧ (c.2.1 - 1 ≤ q.2.1 ∧ q.2.1 ≤ c.2.1 + 1) ∧ c.2.2 - 1 ≤ q.2.2 ∧ q.2.2 ≤ c.2.2 + 1 := by
  unfold touchL allT
  rw [List.mem_flatMap]
  constructor
  · rintro ⟨i, hi, hq⟩
    have := List.mem_range'_1.1 hi
    have := (mem_plane (by omega)).1 hq
    omega
  · rintro ⟨h1, h2, h3⟩
    exact ⟨(q.2.2 - c.2.2 + 1).toNat, List.mem_range'_1.2 (by omega), (mem_plane (by omega)).2 (by omega)⟩
theorem touch_symm (a b : I3) (h : b ∈ touchL a) : a ∈ touchL b := by
  rw [mem_touch] at *
  omega
theorem mem_face {c q : I3} : q ∈ facingL c ↔ (q.1 = c.1 + -1 ∧ q.2.1 = c.2.1 ∧ q.2.2 = c.2.2) ∨ (q.1 = c.1 ∧ q.2.1 = c.2.1 + -1 ∧ q.2.2 = c.2.2) ∨ (q.1 = c.1 ∧ q.2.1 = c.2.1 ∧ q.2.2 = c.2.2 + -1) ∨ (q.1 = c.1 + 1 ∧ q.2.1 = c.2.1 ∧ q.2.2 = c.2.2) ∨ (q.1 = c.1 ∧ q.2.1 = c.2.1 + 1 ∧ q.2.2 = c.2.2) ∨ (q.1 = c.1 ∧ q.2.1 = c.2.1 ∧ q.2.2 = c.2.2 + 1) := by
  obtain ⟨a, b, d⟩ := q
  unfold facingL face3
  simp only [List.cons_append, List.nil_append, List.mem_cons, List.not_mem_nil, or_false, Prod.mk.injEq]
theorem face_symm (a b : I3) (h : b ∈ facingL a) : a ∈ facingL b := by
  rw [mem_face] at *
  rcases h with ⟨h1, h2, h3⟩ | ⟨h1, h2, h3⟩ | ⟨h1, h2, h3⟩ | ⟨h1, h2, h3⟩ | ⟨h1, h2, h3⟩ | ⟨h1, h2, h3⟩
  · exact .inr (.inr (.inr (.inl ⟨by omega, by omega, by omega⟩)))
  · exact .inr (.inr (.inr (.inr (.inl ⟨by omega, by omega, by omega⟩))))
  · exact .inr (.inr (.inr (.inr (.inr ⟨by omega, by omega, by omega⟩))))
  · exact .inl ⟨by omega, by omega, by omega⟩
  · exact .inr (.inl ⟨by omega, by omega, by omega⟩)
  · exact .inr (.inr (.inl ⟨by omega, by omega, by omega⟩))
def sg (p : I3) : Int := if eulP p = true then 1 else -1
/-- Points each once, and their signs' sum. -/
def EulS (s : List I3 × Int) : Prop := s.1.Nodup ∧ s.2 = (s.1.map sg).sum
theorem eulStep_s {s : List I3 × Int} (h : EulS s) (p : I3) : EulS (eulStep s p) ∧ ∀ q, q ∈ (eulStep s p).1 ↔ q ∈ s.1 ∨ q = p := by
  unfold eulStep
  split
  · rename_i hp
    refine ⟨h, fun q => ⟨.inl, ?_⟩⟩
    rintro (hq | rfl)
    · exact hq
    · exact hp
  · rename_i hp
    refine ⟨⟨List.nodup_append.2 ⟨h.1, by simp, fun a ha b hb => ?_⟩, ?_⟩, fun q => by simp⟩
    · rw [List.mem_singleton.1 hb]
      rintro rfl
      exact hp ha
    · rw [List.map_append, List.sum_append, h.2]
      unfold sg
      simp only [List.map_cons, List.map_nil, List.sum_cons, List.sum_nil]
      split <;> omega
theorem eulI_s : ∀ (l : List I3) {s : List I3 × Int}, EulS s → EulS (eulI s l) ∧ ∀ q, q ∈ (eulI s l).1 ↔ q ∈ s.1 ∨ q ∈ l
  | [], s, h => ⟨h, fun q => by simp [eulI]⟩
  | p :: l, s, h => by
    have h1 := eulStep_s h p
    have h2 := eulI_s l h1.1
    rw [show eulI s (p :: l) = eulI (eulStep s p) l from rfl]
    refine ⟨h2.1, fun q => ?_⟩
    rw [h2.2, h1.2, List.mem_cons, or_assoc]
theorem eulN_s : ∀ (l : List Cl) {s : List I3 × Int}, EulS s → EulS (l.foldl (fun s c => eulI s (touchL (dbl c))) s) ∧ ∀ q, q ∈ (l.foldl (fun s c => eulI s (touchL (dbl c))) s).1 ↔ q ∈ s.1 ∨ ∃ c ∈ l, q ∈ touchL (dbl c)
  | [], s, h => ⟨h, fun q => by simp⟩
  | c :: l, s, h => by
    have h1 := eulI_s (touchL (dbl c)) h
    have h2 := eulN_s l h1.1
    rw [List.foldl_cons]
    refine ⟨h2.1, fun q => ?_⟩
    rw [h2.2, h1.2, or_assoc]
    refine or_congr Iff.rfl ?_
    simp only [List.mem_cons, exists_eq_or_imp]
/-- The points of a solid, each once. -/
def pts (f : Sol) : List I3 := (eulN (cellsL f)).1
theorem pts_all (f : Sol) : EulS (eulN (cellsL f)) ∧ ∀ q, q ∈ pts f ↔ ∃ c ∈ cellsL f, q ∈ touchL (dbl c) := by
  have h := eulN_s (cellsL f) (s := ([], 0)) ⟨List.nodup_nil, rfl⟩
  refine ⟨h.1, fun q => ?_⟩
  have := h.2 q
  unfold pts eulN
  rw [this]
  simp
theorem eul_is (f : Sol) : eulF f = ((pts f).map sg).sum := (pts_all f).1.2
theorem sum_perm {l m : List Int} (h : l.Perm m) : l.sum = m.sum := by
  induction h with
  | nil => rfl
  | cons a _ ih => rw [List.sum_cons, List.sum_cons, ih]
  | swap a b l => simp only [List.sum_cons]; omega
  | trans _ _ h1 h2 => rw [h1, h2]
theorem sum_ext (g : I3 → Int) {l m : List I3} (hl : l.Nodup) (hm : m.Nodup) (h : ∀ p, p ∈ l ↔ p ∈ m) : (l.map g).sum = (m.map g).sum :=
  sum_perm (((List.perm_ext_iff_of_nodup hl hm).2 h).map g)
theorem eul_of (f : Sol) (l : List I3) (hn : l.Nodup) (h : ∀ q, q ∈ l ↔ ∃ c ∈ cellsL f, q ∈ touchL (dbl c)) : eulF f = (l.map sg).sum := by
  rw [eul_is]
  exact sum_ext sg (pts_all f).1.1 hn fun p => by rw [(pts_all f).2, h]
end Go.Proofs.YtadkaplafaeebaaGreatDoor
/-
  The sum over corners, edges, faces and cells as the reference makes it: mathematics.
-/
set_option linter.unusedVariables false
set_option linter.unusedSimpArgs false
set_option maxRecDepth 100000
namespace Go.Proofs.YtadkaplafaeebaaGreatDoor
open Go Go.RowKit

/-- Whether a solid has a cell of a box. -/
def boxB (f : Sol) (lo hi : I3) : Bool := (cellsL f).any fun c => decide (lo.1 ≤ (cX c : Int) ∧ (cX c : Int) ≤ hi.1 ∧ lo.2.1 ≤ (cY c : Int) ∧ (cY c : Int) ≤ hi.2.1 ∧ lo.2.2 ≤ (cZ c : Int) ∧ (cZ c : Int) ≤ hi.2.2)
theorem boxB_iff {f : Sol} {lo hi : I3} : boxB f lo hi = true ↔ ∃ p, hasI f p = true ∧ lo.1 ≤ p.1 ∧ p.1 ≤ hi.1 ∧ lo.2.1 ≤ p.2.1 ∧ p.2.1 ≤ hi.2.1 ∧ lo.2.2 ≤ p.2.2 ∧ p.2.2 ≤ hi.2.2 := by
  unfold boxB
  rw [List.any_eq_true]
  constructor
  · rintro ⟨c, hc, h⟩
    exact ⟨toI c, (mem_cellI f c).1 hc, of_decide_eq_true h⟩
  · rintro ⟨p, hp, h⟩
    obtain ⟨c, hc, rfl⟩ := cl_of' hp
    exact ⟨c, hc, decide_eq_true h⟩
def sumR (g : Nat → Int) : Nat → Int
  | 0 => 0
  | n + 1 => sumR g n + g n
theorem sumR_congr {g h : Nat → Int} : ∀ n, (∀ i, i < n → g i = h i) → sumR g n = sumR h n
  | 0, _ => rfl
  | n + 1, e => by rw [sumR, sumR, sumR_congr n (fun i hi => e i (by omega)), e n (by omega)]
theorem sumR_add (g : Nat → Int) (a : Nat) : ∀ b, sumR g (a + b) = sumR g a + sumR (fun j => g (a + j)) b
  | 0 => by simp [sumR]
  | b + 1 => by
    rw [← Nat.add_assoc, sumR, sumR_add g a b, sumR]
    omega
theorem sumR_mul (g : Nat → Int) (b : Nat) : ∀ a, sumR g (a * b) = sumR (fun i => sumR (fun j => g (i * b + j)) b) a
  | 0 => by simp [sumR]
  | a + 1 => by rw [Nat.succ_mul, sumR_add, sumR_mul g b a, sumR]
theorem sumR_list (g : Nat → Int) : ∀ n, sumR g n = ((List.range n).map g).sum
  | 0 => rfl
  | n + 1 => by rw [sumR, sumR_list g n, List.range_succ, List.map_append, List.sum_append]; simp
/-- One corner, edge, face or cell as the reference counts it. -/
def termR (f : Sol) (z y x k : Nat) : Int :=
  if boxB f ((x : Int) - 1 + (k % 2 : Nat), (y : Int) - 1 + (k / 2 % 2 : Nat), (z : Int) - 1 + (k / 4 % 2 : Nat)) (x, y, z) = true then (if (k % 2 + k / 2 % 2 + k / 4 % 2) % 2 = 0 then 1 else -1) else 0
def eulK (f : Sol) (z y x : Nat) : Nat → Int := sumR (termR f z y x)
def eulX (f : Sol) (z y : Nat) : Nat → Int := sumR fun x => eulK f z y x 8
def eulY (f : Sol) (z : Nat) : Nat → Int := sumR fun y => eulX f z y 9
def eulZ (f : Sol) : Nat → Int := sumR fun z => eulY f z 9
def ptR (i : Nat) : I3 := (((2 * (i / 8 % 9) + i % 2 : Nat) : Int), ((2 * (i / 72 % 9) + i / 2 % 2 : Nat) : Int), ((2 * (i / 648) + i / 4 % 2 : Nat) : Int))
theorem ptR_inj {i j : Nat} (h : ptR i = ptR j) : i = j := by
  unfold ptR at h
  simp only [Prod.mk.injEq] at h
  obtain ⟨h1, h2, h3⟩ := h
  have e1 : i / 8 % 9 = j / 8 % 9 := by omega
  have e2 : i % 2 = j % 2 := by omega
  have e3 : i / 72 % 9 = j / 72 % 9 := by omega
  have e4 : i / 2 % 2 = j / 2 % 2 := by omega
  have e5 : i / 648 = j / 648 := by omega
  have e6 : i / 4 % 2 = j / 4 % 2 := by omega
  clear h1 h2 h3
  have d1 : i % 8 = j % 8 := by omega
  have d2 : i / 8 = j / 8 := by
    have a1 : i / 72 = i / 8 / 9 := by rw [Nat.div_div_eq_div_mul]
    have a2 : j / 72 = j / 8 / 9 := by rw [Nat.div_div_eq_div_mul]
    have a3 : i / 648 = i / 72 / 9 := by rw [Nat.div_div_eq_div_mul]
    have a4 : j / 648 = j / 72 / 9 := by rw [Nat.div_div_eq_div_mul]
    omega
  omega
def isP (f : Sol) (q : I3) : Bool := (cellsL f).any fun c => decide (q ∈ touchL (dbl c))
theorem isP_iff {f : Sol} {q : I3} : isP f q = true ↔ ∃ c ∈ cellsL f, q ∈ touchL (dbl c) := by
  unfold isP
  rw [List.any_eq_true]
  exact ⟨fun ⟨c, hc, h⟩ => ⟨c, hc, of_decide_eq_true h⟩, fun ⟨c, hc, h⟩ => ⟨c, hc, decide_eq_true h⟩⟩
theorem box_isP (f : Sol) (x y z a b c : Nat) (ha : a < 2) (hb : b < 2) (hc : c < 2) :
    boxB f ((x : Int) - 1 + a, (y : Int) - 1 + b, (z : Int) - 1 + c) (x, y, z) = isP f (((2 * x + a : Nat) : Int), ((2 * y + b : Nat) : Int), ((2 * z + c : Nat) : Int)) := by
  refine Bool.eq_iff_iff.2 ?_
  rw [isP_iff]
  unfold boxB
  rw [List.any_eq_true]
  refine ⟨fun ⟨d, hd, h⟩ => ⟨d, hd, ?_⟩, fun ⟨d, hd, h⟩ => ⟨d, hd, ?_⟩⟩
  · have h := of_decide_eq_true h
    rw [mem_touch]
    simp only [dbl] at *
    omega
  · rw [mem_touch] at h
    refine decide_eq_true ?_
    simp only [dbl] at *
    omega
theorem sum_filter (p : I3 → Bool) (w : I3 → Int) : ∀ l : List I3, (l.map fun q => if p q = true then w q else 0).sum = ((l.filter p).map w).sum
  | [] => rfl
  | q :: l => by
    rw [List.map_cons, List.sum_cons, sum_filter p w l, List.filter_cons]
    split
    · simp
    · simp
theorem eul_ref (f : Sol) : eulZ f 9 = eulF f := by
  have h1 : eulZ f 9 = sumR (fun i => termR f (i / 648) (i / 72 % 9) (i / 8 % 9) (i % 8)) (9 * (9 * (9 * 8))) := by
    rw [sumR_mul]
    refine sumR_congr _ fun z hz => ?_
    rw [sumR_mul]
    refine sumR_congr _ fun y hy => ?_
    rw [sumR_mul]
    refine sumR_congr _ fun x hx => ?_
    refine sumR_congr _ fun k hk => ?_
    have e1 : (z * (9 * (9 * 8)) + (y * (9 * 8) + (x * 8 + k))) / 648 = z := by omega
    have e2 : (z * (9 * (9 * 8)) + (y * (9 * 8) + (x * 8 + k))) / 72 % 9 = y := by omega
    have e3 : (z * (9 * (9 * 8)) + (y * (9 * 8) + (x * 8 + k))) / 8 % 9 = x := by omega
    have e4 : (z * (9 * (9 * 8)) + (y * (9 * 8) + (x * 8 + k))) % 8 = k := by omega
    rw [e1, e2, e3, e4]
  rw [h1, sumR_list]
  have h2 : (List.range (9 * (9 * (9 * 8)))).map (fun i => termR f (i / 648) (i / 72 % 9) (i / 8 % 9) (i % 8)) = ((List.range (9 * (9 * (9 * 8)))).map ptR).map fun q => if isP f q = true then sg q else 0 := by
    rw [List.map_map]
    refine List.map_congr_left fun i hi => ?_
    unfold termR
    rw [box_isP f _ _ _ _ _ _ (by omega) (by omega) (by omega)]
    have e1 : i % 8 % 2 = i % 2 := by omega
    have e2 : i % 8 / 2 % 2 = i / 2 % 2 := by omega
    have e3 : i % 8 / 4 % 2 = i / 4 % 2 := by omega
    rw [e1, e2, e3]
    show _ = if isP f (ptR i) = true then sg (ptR i) else 0
    show (if isP f (ptR i) = true then _ else 0) = _
    have e : ((i % 2 + i / 2 % 2 + i / 4 % 2) % 2 = 0) ↔ eulP (ptR i) = true := by
      unfold eulP ptR
      simp only [beq_iff_eq]
      rw [Int.tmod_eq_emod_of_nonneg (by omega)]
      omega
    unfold sg
    by_cases h : (i % 2 + i / 2 % 2 + i / 4 % 2) % 2 = 0
    · rw [if_pos h, if_pos (e.1 h)]
    · rw [if_neg h, if_neg (fun h' => h (e.2 h'))]
  rw [h2, sum_filter]
  refine (eul_of f _ ?_ fun q => ?_).symm
  · refine List.Pairwise.filter _ ?_
    refine List.pairwise_map.2 ?_
    exact List.nodup_range.imp fun hij e => hij (ptR_inj e)
  · rw [List.mem_filter, isP_iff, List.mem_map]
    refine ⟨fun h => h.2, fun h => ⟨?_, h⟩⟩
    obtain ⟨c, hc, hq⟩ := h
    rw [mem_touch] at hq
    have hx := X_le c
    have hy := Y_le c
    have hz := Z_le c
    simp only [dbl] at hq
    obtain ⟨q1, q2, q3⟩ := q
    simp only at hq
    obtain ⟨a, rfl⟩ : ∃ a : Nat, q1 = a := ⟨q1.toNat, by omega⟩
    obtain ⟨b, rfl⟩ : ∃ a : Nat, q2 = a := ⟨q2.toNat, by omega⟩
    obtain ⟨d, rfl⟩ : ∃ a : Nat, q3 = a := ⟨q3.toNat, by omega⟩
    have key : ∀ X Y Z x y z : Nat, X ≤ 8 → Y ≤ 8 → Z ≤ 8 → x < 2 → y < 2 → z < 2 → ∃ i, i < 9 * (9 * (9 * 8)) ∧ i / 8 % 9 = X ∧ i % 2 = x ∧ i / 72 % 9 = Y ∧ i / 2 % 2 = y ∧ i / 648 = Z ∧ i / 4 % 2 = z := fun X Y Z x y z h1 h2 h3 h4 h5 h6 => by
      refine ⟨648 * Z + 72 * Y + 8 * X + (x + 2 * y + 4 * z), by omega, ?_, by omega, ?_, by omega, by omega, by omega⟩
      · have : (648 * Z + 72 * Y + 8 * X + (x + 2 * y + 4 * z)) / 8 = 81 * Z + 9 * Y + X := by omega
        rw [this]
        omega
      · have : (648 * Z + 72 * Y + 8 * X + (x + 2 * y + 4 * z)) / 72 = 9 * Z + Y := by omega
        rw [this]
        omega
    obtain ⟨i, hi, e1, e2, e3, e4, e5, e6⟩ := key (a / 2) (b / 2) (d / 2) (a % 2) (b % 2) (d % 2) (by omega) (by omega) (by omega) (by omega) (by omega) (by omega)
    refine ⟨i, List.mem_range.2 hi, ?_⟩
    unfold ptR
    rw [e1, e2, e3, e4, e5, e6]
    simp only [Prod.mk.injEq]
    refine ⟨?_, ?_, ?_⟩ <;> omega
end Go.Proofs.YtadkaplafaeebaaGreatDoor
/-
  What the classes of a solid are: mathematics.
-/
set_option linter.unusedVariables false
set_option linter.unusedSimpArgs false
set_option maxRecDepth 100000
namespace Go.Proofs.YtadkaplafaeebaaGreatDoor
open Go Go.RowKit

/-- The classes of a solid: each is what is reached from one of its cells; together they have all; no two have a cell in common. -/
structure IsCls (nb : I3 → List I3) (f r : Sol) (L : List Sol) : Prop where
  each : ∀ g ∈ L, Fit g ∧ ∃ c, hasI r c = true ∧ ∀ p, hasI g p = true ↔ Reach nb f c p
  all : ∀ p, hasI r p = true → ∃ g ∈ L, hasI g p = true
  apart : L.Pairwise fun g h => ∀ p, hasI g p = true → hasI h p = false
theorem reach_in {nb : I3 → List I3} {f r : Sol} (hr : ∀ p q, hasI r p = true → q ∈ nb p → hasI f q = true → hasI r q = true) {c p : I3} (h : Reach nb f c p) : hasI r c = true → Reach nb r c p := by
  induction h with
  | here _ => exact fun h => .here h
  | on _ hd h2 ih => exact fun h => .on h hd (ih (hr _ _ h hd h2.first))
theorem clsR_is {nb : I3 → List I3} (hs : ∀ a b, b ∈ nb a → a ∈ nb b) {f : Sol} : ∀ (n : Nat) (r : Sol), Fit r → (∀ p, hasI r p = true → hasI f p = true) → (∀ p q, hasI r p = true → q ∈ nb p → hasI f q = true → hasI r q = true) → cnt r ≤ n → IsCls nb f r (clsR nb n r)
  | 0, r, hf, _, _, hn => by
    refine ⟨fun g hg => (by cases hg), fun p hp => ?_, List.Pairwise.nil⟩
    have h7 := has_in7 hp
    have := cnt_zero (r := r) (c := ofI p) (by rw [← hasI_in h7]; exact hp)
    omega
  | n + 1, r, hf, hsub, hcl, hn => by
    cases he : cellsL r with
    | nil =>
      rw [show clsR nb (n + 1) r = [] by rw [clsR, he]]
      refine ⟨fun g hg => (by cases hg), fun p hp => ?_, List.Pairwise.nil⟩
      obtain ⟨c, hc, _⟩ := cl_of' hp
      rw [he] at hc
      cases hc
    | cons c t =>
      rw [show clsR nb (n + 1) r = (clsOf nb r (toI c)).2 :: clsR nb n (clsOf nb r (toI c)).1 by rw [clsR, he]]
      have hc : hasC r c = true := (mem_cells r c).1 (by rw [he]; exact List.mem_cons_self)
      have hci : hasI r (toI c) = true := by rw [has_cell]; exact hc
      have sp := cls_spec nb r (toI c)
      have hlt := cls_cnt nb hc
      have hfit := cls_fit nb hf (toI c)
      have rf : ∀ p, Reach nb r (toI c) p ↔ Reach nb f (toI c) p := fun p => ⟨fun h => h.mono hsub, fun h => reach_in hcl h hci⟩
      have sub1 : ∀ p, hasI (clsOf nb r (toI c)).1 p = true → hasI r p = true ∧ hasI (clsOf nb r (toI c)).2 p = false := fun p hp => by
        rw [sp.2 p, Bool.and_eq_true, Bool.not_eq_true'] at hp
        exact hp
      have ih := clsR_is hs n (clsOf nb r (toI c)).1 hfit.1 (fun p hp => hsub p (sub1 p hp).1) (fun p q hp hq hfq => by
        obtain ⟨h1, h2⟩ := sub1 p hp
        have hq' := hcl p q h1 hq hfq
        rw [sp.2 q, hq', Bool.true_and, Bool.not_eq_true']
        cases h3 : hasI (clsOf nb r (toI c)).2 q with
        | false => rfl
        | true =>
          have := ((sp.1 q).1 h3).snoc (hs _ _ hq) h1
          rw [(sp.1 p).2 this] at h2
          cases h2) (by omega)
      refine ⟨fun g hg => ?_, fun p hp => ?_, List.pairwise_cons.2 ⟨fun g hg p hp => ?_, ih.apart⟩⟩
      · rcases List.mem_cons.1 hg with rfl | hg
        · exact ⟨hfit.2, toI c, hci, fun p => (sp.1 p).trans (rf p)⟩
        · obtain ⟨h1, d, hd, h2⟩ := ih.each g hg
          exact ⟨h1, d, (sub1 d hd).1, h2⟩
      · cases h3 : hasI (clsOf nb r (toI c)).2 p with
        | true => exact ⟨_, List.mem_cons_self, h3⟩
        | false =>
          obtain ⟨g, hg, h⟩ := ih.all p (by rw [sp.2 p, hp, h3]; rfl)
          exact ⟨g, List.mem_cons_of_mem _ hg, h⟩
      · cases h3 : hasI g p with
        | false => rfl
        | true =>
          obtain ⟨_, d, hd, h2⟩ := ih.each g hg
          have h4 := (h2 p).1 h3
          have h5 := ((rf p).1 ((sp.1 p).1 hp)).trans (h4.symm hs)
          have h6 := (sp.1 d).2 ((rf d).2 h5)
          rw [(sub1 d hd).2] at h6
          cases h6
theorem cls_all {nb : I3 → List I3} (hs : ∀ a b, b ∈ nb a → a ∈ nb b) {f : Sol} (hf : Fit f) : IsCls nb f f (clsF nb f) := by
  rw [cls_is nb f (Nat.le_refl _)]
  exact clsR_is hs _ f hf (fun _ h => h) (fun _ q _ _ h => h) (Nat.le_refl _)
namespace IsCls
variable {nb : I3 → List I3} {f : Sol} {L : List Sol}
theorem sub (h : IsCls nb f f L) {g : Sol} (hg : g ∈ L) {p : I3} (hp : hasI g p = true) : hasI f p = true := by
  obtain ⟨_, c, _, h2⟩ := h.each g hg
  exact ((h2 p).1 hp).last
theorem closed (h : IsCls nb f f L) {g : Sol} (hg : g ∈ L) {p q : I3} (hp : hasI g p = true) (hq : q ∈ nb p) (hf : hasI f q = true) : hasI g q = true := by
  obtain ⟨_, c, _, h2⟩ := h.each g hg
  exact (h2 q).2 (((h2 p).1 hp).snoc hq hf)
theorem some (h : IsCls nb f f L) {g : Sol} (hg : g ∈ L) : ∃ c, hasI g c = true := by
  obtain ⟨_, c, h1, h2⟩ := h.each g hg
  exact ⟨c, (h2 c).2 (.here h1)⟩
theorem joined (hs : ∀ a b, b ∈ nb a → a ∈ nb b) (h : IsCls nb f f L) {g : Sol} (hg : g ∈ L) {p q : I3} (hp : hasI g p = true) (hq : hasI g q = true) : Reach nb g p q := by
  obtain ⟨_, c, _, h2⟩ := h.each g hg
  exact reach_in (f := f) (fun a b ha hb hf => h.closed hg ha hb hf) ((((h2 p).1 hp).symm hs).trans ((h2 q).1 hq)) hp
end IsCls
/-- A class has one class. -/
theorem cls_one {nb : I3 → List I3} (hs : ∀ a b, b ∈ nb a → a ∈ nb b) {g : Sol} (hg : Fit g) {c : I3} (hc : hasI g c = true) (h : ∀ p q, hasI g p = true → hasI g q = true → Reach nb g p q) : (clsF nb g).length = 1 := by
  have H := cls_all hs hg
  match hL : clsF nb g, H with
  | [], H =>
    obtain ⟨x, hx, _⟩ := H.all c hc
    cases hx
  | [x], _ => rfl
  | x :: y :: t, H =>
    obtain ⟨p, hp⟩ := H.some (g := x) List.mem_cons_self
    obtain ⟨q, hq⟩ := H.some (g := y) (List.mem_cons_of_mem _ List.mem_cons_self)
    have hy := (List.pairwise_cons.1 H.apart).1 y List.mem_cons_self
    obtain ⟨_, d, _, h2⟩ := H.each x List.mem_cons_self
    have hr := h p q (H.sub List.mem_cons_self hp) (H.sub (List.mem_cons_of_mem _ List.mem_cons_self) hq)
    have := (h2 q).2 (((h2 p).1 hp).trans hr)
    rw [hy q this] at hq
    cases hq
end Go.Proofs.YtadkaplafaeebaaGreatDoor
/-
  Parts: their Euler numbers and skins are summed; the skin is even: mathematics.
-/
set_option linter.unusedVariables false
set_option linter.unusedSimpArgs false
set_option maxRecDepth 100000
namespace Go.Proofs.YtadkaplafaeebaaGreatDoor
open Go Go.RowKit

theorem nodup_flat {α : Type} (F : Sol → List α) : ∀ L : List Sol, (∀ g ∈ L, (F g).Nodup) → L.Pairwise (fun g h => ∀ x ∈ F g, x ∉ F h) → (L.flatMap F).Nodup
  | [], _, _ => List.nodup_nil
  | g :: L, h, k => by
    rw [List.flatMap_cons]
    obtain ⟨k1, k2⟩ := List.pairwise_cons.1 k
    refine List.nodup_append.2 ⟨h g List.mem_cons_self, nodup_flat F L (fun x hx => h x (List.mem_cons_of_mem _ hx)) k2, fun a ha b hb => ?_⟩
    obtain ⟨x, hx, hbx⟩ := List.mem_flatMap.1 hb
    rintro rfl
    exact k1 x hx a ha hbx
theorem sum_flat {α : Type} (F : Sol → List α) (w : α → Int) : ∀ L : List Sol, ((L.flatMap F).map w).sum = (L.map fun g => ((F g).map w).sum).sum
  | [] => rfl
  | g :: L => by
    rw [List.flatMap_cons, List.map_append, List.sum_append, sum_flat F w L, List.map_cons, List.sum_cons]
/-- No two classes touch. -/
theorem touch_apart {f : Sol} {L : List Sol} (H : IsCls touchL f f L) : L.Pairwise fun g h => ∀ p q, hasI g p = true → hasI h q = true → q ∉ touchL p := by
  have key : ∀ g ∈ L, ∀ h ∈ L, (∀ p, hasI g p = true → hasI h p = false) → ∀ p q, hasI g p = true → hasI h q = true → q ∉ touchL p := fun g hg h hh hd p q hp hq ht => by
    have := H.closed hg hp ht (H.sub hh hq)
    rw [hd q this] at hq
    cases hq
  exact List.Pairwise.imp_of_mem (fun {g h} hg hh hd => key g hg h hh hd) H.apart
theorem dbl_near {c d : Cl} {q : I3} (hc : q ∈ touchL (dbl c)) (hd : q ∈ touchL (dbl d)) : toI d ∈ touchL (toI c) := by
  rw [mem_touch] at *
  unfold dbl at hc hd
  unfold toI
  simp only at *
  omega
theorem eul_parts {f : Sol} {L : List Sol} (H : IsCls touchL f f L) : eulF f = (L.map eulF).sum := by
  rw [eul_of f (L.flatMap pts) ?_ fun q => ?_, sum_flat]
  · congr 1
    exact List.map_congr_left fun g _ => (eul_is g).symm
  · refine nodup_flat pts L (fun g _ => (pts_all g).1.1) ((touch_apart H).imp fun {g h} hgh x hx hx' => ?_)
    obtain ⟨c, hc, h1⟩ := ((pts_all g).2 x).1 hx
    obtain ⟨d, hd, h2⟩ := ((pts_all h).2 x).1 hx'
    exact hgh _ _ ((mem_cellI g c).1 hc) ((mem_cellI h d).1 hd) (dbl_near h1 h2)
  · rw [List.mem_flatMap]
    constructor
    · rintro ⟨g, hg, hq⟩
      obtain ⟨c, hc, h1⟩ := ((pts_all g).2 q).1 hq
      exact ⟨c, (mem_cellI f c).2 (H.sub hg ((mem_cellI g c).1 hc)), h1⟩
    · rintro ⟨c, hc, h1⟩
      obtain ⟨g, hg, h2⟩ := H.all _ ((mem_cellI f c).1 hc)
      exact ⟨g, hg, ((pts_all g).2 q).2 ⟨c, (mem_cellI g c).2 h2, h1⟩⟩
theorem sumN_perm {l m : List Nat} (h : l.Perm m) : l.sum = m.sum := by
  induction h with
  | nil => rfl
  | cons a _ ih => rw [List.sum_cons, List.sum_cons, ih]
  | swap a b l => simp only [List.sum_cons]; omega
  | trans _ _ h1 h2 => rw [h1, h2]
theorem sumN_flat {α : Type} (F : Sol → List α) (w : α → Nat) : ∀ L : List Sol, ((L.flatMap F).map w).sum = (L.map fun g => ((F g).map w).sum).sum
  | [] => rfl
  | g :: L => by
    rw [List.flatMap_cons, List.map_append, List.sum_append, sumN_flat F w L, List.map_cons, List.sum_cons]
theorem face_touch {c q : I3} (h : q ∈ facingL c) : q ∈ touchL c := by
  rw [mem_face] at h
  rw [mem_touch]
  omega
theorem skin_parts {f : Sol} {L : List Sol} (H : IsCls touchL f f L) : skinF f = (L.map skinF).sum := by
  have hp : (cellsL f).Perm (L.flatMap cellsL) := by
    refine (List.perm_ext_iff_of_nodup (cells_nodup f) ?_).2 fun c => ?_
    · refine nodup_flat cellsL L (fun g _ => cells_nodup g) (H.apart.imp fun {g h} hgh c hc hc' => ?_)
      have := hgh _ ((mem_cellI g c).1 hc)
      rw [(mem_cellI h c).1 hc'] at this
      cases this
    · rw [List.mem_flatMap, mem_cellI]
      constructor
      · intro hc
        obtain ⟨g, hg, h2⟩ := H.all _ hc
        exact ⟨g, hg, (mem_cellI g c).2 h2⟩
      · rintro ⟨g, hg, hc⟩
        exact H.sub hg ((mem_cellI g c).1 hc)
  unfold skinF skinN
  rw [sumN_perm (hp.map _), sumN_flat]
  congr 1
  refine List.map_congr_left fun g hg => ?_
  congr 1
  refine List.map_congr_left fun c hc => ?_
  unfold outN
  congr 1
  refine List.filter_congr fun x hx => ?_
  have hgc := (mem_cellI g c).1 hc
  have : hasI f x = hasI g x := by
    cases h : hasI f x with
    | true => rw [H.closed hg hgc (face_touch hx) h]
    | false =>
      cases h' : hasI g x with
      | false => rfl
      | true => rw [H.sub hg h'] at h; cases h
  rw [this]
/-- The pairs of a cell and a neighbour, both of the solid, on the one side. -/
def pairsL (f : Sol) (d : Int) : List (I3 × I3) := (cellsL f).flatMap fun c => ((face3 (toI c) d).filter fun x => hasI f x).map fun x => (toI c, x)
theorem pairs_mem {f : Sol} {d : Int} {p q : I3} : (p, q) ∈ pairsL f d ↔ hasI f p = true ∧ hasI f q = true ∧ q ∈ face3 p d := by
  unfold pairsL
  rw [List.mem_flatMap]
  constructor
  · rintro ⟨c, hc, h⟩
    obtain ⟨x, hx, e⟩ := List.mem_map.1 h
    obtain ⟨h1, h2⟩ := List.mem_filter.1 hx
    obtain ⟨rfl, rfl⟩ := Prod.mk.injEq _ _ _ _ ▸ e
    exact ⟨(mem_cellI f c).1 hc, h2, h1⟩
  · rintro ⟨h1, h2, h3⟩
    obtain ⟨c, hc, rfl⟩ := cl_of' h1
    exact ⟨c, hc, List.mem_map.2 ⟨q, List.mem_filter.2 ⟨h3, h2⟩, rfl⟩⟩
theorem face3_nodup (c : I3) {d : Int} (hd : d ≠ 0) : (face3 c d).Nodup := by
  unfold face3
  simp only [List.nodup_cons, List.mem_cons, List.not_mem_nil, or_false, Prod.mk.injEq, not_or, not_false_iff, List.nodup_nil, and_true]
  omega
theorem nodup_flatC {α : Type} (F : Cl → List α) : ∀ L : List Cl, L.Nodup → (∀ g ∈ L, (F g).Nodup) → (∀ g h, g ≠ h → ∀ x ∈ F g, x ∉ F h) → (L.flatMap F).Nodup
  | [], _, _, _ => List.nodup_nil
  | g :: L, hn, h, k => by
    rw [List.flatMap_cons]
    obtain ⟨n1, n2⟩ := List.nodup_cons.1 hn
    refine List.nodup_append.2 ⟨h g List.mem_cons_self, nodup_flatC F L n2 (fun x hx => h x (List.mem_cons_of_mem _ hx)) k, fun a ha b hb => ?_⟩
    obtain ⟨x, hx, hbx⟩ := List.mem_flatMap.1 hb
    rintro rfl
    exact k g x (fun e => n1 (by rw [e]; exact hx)) a ha hbx
theorem pairs_nodup (f : Sol) {d : Int} (hd : d ≠ 0) : (pairsL f d).Nodup := by
  refine nodup_flatC _ _ (cells_nodup f) (fun c _ => ?_) fun c e hne x hx hx' => ?_
  · refine List.Pairwise.map _ (fun a b hab h => hab (Prod.mk.injEq _ _ _ _ ▸ h).2) ((face3_nodup (toI c) hd).filter _)
  · obtain ⟨a, _, rfl⟩ := List.mem_map.1 hx
    obtain ⟨b, _, h⟩ := List.mem_map.1 hx'
    exact hne (toI_inj (Prod.mk.injEq _ _ _ _ ▸ h).1.symm)
theorem face3_swap {p q : I3} {d : Int} (h : q ∈ face3 p d) : p ∈ face3 q (-d) := by
  obtain ⟨a, b, c⟩ := p
  obtain ⟨x, y, z⟩ := q
  unfold face3 at *
  simp only [List.mem_cons, List.not_mem_nil, or_false, Prod.mk.injEq] at *
  rcases h with ⟨h1, h2, h3⟩ | ⟨h1, h2, h3⟩ | ⟨h1, h2, h3⟩
  · exact .inl ⟨by omega, by omega, by omega⟩
  · exact .inr (.inl ⟨by omega, by omega, by omega⟩)
  · exact .inr (.inr ⟨by omega, by omega, by omega⟩)
theorem pairs_len (f : Sol) : (pairsL f 1).length = (pairsL f (-1)).length := by
  have h : ((pairsL f 1).map fun x => (x.2, x.1)).Perm (pairsL f (-1)) := by
    refine (List.perm_ext_iff_of_nodup (List.Pairwise.map _ (fun a b hab h => hab ?_) (pairs_nodup f (by omega))) (pairs_nodup f (by omega))).2 fun x => ?_
    · obtain ⟨p, q⟩ := x
      rw [List.mem_map, pairs_mem]
      constructor
      · rintro ⟨⟨a, b⟩, hx, e⟩
        obtain ⟨h1, h2, h3⟩ := pairs_mem.1 hx
        simp only [Prod.mk.injEq] at e
        obtain ⟨rfl, rfl⟩ := e
        exact ⟨h2, h1, face3_swap h3⟩
      · rintro ⟨h1, h2, h3⟩
        exact ⟨(q, p), pairs_mem.2 ⟨h2, h1, by simpa using face3_swap h3⟩, rfl⟩
    · obtain ⟨a1, a2⟩ := a
      obtain ⟨b1, b2⟩ := b
      simp only [Prod.mk.injEq] at h ⊢
      exact ⟨h.2, h.1⟩
  have := h.length_eq
  rwa [List.length_map] at this
theorem pairs_sum (f : Sol) (d : Int) : (pairsL f d).length = ((cellsL f).map fun c => ((face3 (toI c) d).filter fun x => hasI f x).length).sum := by
  unfold pairsL
  rw [List.length_flatMap]
  simp only [List.length_map]
theorem out_in (f : Sol) (l : List I3) : outN f l + (l.filter fun x => hasI f x).length = l.length := by
  unfold outN
  induction l with
  | nil => rfl
  | cons a l ih =>
    rw [List.filter_cons, List.filter_cons]
    cases hasI f a <;> simp <;> omega
theorem skin_pairs (f : Sol) : skinF f + 2 * (pairsL f 1).length = 6 * (cellsL f).length := by
  have e : (pairsL f (-1)).length + (pairsL f 1).length = ((cellsL f).map fun c => ((facingL (toI c)).filter fun x => hasI f x).length).sum := by
    rw [pairs_sum, pairs_sum]
    generalize cellsL f = l
    induction l with
    | nil => rfl
    | cons c l ih =>
      simp only [List.map_cons, List.sum_cons]
      rw [← ih]
      unfold facingL
      rw [List.filter_append, List.length_append]
      omega
  rw [← pairs_len] at e
  have s : skinF f + ((cellsL f).map fun c => ((facingL (toI c)).filter fun x => hasI f x).length).sum = 6 * (cellsL f).length := by
    unfold skinF skinN
    generalize cellsL f = l
    induction l with
    | nil => rfl
    | cons c l ih =>
      simp only [List.map_cons, List.sum_cons, List.length_cons]
      have := out_in f (facingL (toI c))
      rw [show (facingL (toI c)).length = 6 from rfl] at this
      omega
  omega
theorem skin_even (f : Sol) : skinF f % 2 = 0 := by
  have := skin_pairs f
  omega
end Go.Proofs.YtadkaplafaeebaaGreatDoor
/-
  Cavities: apart from the solid, and none once they are filled; parts of what is filled: mathematics.
-/
set_option linter.unusedVariables false
set_option linter.unusedSimpArgs false
set_option maxRecDepth 100000
namespace Go.Proofs.YtadkaplafaeebaaGreatDoor
open Go Go.RowKit

instance decIn7 (p : I3) : Decidable (In7 p) := by
  unfold In7
  infer_instance
theorem has_void {f : Sol} (hf : Fit f) (p : I3) : hasI (voidF f) p = (decide (In7 p) && !hasI f p) := by
  by_cases h : In7 p
  · rw [hasI_in h, hasI_in h, decide_eq_true h, Bool.true_and]
    unfold hasC voidF
    have := hf (cZ (ofI p))
    have hx := X_le (ofI p)
    have hy := Y_le (ofI p)
    rw [show 18446744073709551615 - f (cZ (ofI p)) = 2 ^ 64 - (f (cZ (ofI p)) + 1) by omega, Nat.testBit_two_pow_sub_succ (by omega)]
    rw [decide_eq_true (by omega), Bool.true_and]
  · rw [hasI_out h, decide_eq_false h]
    rfl
def Inner (p : I3) : Prop := 1 ≤ p.1 ∧ p.1 ≤ 6 ∧ 1 ≤ p.2.1 ∧ p.2.1 ≤ 6 ∧ 1 ≤ p.2.2 ∧ p.2.2 ≤ 6
theorem within_iff {g : Sol} (hg : Fit g) (he : emptyS g = false) : withinF g = true ↔ ∀ p, hasI g p = true → Inner p := by
  unfold withinF
  rw [decide_eq_true_eq]
  constructor
  · intro h p hp
    have h1 := has_low hg hp
    have h2 := has_high hg hp
    unfold Inner
    omega
  · intro h
    have b := boundN hg he
    have := b.x0
    have := b.y0
    have := b.z0
    obtain ⟨⟨p1, h1, e1⟩, ⟨p2, h2, e2⟩, ⟨p3, h3, e3⟩⟩ := has_at_low hg he
    obtain ⟨⟨p4, h4, e4⟩, ⟨p5, h5, e5⟩, ⟨p6, h6, e6⟩⟩ := has_at_high hg he
    have q1 := h p1 h1
    have q2 := h p2 h2
    have q3 := h p3 h3
    have q4 := h p4 h4
    have q5 := h p5 h5
    have q6 := h p6 h6
    unfold Inner at *
    omega
theorem some_ne {g : Sol} {c : I3} (h : hasI g c = true) : emptyS g = false := by
  cases he : emptyS g with
  | false => rfl
  | true =>
    have e := has_congr (show eqS g (fun _ => 0) = true from he) c
    rw [h, has_zero] at e
    cases e
theorem has_join (f g : Sol) (p : I3) : hasI (joinF f g) p = (hasI f p || hasI g p) := by
  unfold hasI hasC joinF
  rw [Nat.testBit_or]
  cases inG p.1 p.2.1 p.2.2 <;> rfl
def joinL (s : Sol) (L : List Sol) : Sol := L.foldl joinF s
theorem has_joinL (p : I3) : ∀ (L : List Sol) (s : Sol), hasI (joinL s L) p = true ↔ hasI s p = true ∨ ∃ g ∈ L, hasI g p = true
  | [], s => by simp [joinL]
  | g :: L, s => by
    rw [show joinL s (g :: L) = joinL (joinF s g) L from rfl, has_joinL p L, has_join, Bool.or_eq_true, or_assoc]
    refine or_congr Iff.rfl ?_
    simp only [List.mem_cons, exists_eq_or_imp]
theorem joinL_fit : ∀ (L : List Sol) {s : Sol}, Fit s → (∀ g ∈ L, Fit g) → Fit (joinL s L)
  | [], s, h, _ => h
  | g :: L, s, h, hL => joinL_fit L (h.or (hL g List.mem_cons_self)) fun x hx => hL x (List.mem_cons_of_mem _ hx)
theorem cav_mem {f g : Sol} : g ∈ cavF f ↔ g ∈ clsF facingL (voidF f) ∧ withinF g = true := by
  unfold cavF
  rw [List.mem_filter]
theorem void_cls {f : Sol} : IsCls facingL (voidF f) (voidF f) (clsF facingL (voidF f)) := cls_all face_symm (void_fit f)
theorem cav_apart {f : Sol} (hf : Fit f) : (∀ g ∈ cavF f, emptyS g = false ∧ Fit g ∧ ∀ p, hasI g p = true → hasI f p = false) ∧ (cavF f).Pairwise fun g h => ∀ p, hasI g p = true → hasI h p = false := by
  have H := void_cls (f := f)
  refine ⟨fun g hg => ?_, H.apart.filter _⟩
  have h1 := (cav_mem.1 hg).1
  obtain ⟨c, hc⟩ := H.some h1
  refine ⟨some_ne hc, (H.each g h1).1, fun p hp => ?_⟩
  have := H.sub h1 hp
  rw [has_void hf, Bool.and_eq_true, Bool.not_eq_true'] at this
  exact this.2
/-- A solid with its cavities has none. -/
theorem cav_filled {f : Sol} (hf : Fit f) : cavF (joinL f (cavF f)) = [] := by
  have H := void_cls (f := f)
  have hA : Fit (joinL f (cavF f)) := joinL_fit _ hf fun g hg => ((cav_apart hf).1 g hg).2.1
  have K := void_cls (f := joinL f (cavF f))
  refine List.eq_nil_iff_forall_not_mem.2 fun g hg => ?_
  obtain ⟨h1, h2⟩ := cav_mem.1 hg
  obtain ⟨c, hc⟩ := K.some h1
  have hcv := K.sub h1 hc
  rw [has_void hA, Bool.and_eq_true, Bool.not_eq_true'] at hcv
  have hc7 : In7 c := of_decide_eq_true hcv.1
  have hno : ¬ (hasI f c = true ∨ ∃ x ∈ cavF f, hasI x c = true) := fun h => by
    rw [(has_joinL c _ _).2 h] at hcv
    exact absurd hcv.2 (by simp)
  have hvc : hasI (voidF f) c = true := by
    rw [has_void hf, decide_eq_true hc7, Bool.true_and, Bool.not_eq_true']
    cases h : hasI f c with
    | false => rfl
    | true => exact absurd (.inl h) hno
  obtain ⟨x, hx, hxc⟩ := H.all c hvc
  have hxn : withinF x = false := by
    cases hw : withinF x with
    | false => rfl
    | true => exact absurd (.inr ⟨x, cav_mem.2 ⟨hx, hw⟩, hxc⟩) hno
  have hxa : ∀ p, hasI x p = true → hasI (voidF (joinL f (cavF f))) p = true := fun p hp => by
    have hv := H.sub hx hp
    rw [has_void hf, Bool.and_eq_true, Bool.not_eq_true'] at hv
    rw [has_void hA, hv.1, Bool.true_and, Bool.not_eq_true']
    cases h : hasI (joinL f (cavF f)) p with
    | false => rfl
    | true =>
      rcases (has_joinL p _ _).1 h with h | ⟨y, hy, hyp⟩
      · rw [h] at hv
        exact absurd hv.2 (by simp)
      · obtain ⟨hy1, hy2⟩ := cav_mem.1 hy
        have hyc := (H.joined face_symm hx hp hxc).mono (fun q hq => H.sub hx hq)
        obtain ⟨_, d, _, hd⟩ := H.each y hy1
        have : hasI y c = true := (hd c).2 (((hd p).1 hyp).trans hyc)
        exact absurd (.inr ⟨y, hy, this⟩) hno
  have hxg : ∀ p, hasI x p = true → hasI g p = true := fun p hp => by
    have hr := (H.joined face_symm hx hxc hp).mono hxa
    obtain ⟨_, d, _, hd⟩ := K.each g h1
    exact (hd p).2 (((hd c).1 hc).trans hr)
  have hin := (within_iff (K.each g h1).1 (some_ne hc)).1 h2
  have := (within_iff (H.each x hx).1 (some_ne hxc)).2 fun p hp => hin p (hxg p hp)
  rw [hxn] at this
  cases this
theorem pair_count {P : Sol → Bool} : ∀ (L : List Sol), L.Pairwise (fun g h => ¬ (P g = true ∧ P h = true)) → (∃ g ∈ L, P g = true) → L.countP P = 1
  | [], _, h => by obtain ⟨g, hg, _⟩ := h; cases hg
  | g :: L, h, hx => by
    obtain ⟨h1, h2⟩ := List.pairwise_cons.1 h
    by_cases hg : P g = true
    · rw [List.countP_cons_of_pos hg]
      have : L.countP P = 0 := List.countP_eq_zero.2 fun x hx hp => h1 x hx ⟨hg, hp⟩
      omega
    · rw [List.countP_cons_of_neg hg]
      obtain ⟨x, hx, hp⟩ := hx
      rcases List.mem_cons.1 hx with rfl | hx
      · exact absurd hp hg
      · exact pair_count L h2 ⟨x, hx, hp⟩
/-- Each part of a solid lies in just one part of a solid that has all its cells. -/
theorem part_in {f a : Sol} (hf : Fit f) (ha : Fit a) (hs : ∀ p, hasI f p = true → hasI a p = true) {g : Sol} (hg : g ∈ partsF f) : (partsF a).countP (fun x => inB g x) = 1 := by
  have H : IsCls touchL f f (partsF f) := cls_all touch_symm hf
  have K : IsCls touchL a a (partsF a) := cls_all touch_symm ha
  have hgf := (H.each g hg).1
  obtain ⟨c, hc⟩ := H.some hg
  refine pair_count _ (K.apart.imp fun {x y} hxy h => ?_) ?_
  · have h1 := (in_iff hgf).1 h.1 c hc
    have h2 := (in_iff hgf).1 h.2 c hc
    rw [hxy c h1] at h2
    cases h2
  · obtain ⟨x, hx, hxc⟩ := K.all c (hs c (H.sub hg hc))
    refine ⟨x, hx, (in_iff hgf).2 fun p hp => ?_⟩
    obtain ⟨_, d, _, hd⟩ := K.each x hx
    exact (hd p).2 (((hd c).1 hxc).trans ((H.joined touch_symm hg hc hp).mono fun q hq => hs q (H.sub hg hq)))
end Go.Proofs.YtadkaplafaeebaaGreatDoor
/-
  Classes that grow cell by cell, as the reference makes them: mathematics.
-/
set_option linter.unusedVariables false
set_option linter.unusedSimpArgs false
set_option maxRecDepth 100000
namespace Go.Proofs.YtadkaplafaeebaaGreatDoor
open Go Go.RowKit

def farS (a b : I3) : Int := max (a.1 - b.1) (b.1 - a.1) + max (a.2.1 - b.2.1) (b.2.1 - a.2.1) + max (a.2.2 - b.2.2) (b.2.2 - a.2.2)
def farM (a b : I3) : Int := max (max (max (a.1 - b.1) (b.1 - a.1)) (max (a.2.1 - b.2.1) (b.2.1 - a.2.1))) (max (a.2.2 - b.2.2) (b.2.2 - a.2.2))
/-- What the reference takes for near: by faces, or by cells that touch. -/
def nearB (fc : Bool) (a b : I3) : Bool := (fc && decide (farS a b = 1)) || (!fc && decide (farM a b = 1))
def nbF (fc : Bool) : I3 → List I3 := if fc = true then facingL else touchL
theorem near_iff (fc : Bool) (a b : I3) (h : a ≠ b) : nearB fc a b = true ↔ b ∈ nbF fc a := by
  obtain ⟨x, y, z⟩ := a
  obtain ⟨u, v, w⟩ := b
  have h' : ¬ (x = u ∧ y = v ∧ z = w) := fun e => h (by rw [e.1, e.2.1, e.2.2])
  cases fc
  · unfold nearB nbF farM
    rw [if_neg Bool.false_ne_true, mem_touch]
    simp only [Bool.false_and, Bool.false_or, Bool.not_false, Bool.true_and, decide_eq_true_eq]
    omega
  · unfold nearB nbF farS
    rw [if_pos rfl, mem_face]
    simp only [Bool.true_and, Bool.not_true, Bool.false_and, Bool.or_false, decide_eq_true_eq]
    omega
theorem nbF_symm (fc : Bool) (a b : I3) (h : b ∈ nbF fc a) : a ∈ nbF fc b := by
  cases fc
  · exact touch_symm a b h
  · exact face_symm a b h
structure Gro (nb : I3 → List I3) (r : Sol) (c : I3) (k : Sol) : Prop where
  fit : Fit k
  has : hasI k c = true
  sub : ∀ p, hasI k p = true → Reach nb r c p
theorem gro_end {nb : I3 → List I3} {r k : Sol} {c : I3} (hr : Fit r) (h : Gro nb r c k) (hc : ∀ p q, hasI k p = true → q ∈ nb p → hasI r q = true → hasI k q = true) : eqS k (clsOf nb r c).2 = true := by
  refine has_ext h.fit (cls_fit nb hr c).2 fun p => ?_
  rw [(cls_spec nb r c).1 p]
  refine ⟨h.sub p, fun hp => ?_⟩
  have key : ∀ a p, Reach nb r a p → hasI k a = true → hasI k p = true := fun a p hp => by
    induction hp with
    | here _ => exact id
    | on h1 h2 h3 ih => exact fun ha => ih (hc _ _ ha h2 h3.first)
  exact key c p hp h.has
theorem gro_start {nb : I3 → List I3} {r : Sol} {c : Cl} (h : hasC r c = true) : Gro nb r (toI c) (setC (fun _ => 0) c) := by
  have h0 : ∀ p, hasI (setC (fun _ => 0) c) p = true → p = toI c := fun p hp => by
    obtain ⟨d, hd, rfl⟩ := cl_of' hp
    rw [has_cell, has_set] at hp
    have hz : hasC (fun _ => 0) d = false := by
      rw [← has_cell]
      exact has_zero _
    rw [hz, Bool.false_or] at hp
    rw [of_decide_eq_true hp]
  refine ⟨setC_fit fit0 c, ?_, fun p hp => ?_⟩
  · rw [has_cell, has_set]
    simp
  · rw [h0 p hp]
    exact .here (by rw [has_cell]; exact h)
/-- A cell near to the class joins it. -/
theorem gro_set {fc : Bool} {r k k0 : Sol} {c : I3} {d : Cl} (h : Gro (nbF fc) r c k) (hs : ∀ p, hasI k0 p = true → hasI k p = true) (hd : hasC r d = true) (hk : hasC k d = false) (hn : ∃ e ∈ cellsL k0, nearB fc (toI d) (toI e) = true) : Gro (nbF fc) r c (setC k d) := by
  obtain ⟨e, he, hn⟩ := hn
  have he0 := (mem_cellI k0 e).1 he
  have hne : toI d ≠ toI e := fun h0 => by
    have := hs _ he0
    rw [← h0, has_cell, hk] at this
    cases this
  refine ⟨setC_fit h.fit d, ?_, fun p hp => ?_⟩
  · obtain ⟨x, _, hx⟩ := cl_of' h.has
    have h1 := h.has
    rw [← hx, has_cell] at h1 ⊢
    rw [has_set, h1, Bool.true_or]
  · obtain ⟨x, _, rfl⟩ := cl_of' hp
    rw [has_cell, has_set] at hp
    cases hx : hasC k x with
    | true => exact h.sub _ (by rw [has_cell]; exact hx)
    | false =>
      rw [hx, Bool.false_or] at hp
      obtain rfl := of_decide_eq_true hp
      exact (h.sub _ (hs _ he0)).snoc (nbF_symm _ _ _ ((near_iff fc _ _ hne).1 hn)) (by rw [has_cell]; exact hd)
theorem cnt_set {k : Sol} {d : Cl} (hk : hasC k d = false) : cnt k < cnt (setC k d) := by
  have h1 : hasC (setC k d) d = true := by rw [has_set]; simp
  refine Nat.lt_of_le_of_lt ?_ (cnt_del h1)
  unfold cnt
  refine List.countP_mono_left fun x _ hx => ?_
  rw [has_del, has_set, hx, Bool.true_or, Bool.true_and]
  refine decide_eq_true fun e => ?_
  rw [e, hk] at hx
  cases hx
theorem set_sub {k : Sol} {d : Cl} {p : I3} (h : hasI k p = true) : hasI (setC k d) p = true := by
  obtain ⟨x, _, rfl⟩ := cl_of' h
  rw [has_cell] at h ⊢
  rw [has_set, h, Bool.true_or]
theorem gro_closed {fc : Bool} {r k : Sol} (h : ∀ d ∈ cellsL r, hasC k d = false → ∀ e ∈ cellsL k, nearB fc (toI d) (toI e) = false) (p q : I3) (hp : hasI k p = true) (hq : q ∈ nbF fc p) (hr : hasI r q = true) : hasI k q = true := by
  obtain ⟨d, hd, rfl⟩ := cl_of' hr
  obtain ⟨e, he, rfl⟩ := cl_of' hp
  cases hk : hasC k d with
  | true => rw [has_cell]; exact hk
  | false =>
    have h1 := h d hd hk e he
    have hne : toI d ≠ toI e := fun h0 => by
      rw [← h0, has_cell, hk] at hp
      cases hp
    rw [(near_iff fc _ _ hne).2 (nbF_symm _ _ _ hq)] at h1
    cases h1
theorem clsF_step (nb : I3 → List I3) {r : Sol} {c : Cl} {t : List Cl} (h : cellsL r = c :: t) : clsF nb r = (clsOf nb r (toI c)).2 :: clsF nb (clsOf nb r (toI c)).1 := by
  have hc : hasC r c = true := (mem_cells r c).1 (by rw [h]; exact List.mem_cons_self)
  rw [cls_is nb r (n := 512 + 1) (by have := cnt_le r; omega), cls_is nb (clsOf nb r (toI c)).1 (n := 512) (cnt_le _), clsR, h]
theorem clsF_nil (nb : I3 → List I3) {r : Sol} (h : cellsL r = []) : clsF nb r = [] := by
  rw [cls_is nb r (n := 512 + 1) (by have := cnt_le r; omega), clsR, h]
theorem less_cls (nb : I3 → List I3) {r k : Sol} (hr : Fit r) (c : I3) (h : eqS k (clsOf nb r c).2 = true) (hl : ∀ p, hasI (lessF r k) p = (hasI r p && !hasI k p)) (hf : Fit (lessF r k)) : eqS (lessF r k) (clsOf nb r c).1 = true := by
  refine has_ext hf (cls_fit nb hr c).1 fun p => ?_
  rw [hl, (cls_spec nb r c).2 p, has_congr h]
end Go.Proofs.YtadkaplafaeebaaGreatDoor
/-
  What is grown of a solid by all cells that touch it: mathematics.
-/
set_option linter.unusedVariables false
set_option linter.unusedSimpArgs false
set_option maxRecDepth 100000
namespace Go.Proofs.YtadkaplafaeebaaGreatDoor
open Go Go.RowKit

theorem all_mem (d : Cl) : d ∈ allC := mem_allC d
/-- A solid with all cells that touch it. -/
def growF (f : Sol) : Sol := solOf (allC.filter fun d => hasC f d || (cellsL f).any fun c => decide (toI d ∈ touchL (toI c)))
theorem growF_fit (f : Sol) : Fit (growF f) := solOf_fit _
theorem has_grow (f : Sol) (p : I3) : hasI (growF f) p = true ↔ hasI f p = true ∨ (In7 p ∧ ∃ c ∈ cellsL f, p ∈ touchL (toI c)) := by
  by_cases h7 : In7 p
  · rw [hasI_in h7, hasI_in h7]
    unfold growF
    rw [has_solOf, decide_eq_true_eq, List.mem_filter, Bool.or_eq_true, List.any_eq_true, toI_ofI h7]
    constructor
    · rintro ⟨_, h | ⟨c, hc, h⟩⟩
      · exact .inl h
      · exact .inr ⟨h7, c, hc, of_decide_eq_true h⟩
    · rintro (h | ⟨_, c, hc, h⟩)
      · exact ⟨all_mem _, .inl h⟩
      · exact ⟨all_mem _, .inr ⟨c, hc, decide_eq_true h⟩⟩
  · rw [hasI_out h7, hasI_out h7]
    simp [h7]
def pkI (c : I3) (k : Nat) : I3 := (c.1 + (k % 3 : Nat) - 1, c.2.1 + (k / 3 % 3 : Nat) - 1, c.2.2 + (k / 9 : Nat) - 1)
theorem mem_pkI {c q : I3} : q ∈ touchL c ↔ ∃ k, k < 27 ∧ q = pkI c k := by
  rw [mem_touch]
  obtain ⟨x, y, z⟩ := c
  obtain ⟨a, b, d⟩ := q
  unfold pkI
  simp only [Prod.mk.injEq]
  constructor
  · intro h
    obtain ⟨i, hi⟩ : ∃ i : Nat, a = x + i - 1 := ⟨(a - x + 1).toNat, by omega⟩
    obtain ⟨j, hj⟩ : ∃ j : Nat, b = y + j - 1 := ⟨(b - y + 1).toNat, by omega⟩
    obtain ⟨k, hk⟩ : ∃ k : Nat, d = z + k - 1 := ⟨(d - z + 1).toNat, by omega⟩
    have hi3 : i < 3 := by omega
    have hj3 : j < 3 := by omega
    have hk3 : k < 3 := by omega
    refine ⟨9 * k + 3 * j + i, by omega, ?_, ?_, ?_⟩
    · rw [show (9 * k + 3 * j + i) % 3 = i by omega]; exact hi
    · rw [show (9 * k + 3 * j + i) / 3 % 3 = j by omega]; exact hj
    · rw [show (9 * k + 3 * j + i) / 9 = k by omega]; exact hk
  · rintro ⟨k, hk, rfl, rfl, rfl⟩
    omega
structure GrowI (f : Sol) (l : List Cl) (q : I3 → Prop) (g : Sol) : Prop where
  fit : Fit g
  has : ∀ p, hasI g p = true ↔ hasI f p = true ∨ (In7 p ∧ ((∃ c ∈ l, p ∈ touchL (toI c)) ∨ q p))
theorem grow_start {f : Sol} (hf : Fit f) : GrowI f [] (fun _ => False) f := ⟨hf, fun p => by simp⟩
theorem grow_join {f g : Sol} {l : List Cl} {q : I3 → Prop} (h : GrowI f l q g) {p : I3} (h7 : In7 p) : GrowI f l (fun x => q x ∨ x = p) (joinF g (setC (fun _ => 0) (ofI p))) := by
  have hs : ∀ x, hasI (setC (fun _ => 0) (ofI p)) x = true ↔ x = p := fun x => by
    rw [has_setI _ h7, has_zero, Bool.false_or, decide_eq_true_eq]
  refine ⟨h.fit.or (setC_fit fit0 _), fun x => ?_⟩
  rw [has_join, Bool.or_eq_true, h.has x, hs x]
  constructor
  · rintro ((h1 | ⟨h2, h3 | h3⟩) | rfl)
    · exact .inl h1
    · exact .inr ⟨h2, .inl h3⟩
    · exact .inr ⟨h2, .inr (.inl h3)⟩
    · exact .inr ⟨h7, .inr (.inr rfl)⟩
  · rintro (h1 | ⟨h2, h3 | h3 | rfl⟩)
    · exact .inl (.inl h1)
    · exact .inl (.inr ⟨h2, .inl h3⟩)
    · exact .inl (.inr ⟨h2, .inr h3⟩)
    · exact .inr rfl
theorem grow_skip {f g : Sol} {l : List Cl} {q : I3 → Prop} (h : GrowI f l q g) {p : I3} (h7 : ¬ In7 p) : GrowI f l (fun x => q x ∨ x = p) g := by
  refine ⟨h.fit, fun x => ?_⟩
  rw [h.has x]
  constructor
  · rintro (h1 | ⟨h2, h3 | h3⟩)
    · exact .inl h1
    · exact .inr ⟨h2, .inl h3⟩
    · exact .inr ⟨h2, .inr (.inl h3)⟩
  · rintro (h1 | ⟨h2, h3 | h3 | rfl⟩)
    · exact .inl h1
    · exact .inr ⟨h2, .inl h3⟩
    · exact .inr ⟨h2, .inr h3⟩
    · exact absurd h2 h7
theorem grow_congr {f g : Sol} {l : List Cl} {q q' : I3 → Prop} (h : GrowI f l q g) (e : ∀ x, q x ↔ q' x) : GrowI f l q' g := ⟨h.fit, fun x => by rw [h.has x, e x]⟩
theorem grow_next {f g : Sol} {l : List Cl} {c : Cl} (h : GrowI f l (fun x => ∃ k, k < 27 ∧ x = pkI (toI c) k) g) : GrowI f (l ++ [c]) (fun _ => False) g := by
  refine ⟨h.fit, fun x => ?_⟩
  rw [h.has x]
  constructor
  · rintro (h1 | ⟨h2, ⟨d, hd, h3⟩ | h3⟩)
    · exact .inl h1
    · exact .inr ⟨h2, .inl ⟨d, List.mem_append_left _ hd, h3⟩⟩
    · exact .inr ⟨h2, .inl ⟨c, List.mem_append_right _ (List.mem_singleton.2 rfl), mem_pkI.2 h3⟩⟩
  · rintro (h1 | ⟨h2, ⟨d, hd, h3⟩ | h3⟩)
    · exact .inl h1
    · rcases List.mem_append.1 hd with hd | hd
      · exact .inr ⟨h2, .inl ⟨d, hd, h3⟩⟩
      · rw [List.mem_singleton.1 hd] at h3
        exact .inr ⟨h2, .inr (mem_pkI.1 h3)⟩
    · exact h3.elim
theorem grow_end {f g : Sol} (h : GrowI f (cellsL f) (fun _ => False) g) : eqS g (growF f) = true :=
  has_ext h.fit (growF_fit f) fun p => by rw [h.has p, has_grow]; simp
/-- What is grown of a part is apart from the other parts. -/
theorem grow_apart {f : Sol} {L : List Sol} (H : IsCls touchL f f L) {i : Nat} {m : Sol} (hm : L[i]? = some m) : emptyS (meetF (joinL (fun _ => 0) (L.take i)) (growF m)) = true := by
  have hj : Fit (joinL (fun _ => 0) (L.take i)) := joinL_fit _ fit0 fun g hg => (H.each g (List.mem_of_mem_take hg)).1
  refine (empty_has (meet_fit hj)).2 fun p => ?_
  cases hp : hasI (meetF (joinL (fun _ => 0) (L.take i)) (growF m)) p with
  | false => rfl
  | true =>
    rw [has_meet, Bool.and_eq_true, has_joinL, has_grow] at hp
    obtain ⟨h1, h2⟩ := hp
    rcases h1 with h1 | ⟨g, hg, hgp⟩
    · rw [has_zero] at h1; cases h1
    · obtain ⟨j, hj, e⟩ := List.mem_take_iff_getElem.1 hg
      obtain ⟨hi, em⟩ := List.getElem?_eq_some_iff.1 hm
      have hji : j < i := by omega
      have hap := List.pairwise_iff_getElem.1 (touch_apart H) j i (by omega) hi hji
      rw [e, em] at hap
      rcases h2 with h2 | ⟨h7, c, hc, h2⟩
      · exact absurd (by rw [mem_touch]; omega) (hap p p hgp h2)
      · exact absurd (touch_symm _ _ h2) (hap p (toI c) hgp ((mem_cellI m c).1 hc))
theorem join_take {L : List Sol} {i : Nat} {m : Sol} (hm : L[i]? = some m) (z : Sol) : joinL z (L.take (i + 1)) = joinF (joinL z (L.take i)) m := by
  unfold joinL
  rw [List.take_add_one, hm]
  simp
theorem join_all {f : Sol} {L : List Sol} (hf : Fit f) (H : IsCls touchL f f L) : eqS (joinL (fun _ => 0) L) f = true := by
  refine has_ext (joinL_fit _ fit0 fun g hg => (H.each g hg).1) hf fun p => ?_
  rw [has_joinL]
  constructor
  · rintro (h | ⟨g, hg, h⟩)
    · rw [has_zero] at h; cases h
    · exact IsCls.sub H hg h
  · intro h
    exact .inr (H.all p h)
theorem part_one {f : Sol} {L : List Sol} (H : IsCls touchL f f L) {m : Sol} (hm : m ∈ L) : (partsF m).length = 1 := by
  obtain ⟨c, hc⟩ := IsCls.some H hm
  exact cls_one touch_symm (H.each m hm).1 hc fun p q hp hq => IsCls.joined touch_symm H hm hp hq
end Go.Proofs.YtadkaplafaeebaaGreatDoor
