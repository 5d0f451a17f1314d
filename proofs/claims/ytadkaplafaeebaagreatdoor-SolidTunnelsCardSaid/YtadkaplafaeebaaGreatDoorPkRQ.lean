/-
  The order of solids: a strict weak order that parts whatever two; compare with its world.
-/
import Derived.Test.YtadkaplafaeebaaGreatDoorPkGQ
import Derived.Test.YtadkaplafaeebaaGreatDoorPkQQ
import Derived.Test.YtadkaplafaeebaaGreatDoorSortLay
import Derived.Shelf.SlSortCmp.NoneTotal
import Derived.Test.YtadkaplafaeebaaGreatDoorPkLQ
import Derived.Test.YtadkaplafaeebaaGreatDoorPkMQ
set_option linter.unusedVariables false
set_option linter.unusedSimpArgs false
namespace Go.Proofs.YtadkaplafaeebaaGreatDoor
open Go Go.RowKit Go.Sort Go.Lib

theorem cmpN_neg (a b : Nat) : cmpN a b = -cmpN b a := by
  unfold cmpN
  split <;> split <;> omega
theorem cmpN_cases (a b : Nat) : (cmpN a b = -1 ∧ a < b) ∨ (cmpN a b = 0 ∧ a = b) ∨ (cmpN a b = 1 ∧ b < a) := by
  unfold cmpN
  split
  · exact .inl ⟨rfl, by assumption⟩
  · split
    · exact .inr (.inr ⟨rfl, by assumption⟩)
    · exact .inr (.inl ⟨rfl, by omega⟩)
theorem cmpFrom_neg (f g : Sol) : ∀ n k, cmpFrom f g n k = -cmpFrom g f n k
  | 0, _ => rfl
  | n + 1, k => by
    unfold cmpFrom
    have h := cmpN_neg (f k) (g k)
    by_cases h0 : cmpN (f k) (g k) = 0
    · rw [if_pos h0, if_pos (by omega), cmpFrom_neg f g n (k + 1)]
    · rw [if_neg h0, if_neg (by omega), h]
theorem cmpFrom_self (f : Sol) : ∀ n k, cmpFrom f f n k = 0 := fun n k => by
  have := cmpFrom_neg f f n k
  omega
theorem cmpFrom_eq (f g : Sol) : ∀ n k, cmpFrom f g n k = 0 → ∀ j, j < n → f (k + j) = g (k + j)
  | 0, _, _, j, hj => by omega
  | n + 1, k, h, j, hj => by
    unfold cmpFrom at h
    by_cases h0 : cmpN (f k) (g k) = 0
    · rw [if_pos h0] at h
      rcases Nat.eq_zero_or_pos j with rfl | hp
      · rcases cmpN_cases (f k) (g k) with h1 | h1 | h1
        · omega
        · exact h1.2
        · omega
      · have := cmpFrom_eq f g n (k + 1) h (j - 1) (by omega)
        rwa [show k + 1 + (j - 1) = k + j by omega] at this
    · rw [if_neg h0] at h
      exact absurd h h0
theorem cmpFrom_trans (f g h : Sol) : ∀ n k, cmpFrom f g n k ≤ 0 → cmpFrom g h n k ≤ 0 → cmpFrom f h n k ≤ 0 ∧ (cmpFrom f g n k < 0 ∨ cmpFrom g h n k < 0 → cmpFrom f h n k < 0)
  | 0, _, _, _ => ⟨Int.le_refl _, fun h => by rcases h with h | h <;> exact h⟩
  | n + 1, k, h1, h2 => by
    unfold cmpFrom at *
    have ih := cmpFrom_trans f g h n (k + 1)
    rcases cmpN_cases (f k) (g k) with a | a | a
    · rcases cmpN_cases (g k) (h k) with b | b | b
      · have : cmpN (f k) (h k) = -1 := by unfold cmpN; rw [if_pos (by omega)]
        rw [this]; simp
      · have : cmpN (f k) (h k) = -1 := by unfold cmpN; rw [if_pos (by omega)]
        rw [this]; simp
      · rw [b.1] at h2; simp at h2
    · rcases cmpN_cases (g k) (h k) with b | b | b
      · have : cmpN (f k) (h k) = -1 := by unfold cmpN; rw [if_pos (by omega)]
        rw [this]; simp
      · have : cmpN (f k) (h k) = 0 := by unfold cmpN; rw [if_neg (by omega), if_neg (by omega)]
        rw [a.1] at h1 ⊢
        rw [b.1] at h2 ⊢
        rw [this]
        simp only [if_true] at *
        exact ih h1 h2
      · rw [b.1] at h2; simp at h2
    · rw [a.1] at h1; simp at h1
def cf8 (x y : S8) : Int := cmpS (ofS x) (ofS y)
theorem lt8_iff (x y : S8) : ltOf cf8 x y = decide (cmpFrom (ofS x) (ofS y) 8 0 < 0) := rfl
theorem swo8 : SWO (ltOf cf8) where
  irrefl x := by rw [lt8_iff, cmpFrom_self]; rfl
  trans x y z h1 h2 := by
    rw [lt8_iff] at *
    simp only [decide_eq_true_eq] at *
    exact (cmpFrom_trans _ _ _ 8 0 (by omega) (by omega)).2 (.inl h1)
  ntrans x y z h1 h2 := by
    rw [lt8_iff] at *
    simp only [decide_eq_false_iff_not] at *
    have a := cmpFrom_neg (ofS x) (ofS y) 8 0
    have b := cmpFrom_neg (ofS y) (ofS z) 8 0
    have c := cmpFrom_neg (ofS x) (ofS z) 8 0
    have := (cmpFrom_trans (ofS z) (ofS y) (ofS x) 8 0 (by omega) (by omega)).1
    omega
theorem tot8 (x y : S8) (h1 : ltOf cf8 x y = false) (h2 : ltOf cf8 y x = false) : x = y := by
  rw [lt8_iff] at *
  simp only [decide_eq_false_iff_not] at *
  have a := cmpFrom_neg (ofS x) (ofS y) 8 0
  have e := cmpFrom_eq (ofS x) (ofS y) 8 0 (by omega)
  have h := eqS_ofS x y
  have : eqS (ofS x) (ofS y) = true := by
    unfold eqS
    exact decide_eq_true ⟨by simpa using e 0 (by omega), by simpa using e 1 (by omega), by simpa using e 2 (by omega), by simpa using e 3 (by omega), by simpa using e 4 (by omega), by simpa using e 5 (by omega), by simpa using e 6 (by omega), by simpa using e 7 (by omega)⟩
  rw [this] at h
  exact of_decide_eq_true h.symm
set_option maxRecDepth 100000 in
set_option maxHeartbeats 2000000 in
theorem compare_x (f g : Sol) (w : World) :
    Calls Tryz.prog 118 #[sol f, sol g] w fun e w' => e = .returned (.int .i64 (cmpS f g)) ∧ ∃ q os, w' = grow (w.drewN q) os := by
  have b1 := (BoxS.new w f).alloc (.cells (solC g) 24)
  have b2 : BoxS ((w.alloc (.cells (solC f) 24)).alloc (.cells (solC g) 24)) (w.heap.size + 1) g := BoxS.new' (by simp)
  go_enter Tryz.func118, Tryz.ntmps118
  go_wp2
  have hW : ∀ n, ((w.alloc (.cells (solC f) 24)).alloc (.cells (solC g) 24)).drewN n = grow (w.drewN n) #[.cells (solC f) 24, .cells (solC g) 24] := fun n => by
    rw [alloc_eq_grow, alloc_eq_grow, grow_grow]; rfl
  have HW := Lib.hid hW
  clear hW
  obtain ⟨W, hW⟩ : ∃ W, W = ((w.alloc (.cells (solC f) 24)).alloc (.cells (solC g) 24)) := ⟨_, rfl⟩
  rw [← hW] at b1 b2 HW ⊢
  clear hW
  refine wp_region_quiet_lit (by kernel_rfl) (by kernel_rfl) ?_
  iterate 4 (refine wpQuiet_step (fun K hK => ?_); go_simp; first | (refine hK _ ?_; clear hK K) | (apply Exists.intro; refine ⟨fun n => ?_, hK _ ?_⟩; (focus (first | (with_reducible exact rfl) | (with_reducible exact ⟨rfl, rfl⟩) | (refine (slices_compare_ok f g _ _ (W.drewN n) (b1.drewN n) (b2.drewN n)).mono ?_; rintro e w9 ⟨rfl, rfl⟩; first | exact ⟨rfl, n, rfl⟩ | exact ⟨rfl, ⟨_, rfl⟩⟩))); clear hK K))
  refine wpQuiet_nil ?_
  rintro _ ⟨nq, rfl⟩
  go_wp2
  go_ret
  exact ⟨rfl, nq, _, HW.out nq⟩
theorem cmpLays8 (blk off size : Nat) (w : World) : CmpLays Tryz.prog 118 #[] encS 8 cf8 blk off size w := fun m os dk _ x y => compare_x (ofS x) (ofS y) _
end Go.Proofs.YtadkaplafaeebaaGreatDoor
/-
  eachOnce over solids: sorted, each once.
-/
set_option linter.unusedVariables false
set_option linter.unusedSimpArgs false
namespace Go.Proofs.YtadkaplafaeebaaGreatDoor
open Go Go.RowKit Go.Sort Go.Lib

def sort8 (d : Array S8) : Array S8 := (d.toList.mergeSort fun x y => !(ltOf cf8) y x).toArray
theorem sort8_size (d : Array S8) : (sort8 d).size = d.size := by simp [sort8]
/-- What is left: sorted, each once. -/
def once8 (d : Array S8) : List S8 := compactUpTo (sort8 d) (sort8 d).size
theorem putRowK_heap (w : World) (g : Nat) (d : Array S8) : w.grownBy (putRowK encS 8 w g 0 d) (some g) :=
  ⟨rfl, rfl, rfl, by simp [putRowK, putRow, mapBlock], fun k hk hne => by
    have : g ≠ k := fun e => hne (by rw [e])
    simp [putRowK, putRow, mapBlock, Array.getElem?_modify, this]⟩
theorem grow_grown (w : World) (os : Array Obj) (g : Option Nat) : w.grownBy (grow w os) g :=
  ⟨rfl, rfl, rfl, by simp [grow], fun k hk _ => by simp [grow, Array.getElem?_append, hk]⟩
theorem grownT {a b c : World} {r : Option Nat} (h : a.grownBy b r) (k : b.grownBy c r) : a.grownBy c r :=
  ⟨k.os.trans h.os, k.tape.trans h.tape, k.output.trans h.output, Nat.le_trans h.size k.size, fun i hi hr => (k.block i (Nat.lt_of_lt_of_le hi h.size) hr).trans (h.block i hi hr)⟩
theorem ahead_grown (w : World) (n : Nat) (g : Option Nat) : w.grownBy (Sort.ahead w n) g := ⟨rfl, rfl, rfl, Nat.le_refl _, fun _ _ _ => rfl⟩
/-- The row's block stays one of as many cells. -/
def RowOf (g : Nat) (w w' : World) : Prop := ∀ (cur : Array Value) (t : TypeId) (fr : Nat × Nat), w.heap[g]? = some (.cells cur t fr) → ∃ cur', w'.heap[g]? = some (.cells cur' t fr) ∧ cur'.size = cur.size
theorem RowOf.trans {g : Nat} {a b c : World} (h : RowOf g a b) (k : RowOf g b c) : RowOf g a c := fun cur t fr e => by
  obtain ⟨c1, e1, s1⟩ := h cur t fr e
  obtain ⟨c2, e2, s2⟩ := k c1 t fr e1
  exact ⟨c2, e2, s2.trans s1⟩
theorem rowOf_put (w : World) (g : Nat) (d : Array S8) : RowOf g w (putRowK encS 8 w g 0 d) := fun cur t fr e => by
  obtain ⟨hlt, he⟩ := Array.getElem?_eq_some_iff.1 e
  refine ⟨putCells id 0 (flatK encS 8 d) cur, ?_, by simp [putCells]⟩
  simp [putRowK, putRow, mapBlock, Array.getElem?_modify, e, onCells]
theorem rowOf_grow (w : World) (g : Nat) (os : Array Obj) : RowOf g w (grow w os) := fun cur t fr e => ⟨cur, by
  have h := (Array.getElem?_eq_some_iff.1 e).1
  rw [← e]
  simp [grow, Array.getElem?_append, h], rfl⟩
theorem rowOf_ahead (w : World) (g n : Nat) : RowOf g w (Sort.ahead w n) := fun cur t fr e => ⟨cur, e, rfl⟩
theorem isAgg_sol (w : World) : (isAgg 24).run Tryz.prog w = .ok true w := by kernel_rfl
theorem sizeOf_sol (w : World) : (Go.sizeOf 24).run Tryz.prog w = .ok 8 w := by kernel_rfl
set_option maxRecDepth 100000 in
set_option maxHeartbeats 2000000 in
theorem once_ok (g cap : Nat) (d : Array S8) (w : World) (hH : HoldsK encS 8 w g 0 d) (hg : g < w.heap.size) (hsz : d.size ≤ 1000000) (hcap : d.size ≤ cap) :
    Calls Tryz.prog 117 #[.slice (some ⟨g, 0, none⟩) d.size cap, .func (.func 118) #[] #[]] w fun e w' =>
      e = .returned (.slice (some ⟨g, 0, none⟩) (once8 d).length cap) ∧ HoldsK encS 8 w' g 0 (outRow (sort8 d)) ∧ w.grownBy w' (some g) ∧ RowOf g w w' := by
  have eg : ∀ args w, (callFunc 118 args).run Tryz.prog w = .ok (.enter 118 args) w := enters_of Tryz.func118 (by kernel_rfl) rfl
  have hS := AnyQ.slices_SortFunc_total Tryz.laysSlF06_f148 8 isAgg_sol sizeOf_sol encS encS_len encS_one cf8 swo8 118 #[] g 0 cap d w eg (cmpLays8 g 0 d.size w) hH hg (by omega) tot8
  change Calls Tryz.prog 148 _ _ _ at hS
  have hs8 := sort8_size d
  have hS2 : Calls Tryz.prog 148 #[.slice (some ⟨g, 0, none⟩) d.size cap, .func (.func 118) #[] #[]] w fun e w' => e = .returned (.tuple #[]) ∧ HoldsK encS 8 w' g 0 (sort8 d) ∧ w.grownBy w' (some g) ∧ RowOf g w w' :=
    hS.mono fun e w1 ⟨he, n, os, hw⟩ => by
      subst hw
      exact ⟨he, holdsK_sortWorldK_c encS 8 w g 0 d (sort8 d) n os hH hg hs8, grownT (ahead_grown w n _) (grownT (putRowK_heap _ g _) (grow_grown _ os _)), (rowOf_ahead w g n).trans ((rowOf_put _ g _).trans (rowOf_grow _ g os))⟩
  have HS := Lib.hid hS2
  have HSZ := Lib.hid hs8
  clear hS hH eg hS2 hs8
  go_enter Tryz.func117, Tryz.ntmps117
  go_wp2_with fail
  refine HS.out.mono ?_
  rintro e w1 ⟨rfl, h1, g1, k1⟩
  have hC := compact_ok g cap (sort8 d) w1 h1 (by rw [HSZ.out]; omega) (by rw [HSZ.out]; omega)
  rw [show (sort8 d).size = d.size from HSZ.out] at hC
  have HC := Lib.hid hC
  have HO := Lib.hid (show (once8 d).length = (compactUpTo (sort8 d) d.size).length by unfold once8; rw [HSZ.out])
  clear hC
  go_wp2_with fail
  refine HC.out.mono ?_
  rintro e w2 ⟨rfl, q, rfl⟩
  go_wp2
  go_ret
  have hsz2 : (outRow (sort8 d)).size = (sort8 d).size := by
    have : (compactUpTo (sort8 d) (sort8 d).size).length ≤ (sort8 d).size := by
      unfold compactUpTo
      rw [List.length_map]
      exact Nat.le_trans (List.length_filter_le _ _) (by simp)
    unfold outRow
    simp
    omega
  exact ⟨by rw [HO.out]; rfl, holdsK_putRowK encS 8 _ g 0 (sort8 d) _ (holdsK_ahead encS 8 w1 q g 0 _ h1) hsz2, grownT g1 (grownT (ahead_grown w1 q _) (putRowK_heap _ g _)), k1.trans ((rowOf_ahead w1 g q).trans (rowOf_put _ g _))⟩
end Go.Proofs.YtadkaplafaeebaaGreatDoor
/-
  Images.
-/
set_option linter.unusedVariables false
set_option linter.unusedSimpArgs false
namespace Go.Proofs.YtadkaplafaeebaaGreatDoor
open Go Go.RowKit Go.Shelf

/-- The images, turn by turn. -/
def imgsN (f : Sol) (t : Nat) : List Sol := (List.range t).map (imgF f)
theorem imgsN_succ (f : Sol) (t : Nat) : imgsN f (t + 1) = imgsN f t ++ [imgF f t] := by simp [imgsN, List.range_succ]
theorem imgsN_len (f : Sol) (t : Nat) : (imgsN f t).length = t := by simp [imgsN]
def imgsF (f : Sol) : List Sol := (once8 ((imgsN f 24).map toS).toArray).map ofS
theorem flatS_ofS (l : List S8) : flatS (l.map ofS) = l.flatMap encS := by
  unfold flatS
  rw [List.flatMap_map]
  rfl
/-- A slice's row of solids, as the sort knows it. -/
theorem holds_of_row {W : World} {g n cap base : Nat} {l : List Sol} (h : W.ownsRow base 24 8 (.slice (some ⟨g, 0, none⟩) n cap) n (flatS l)) : Sort.HoldsK encS 8 W g 0 (l.map toS).toArray := by
  have hn : (flatS l).length = l.length * 8 := by
    have : ∀ l : List Sol, (flatS l).length = l.length * 8 := fun l => by
      induction l with
      | nil => rfl
      | cons f l ih => rw [show flatS (f :: l) = solL f ++ flatS l by simp [flatS], List.length_append, ih, solL_len, List.length_cons]; omega
    exact this l
  intro j hj
  rw [Sort.size_flatK] at hj
  have hj : j < l.length * 8 := by simpa using hj
  have hd : j / 8 < l.length := by omega
  rw [Sort.get_flatK _ _ _ _ (by simpa using hj), encS_get _ (by omega)]
  have hl : l[j / 8]? = some l[j / 8] := List.getElem?_eq_getElem hd
  have h1 := flatS_get l (j / 8) (j % 8) _ hl (by omega)
  rw [show 8 * (j / 8) + j % 8 = j by omega] at h1
  have hc := h.cells (g := g) rfl j _ h1
  rw [addr_add] at hc
  rw [Nat.zero_add]
  refine ⟨?_, ?_⟩
  · rw [hc]
    have : (l.map toS).toArray[j / 8]! = toS l[j / 8] := by simp [hd]
    rw [this, ofS_toS _ (by omega)]
    rfl
  · rcases h.2 with ⟨h2, _⟩ | ⟨g', cap', cur, h2, _, h3, _⟩
    · cases h2
    · injection h2 with h4
      injection h4 with h5
      injection h5 with h6
      subst h6
      exact blk_free h3
theorem row_of_holds {W : World} {g n cap base : Nat} {cur : Array Value} {l : List S8} {d : Array S8} (hH : Sort.HoldsK encS 8 W g 0 d) (hb : W.heap[g]? = some (.cells cur 24 (0, 0))) (hsz : cur.size = cap * 8) (hm : cap ≤ maxLen) (hg : base ≤ g) (hl : l = d.toList.take n) (hn : n ≤ d.size) (hd : d.size ≤ cap) :
    W.ownsRow base 24 8 (.slice (some ⟨g, 0, none⟩) n cap) n (flatS (l.map ofS)) := by
  have hll : l.length = n := by rw [hl]; simp; omega
  have hlen : (l.flatMap encS).length = n * 8 := by
    rw [List.length_flatMap]
    rw [show (List.map (fun a => (encS a).length) l).sum = l.length * 8 by
      clear hl hll
      induction l with
      | nil => rfl
      | cons x l ih => rw [List.map_cons, List.sum_cons, ih, encS_len, List.length_cons]; omega]
    rw [hll]
  rw [flatS_ofS]
  refine ⟨hlen, .inr ⟨g, cap, cur, rfl, hg, hb, by omega, hm, hsz, ?_⟩⟩
  apply List.ext_getElem?
  intro j
  by_cases hj : j < n * 8
  · rw [List.getElem?_take, if_pos hj]
    have h1 := (hH j (by rw [Sort.size_flatK]; omega)).1
    rw [Nat.zero_add, Sort.get_flatK _ _ _ _ (by omega), blk_cell hb] at h1
    rw [Array.getElem?_toList, h1]
    have key : ∀ (l : List S8) (j : Nat), j < l.length * 8 → (l.flatMap encS)[j]? = some ((encS l[j / 8]!)[j % 8]!) := fun l => by
      induction l with
      | nil => intro j hj; simp at hj
      | cons x l ih =>
        intro j hj
        rw [List.flatMap_cons]
        by_cases h8 : j < 8
        · rw [List.getElem?_append_left (by rw [encS_len]; exact h8), show j / 8 = 0 by omega, show j % 8 = j by omega, List.getElem?_eq_getElem (by rw [encS_len]; exact h8)]
          rcases lt8 h8 with rfl | rfl | rfl | rfl | rfl | rfl | rfl | rfl <;> rfl
        · rw [List.getElem?_append_right (by rw [encS_len]; omega), encS_len, ih (j - 8) (by simp at hj; omega), show j / 8 = (j - 8) / 8 + 1 by omega, show j % 8 = (j - 8) % 8 by omega]
          simp
    rw [key l j (by rw [hll]; exact hj), hl]
    have e : d[j / 8]! = (List.take n d.toList)[j / 8]! := by
      have h2 : j / 8 < d.size := by omega
      simp [List.getElem!_eq_getElem?_getD, List.getElem?_take, show j / 8 < n by omega, h2]
    rw [e]
    rfl
  · rw [List.getElem?_eq_none (by simp; omega), List.getElem?_eq_none (by rw [hlen]; omega)]
theorem once8_pos (d : Array S8) (h : 0 < d.size) : 0 < (once8 d).length := by
  unfold once8 Lib.compactUpTo
  rw [List.length_map]
  refine List.length_pos_of_mem (a := 0) (List.mem_filter.2 ⟨List.mem_range.2 (by rw [sort8_size]; exact h), by simp [Lib.keeps]⟩)
theorem once8_le (d : Array S8) : (once8 d).length ≤ d.size := by
  unfold once8 Lib.compactUpTo
  rw [List.length_map]
  exact Nat.le_trans (List.length_filter_le _ _) (by simp [sort8_size])
theorem outRow_once (d : Array S8) : (outRow (sort8 d)).toList.take (once8 d).length = once8 d := by
  unfold outRow
  rw [show Lib.compactUpTo (sort8 d) (sort8 d).size = once8 d from rfl]
  simp
theorem outRow_size (d : Array S8) : (outRow (sort8 d)).size = d.size := by
  have h := once8_le d
  unfold outRow
  rw [show Lib.compactUpTo (sort8 d) (sort8 d).size = once8 d from rfl, sort8_size]
  simp
  omega
set_option maxRecDepth 100000 in
set_option maxHeartbeats 4000000 in
theorem images_any (f : Sol) (w : World) (hf : Fit f) (hT : Tab64 w) :
    Calls Tryz.prog 69 #[sol f] w fun e w' => ∃ v, e = .returned v ∧ OwnSols w w' v (imgsF f) ∧ Below w.heap.size w w' := by
  obtain ⟨i0, hi, hz0, hz1, hz2⟩ := info_parts info_sol
  have HF := Lib.hid hf
  have HT := Lib.hid hT
  have CF := Lib.hid (fun (t : Nat) (ht : t < 24) W (h : Below w.heap.size w W) => turned_ok f t W HF.out ht (HT.out.below h (Nat.le_refl _)))
  have CG := Lib.hid (fun (t : Nat) W => cornered_any (turnedF f t) W (solOf_fit _))
  clear hf hT
  go_enter Tryz.func69, Tryz.ntmps69
  go_wp2_with fail
  have bS0 : BoxS (w.alloc (.cells (solC f) 24)) w.heap.size f := BoxS.new w f
  have hB0 : Below w.heap.size w (w.alloc (.cells (solC f) 24)) := by repeat' (first | (with_reducible exact Below.refl _ _) | (with_reducible assumption) | (with_reducible refine Below.alloc ?_ ?_ _) | (with_reducible refine Below.drew ?_) | (with_reducible refine below_drewN ?_ _) | (with_reducible refine Below.setCell ?_ ?_ _) | go_size)
  go_loopw [3, 5] (fun lv c wr => ∃ t : Nat, t ≤ 24 ∧ c = .int .i64 t ∧ BoxS wr w.heap.size f ∧ wr.ownsRow (w.heap.size + 1) 24 8 lv t (flatS (imgsN f t)) ∧ Below w.heap.size w wr ∧ w.heap.size + 1 ≤ wr.heap.size) (fun _ c _ => 24 - (intOf c).toNat)
  case atStart => exact ⟨0, by omega, rfl, bS0, World.ownsRow_nil _ _ _ _, hB0, by simp⟩
  case round =>
    clear bS0 hB0
    obtain ⟨t, ht, rfl, bS, hrow, hB, hsz⟩ := hrel
    have kS := bS.lt
    by_cases hlt : t < 24
    · have hd : decide ((t : Int) < 24) = true := decide_eq_true (by omega)
      have c0 := (bS).cell (k := 0) (by omega); have c1 := (bS).cell (k := 1) (by omega); have c2 := (bS).cell (k := 2) (by omega); have c3 := (bS).cell (k := 3) (by omega); have c4 := (bS).cell (k := 4) (by omega); have c5 := (bS).cell (k := 5) (by omega); have c6 := (bS).cell (k := 6) (by omega); have c7 := (bS).cell (k := 7) (by omega)
      have HS := Lib.hid (imgsN_succ f t)
      go_wp2_with fail
      (with_reducible refine Calls.mono (CF.out t hlt _ hB) ?_)
      rintro e w1 ⟨rfl, hb1⟩
      go_wp2_with fail
      (with_reducible refine Calls.mono (CG.out t _) ?_)
      rintro e w2 ⟨rfl, hb2⟩
      have hs1 := hb1.size
      have hs2 := hb2.size
      have hb3 := hb1.trans (hb2.mono hs1)
      have bS2 := bS.below hb3 kS
      have hrow2 := row_below hrow hb3
      have hB2 : Below w.heap.size w w2 := up hb3 hB
      clear c0 c1 c2 c3 c4 c5 c6 c7
      obtain ⟨m, hm⟩ : ∃ m, m = cornF (turnedF f t) := ⟨_, rfl⟩
      have HM := Lib.hid (show imgF f t = m by rw [hm]; rfl)
      rw [← hm]
      clear hm
      go_wp2_with (at_builtin; refine wpList_append_own _ rfl _ _ 58 rfl (w.heap.size + 1) 24 i0 (sol fun _ => 0) 8 64 under_sols hi hz0 hz1 hz2 rfl (by decide) u3 _ _ rfl (hrow2.alloc _) ⟨w2.heap.size, 0, none⟩ 1 1 (solL m) rfl rfl (solL_cells (BoxS.new' rfl)) (solL_one m) (by simp only [maxLen]; omega) (by omega) (by simp; omega) ?_; intro v' w4 hown' hgrow _; obtain ⟨g', cap', rfl⟩ := ownsRow_succ hown')
      have hs0 := hB2.size
      have hb5 : Below (w.heap.size + 1) w2 w4 := ((Below.refl (w.heap.size + 1) w2).alloc (by omega) _).grown hgrow (by simp; omega) fun j ej => (hrow2.lt j ej).1
      have bS4 : BoxS w4 w.heap.size f := (hb5.block _ (by omega)).trans bS2
      have hs4 := hb5.size
      exact ⟨⟨t + 1, by omega, by go_num, bS4, by rw [HS.out, HM.out, flatS_snoc]; exact hown', hB2.trans (hb5.mono (by omega)), by omega⟩, by simp [intOf]; omega⟩
    · obtain rfl : t = 24 := by omega
      have hd : decide (((24 : Nat) : Int) < 24) = false := by decide
      obtain ⟨g, cap, rfl⟩ := ownsRow_succ hrow
      have hH := holds_of_row hrow
      obtain ⟨hg1, hg2⟩ := hrow.lt g rfl
      obtain ⟨cur, hcur, hcap, hmax, hcs⟩ : ∃ cur, wr.heap[g]? = some (.cells cur 24 (0, 0)) ∧ 24 ≤ cap ∧ cap ≤ maxLen ∧ cur.size = cap * 8 := by
        rcases hrow.2 with ⟨h1, _⟩ | ⟨g', cap', cur, h1, _, h3, h4, h5, h6, _⟩
        · cases h1
        · injection h1 with a1 a2 a3
          injection a1 with a4
          injection a4 with a5
          subst a5 a3
          exact ⟨cur, h3, h4, h5, h6⟩
      obtain ⟨d, hd8⟩ : ∃ d, d = ((imgsN f 24).map toS).toArray := ⟨_, rfl⟩
      have hds : d.size = 24 := by rw [hd8]; simp [imgsN_len]
      rw [← hd8] at hH
      have HIM := Lib.hid (show imgsF f = (once8 d).map ofS by rw [hd8]; rfl)
      have HO := once_ok g cap d wr hH hg2 (by omega) (by omega)
      rw [hds] at HO
      have HOO := Lib.hid HO
      have HDS := Lib.hid hds
      have HCU := Lib.hid hcur
      have HHR := Lib.hid hH
      clear HO hd8 hds hcur hH hrow
      go_wp2_with fail
      refine HOO.out.mono ?_
      rintro e w5 ⟨rfl, h1, h2, h3⟩
      obtain ⟨cur', hc1, hc2⟩ := h3 cur _ _ HCU.out
      have H1 := Lib.hid h1
      clear h1 h3
      go_wp2
      go_ret
      have hle := once8_le d
      have hpos := once8_pos d (by rw [HDS.out]; omega)
      refine ⟨_, rfl, ⟨?_, ?_⟩, hB.trans ⟨h2.os, h2.tape, h2.output, h2.size, fun k hk => h2.block k (by omega) (fun e => by cases e; omega)⟩⟩
      · rw [HIM.out, List.length_map]
        exact row_of_holds H1.out hc1 (by rw [hc2, hcs]) hmax (by omega) (outRow_once d).symm (by rw [outRow_size]; exact hle) (by rw [outRow_size, HDS.out]; exact hcap)
      · rw [HIM.out]
        refine ⟨fun h => (by cases h), fun h => ?_⟩
        have := congrArg List.length h
        simp at this
        rw [this] at hpos
        simp at hpos
theorem images_ok (f : Sol) (w : World) (hf : Fit f) (h : emptyS f = false) (hT : Tab64 w) :
    Calls Tryz.prog 69 #[sol f] w fun e w' => ∃ v, e = .returned v ∧ OwnSols w w' v (imgsF f) ∧ Below w.heap.size w w' := images_any f w hf hT
end Go.Proofs.YtadkaplafaeebaaGreatDoor
