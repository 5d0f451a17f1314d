/-
  Places: the list of all places, sorted, each once.
-/
import Derived.Test.YtadkaplafaeebaaGreatDoorOnceNQ
import Derived.Test.YtadkaplafaeebaaGreatDoorInsTQ
import Derived.Test.YtadkaplafaeebaaGreatDoorPlcMQ
import Derived.Test.YtadkaplafaeebaaGreatDoorPkXBQ
import Derived.Test.YtadkaplafaeebaaGreatDoorPkUCQ
import Derived.Maps.OwnIn
set_option linter.unusedVariables false
set_option linter.unusedSimpArgs false
namespace Go.Proofs.YtadkaplafaeebaaGreatDoor
open Go Go.RowKit Go.Shelf

attribute [local go_sem] Oper.semAt_some

def placeL (f : Sol) (l : List Sol) : List Sol := l.flatMap (placeM f)
theorem placeL_snoc (f : Sol) (l : List Sol) (m : Sol) : placeL f (l ++ [m]) = placeL f l ++ placeM f m := by simp [placeL]
theorem placeL_len {f : Sol} (hf : Fit f) (l : List Sol) : (placeL f l).length ≤ l.length * 729 := flat_len 729 _ l fun m _ => by
  unfold placeM
  rw [List.length_map]
  exact inside_len hf m
theorem imgs_len (g : Sol) : 0 < (imgsF g).length ∧ (imgsF g).length ≤ 24 := by
  unfold imgsF
  rw [List.length_map]
  constructor
  · exact once8_pos _ (by simp [imgsN])
  · refine Nat.le_trans (once8_le _) ?_
    simp [imgsN]
theorem imgs_ok {g : Sol} (hg : Fit g) (hge : emptyS g = false) {m : Sol} (h : m ∈ imgsF g) : Fit m ∧ emptyS m = false := by
  obtain ⟨h1, t, ht, e⟩ := imgs_at h
  exact ⟨h1, empty_congr h1 (imgF_fit g t) e (imgF_ne hg hge t)⟩
/-- All places, sorted, each once. -/
def placesF (f g : Sol) : List Sol := (once8 ((placeL f (imgsF g)).map toS).toArray).map ofS
theorem ownsRow_keep {W W' : World} {b : Nat} {T : TypeId} {s : Nat} {v : Value} {n : Nat} {xs : List Value} (h : W.ownsRow b T s v n xs)
    (hk : ∀ (k : Nat) (o : Obj), o.isCells = true → W.heap[k]? = some o → W'.heap[k]? = some o) : W'.ownsRow b T s v n xs := by
  refine ⟨h.1, ?_⟩
  rcases h.2 with h2 | ⟨g, cap, cur, h1, h2, h3, h4⟩
  · exact .inl h2
  · exact .inr ⟨g, cap, cur, h1, h2, hk _ _ rfl h3, h4⟩
theorem Marks.keeps {A : Nat} {Ds : List Nat} {W W' : World} (h : Marks A Ds W) (hk : KeepsOthers W W') : Marks A Ds W' := fun D hD => ⟨(h D hD).1, hk.same D _ (h D hD).2 rfl⟩
/-- The list's box, and its row; three blocks that its row is not. -/
def LB (L p q r : Nat) (v : Value) (l : List Sol) (W : World) : Prop := Boxed W L 58 v ∧ W.ownsRow L 24 8 v l.length (flatS l) ∧ ((v = .slice none 0 0 ↔ l = []) ∧ v.ownBlock ≠ some p ∧ v.ownBlock ≠ some q ∧ v.ownBlock ≠ some r)
theorem app_key {W w1 : World} {L n m : Nat} {v v' : Value} {xs ys : List Value} {tmp : Obj} (hv : Boxed W L 58 v) (hrow : W.ownsRow L 24 8 v n xs) (hgrow : (W.alloc tmp).grownBy w1 v.ownBlock) (k : Nat) (o : Obj) (hk : W.heap[k]? = some o) (h1 : v.ownBlock ≠ some k) (h2 : k ≠ L) :
    (w1.setCell ⟨L, 0, none⟩ v').heap[k]? = some o := by
  have hl := (Array.getElem?_eq_some_iff.1 hk).1
  have e1 : w1.heap[k]? = some o := by
    refine (hgrow.block k (by simp; omega) (fun e => h1 e.symm)).trans ?_
    exact (Below.heap_alloc W tmp k hl).trans hk
  refine ((grownBy_setCell' w1 L v').block k (Array.getElem?_eq_some_iff.1 e1).1 (fun e => by cases e; exact h2 rfl)).trans e1
theorem keepT_app {W w1 : World} {n₀ Ba Bb L n m : Nat} {v v' : Value} {xs ys : List Value} {tmp : Obj} (hv : Boxed W L 58 v) (hrow : W.ownsRow L 24 8 v n xs) (hgrow : (W.alloc tmp).grownBy w1 v.ownBlock)
    (h1 : v.ownBlock ≠ some Ba) (h2 : v.ownBlock ≠ some Bb) (h3 : Ba ≠ L) (h4 : Bb ≠ L) (hb : Below n₀ W (w1.setCell ⟨L, 0, none⟩ v')) : KeepT n₀ Ba Bb W (w1.setCell ⟨L, 0, none⟩ v') := by
  refine ⟨hb, fun o ho _ => app_key (n := n) (m := 0) (ys := []) hv hrow hgrow _ o ho h1 h3, fun o ho _ => app_key (n := n) (m := 0) (ys := []) hv hrow hgrow _ o ho h2 h4, fun k cs fr hk => app_key (n := n) (m := 0) (ys := []) hv hrow hgrow _ _ hk (fun e => ?_) fun e => ?_⟩
  · rcases hrow.2 with ⟨e1, _⟩ | ⟨g, cap, cur, e1, _, e3, _⟩
    · rw [e1] at e; cases e
    · rw [e1] at e
      injection e with e
      subst e
      rw [hk] at e3
      cases e3
  · subst e
    rw [show W.heap[k]? = _ from hv] at hk
    cases hk
set_option maxRecDepth 100000 in
set_option maxHeartbeats 8000000 in
theorem places_any (f g : Sol) (w : World) (hf : Fit f) (hg : Fit g) (hge : emptyS g = false) (hT : Tab64 w) :
    Calls Tryz.prog 59 #[sol f, sol g] w fun e w' => ∃ v, e = .returned (.tuple #[v, .int .i64 0]) ∧ OwnSols w w' v (placesF f g) ∧ Below w.heap.size w w' := by
  obtain ⟨i0, hi, hz0, hz1, hz2⟩ := info_parts info_sol
  have HF := Lib.hid hf
  have HG := Lib.hid hg
  have HT := Lib.hid hT
  have HGE := Lib.hid hge
  clear hf hg hT hge
  refine (callsIn_wide (n := 7)).1 ?_
  refine callsIn_of_wp_marks Tryz.func59 rfl trivial ?_ rfl
  simp only [Tryz.ntmps59, List.size_toArray, List.length_cons, List.length_nil, Nat.reduceAdd, Nat.reduceSub, Array.replicate_succ, Array.replicate_zero, List.push_toArray, List.append_toArray, List.nil_append, List.cons_append]
  refine wpIn_wide.2 ?_
  have bA0 : BoxS ((w.alloc (.cells (solC f) 24)).alloc (.cells (solC g) 24)) w.heap.size f := (BoxS.new w f).alloc _
  have bB0 : BoxS ((w.alloc (.cells (solC f) 24)).alloc (.cells (solC g) 24)) (w.heap.size + 1) g := BoxS.new' (by simp)
  have hB0 : Below w.heap.size w ((w.alloc (.cells (solC f) 24)).alloc (.cells (solC g) 24)) := by repeat' (first | (with_reducible exact Below.refl _ _) | (with_reducible assumption) | (with_reducible refine Below.alloc ?_ ?_ _) | (with_reducible refine Below.drew ?_) | (with_reducible refine below_drewN ?_ _) | (with_reducible refine Below.setCell ?_ ?_ _) | go_size)
  have c0 := (bB0).cell (k := 0) (by omega); have c1 := (bB0).cell (k := 1) (by omega); have c2 := (bB0).cell (k := 2) (by omega); have c3 := (bB0).cell (k := 3) (by omega); have c4 := (bB0).cell (k := 4) (by omega); have c5 := (bB0).cell (k := 5) (by omega); have c6 := (bB0).cell (k := 6) (by omega); have c7 := (bB0).cell (k := 7) (by omega)
  go_wp2_with fail
  refine (isEmpty_is HGE.out _).mono ?_
  rintro e w1 ⟨rfl, hb1⟩
  have bA1 := bA0.below hb1 bA0.lt
  have bB1 := bB0.below hb1 bB0.lt
  have hB1 : Below w.heap.size w w1 := up hb1 hB0
  clear bA0 bB0 hB0 hb1 c0 c1 c2 c3 c4 c5 c6 c7
  have lA1 := bA1.lt
  have lB1 := bB1.lt
  have c0 := (bB1).cell (k := 0) (by omega); have c1 := (bB1).cell (k := 1) (by omega); have c2 := (bB1).cell (k := 2) (by omega); have c3 := (bB1).cell (k := 3) (by omega); have c4 := (bB1).cell (k := 4) (by omega); have c5 := (bB1).cell (k := 5) (by omega); have c6 := (bB1).cell (k := 6) (by omega); have c7 := (bB1).cell (k := 7) (by omega)
  go_wp2_with fail
  refine (images_any g _ HG.out (HT.out.below (hB1.alloc hB1.size _) (Nat.le_refl _))).mono ?_
  rintro e w2 ⟨v, rfl, ho, hb2⟩
  obtain ⟨hn1, hn2⟩ := imgs_len g
  obtain ⟨Im, hIm⟩ : ∃ Im, Im = imgsF g := ⟨_, rfl⟩
  have HIM := Lib.hid (fun (m : Sol) (h : m ∈ Im) => imgs_ok HG.out HGE.out (by rw [← hIm]; exact h))
  have HPF := Lib.hid (show placesF f g = (once8 ((placeL f Im).map toS).toArray).map ofS by rw [hIm]; rfl)
  rw [← hIm] at ho hn1 hn2
  clear hIm
  have hrI := ho.1
  clear ho
  obtain ⟨p, cap, rfl⟩ := own_len hrI
  obtain ⟨gI, rfl, hgI, hcI⟩ := rowS_pos hrI hn1
  have HCI := Lib.hid hcI
  have hA1 := hB1.alloc hB1.size (.cells #[.slice none 0 0] 58)
  have bA2 : BoxS w2 w.heap.size f := (bA1.alloc _).below hb2 (bA1.alloc _).lt
  have bL2 : Boxed w2 w1.heap.size 58 (.slice none 0 0) := (hb2.block _ (by simp)).trans (boxed_at rfl)
  have hB2 : Below w.heap.size w w2 := up hb2 hA1
  have hs2 : w1.heap.size < w2.heap.size := by have := hb2.size; simp at this; omega
  obtain ⟨oI, hoI, hcells⟩ : ∃ oI, w2.heap[gI]? = some oI ∧ oI.isCells = true := by
    rcases hrI.2 with ⟨e1, _⟩ | ⟨g', cap', cur, e1, _, e3, _⟩
    · cases e1
    · injection e1 with e1
      injection e1 with e1
      injection e1 with e1
      subst e1
      exact ⟨_, e3, rfl⟩
  have hgL : w1.heap.size < gI := by
    rcases hrI.2 with ⟨e1, _⟩ | ⟨g', cap', cur, e1, e2, _⟩
    · cases e1
    · injection e1 with e1
      injection e1 with e1
      injection e1 with e1
      subst e1
      simp at e2
      omega
  go_wp2_with fail
  clear c0 c1 c2 c3 c4 c5 c6 c7 bB1 hB1 hb2 hcI hrI hA1 bA1
  obtain ⟨L, hL⟩ : ∃ L, L = w1.heap.size := ⟨_, rfl⟩
  rw [← hL] at bL2 lA1 lB1 hs2 hgL ⊢
  clear hL
  have hLB0 : LB L gI gI gI (.slice none 0 0) (placeL f (Im.take 0)) w2 := ⟨bL2, World.ownsRow_nil _ _ _ _, by simp [placeL], by simp [Value.ownBlock], by simp [Value.ownBlock], by simp [Value.ownBlock]⟩
  clear bL2
  refine wp_loop_ghost_k (fun gk a W => ∃ (t : Nat) (Ds : List Nat) (v x8 x10 x17 x18 x19 x20 x21 x22 x23 x24 x25 x26 x27 x28 x29 : Value), gk = Im.length - t ∧ t ≤ Im.length ∧
    a = { tmps := #[sol f, sol g, .pointer (some ⟨w.heap.size, 0, none⟩), .pointer (some ⟨w.heap.size + 1, 0, none⟩), .slice none 0 0, .int .i64 0, .pointer (some ⟨L, 0, none⟩), undef, x8, undef, x10, sol g, .bool false, sol g, .slice (some ⟨gI, 0, none⟩) Im.length cap, .int .i64 (Im.length : Int), .int .i64 (t : Int), x17, x18, x19, x20, x21, x22, x23, x24, x25, x26, x27, x28, x29, undef, undef], defers := Ds.map mark } ∧
    BoxS W w.heap.size f ∧ LB L gI gI gI v (placeL f (Im.take t)) W ∧ W.heap[gI]? = some oI ∧ Below w.heap.size w W ∧ w2.heap.size ≤ W.heap.size ∧ Ds.Nodup ∧ Marks w.heap.size Ds W) Im.length ?start ?round
  case start => exact ⟨0, [], _, _, _, _, _, _, _, _, _, _, _, _, _, _, _, _, rfl, by omega, rfl, bA2, hLB0, hoI, hB2, Nat.le_refl _, List.nodup_nil, fun D hD => by cases hD⟩
  case round =>
    clear bA2 hLB0 hB2
    rintro gk a W ⟨t, Ds, v, x8, x10, x17, x18, x19, x20, x21, x22, x23, x24, x25, x26, x27, x28, x29, hgk, ht, rfl, hA, hLB, hI, hB, hs, hnd, hM⟩ J K hJ hK
    have HGK := Lib.hid hgk
    have HM := Lib.hid hM
    have HND := Lib.hid hnd
    have HLB := Lib.hid hLB
    clear hgk hM hnd hLB
    by_cases hlt : t < Im.length
    · have hd : decide ((t : Int) < (Im.length : Int)) = true := decide_eq_true (by omega)
      have hib : (t : Int) < (Im.length : Int) := by omega
      have hci : Im[t]? = some Im[t] := List.getElem?_eq_getElem hlt
      obtain ⟨m, hm⟩ : ∃ m, m = Im[t] := ⟨_, rfl⟩
      rw [← hm] at hci
      clear hm
      obtain ⟨hmf, hme⟩ := HIM.out m (List.mem_of_getElem? hci)
      have HMF := Lib.hid hmf
      have HME := Lib.hid hme
      have HTK := Lib.hid (show placeL f (Im.take (t + 1)) = placeL f (Im.take t) ++ placeM f m by rw [List.take_add_one, hci]; exact placeL_snoc f _ m)
      have hce : ∀ j, W.cell? ⟨gI, j, none⟩ = w2.cell? ⟨gI, j, none⟩ := fun j => by simp [World.cell?, hI, hoI]
      have x := fun j hj => (hce (t * 8 + j)).trans (HCI.out t m hci j hj)
      have y0 := x 0 (by omega)
      have y1 := x 1 (by omega)
      have y2 := x 2 (by omega)
      have y3 := x 3 (by omega)
      have y4 := x 4 (by omega)
      have y5 := x 5 (by omega)
      have y6 := x 6 (by omega)
      have y7 := x 7 (by omega)
      rw [Nat.add_zero] at y0
      clear x hce hci hmf hme
      have lA := hA.lt
      go_upto_region 7 with fail
      have hA1 : Below W.heap.size W (W.alloc (.cells (solC m) 24)) := (Below.refl _ W).alloc (Nat.le_refl _) _
      have bM : BoxS (W.alloc (.cells (solC m) 24)) W.heap.size m := BoxS.new _ _
      have bA1 := hA.alloc (.cells (solC m) 24)
      obtain ⟨W1, hW1⟩ : ∃ W1, W1 = W.alloc (.cells (solC m) 24) := ⟨_, rfl⟩
      have hs1 : W.heap.size < W1.heap.size := by rw [hW1]; simp
      rw [← hW1] at hA1 bM bA1 ⊢
      clear hW1 y0 y1 y2 y3 y4 y5 y6 y7
      have a0 := (bA1).cell (k := 0) (by omega); have a1 := (bA1).cell (k := 1) (by omega); have a2 := (bA1).cell (k := 2) (by omega); have a3 := (bA1).cell (k := 3) (by omega); have a4 := (bA1).cell (k := 4) (by omega); have a5 := (bA1).cell (k := 5) (by omega); have a6 := (bA1).cell (k := 6) (by omega); have a7 := (bA1).cell (k := 7) (by omega)
      have b0 := (bM).cell (k := 0) (by omega); have b1 := (bM).cell (k := 1) (by omega); have b2 := (bM).cell (k := 2) (by omega); have b3 := (bM).cell (k := 3) (by omega); have b4 := (bM).cell (k := 4) (by omega); have b5 := (bM).cell (k := 5) (by omega); have b6 := (bM).cell (k := 6) (by omega); have b7 := (bM).cell (k := 7) (by omega)
      go_wp2_with fail
      refine ((callsIn_wide (n := 3)).1 (inside_in 3 f m _)).mono ?_
      rintro e w5 ⟨rfl, rfl⟩
      go_wp2_with fail
      have hA3 : Below W1.heap.size W1 ((W1.alloc (.cells (solC f) 24)).alloc (.cells (solC m) 24)) := by repeat' (first | (with_reducible exact Below.refl _ _) | (with_reducible assumption) | (with_reducible refine Below.alloc ?_ ?_ _) | (with_reducible refine Below.drew ?_) | (with_reducible refine below_drewN ?_ _) | (with_reducible refine Below.setCell ?_ ?_ _) | go_size)
      have bY1 : BoxS ((W1.alloc (.cells (solC f) 24)).alloc (.cells (solC m) 24)) W1.heap.size f := (BoxS.new W1 f).alloc _
      have bY2 : BoxS ((W1.alloc (.cells (solC f) 24)).alloc (.cells (solC m) 24)) (W1.heap.size + 1) m := BoxS.new' (by simp)
      obtain ⟨W0, hW0⟩ : ∃ W0, W0 = (W1.alloc (.cells (solC f) 24)).alloc (.cells (solC m) 24) := ⟨_, rfl⟩
      have hs4 : W1.heap.size + 1 < W0.heap.size := by rw [hW0]; simp
      rw [← hW0] at hA3 bY1 bY2 ⊢
      have hb4 : Below W.heap.size W W0 := hA1.trans (hA3.mono (by omega))
      clear hW0 a0 a1 a2 a3 a4 a5 a6 a7 b0 b1 b2 b3 b4 b5 b6 b7 hA1 hA3 bM
      have bA4 := hA.below hb4 lA
      have lL : L < W.heap.size := by omega
      have lI : gI < W.heap.size := by omega
      have hI4 : W0.heap[gI]? = some oI := (hb4.block _ lI).trans hI
      have hB4 : Below w.heap.size w W0 := up hb4 hB
      have HM4 := Lib.hid (HM.out.below hb4)
      have hLB4 : ∃ v, Boxed W0 L 58 v ∧ W0.ownsRow L 24 8 v (placeL f (Im.take t) ++ ([] : List Pl).map fun p => p.2).length (flatS (placeL f (Im.take t) ++ ([] : List Pl).map fun p => p.2)) ∧ ((v = .slice none 0 0 ↔ placeL f (Im.take t) ++ ([] : List Pl).map (fun p => p.2) = []) ∧ v.ownBlock ≠ some gI ∧ v.ownBlock ≠ some W1.heap.size ∧ v.ownBlock ≠ some (W1.heap.size + 1)) := by
        obtain ⟨k1, k2, k3, k4, _⟩ := HLB.out
        rw [List.map_nil, List.append_nil]
        have key : ∀ x, W.heap.size ≤ x → v.ownBlock ≠ some x := fun x hx e => by
          have := (k2.lt x e).2
          omega
        exact ⟨v, (hb4.block _ lL).trans k1, row_below k2 hb4, k3, k4, key _ (by omega), key _ (by omega)⟩
      have HDL := Lib.hid (show ∀ D ∈ Ds, D < W0.heap.size from fun D hD => (Array.getElem?_eq_some_iff.1 (HM4.out D hD).2).1)
      have HL0 := Lib.hid hLB4
      have hln : (placeL f (Im.take t)).length ≤ 24 * 729 := by
        refine Nat.le_trans (placeL_len HF.out _) (Nat.mul_le_mul_right _ ?_)
        rw [List.length_take]
        omega
      have hil := inside_len HF.out m
      obtain ⟨l0, hl0⟩ : ∃ l0, l0 = placeL f (Im.take t) := ⟨_, rfl⟩
      have HTK2 := Lib.hid (show placeL f (Im.take (t + 1)) = l0 ++ placeM f m by rw [hl0]; exact HTK.out)
      rw [← hl0] at hln HL0
      clear hl0 HTK hLB4 HLB hA hI hB HM hb4 bA1
      refine (wpIn_wide (n := 7)).1 ?_
      refine wpIn_rangeFunc_ownH rfl (by omega) (gf := 147) (lb := #[.pointer (some ⟨W1.heap.size, 0, none⟩), .pointer (some ⟨W1.heap.size + 1, 0, none⟩)]) rfl trivial (enters_of Tryz.func147 (by kernel_rfl) rfl)
        (inside_stopsT _ (by omega) W1.heap.size (W1.heap.size + 1) w.heap.size 0 f m HF.out HMF.out HME.out W0 bY1 bY2 (Nat.zero_le _) (Nat.zero_le _)) keepT_t (keepT_b (by omega)) (Below.refl _ _) (fun _ => rfl)
        (fun (pre : List Pl) W' => (∃ v, Boxed W' L 58 v ∧ W'.ownsRow L 24 8 v (l0 ++ pre.map fun p => p.2).length (flatS (l0 ++ pre.map fun p => p.2)) ∧ ((v = .slice none 0 0 ↔ l0 ++ pre.map (fun p => p.2) = []) ∧ v.ownBlock ≠ some gI ∧ v.ownBlock ≠ some W1.heap.size ∧ v.ownBlock ≠ some (W1.heap.size + 1))) ∧ BoxS W' w.heap.size f ∧ W'.heap[gI]? = some oI ∧ (Below w.heap.size w W' ∧ W0.heap.size ≤ W'.heap.size) ∧ Marks w.heap.size Ds W')
        (fun _ _ _ => False)
        (OwnFrom.and (Own.from (holdsRow_own L L 58 24 8 (fun pre : List Pl => (l0 ++ pre.map fun p => p.2).length) (fun pre : List Pl => flatS (l0 ++ pre.map fun p => p.2)) (fun pre v => (v = .slice none 0 0 ↔ l0 ++ pre.map (fun p => p.2) = []) ∧ v.ownBlock ≠ some gI ∧ v.ownBlock ≠ some W1.heap.size ∧ v.ownBlock ≠ some (W1.heap.size + 1))) _)
          (OwnFrom.and (own_block _ _ _ rfl) (OwnFrom.and (own_block _ _ _ hcells) (OwnFrom.and (fun s X Y row hs hg hr => ⟨ownFrom_below (β := Unit) (B := W0.heap.size) (Nat.le_refl _) (by omega) () X Y row hs.1 hg hr, Nat.le_trans hs.2 hg.size⟩) (own_marks HDL.out)))))
        (fun _ _ _ _ _ hs _ _ => hs)
        ⟨HL0.out, bA4, hI4, ⟨hB4, Nat.le_refl _⟩, HM4.out⟩
        (fun (x : Pl) a' W' => ∃ Bx, BoxS W' Bx x.2 ∧ a' = { tmps := #[sol f, sol g, .pointer (some ⟨w.heap.size, 0, none⟩), .pointer (some ⟨w.heap.size + 1, 0, none⟩), .slice none 0 0, .int .i64 0, .pointer (some ⟨L, 0, none⟩), undef, .pointer (some ⟨W.heap.size, 0, none⟩), undef, .pointer (some ⟨Bx, 0, none⟩), sol g, .bool false, sol g, .slice (some ⟨gI, 0, none⟩) Im.length cap, .int .i64 (Im.length : Int), .int .i64 (t : Int), .bool true, .pointer (some ⟨gI, t * 8, none⟩), sol m, sol f, sol m, .func (.func 147) #[] #[.pointer (some ⟨W1.heap.size, 0, none⟩), .pointer (some ⟨W1.heap.size + 1, 0, none⟩)], encI x.1, sol x.2, x25, x26, x27, x28, x29, undef, undef], defers := [] })
        (fun x a' s X Y row ⟨Bx, h2, h3⟩ hg hr => ⟨Bx, own_block (β := Unit) _ _ _ rfl () X Y row h2 hg hr, h3⟩) ?assign ?body ?done ?stop
      case assign =>
        rintro l pre x W' K' ⟨⟨v', i1, i2, i3⟩, i4, i5, ⟨i6, i7⟩, i8⟩ hK'
        gi_wp2
        have hA5 : Below W'.heap.size W' (W'.alloc (.cells (solC x.2) 24)) := (Below.refl _ W').alloc (Nat.le_refl _) _
        exact hK' _ _ ((KeepsOthers.alloc _ _).from _) (keepT_below hA5 (by omega)) ⟨⟨v', i1.alloc _, i2.alloc _, i3⟩, i4.alloc _, (hA5.block _ (Array.getElem?_eq_some_iff.1 i5).1).trans i5, ⟨i6.alloc (by omega) _, by simp; omega⟩, i8.below hA5⟩ ⟨W'.heap.size, BoxS.new _ _, rfl⟩
      case body =>
        rintro l pre x a' W' hl ⟨r, hr⟩ ⟨⟨v', i1, i2, i3, i31, i32, i33⟩, i4, i5, ⟨i6, i7⟩, i8⟩ ⟨Bx, bX, rfl⟩ hlen
        have cv := i1.cell
        have lL' := i1.lt
        have hpl : (l0 ++ pre.map fun p => p.2).length ≤ 24 * 729 + 729 := by
          rw [List.length_append, List.length_map]
          omega
        obtain ⟨pl, hq⟩ : ∃ pl, pl = (l0 ++ pre.map fun p => p.2).length := ⟨_, rfl⟩
        rw [← hq] at i2 hpl
        have HQ := Lib.hid hq
        clear hq
        obtain ⟨xc, px⟩ := x
        simp only at bX
        have I8 := Lib.hid i8
        clear i8
        have c0 := (bX).cell (k := 0) (by omega); have c1 := (bX).cell (k := 1) (by omega); have c2 := (bX).cell (k := 2) (by omega); have c3 := (bX).cell (k := 3) (by omega); have c4 := (bX).cell (k := 4) (by omega); have c5 := (bX).cell (k := 5) (by omega); have c6 := (bX).cell (k := 6) (by omega); have c7 := (bX).cell (k := 7) (by omega)
        gi_wp2_with (gi_at_builtin; refine wpListIn_append_own_at _ rfl _ _ 58 rfl L 24 i0 (sol fun _ => 0) 8 64 under_sols hi hz0 hz1 hz2 rfl (by decide) v' _ _ rfl (i2.alloc _) ⟨W'.heap.size, 0, none⟩ 1 1 (solL px) rfl rfl (solL_cells (BoxS.new' rfl)) (solL_one px) (by simp only [maxLen]; omega) (by omega) (by simp; omega) ?_; intro v2 w4 hown' hgrow _ hat; obtain ⟨g', cap', rfl⟩ := ownsRow_succ hown'; obtain ⟨hv1, hv2, hr2, hk2, hb2⟩ := i1.appended (by decide) i2 (by omega) (Nat.le_refl _) hown' hgrow; have hc1 := hv1.cell; have hf1 := hv1.frozen)
        have kb := hb2.mono (show w.heap.size ≤ L by omega)
        have hne1 : W1.heap.size ≠ L := by omega
        have hne2 : W1.heap.size + 1 ≠ L := by omega
        have hkt := keepT_app (n := _) (m := 0) (ys := []) i1 i2 hgrow i32 i33 hne1 hne2 kb
        have hA6 := app_key (n := _) (m := 0) (ys := []) (v' := .slice (some ⟨g', 0, none⟩) (pl + 1) cap') i1 i2 hgrow w.heap.size _ i4 (fun e => by have := (i2.lt _ e).1; omega) (by omega)
        have hI6 := app_key (n := _) (m := 0) (ys := []) (v' := .slice (some ⟨g', 0, none⟩) (pl + 1) cap') i1 i2 hgrow gI _ i5 i31 (by omega)
        have hls : l0 ++ (pre ++ [(xc, px)]).map (fun p => p.2) = (l0 ++ pre.map fun p => p.2) ++ [px] := by simp
        have hnb : ∀ x, x < W'.heap.size → v'.ownBlock ≠ some x → (Value.slice (some ⟨g', 0, none⟩) (pl + 1) cap').ownBlock ≠ some x := fun x hx hne e => by
          rcases hat with h | h
          · rw [h] at e; exact hne e
          · rw [h] at e
            injection e with e
            simp at e
            omega
        have hgI2 := (Array.getElem?_eq_some_iff.1 i5).1
        refine ⟨hk2.from _, hkt, ⟨_, hv2, ?_, ⟨?_, ?_⟩, hnb _ (by omega) i31, hnb _ (by omega) i32, hnb _ (by omega) i33⟩, hA6, hI6, ⟨i6.trans kb, Nat.le_trans i7 hk2.size⟩, I8.out.keeps hk2⟩
        · rw [hls, List.length_append, flatS_snoc, ← HQ.out]
          exact hr2
        · intro e; cases e
        · intro e
          rw [hls] at e
          exact absurd e (by simp)
      case done =>
        rintro D ys W' hD hys ⟨⟨v', i1, i2, i3, i31, i32, i33⟩, i4, i5, ⟨i6, i7⟩, i8⟩ hKD
        have HE := Lib.hid (show l0 ++ ys.map (fun p => p.2) = placeL f (Im.take (t + 1)) by rw [HTK2.out, hys]; rfl)
        rw [HE.out] at i2 i3
        have I8 := Lib.hid i8
        have HKD := Lib.hid hKD
        clear i8 hKD hys
        gi_wp2
        go_wp2_with fail
        refine Handed.intro (Im.length - (t + 1)) (by have := HGK.out; omega) (hJ _ _ _ ⟨t + 1, D :: Ds, v', _, _, _, _, _, _, _, _, _, _, _, _, _, _, _, rfl, by omega, rfl, i4, ⟨i1, i2, i3, i31, i31, i31⟩, i5, i6, by omega, ?_, ?_⟩)
        · exact List.nodup_cons.2 ⟨fun hm => by have := HDL.out D hm; omega, HND.out⟩
        · intro D' hD'
          rcases List.mem_cons.1 hD' with rfl | h1
          · exact ⟨by omega, HKD.out⟩
          · exact I8.out D' h1
      case stop =>
        rintro D c pre W' _ _ h _
        exact h.elim
    · obtain rfl : t = Im.length := by omega
      have hd : decide ((Im.length : Int) < (Im.length : Int)) = false := decide_eq_false (by omega)
      obtain ⟨k1, k2, k3, k4, _⟩ := HLB.out
      rw [List.take_length] at k2 k3
      clear HLB
      have cv := k1.cell
      have hln := placeL_len HF.out Im
      have hl2 : (placeL f Im).length ≤ 24 * 729 := Nat.le_trans hln (Nat.mul_le_mul_right _ hn2)
      obtain ⟨l, hl⟩ : ∃ l, l = placeL f Im := ⟨_, rfl⟩
      rw [← hl] at k2 k3 hl2
      have HP2 := Lib.hid (show placesF f g = (once8 (l.map toS).toArray).map ofS by rw [hl]; exact HPF.out)
      clear hl hln HPF
      by_cases hle : l = []
      · subst hle
        obtain rfl := k3.2 rfl
        go_wp2_with fail
        refine (once_0 _ _).mono ?_
        rintro e w5 ⟨rfl, hb5⟩
        have HM5 := Lib.hid (HM.out.below hb5)
        have hB5 : Below w.heap.size w w5 := up hb5 hB
        clear cv k1 k2 k3 k4 hb5 hA hI hB
        go_wp2_with fail
        refine leaves_marks w.heap.size Ds _ HND.out HM5.out (fun W3 hb hk => ⟨_, results_tmp2 rfl _ _ _, _, rfl, ?_, hB5.trans hb⟩)
        have hen : placesF f g = [] := by
          rw [HP2.out]
          have := once8_le (([] : List Sol).map toS).toArray
          simp at this
          simp [this]
        rw [hen]
        exact ⟨World.ownsRow_nil _ _ _ _, by simp⟩
      · obtain ⟨gl, hv'⟩ : ∃ gl, ∃ cap, v = .slice (some ⟨gl, 0, none⟩) l.length cap := by
          rcases k2.2 with ⟨h1, _⟩ | ⟨g', cap', cur, h1, _⟩
          · exact absurd (k3.1 h1) hle
          · exact ⟨g', cap', h1⟩
        obtain ⟨cap2, rfl⟩ := hv'
        have hH := holds_of_row k2
        obtain ⟨hg1, hg2⟩ := k2.lt gl rfl
        obtain ⟨cur, hcur, hcap, hmax, hcs⟩ : ∃ cur, W.heap[gl]? = some (.cells cur 24 (0, 0)) ∧ l.length ≤ cap2 ∧ cap2 ≤ maxLen ∧ cur.size = cap2 * 8 := by
          rcases k2.2 with ⟨h1, _⟩ | ⟨g', cap', cur, h1, _, h3, h4, h5, h6, _⟩
          · cases h1
          · injection h1 with a1 a2 a3
            injection a1 with a4
            injection a4 with a5
            subst a5 a3
            exact ⟨cur, h3, h4, h5, h6⟩
        obtain ⟨d, hd8⟩ : ∃ d, d = (l.map toS).toArray := ⟨_, rfl⟩
        have hds : d.size = l.length := by rw [hd8]; simp
        rw [← hd8] at hH
        have HP3 := Lib.hid (show placesF f g = (once8 d).map ofS by rw [HP2.out, hd8])
        have HO := once_ok gl cap2 d W hH hg2 (by omega) (by omega)
        rw [hds] at HO
        have HOO := Lib.hid HO
        have HDS := Lib.hid hds
        have HCU := Lib.hid hcur
        have hgM : ∀ D ∈ Ds, D ≠ gl := fun D hD e => by
          have := (HM.out D hD).2
          rw [e, hcur] at this
          cases this
        have HGM := Lib.hid hgM
        clear HO hd8 hds hcur hH k2 k3 k4 hI hA HP2 hgM
        go_wp2_with fail
        refine HOO.out.mono ?_
        rintro e w5 ⟨rfl, h1, h2, h3⟩
        obtain ⟨cur', hc1, hc2⟩ := h3 cur _ _ HCU.out
        have H1 := Lib.hid h1
        have HM5 := Lib.hid (show Marks w.heap.size Ds w5 from fun D hD => ⟨(HM.out D hD).1, (h2.block D (Array.getElem?_eq_some_iff.1 (HM.out D hD).2).1 (fun e => HGM.out D hD (by injection e))).trans (HM.out D hD).2⟩)
        have hB5 : Below w.heap.size w w5 := hB.trans ⟨h2.os, h2.tape, h2.output, h2.size, fun k hk => h2.block k (by omega) (fun e => by cases e <;> omega)⟩
        clear h1 h3 h2 cv k1 hB
        go_wp2_with fail
        have hle' := once8_le d
        have hpos := once8_pos d (by rw [HDS.out]; exact List.length_pos_iff.2 hle)
        have hrow5 : w5.ownsRow w.heap.size 24 8 (.slice (some ⟨gl, 0, none⟩) (once8 d).length cap2) (once8 d).length (flatS ((once8 d).map ofS)) :=
          row_of_holds H1.out hc1 (by rw [hc2, hcs]) hmax (by omega) (outRow_once d).symm (by rw [outRow_size]; exact hle') (by rw [outRow_size, HDS.out]; exact hcap)
        refine leaves_marks w.heap.size Ds _ HND.out HM5.out (fun W3 hb hk => ⟨_, results_tmp2 rfl _ _ _, _, rfl, ?_, hB5.trans hb⟩)
        rw [HP3.out]
        refine ⟨?_, fun e => (by cases e), fun e => ?_⟩
        · rw [List.length_map]
          exact ownsRow_keep hrow5 fun k o hc ho => hk k o hc ho
        · have := congrArg List.length e
          simp at this
          rw [this] at hpos
          simp at hpos
end Go.Proofs.YtadkaplafaeebaaGreatDoor
