/-
  The law of places: both lists hold the same; the law's walk.
-/
import Derived.Test.YtadkaplafaeebaaGreatDoorPlaces
import Derived.Test.YtadkaplafaeebaaGreatDoorRPlac
import Derived.Test.YtadkaplafaeebaaGreatDoorCanonL
set_option linter.unusedVariables false
set_option linter.unusedSimpArgs false
set_option maxRecDepth 100000
namespace Go.Proofs.YtadkaplafaeebaaGreatDoor
open Go Go.RowKit Go.Shelf

theorem once_strict (l : List Sol) : Strict ((once8 (l.map toS).toArray).map ofS) := by
  unfold Strict
  refine List.pairwise_map.2 ((once8_strict _).imp fun {a b} h => ?_)
  rw [lt8_iff] at h
  exact of_decide_eq_true h
theorem mem_once {l : List Sol} {x : Sol} : x ∈ (once8 (l.map toS).toArray).map ofS ↔ ∃ y ∈ l, ofS (toS y) = x := by
  rw [List.mem_map]
  constructor
  · rintro ⟨z, hz, rfl⟩
    rw [once8_mem] at hz
    obtain ⟨y, hy, rfl⟩ := List.mem_map.1 (by simpa using hz)
    exact ⟨y, hy, rfl⟩
  · rintro ⟨y, hy, rfl⟩
    refine ⟨toS y, ?_, rfl⟩
    rw [once8_mem]
    simpa using ⟨y, hy, rfl⟩
theorem refT_mem (f : Sol) {x : Sol} : ∀ (L : List Sol) (l : List Sol), x ∈ L.foldl (fun l m => putAll l (refM f m)) l → x ∈ l ∨ ∃ m ∈ L, ∃ p ∈ refM f m, p.2 = x
  | [], l, h => .inl h
  | m :: L, l, h => by
    rcases refT_mem f L _ h with h | ⟨k, hk, p, hp, e⟩
    · rcases putAll_mem _ h with h | ⟨p, hp, e⟩
      · exact .inl h
      · exact .inr ⟨m, List.mem_cons_self, p, hp, e⟩
    · exact .inr ⟨k, List.mem_cons_of_mem _ hk, p, hp, e⟩
theorem fold_old (f : Sol) {x : Sol} : ∀ (L : List Sol) (l : List Sol), x ∈ l → x ∈ L.foldl (fun l m => putAll l (refM f m)) l
  | [], l, h => h
  | m :: L, l, h => fold_old f L _ (putAll_old _ h)
theorem fold_has (f : Sol) : ∀ (L : List Sol) (l : List Sol) (m : Sol), m ∈ L → ∀ p ∈ refM f m, ∃ y ∈ L.foldl (fun l m => putAll l (refM f m)) l, eqS y p.2 = true
  | [], l, m, h, _, _ => by cases h
  | k :: L, l, m, h, p, hp => by
    rcases List.mem_cons.1 h with rfl | h
    · obtain ⟨y, hy, e⟩ := putAll_has (refM f m) (l := l) hp
      exact ⟨y, fold_old f L _ hy, e⟩
    · exact fold_has f L _ m h p hp
theorem imgR_ok {g : Sol} (hg : Fit g) (hge : emptyS g = false) : ∀ m ∈ putN g 24, Fit m ∧ emptyS m = false ∧ lowX m = 0 ∧ lowY m = 0 ∧ lowZ m = 0 := fun m hm => by
  obtain ⟨u, _, rfl⟩ := putN_mem g 24 hm
  exact ⟨imgF_fit g u, imgF_ne hg hge u, imgF_low hg hge u⟩
theorem img_back {g k : Sol} (hk : k ∈ putN g 24) : ∃ m ∈ imgsF g, eqS k m = true := by
  have h := imgs_put g
  obtain ⟨h1, h2⟩ := h
  revert hk
  generalize putN g 24 = L at h1 h2
  intro hk
  obtain ⟨i, hi, e⟩ := mem_solAt hk
  rw [e]
  exact ⟨solAt (imgsF g) i, solAt_mem (by rw [h1]; exact hi), eqS_symm (h2 i)⟩
theorem img_forth {g m : Sol} (hm : m ∈ imgsF g) : ∃ k ∈ putN g 24, eqS m k = true := by
  have h := imgs_put g
  obtain ⟨h1, h2⟩ := h
  generalize putN g 24 = L at *
  obtain ⟨i, hi, e⟩ := mem_solAt hm
  rw [e]
  exact ⟨solAt L i, solAt_mem (by rw [← h1]; exact hi), h2 i⟩
/-- Both lists of places hold the same. -/
theorem places_same {f g : Sol} (hf : Fit f) (hg : Fit g) (hge : emptyS g = false) :
    (placesF f g).length = (refT f (putN g 24)).length ∧ ∀ i, eqS (solAt (placesF f g) i) (solAt (refT f (putN g 24)) i) = true := by
  refine strict_same _ _ (once_strict _) (refT_strict _ _) (fun x hx => ?_) fun y hy => ?_
  · obtain ⟨y, hy, rfl⟩ := mem_once.1 hx
    obtain ⟨m, hm, hy⟩ := List.mem_flatMap.1 hy
    obtain ⟨hmf, hme⟩ := imgs_ok hg hge hm
    have hp := (mem_placeM hf hmf hme).1 hy
    obtain ⟨k, hk, hek⟩ := img_forth hm
    obtain ⟨hkf, hke, hkl⟩ := imgR_ok hg hge k hk
    obtain ⟨y', hp', he'⟩ := placeP_congr hmf hkf hme hke hek hp
    obtain ⟨p, hp2, rfl⟩ := (mem_refM hkf hke hkl).2 hp'
    obtain ⟨z, hz, hze⟩ := fold_has f (putN g 24) [] k hk p hp2
    exact ⟨z, hz, eqS_trans (of_to y) (eqS_trans he' (eqS_symm hze))⟩
  · rcases refT_mem f (putN g 24) [] hy with h | ⟨k, hk, p, hp, rfl⟩
    · cases h
    · obtain ⟨hkf, hke, hkl⟩ := imgR_ok hg hge k hk
      have hpp : PlaceP f k p.2 := (mem_refM (y := p.2) hkf hke hkl).1 ⟨p, hp, rfl⟩
      obtain ⟨m, hm, hem⟩ := img_back hk
      obtain ⟨hmf, hme⟩ := imgs_ok hg hge hm
      obtain ⟨y', hp', he'⟩ := placeP_congr hkf hmf hke hme hem hpp
      refine ⟨ofS (toS y'), mem_once.2 ⟨y', List.mem_flatMap.2 ⟨m, hm, (mem_placeM hf hmf hme).2 hp'⟩, rfl⟩, eqS_trans he' (eqS_symm (of_to y'))⟩
theorem places_len {f : Sol} (hf : Fit f) (g : Sol) : (placesF f g).length ≤ 17496 := by
  unfold placesF
  rw [List.length_map]
  refine Nat.le_trans (once8_le _) ?_
  have h1 := placeL_len hf (imgsF g)
  have h2 := (imgs_len g).2
  simp only [List.size_toArray, List.length_map]
  omega
set_option maxRecDepth 100000 in
set_option maxHeartbeats 2000000 in
theorem places_no (f g : Sol) (w : World) (hge : emptyS g = true) :
    Calls Tryz.prog 59 #[sol f, sol g] w (RetB (.tuple #[.slice none 0 0, .int .i64 1]) w) := by
  have B0 : BoxS ((w.alloc (.cells (solC f) 24)).alloc (.cells (solC g) 24)) (w.heap.size + 1) g := BoxS.new' (by simp)
  have hB0 : Below w.heap.size w ((w.alloc (.cells (solC f) 24)).alloc (.cells (solC g) 24)) := by repeat' (first | (with_reducible exact Below.refl _ _) | (with_reducible assumption) | (with_reducible refine Below.alloc ?_ ?_ _) | (with_reducible refine Below.drew ?_) | (with_reducible refine below_drewN ?_ _) | (with_reducible refine Below.setCell ?_ ?_ _) | go_size)
  have HGE := Lib.hid hge
  clear hge
  refine (callsIn_wide (n := 7)).1 ?_
  refine callsIn_of_wp_marks Tryz.func59 rfl trivial ?_ rfl
  simp only [Tryz.ntmps59, List.size_toArray, List.length_cons, List.length_nil, Nat.reduceAdd, Nat.reduceSub, Array.replicate_succ, Array.replicate_zero, List.push_toArray, List.append_toArray, List.nil_append, List.cons_append]
  refine wpIn_wide.2 ?_
  have c0 := (B0).cell (k := 0) (by omega); have c1 := (B0).cell (k := 1) (by omega); have c2 := (B0).cell (k := 2) (by omega); have c3 := (B0).cell (k := 3) (by omega); have c4 := (B0).cell (k := 4) (by omega); have c5 := (B0).cell (k := 5) (by omega); have c6 := (B0).cell (k := 6) (by omega); have c7 := (B0).cell (k := 7) (by omega)
  go_wp2_with fail
  refine (isEmpty_is HGE.out _).mono ?_
  rintro e w1 ⟨rfl, hb1⟩
  have hB1 : Below w.heap.size w w1 := up hb1 hB0
  go_wp2_with fail
  exact leaves_marks w.heap.size [] _ List.nodup_nil (fun D hD => by cases hD) (fun W3 hb hk => ⟨_, results_tmp2 rfl _ _ _, rfl, hB1.trans hb⟩)
set_option maxRecDepth 100000 in
set_option maxHeartbeats 2000000 in
theorem rplaces_no (f g : Sol) (w : World) (hge : emptyS g = true) :
    Calls Tryz.prog 60 #[sol f, sol g] w (RetB (.tuple #[.slice none 0 0, .int .i64 1]) w) := by
  have B0 : BoxS ((w.alloc (.cells (solC f) 24)).alloc (.cells (solC g) 24)) (w.heap.size + 1) g := BoxS.new' (by simp)
  have hB0 : Below w.heap.size w ((w.alloc (.cells (solC f) 24)).alloc (.cells (solC g) 24)) := by repeat' (first | (with_reducible exact Below.refl _ _) | (with_reducible assumption) | (with_reducible refine Below.alloc ?_ ?_ _) | (with_reducible refine Below.drew ?_) | (with_reducible refine below_drewN ?_ _) | (with_reducible refine Below.setCell ?_ ?_ _) | go_size)
  have b0 := (B0).cell (k := 0) (by omega); have b1 := (B0).cell (k := 1) (by omega); have b2 := (B0).cell (k := 2) (by omega); have b3 := (B0).cell (k := 3) (by omega); have b4 := (B0).cell (k := 4) (by omega); have b5 := (B0).cell (k := 5) (by omega); have b6 := (B0).cell (k := 6) (by omega); have b7 := (B0).cell (k := 7) (by omega)
  go_enter Tryz.func60, Tryz.ntmps60
  go_wp2_with fail
  go_returns
  exact ⟨rfl, hB0⟩
set_option maxRecDepth 100000 in
set_option maxHeartbeats 4000000 in
theorem heavy_ok (f g : Sol) (hf : Fit f) (hg : Fit g) : ∃ b, ∀ w : World, Calls Tryz.prog 58 #[sol f, sol g] w (RetB (.bool b) w) := by
  have C1 := Lib.hid (fun (W : World) => rcount_ok f W hf)
  have C2 := Lib.hid (fun (W : World) => rcount_ok g W hg)
  have hN1 : numF f ≤ 512 := cellsL_len f
  have hN2 : numF g ≤ 512 := cellsL_len g
  obtain ⟨a, ha⟩ : ∃ a, a = numF f := ⟨_, rfl⟩
  obtain ⟨n, hn⟩ : ∃ n, n = numF g := ⟨_, rfl⟩
  rw [← ha] at C1 hN1
  rw [← hn] at C2 hN2
  clear ha hn hf hg
  have key : ∀ b, b = (decide (60 < n) || (decide (0 < n) && decide (n < 30) && decide (150 < a))) → ∀ w : World, Calls Tryz.prog 58 #[sol f, sol g] w (RetB (.bool b) w) := fun b hb w => by
    have HB := Lib.hid hb
    clear hb
    have A0 : BoxS ((w.alloc (.cells (solC f) 24)).alloc (.cells (solC g) 24)) w.heap.size f := (BoxS.new _ _).alloc _
    have B0 : BoxS ((w.alloc (.cells (solC f) 24)).alloc (.cells (solC g) 24)) (w.heap.size + 1) g := BoxS.new' (by simp)
    have hB0 : Below w.heap.size w ((w.alloc (.cells (solC f) 24)).alloc (.cells (solC g) 24)) := by repeat' (first | (with_reducible exact Below.refl _ _) | (with_reducible assumption) | (with_reducible refine Below.alloc ?_ ?_ _) | (with_reducible refine Below.drew ?_) | (with_reducible refine below_drewN ?_ _) | (with_reducible refine Below.setCell ?_ ?_ _) | go_size)
    have b0 := (B0).cell (k := 0) (by omega); have b1 := (B0).cell (k := 1) (by omega); have b2 := (B0).cell (k := 2) (by omega); have b3 := (B0).cell (k := 3) (by omega); have b4 := (B0).cell (k := 4) (by omega); have b5 := (B0).cell (k := 5) (by omega); have b6 := (B0).cell (k := 6) (by omega); have b7 := (B0).cell (k := 7) (by omega)
    go_enter Tryz.func58, Tryz.ntmps58
    go_wp2_with fail
    refine (C2.out _).mono ?_
    rintro e w1 ⟨rfl, b1'⟩
    have A1 := A0.below b1' A0.lt
    have hB1 : Below w.heap.size w w1 := up b1' hB0
    clear b0 b1 b2 b3 b4 b5 b6 b7 A0 B0 hB0 b1' C2
    have D1 : decide ((60 : Int) < (n : Int)) = decide (60 < n) := decide_eq_decide.2 (by omega)
    have D2 : decide ((0 : Int) < (n : Int)) = decide (0 < n) := decide_eq_decide.2 (by omega)
    have D3 : decide ((n : Int) < 30) = decide (n < 30) := decide_eq_decide.2 (by omega)
    have D4 : decide ((150 : Int) < (a : Int)) = decide (150 < a) := decide_eq_decide.2 (by omega)
    cases h1 : decide (60 < n) with
    | true =>
      rw [h1] at D1
      go_wp2_with fail
      go_ret
      exact ⟨by rw [HB.out, h1]; rfl, hB1⟩
    | false =>
      rw [h1] at D1
      cases h2 : decide (0 < n) with
      | false =>
        rw [h2] at D2
        go_wp2_with fail
        go_ret
        exact ⟨by rw [HB.out, h1, h2]; rfl, hB1⟩
      | true =>
        rw [h2] at D2
        cases h3 : decide (n < 30) with
        | false =>
          rw [h3] at D3
          go_wp2_with fail
          go_ret
          exact ⟨by rw [HB.out, h1, h2, h3]; rfl, hB1⟩
        | true =>
          rw [h3] at D3
          cases h4 : decide (150 < a)
          all_goals
            rw [h4] at D4
            have a0 := (A1).cell (k := 0) (by omega); have a1 := (A1).cell (k := 1) (by omega); have a2 := (A1).cell (k := 2) (by omega); have a3 := (A1).cell (k := 3) (by omega); have a4 := (A1).cell (k := 4) (by omega); have a5 := (A1).cell (k := 5) (by omega); have a6 := (A1).cell (k := 6) (by omega); have a7 := (A1).cell (k := 7) (by omega)
            go_wp2_with fail
            refine (C1.out _).mono ?_
            rintro e w2 ⟨rfl, b2'⟩
            go_wp2_with fail
            go_ret
            exact ⟨by rw [HB.out, h1, h2, h3, h4]; rfl, up b2' hB1⟩
  exact ⟨_, key _ rfl⟩
theorem same_rows {lp lq : List Sol} (h : lp.length = lq.length ∧ ∀ i, eqS (solAt lp i) (solAt lq i) = true) (i : Nat) (x y : Sol) (hx : lp[i]? = some x) (hy : lq[i]? = some y) : eqS x y = true := by
  rw [get_solAt hx, get_solAt hy]
  exact h.2 i
set_option maxRecDepth 100000 in
set_option maxHeartbeats 4000000 in
theorem placl_core (f g : Sol) (P Q : List Sol) (er : Int) (hv : Bool) (w : World) (hT : Tab64 w)
    (HH : Hid (∀ w : World, Calls Tryz.prog 58 #[sol f, sol g] w (RetB (.bool hv) w)))
    (H1 : Hid (∀ W : World, Tab64 W → Calls Tryz.prog 59 #[sol f, sol g] W fun e w' => ∃ v, e = .returned (.tuple #[v, .int .i64 er]) ∧ (∃ b, w'.ownsRow b 24 8 v P.length (flatS P)) ∧ Below W.heap.size W w'))
    (H2 : Hid (∀ W : World, Calls Tryz.prog 60 #[sol f, sol g] W fun e w' => ∃ v, e = .returned (.tuple #[v, .int .i64 er]) ∧ (∃ b, w'.ownsRow b 24 8 v Q.length (flatS Q)) ∧ Below W.heap.size W w'))
    (HPQ : Hid (P.length = Q.length ∧ ∀ i, eqS (solAt P i) (solAt Q i) = true)) (HPL : Hid (P.length ≤ 20000))
    (HC : Hid (∀ W, Tab64 W → Calls Tryz.prog 20 #[] W (RetB (.bool true) W))) :
    Calls Tryz.prog 8 #[sol f, sol g] w (RetB (.bool true) w) := by
  have HT := Lib.hid hT
  have hee : (er == er) = true := by simp
  clear hT
  have A_0 : BoxS ((w.alloc (.cells (solC f) 24)).alloc (.cells (solC g) 24)) w.heap.size f := ((BoxS.new _ _).alloc _)
  have B_0 : BoxS ((w.alloc (.cells (solC f) 24)).alloc (.cells (solC g) 24)) (w.heap.size + 1) g := (BoxS.new' (by simp))
  have hB0 : Below w.heap.size w ((w.alloc (.cells (solC f) 24)).alloc (.cells (solC g) 24)) := by repeat' (first | (with_reducible exact Below.refl _ _) | (with_reducible assumption) | (with_reducible refine Below.alloc ?_ ?_ _) | (with_reducible refine Below.drew ?_) | (with_reducible refine below_drewN ?_ _) | (with_reducible refine Below.setCell ?_ ?_ _) | go_size)
  go_enter Tryz.func8, Tryz.ntmps8
  have cA0 := (A_0).cell (k := 0) (by omega); have cA1 := (A_0).cell (k := 1) (by omega); have cA2 := (A_0).cell (k := 2) (by omega); have cA3 := (A_0).cell (k := 3) (by omega); have cA4 := (A_0).cell (k := 4) (by omega); have cA5 := (A_0).cell (k := 5) (by omega); have cA6 := (A_0).cell (k := 6) (by omega); have cA7 := (A_0).cell (k := 7) (by omega)
  have cB0 := (B_0).cell (k := 0) (by omega); have cB1 := (B_0).cell (k := 1) (by omega); have cB2 := (B_0).cell (k := 2) (by omega); have cB3 := (B_0).cell (k := 3) (by omega); have cB4 := (B_0).cell (k := 4) (by omega); have cB5 := (B_0).cell (k := 5) (by omega); have cB6 := (B_0).cell (k := 6) (by omega); have cB7 := (B_0).cell (k := 7) (by omega)
  go_wp2_with fail
  clear cA0 cA1 cA2 cA3 cA4 cA5 cA6 cA7 cB0 cB1 cB2 cB3 cB4 cB5 cB6 cB7
  refine (HH.out _).mono ?_
  rintro e w1 ⟨rfl, b1⟩
  have A_1 := A_0.below b1 A_0.lt
  have B_1 := B_0.below b1 B_0.lt
  have hB1 : Below w.heap.size w w1 := up b1 hB0
  clear A_0 B_0 hB0 b1
  cases hv with
  | true =>
    go_wp2_with fail
    refine (HC.out _ (HT.out.below hB1 (Nat.le_refl _))).mono ?_
    rintro e w2 ⟨rfl, b2⟩
    go_wp2_with fail
    go_ret
    exact ⟨rfl, up b2 hB1⟩
  | false =>
    have cA0 := (A_1).cell (k := 0) (by omega); have cA1 := (A_1).cell (k := 1) (by omega); have cA2 := (A_1).cell (k := 2) (by omega); have cA3 := (A_1).cell (k := 3) (by omega); have cA4 := (A_1).cell (k := 4) (by omega); have cA5 := (A_1).cell (k := 5) (by omega); have cA6 := (A_1).cell (k := 6) (by omega); have cA7 := (A_1).cell (k := 7) (by omega)
    have cB0 := (B_1).cell (k := 0) (by omega); have cB1 := (B_1).cell (k := 1) (by omega); have cB2 := (B_1).cell (k := 2) (by omega); have cB3 := (B_1).cell (k := 3) (by omega); have cB4 := (B_1).cell (k := 4) (by omega); have cB5 := (B_1).cell (k := 5) (by omega); have cB6 := (B_1).cell (k := 6) (by omega); have cB7 := (B_1).cell (k := 7) (by omega)
    go_wp2_with fail
    clear cA0 cA1 cA2 cA3 cA4 cA5 cA6 cA7 cB0 cB1 cB2 cB3 cB4 cB5 cB6 cB7
    refine (H1.out _ (HT.out.below hB1 (Nat.le_refl _))).mono ?_
    rintro e w2 ⟨v1, rfl, ⟨r1, ho1⟩, b2⟩
    have A_2 := A_1.below b2 A_1.lt
    have B_2 := B_1.below b2 B_1.lt
    have hB2 : Below w.heap.size w w2 := up b2 hB1
    clear A_1 B_1 hB1 b2
    have cA0 := (A_2).cell (k := 0) (by omega); have cA1 := (A_2).cell (k := 1) (by omega); have cA2 := (A_2).cell (k := 2) (by omega); have cA3 := (A_2).cell (k := 3) (by omega); have cA4 := (A_2).cell (k := 4) (by omega); have cA5 := (A_2).cell (k := 5) (by omega); have cA6 := (A_2).cell (k := 6) (by omega); have cA7 := (A_2).cell (k := 7) (by omega)
    have cB0 := (B_2).cell (k := 0) (by omega); have cB1 := (B_2).cell (k := 1) (by omega); have cB2 := (B_2).cell (k := 2) (by omega); have cB3 := (B_2).cell (k := 3) (by omega); have cB4 := (B_2).cell (k := 4) (by omega); have cB5 := (B_2).cell (k := 5) (by omega); have cB6 := (B_2).cell (k := 6) (by omega); have cB7 := (B_2).cell (k := 7) (by omega)
    go_wp2_with fail
    clear cA0 cA1 cA2 cA3 cA4 cA5 cA6 cA7 cB0 cB1 cB2 cB3 cB4 cB5 cB6 cB7
    refine (H2.out _).mono ?_
    rintro e w3 ⟨v2, rfl, ⟨r2, ho2⟩, b3⟩
    have ho1 := row_below ho1 b3
    have A_3 := A_2.below b3 A_2.lt
    have B_3 := B_2.below b3 B_2.lt
    have hB3 : Below w.heap.size w w3 := up b3 hB2
    clear A_2 B_2 hB2 b3
    go_wp2_with fail
    refine (HC.out _ (HT.out.below hB3 (Nat.le_refl _))).mono ?_
    rintro e w4 ⟨rfl, b4⟩
    have ho3 := row_below ho1 b4
    have ho4 := row_below ho2 b4
    have hB4 := up b4 hB3
    go_wp2_with fail
    refine (sameSolids_ok P Q _ _ _ _ _ ho3 ho4 HPQ.out.1 (same_rows HPQ.out) HPL.out).mono ?_
    rintro e w5 ⟨rfl, b5⟩
    go_wp2_with fail
    go_ret
    exact ⟨rfl, up b5 hB4⟩
theorem placl_of (f g : Sol) (hf : Fit f) (hg : Fit g) (w : World) (hT : Tab64 w) :
    Calls Tryz.prog 8 #[sol f, sol g] w (RetB (.bool true) w) := by
  have HC : Hid (∀ W, Tab64 W → Calls Tryz.prog 20 #[] W (RetB (.bool true) W)) := Lib.hid fun W hW => carved_of ev_cav W hW
  obtain ⟨hv, hh⟩ := heavy_ok f g hf hg
  cases hge : emptyS g with
  | true =>
    exact placl_core f g [] [] 1 hv w hT (Lib.hid hh) (Lib.hid fun W hW => (places_no f g W hge).mono fun e w' ⟨h, hb⟩ => ⟨_, h, ⟨0, World.ownsRow_nil _ _ _ _⟩, hb⟩)
      (Lib.hid fun W => (rplaces_no f g W hge).mono fun e w' ⟨h, hb⟩ => ⟨_, h, ⟨0, World.ownsRow_nil _ _ _ _⟩, hb⟩) (Lib.hid ⟨rfl, fun i => decide_eq_true ⟨rfl, rfl, rfl, rfl, rfl, rfl, rfl, rfl⟩⟩) (Lib.hid (by simp)) HC
  | false =>
    have hln := places_len hf g
    exact placl_core f g (placesF f g) (refT f (putN g 24)) 0 hv w hT (Lib.hid hh) (Lib.hid fun W hW => (places_any f g W hf hg hge hW).mono fun e w' ⟨v, h, ho, hb⟩ => ⟨v, h, ⟨_, ho.1⟩, hb⟩)
      (Lib.hid fun W => (rplaces_core f g (putN g 24) W hf hge (Lib.hid fun X => rimages_ok g X hg) (Lib.hid (imgR_ok hg hge)) (putN_pos g) (putN_len g 24)).mono fun e w' ⟨v, h, ho, hb⟩ => ⟨v, h, ⟨_, ho.1⟩, hb⟩)
      (Lib.hid (places_same hf hg hge)) (Lib.hid (by omega)) HC
end Go.Proofs.YtadkaplafaeebaaGreatDoor
