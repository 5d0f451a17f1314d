/-
  The law of places: both lists hold the same; the law's walk.
-/
import Derived.Test.YtadkaplafaeebaaGreatDoorPlacesQ
import Derived.Test.YtadkaplafaeebaaGreatDoorRPlacQ
import Derived.Test.YtadkaplafaeebaaGreatDoorCanonLQ
set_option linter.unusedVariables false
set_option linter.unusedSimpArgs false
set_option maxRecDepth 100000
namespace Go.Proofs.YtadkaplafaeebaaGreatDoor
open Go Go.RowKit Go.Shelf

theorem once_strict (l : List Sol) : Strict ((once8 (l.map toS).toArray).map ofS) := by
  unfold Strict
  refine List.pairwise_map.2 ((once8_strict _).imp fun {a b} h => ?_)
  rw [lt8_iff] at h
  exact of_decide_eq_true h
theorem mem_once {l : List Sol} {x : Sol} : x ∈ (once8 (l.map toS).toArray).map ofS ↔ ∃ y ∈ l, ofS (toS y) = x := by
  rw [List.mem_map]
  constructor
  · rintro ⟨z, hz, rfl⟩
    rw [once8_mem] at hz
    obtain ⟨y, hy, rfl⟩ := List.mem_map.1 (by simpa using hz)
    exact ⟨y, hy, rfl⟩
  · rintro ⟨y, hy, rfl⟩
    refine ⟨toS y, ?_, rfl⟩
    rw [once8_mem]
    simpa using ⟨y, hy, rfl⟩
theorem imgR_ok {g : Sol} (hg : Fit g) (hge : emptyS g = false) : ∀ m ∈ putN g 24, Fit m ∧ emptyS m = false ∧ lowX m = 0 ∧ lowY m = 0 ∧ lowZ m = 0 := fun m hm => by
  obtain ⟨u, _, rfl⟩ := putN_mem g 24 hm
  exact ⟨imgF_fit g u, imgF_ne hg hge u, imgF_low hg hge u⟩
theorem img_back {g k : Sol} (hk : k ∈ putN g 24) : ∃ m ∈ imgsF g, eqS k m = true := by
  have h := imgs_put g
  obtain ⟨h1, h2⟩ := h
  revert hk
  generalize putN g 24 = L at h1 h2
  intro hk
  obtain ⟨i, hi, e⟩ := mem_solAt hk
  rw [e]
  exact ⟨solAt (imgsF g) i, solAt_mem (by rw [h1]; exact hi), eqS_symm (h2 i)⟩
theorem img_forth {g m : Sol} (hm : m ∈ imgsF g) : ∃ k ∈ putN g 24, eqS m k = true := by
  have h := imgs_put g
  obtain ⟨h1, h2⟩ := h
  generalize putN g 24 = L at *
  obtain ⟨i, hi, e⟩ := mem_solAt hm
  rw [e]
  exact ⟨solAt L i, solAt_mem (by rw [← h1]; exact hi), h2 i⟩
theorem places_len {f : Sol} (hf : Fit f) (g : Sol) : (placesF f g).length ≤ 17496 := by
  unfold placesF
  rw [List.length_map]
  refine Nat.le_trans (once8_le _) ?_
  have h1 := placeL_len hf (imgsF g)
  have h2 := (imgs_len g).2
  simp only [List.size_toArray, List.length_map]
  omega
set_option maxRecDepth 100000 in
set_option maxHeartbeats 2000000 in
theorem places_no (f g : Sol) (w : World) (hge : emptyS g = true) :
    Calls Tryz.prog 59 #[sol f, sol g] w (RetB (.tuple #[.slice none 0 0, .int .i64 1]) w) := by
  have B0 : BoxS ((w.alloc (.cells (solC f) 24)).alloc (.cells (solC g) 24)) (w.heap.size + 1) g := BoxS.new' (by simp)
  have hB0 : Below w.heap.size w ((w.alloc (.cells (solC f) 24)).alloc (.cells (solC g) 24)) := by repeat' (first | (with_reducible exact Below.refl _ _) | (with_reducible assumption) | (with_reducible refine Below.alloc ?_ ?_ _) | (with_reducible refine Below.drew ?_) | (with_reducible refine below_drewN ?_ _) | (with_reducible refine Below.setCell ?_ ?_ _) | go_size)
  have HGE := Lib.hid hge
  clear hge
  refine (callsIn_wide (n := 7)).1 ?_
  refine callsIn_of_wp_marks Tryz.func59 rfl trivial ?_ rfl
  simp only [Tryz.ntmps59, List.size_toArray, List.length_cons, List.length_nil, Nat.reduceAdd, Nat.reduceSub, Array.replicate_succ, Array.replicate_zero, List.push_toArray, List.append_toArray, List.nil_append, List.cons_append]
  refine wpIn_wide.2 ?_
  have c0 := (B0).cell (k := 0) (by omega); have c1 := (B0).cell (k := 1) (by omega); have c2 := (B0).cell (k := 2) (by omega); have c3 := (B0).cell (k := 3) (by omega); have c4 := (B0).cell (k := 4) (by omega); have c5 := (B0).cell (k := 5) (by omega); have c6 := (B0).cell (k := 6) (by omega); have c7 := (B0).cell (k := 7) (by omega)
  go_wp2_with fail
  refine (isEmpty_is HGE.out _).mono ?_
  rintro e w1 ⟨rfl, hb1⟩
  have hB1 : Below w.heap.size w w1 := up hb1 hB0
  go_wp2_with fail
  exact leaves_marks w.heap.size [] _ List.nodup_nil (fun D hD => by cases hD) (fun W3 hb hk => ⟨_, results_tmp2 rfl _ _ _, rfl, hB1.trans hb⟩)
set_option maxRecDepth 100000 in
set_option maxHeartbeats 4000000 in
theorem heavy_ok (f g : Sol) (hf : Fit f) (hg : Fit g) : ∃ b, ∀ w : World, Calls Tryz.prog 58 #[sol f, sol g] w (RetB (.bool b) w) := by
  have C1 := Lib.hid (fun (W : World) => rcount_ok f W hf)
  have C2 := Lib.hid (fun (W : World) => rcount_ok g W hg)
  have hN1 : numF f ≤ 512 := cellsL_len f
  have hN2 : numF g ≤ 512 := cellsL_len g
  obtain ⟨a, ha⟩ : ∃ a, a = numF f := ⟨_, rfl⟩
  obtain ⟨n, hn⟩ : ∃ n, n = numF g := ⟨_, rfl⟩
  rw [← ha] at C1 hN1
  rw [← hn] at C2 hN2
  clear ha hn hf hg
  have key : ∀ b, b = (decide (60 < n) || (decide (0 < n) && decide (n < 30) && decide (150 < a))) → ∀ w : World, Calls Tryz.prog 58 #[sol f, sol g] w (RetB (.bool b) w) := fun b hb w => by
    have HB := Lib.hid hb
    clear hb
    have A0 : BoxS ((w.alloc (.cells (solC f) 24)).alloc (.cells (solC g) 24)) w.heap.size f := (BoxS.new _ _).alloc _
    have B0 : BoxS ((w.alloc (.cells (solC f) 24)).alloc (.cells (solC g) 24)) (w.heap.size + 1) g := BoxS.new' (by simp)
    have hB0 : Below w.heap.size w ((w.alloc (.cells (solC f) 24)).alloc (.cells (solC g) 24)) := by repeat' (first | (with_reducible exact Below.refl _ _) | (with_reducible assumption) | (with_reducible refine Below.alloc ?_ ?_ _) | (with_reducible refine Below.drew ?_) | (with_reducible refine below_drewN ?_ _) | (with_reducible refine Below.setCell ?_ ?_ _) | go_size)
    have b0 := (B0).cell (k := 0) (by omega); have b1 := (B0).cell (k := 1) (by omega); have b2 := (B0).cell (k := 2) (by omega); have b3 := (B0).cell (k := 3) (by omega); have b4 := (B0).cell (k := 4) (by omega); have b5 := (B0).cell (k := 5) (by omega); have b6 := (B0).cell (k := 6) (by omega); have b7 := (B0).cell (k := 7) (by omega)
    go_enter Tryz.func58, Tryz.ntmps58
    go_wp2_with fail
    refine (C2.out _).mono ?_
    rintro e w1 ⟨rfl, b1'⟩
    have A1 := A0.below b1' A0.lt
    have hB1 : Below w.heap.size w w1 := up b1' hB0
    clear b0 b1 b2 b3 b4 b5 b6 b7 A0 B0 hB0 b1' C2
    have D1 : decide ((60 : Int) < (n : Int)) = decide (60 < n) := decide_eq_decide.2 (by omega)
    have D2 : decide ((0 : Int) < (n : Int)) = decide (0 < n) := decide_eq_decide.2 (by omega)
    have D3 : decide ((n : Int) < 30) = decide (n < 30) := decide_eq_decide.2 (by omega)
    have D4 : decide ((150 : Int) < (a : Int)) = decide (150 < a) := decide_eq_decide.2 (by omega)
    cases h1 : decide (60 < n) with
    | true =>
      rw [h1] at D1
      go_wp2_with fail
      go_ret
      exact ⟨by rw [HB.out, h1]; rfl, hB1⟩
    | false =>
      rw [h1] at D1
      cases h2 : decide (0 < n) with
      | false =>
        rw [h2] at D2
        go_wp2_with fail
        go_ret
        exact ⟨by rw [HB.out, h1, h2]; rfl, hB1⟩
      | true =>
        rw [h2] at D2
        cases h3 : decide (n < 30) with
        | false =>
          rw [h3] at D3
          go_wp2_with fail
          go_ret
          exact ⟨by rw [HB.out, h1, h2, h3]; rfl, hB1⟩
        | true =>
          rw [h3] at D3
          cases h4 : decide (150 < a)
          all_goals
            rw [h4] at D4
            have a0 := (A1).cell (k := 0) (by omega); have a1 := (A1).cell (k := 1) (by omega); have a2 := (A1).cell (k := 2) (by omega); have a3 := (A1).cell (k := 3) (by omega); have a4 := (A1).cell (k := 4) (by omega); have a5 := (A1).cell (k := 5) (by omega); have a6 := (A1).cell (k := 6) (by omega); have a7 := (A1).cell (k := 7) (by omega)
            go_wp2_with fail
            refine (C1.out _).mono ?_
            rintro e w2 ⟨rfl, b2'⟩
            go_wp2_with fail
            go_ret
            exact ⟨by rw [HB.out, h1, h2, h3, h4]; rfl, up b2' hB1⟩
  exact ⟨_, key _ rfl⟩
end Go.Proofs.YtadkaplafaeebaaGreatDoor
