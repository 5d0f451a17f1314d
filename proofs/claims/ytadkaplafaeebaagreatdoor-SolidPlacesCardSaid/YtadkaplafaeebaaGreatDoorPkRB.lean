/-
  The reference's Turned.
-/
import Derived.Test.YtadkaplafaeebaaGreatDoorPkRA
import Derived.Test.YtadkaplafaeebaaGreatDoorPkF
import Derived.Test.YtadkaplafaeebaaGreatDoorPkYM
import Derived.Deep.Cut
set_option linter.unusedVariables false
set_option linter.unusedSimpArgs false
namespace Go.Proofs.YtadkaplafaeebaaGreatDoor
open Go Go.RowKit Go.Shelf

theorem rturnedC_ok (t : Nat) (c : Cl) (w : World) (ht : t < 24) :
    Calls Tryz.prog 101 #[cell c, .int .i64 t] w fun e w' => e = .returned (cell (turnC t c)) ∧ Below w.heap.size w w' := by
  have h := rturned_ok t (toI c) w ht (in7_sf (toI_in7 c))
  have e : cell (turnC t c) = encI (turnI 7 t (toI c)) := by
    have h7 := turnI_in7 (toI_in7 c) t
    unfold cell turnC
    rw [ofI_x h7, ofI_y h7, ofI_z h7]
  rw [e]
  exact h
theorem flatC_get : ∀ (l : List Cl) (i j : Nat) (c : Cl) (u : Value), l[i]? = some c → (celL c)[j]? = some u → (flatC l)[3 * i + j]? = some u
  | [], i, j, c, u, h, _ => by simp at h
  | a :: l, 0, j, c, u, h, hu => by
    have e : a = c := by simpa using h
    subst e
    have hj : j < 3 := by
      rcases Nat.lt_or_ge j 3 with h | h
      · exact h
      · rw [List.getElem?_eq_none (by simpa [celL] using h)] at hu
        cases hu
    show (celL a ++ flatC l)[3 * 0 + j]? = some u
    rw [List.getElem?_append_left (by simp [celL]; omega), show 3 * 0 + j = j by omega]
    exact hu
  | a :: l, i + 1, j, c, u, h, hu => by
    show (celL a ++ flatC l)[3 * (i + 1) + j]? = some u
    rw [List.getElem?_append_right (by simp [celL]; omega), show 3 * (i + 1) + j - (celL a).length = 3 * i + j by simp [celL]; omega]
    exact flatC_get l i j c u (by simpa using h) hu
theorem cell_same {W W' : World} {g : Nat} (h : W'.heap[g]? = W.heap[g]?) (k : Nat) : W'.cell? ⟨g, k, none⟩ = W.cell? ⟨g, k, none⟩ := by
  simp only [World.cell?, h]
theorem heap_put8 (W : World) {B g : Nat} (f : Sol) (h : g ≠ B) : (put8 W B f).heap[g]? = W.heap[g]? :=
  ((Below.heap_setCell _ ⟨B, 7, none⟩ _ g h).trans ((Below.heap_setCell _ ⟨B, 6, none⟩ _ g h).trans ((Below.heap_setCell _ ⟨B, 5, none⟩ _ g h).trans ((Below.heap_setCell _ ⟨B, 4, none⟩ _ g h).trans ((Below.heap_setCell _ ⟨B, 3, none⟩ _ g h).trans ((Below.heap_setCell _ ⟨B, 2, none⟩ _ g h).trans ((Below.heap_setCell _ ⟨B, 1, none⟩ _ g h).trans (Below.heap_setCell _ ⟨B, 0, none⟩ _ g h))))))))
/-- A row of cells that a callee has laid: what its slice points to. -/
theorem rowC_at {W : World} {b d : Nat} {v : Value} {l : List Cl} (h : W.ownsRow b 26 3 v l.length (flatC l)) (hd : d < W.heap.size) (hdb : d < b) :
    ∃ p cap g, v = .slice p l.length cap ∧ (0 < l.length → p = some ⟨g, 0, none⟩) ∧ g < W.heap.size ∧ (g = d ∨ b ≤ g) ∧ ∀ k c, l[k]? = some c → W.cell? ⟨g, k * 3, none⟩ = some (.int .i64 (cX c : Nat)) ∧ W.cell? ⟨g, k * 3 + 1, none⟩ = some (.int .i64 (cY c : Nat)) ∧ W.cell? ⟨g, k * 3 + 2, none⟩ = some (.int .i64 (cZ c : Nat)) := by
  rcases h.2 with ⟨e1, e2⟩ | ⟨g, cap, cur, e1, e0, e3, _⟩
  · refine ⟨none, 0, d, by rw [e1, e2], fun h => by omega, hd, .inl rfl, fun k c hk => ?_⟩
    have : k < l.length := (List.getElem?_eq_some_iff.1 hk).1
    omega
  · refine ⟨some ⟨g, 0, none⟩, cap, g, e1, fun _ => rfl, (Array.getElem?_eq_some_iff.1 e3).1, .inr (h.lt g (by rw [e1]; rfl)).1, fun k c hk => ?_⟩
    have key : ∀ j u, (celL c)[j]? = some u → W.cell? ⟨g, k * 3 + j, none⟩ = some u := fun j u hu => by
      have h1 := h.cells (g := g) (by rw [e1]; rfl) (3 * k + j) _ (flatC_get l k j c u hk hu)
      rw [addr_add, Nat.mul_comm 3 k] at h1
      exact h1
    exact ⟨key 0 _ rfl, key 1 _ rfl, key 2 _ rfl⟩
set_option maxRecDepth 100000 in
set_option maxHeartbeats 4000000 in
theorem rTurned_yes (f : Sol) (t : Nat) (w : World) (hf : Fit f) (ht : t < 24) :
    Calls Tryz.prog 43 #[sol f, .int .i64 t] w fun e w' => e = .returned (.tuple #[sol (turnedF f t), .int .i64 0]) ∧ Below w.heap.size w w' := by
  have d1 : decide ((t : Int) < 0) = false := decide_eq_false (by omega)
  have d2 : decide ((23 : Int) < (t : Int)) = false := decide_eq_false (by omega)
  have HF := Lib.hid hf
  clear hf
  go_enter Tryz.func43, Tryz.ntmps43
  go_wp2_with fail
  have bS0 : BoxS (((w.alloc (.cells (solC f) 24)).alloc (.cells #[.int .u64 0, .int .u64 0, .int .u64 0, .int .u64 0, .int .u64 0, .int .u64 0, .int .u64 0, .int .u64 0] 24)).alloc (.cells #[.int .u64 0, .int .u64 0, .int .u64 0, .int .u64 0, .int .u64 0, .int .u64 0, .int .u64 0, .int .u64 0] 24)) w.heap.size f := ((BoxS.new w f).alloc _).alloc _
  have bR0 : BoxS (((w.alloc (.cells (solC f) 24)).alloc (.cells #[.int .u64 0, .int .u64 0, .int .u64 0, .int .u64 0, .int .u64 0, .int .u64 0, .int .u64 0, .int .u64 0] 24)).alloc (.cells #[.int .u64 0, .int .u64 0, .int .u64 0, .int .u64 0, .int .u64 0, .int .u64 0, .int .u64 0, .int .u64 0] 24)) (w.heap.size + 1) (fun _ => 0) := (BoxS.zero (by simp)).alloc _
  have bO0 : BoxS (((w.alloc (.cells (solC f) 24)).alloc (.cells #[.int .u64 0, .int .u64 0, .int .u64 0, .int .u64 0, .int .u64 0, .int .u64 0, .int .u64 0, .int .u64 0] 24)).alloc (.cells #[.int .u64 0, .int .u64 0, .int .u64 0, .int .u64 0, .int .u64 0, .int .u64 0, .int .u64 0, .int .u64 0] 24)) (w.heap.size + 1 + 1) (fun _ => 0) := BoxS.zero (by simp)
  have hB0 : Below w.heap.size w (((w.alloc (.cells (solC f) 24)).alloc (.cells #[.int .u64 0, .int .u64 0, .int .u64 0, .int .u64 0, .int .u64 0, .int .u64 0, .int .u64 0, .int .u64 0] 24)).alloc (.cells #[.int .u64 0, .int .u64 0, .int .u64 0, .int .u64 0, .int .u64 0, .int .u64 0, .int .u64 0, .int .u64 0] 24)) := by repeat' (first | (with_reducible exact Below.refl _ _) | (with_reducible assumption) | (with_reducible refine Below.alloc ?_ ?_ _) | (with_reducible refine Below.drew ?_) | (with_reducible refine below_drewN ?_ _) | (with_reducible refine Below.setCell ?_ ?_ _) | go_size)
  refine (rcells_ok f _ HF.out).mono ?_
  rintro e w1 ⟨v, rfl, hrow, _, hb1⟩
  have bR1 := bR0.below hb1 bR0.lt
  have bO1 := bO0.below hb1 bO0.lt
  have bS1 := bS0.below hb1 bS0.lt
  have hB1 : Below w.heap.size w w1 := up hb1 hB0
  obtain ⟨p, cap, g, rfl, hp, hg, hgd, hcs⟩ := rowC_at (d := w.heap.size) hrow bS1.lt (by simp; omega)
  have hgne : g ≠ w.heap.size + 1 + 1 := by
    rcases hgd with h | h
    · omega
    · simp at h; omega
  have hlen := cellsL_len f
  have HCS := Lib.hid hcs
  clear bS0 bR0 bO0 hB0 hb1 hrow hgd hcs bS1
  go_wp2_with fail
  go_loopw [8] (fun c wr => ∃ i : Nat, i ≤ (cellsL f).length ∧ c = .int .i64 i ∧ BoxS wr (w.heap.size + 1) (fun _ => 0) ∧ BoxS wr (w.heap.size + 1 + 1) (solOf (((cellsL f).take i).map (turnC t))) ∧ wr.heap[g]? = w1.heap[g]? ∧ Below w.heap.size w wr) (fun c _ => (cellsL f).length - (intOf c).toNat)
  case atStart => exact ⟨0, by omega, rfl, bR1, bO1, rfl, hB1⟩
  case round =>
    clear bR1 bO1 hB1
    obtain ⟨i, hi, rfl, bR, bO, hG, hB⟩ := hrel
    by_cases hlt : i < (cellsL f).length
    · have hd : decide ((i : Int) < ((cellsL f).length : Int)) = true := decide_eq_true (by omega)
      have hci : (cellsL f)[i]? = some (cellsL f)[i] := List.getElem?_eq_getElem hlt
      obtain ⟨c, hc⟩ : ∃ c, c = (cellsL f)[i] := ⟨_, rfl⟩
      rw [← hc] at hci
      clear hc
      obtain ⟨k0, k1, k2⟩ := HCS.out i c hci
      have k0 := (cell_same hG (i * 3)).trans k0
      have k1 := (cell_same hG (i * 3 + 1)).trans k1
      have k2 := (cell_same hG (i * 3 + 2)).trans k2
      have hpp := hp (by omega)
      have hgl : g < wr.heap.size := by
        have : wr.heap[g]? ≠ none := by rw [hG]; simp [hg]
        exact Nat.lt_of_not_le fun h => this (Array.getElem?_eq_none h)
      have lO := bO.lt
      have lR := bR.lt
      have HTK := Lib.hid (show solOf (((cellsL f).take (i + 1)).map (turnC t)) = setC (solOf (((cellsL f).take i).map (turnC t))) (turnC t c) by rw [List.take_add_one, hci]; simp only [Option.toList_some, List.map_append, List.map_cons, List.map_nil]; exact solOf_snoc _ _)
      have HFI := Lib.hid (solOf_fit (((cellsL f).take i).map (turnC t)))
      generalize solOf (((cellsL f).take i).map (turnC t)) = h at *
      subst hpp
      clear hci
      have o0 := (bO).cell (k := 0) (by omega); have o1 := (bO).cell (k := 1) (by omega); have o2 := (bO).cell (k := 2) (by omega); have o3 := (bO).cell (k := 3) (by omega); have o4 := (bO).cell (k := 4) (by omega); have o5 := (bO).cell (k := 5) (by omega); have o6 := (bO).cell (k := 6) (by omega); have o7 := (bO).cell (k := 7) (by omega)
      go_wp2_with fail
      obtain ⟨W, hW⟩ : ∃ W, W = wr := ⟨_, rfl⟩
      subst hW
      (refine wp_region_quiet_tail 8 (fun w' => Below W.heap.size W w') (by kernel_rfl) (by kernel_rfl) (Below.drew (Below.refl _ _)) ?_; simp only [List.take_succ_cons, List.take_zero, List.drop_succ_cons, List.drop_zero]; (iterate 8 (refine wpQuiet_step (fun K hK => ?_); go_simp; first | (refine hK _ ?_; clear hK K) | (apply Exists.intro; refine ⟨fun W' hW' => ?_, hK _ ?_⟩; (focus (first | (with_reducible exact rfl) | (with_reducible exact ⟨rfl, rfl⟩) | (obtain ⟨hcq, hfq⟩ := bcell hW'; have hzq := hW'.size; (try go_simp); first | (with_reducible exact rfl) | (with_reducible exact ⟨rfl, rfl⟩) | (first | ((with_reducible refine Calls.mono (rturnedC_ok t c _ ht) ?_); rintro e w9 ⟨rfl, hb9⟩; exact ⟨rfl, hW'.trans (hb9.mono hW'.size)⟩) | ((with_reducible refine Calls.mono (rwith_ok h (turnC t c) _ HFI.out) ?_); rintro e w9 ⟨rfl, hb9⟩; exact ⟨rfl, hW'.trans (hb9.mono hW'.size)⟩))))); clear hK K))); refine wpQuiet_nil ?_; intro w1q hb1q)
      have bO1 := bO.below hb1q lO
      have bR1 := bR.below hb1q lR
      have hG1 : w1q.heap[g]? = w1.heap[g]? := (hb1q.block g hgl).trans hG
      have hB1 : Below w.heap.size w w1q := up hb1q hB
      have lO1 := bO1.lt
      have lR1 := bR1.lt
      clear o0 o1 o2 o3 o4 o5 o6 o7 k0 k1 k2 bO bR hG hB
      have o0 := (bO1).cell (k := 0) (by omega); have o1 := (bO1).cell (k := 1) (by omega); have o2 := (bO1).cell (k := 2) (by omega); have o3 := (bO1).cell (k := 3) (by omega); have o4 := (bO1).cell (k := 4) (by omega); have o5 := (bO1).cell (k := 5) (by omega); have o6 := (bO1).cell (k := 6) (by omega); have o7 := (bO1).cell (k := 7) (by omega)
      have q0 := (bO1).free 0; have q1 := (bO1).free 1; have q2 := (bO1).free 2; have q3 := (bO1).free 3; have q4 := (bO1).free 4; have q5 := (bO1).free 5; have q6 := (bO1).free 6; have q7 := (bO1).free 7
      go_wp2_with fail
      case roundEnd => exact ⟨⟨i + 1, by omega, by simp, bR1.putOther (by omega) _, by rw [HTK.out]; exact bO1.put (setC h (turnC t c)), (heap_put8 _ _ hgne).trans hG1, below_put8 hB1 (by omega) _⟩, by simp [intOf]; omega⟩
    · obtain rfl : i = (cellsL f).length := by omega
      have hd : decide (((cellsL f).length : Int) < ((cellsL f).length : Int)) = false := decide_eq_false (by omega)
      rw [List.take_length] at bO
      have lO := bO.lt
      have lR := bR.lt
      have o0 := (bO).cell (k := 0) (by omega); have o1 := (bO).cell (k := 1) (by omega); have o2 := (bO).cell (k := 2) (by omega); have o3 := (bO).cell (k := 3) (by omega); have o4 := (bO).cell (k := 4) (by omega); have o5 := (bO).cell (k := 5) (by omega); have o6 := (bO).cell (k := 6) (by omega); have o7 := (bO).cell (k := 7) (by omega)
      have r0 := (bR).cell (k := 0) (by omega); have r1 := (bR).cell (k := 1) (by omega); have r2 := (bR).cell (k := 2) (by omega); have r3 := (bR).cell (k := 3) (by omega); have r4 := (bR).cell (k := 4) (by omega); have r5 := (bR).cell (k := 5) (by omega); have r6 := (bR).cell (k := 6) (by omega); have r7 := (bR).cell (k := 7) (by omega)
      have q0 := (bR).free 0; have q1 := (bR).free 1; have q2 := (bR).free 2; have q3 := (bR).free 3; have q4 := (bR).free 4; have q5 := (bR).free 5; have q6 := (bR).free 6; have q7 := (bR).free 7
      go_wp2_with fail
      refine bodyPost_ret (res_se (bR.put (turnedF f t)) Tryz.results43 rfl) rfl ⟨rfl, ?_⟩
      exact below_put8 hB (by omega) _
end Go.Proofs.YtadkaplafaeebaaGreatDoor
/-
  The reference's short, motion, Moved.
-/
set_option linter.unusedVariables false
set_option linter.unusedSimpArgs false
namespace Go.Proofs.YtadkaplafaeebaaGreatDoor
open Go Go.RowKit Go.Shelf

def shB (n : Int) : Bool := decide (-7 ≤ n ∧ n ≤ 7)
theorem rshort_ok (n : Int) (w : World) : Calls Tryz.prog 103 #[.int .i64 n] w fun e w' => e = .returned (.bool (shB n)) ∧ Below w.heap.size w w' := by
  go_enter Tryz.func103, Tryz.ntmps103
  go_wp2
  all_goals
    go_ret
    exact ⟨retB (by unfold shB; rw [Bool.eq_iff_iff]; simp; omega), by go_grown⟩
theorem rshort_is {n : Int} {b : Bool} (h : shB n = b) (w : World) : Calls Tryz.prog 103 #[.int .i64 n] w fun e w' => e = .returned (.bool b) ∧ Below w.heap.size w w' := by
  subst h
  exact rshort_ok n w
theorem mvB_sh (x y z : Int) : mvB x y z = (shB x && (shB y && shB z)) := by
  unfold mvB shB
  rw [Bool.eq_iff_iff]
  simp
  omega
/-- Where a cell goes by a move. -/
def movP (v : I3) (c : Cl) : I3 := plus (toI c) v
def movC (v : I3) (c : Cl) : Cl := ofI (movP v c)
def inM (v : I3) (c : Cl) : Bool := inG (movP v c).1 (movP v c).2.1 (movP v c).2.2
theorem movC_cell {v : I3} {c : Cl} (h : inM v c = true) : cell (movC v c) = .agg #[.int .i64 (((cX c : Nat) : Int) + v.1), .int .i64 (((cY c : Nat) : Int) + v.2.1), .int .i64 (((cZ c : Nat) : Int) + v.2.2)] := by
  have h7 : In7 (movP v c) := by unfold In7; exact of_decide_eq_true h
  unfold cell movC
  rw [ofI_x h7, ofI_y h7, ofI_z h7]
  rfl
set_option maxRecDepth 100000 in
set_option maxHeartbeats 4000000 in
theorem rMoved_loop (f : Sol) (x y z : Int) (w : World) (hf : Fit f) (hx : shB x = true) (hy : shB y = true) (hz : shB z = true) (hL : 0 < (cellsL f).length) :
    Calls Tryz.prog 45 #[sol f, .int .i64 x, .int .i64 y, .int .i64 z] w fun e w' =>
      ((e = .returned (.tuple #[sol (solOf ((cellsL f).map (movC (x, y, z)))), .int .i64 0]) ∧ ∀ c ∈ cellsL f, inM (x, y, z) c = true) ∨ (e = .returned (.tuple #[sol (fun _ => 0), .int .i64 20]) ∧ ∃ c ∈ cellsL f, inM (x, y, z) c = false)) ∧ Below w.heap.size w w' := by
  have HF := Lib.hid hf
  have HX := Lib.hid hx
  have HY := Lib.hid hy
  have HZ := Lib.hid hz
  have sx := of_decide_eq_true hx
  have sy := of_decide_eq_true hy
  have sz := of_decide_eq_true hz
  have dL : decide ((0 : Int) < ((cellsL f).length : Int)) = true := decide_eq_true (by omega)
  clear hf hx hy hz
  go_enter Tryz.func45, Tryz.ntmps45
  go_wp2_with fail
  have bS0 : BoxS ((w.alloc (.cells (solC f) 24)).alloc (.cells #[.int .u64 0, .int .u64 0, .int .u64 0, .int .u64 0, .int .u64 0, .int .u64 0, .int .u64 0, .int .u64 0] 24)) w.heap.size f := (BoxS.new w f).alloc _
  have bR0 : BoxS ((w.alloc (.cells (solC f) 24)).alloc (.cells #[.int .u64 0, .int .u64 0, .int .u64 0, .int .u64 0, .int .u64 0, .int .u64 0, .int .u64 0, .int .u64 0] 24)) (w.heap.size + 1) (fun _ => 0) := BoxS.zero (by simp)
  have hB0 : Below w.heap.size w ((w.alloc (.cells (solC f) 24)).alloc (.cells #[.int .u64 0, .int .u64 0, .int .u64 0, .int .u64 0, .int .u64 0, .int .u64 0, .int .u64 0, .int .u64 0] 24)) := by repeat' (first | (with_reducible exact Below.refl _ _) | (with_reducible assumption) | (with_reducible refine Below.alloc ?_ ?_ _) | (with_reducible refine Below.drew ?_) | (with_reducible refine below_drewN ?_ _) | (with_reducible refine Below.setCell ?_ ?_ _) | go_size)
  refine (rcells_ok f _ HF.out).mono ?_
  rintro e w1 ⟨v, rfl, hrow, _, hb1⟩
  have bR1 := bR0.below hb1 bR0.lt
  have bS1 := bS0.below hb1 bS0.lt
  have hB1 : Below w.heap.size w w1 := up hb1 hB0
  obtain ⟨p, cap, g, rfl, hp, hg, hgd, hcs⟩ := rowC_at (d := w.heap.size) hrow bS1.lt (by simp; omega)
  have hgne : g ≠ w.heap.size + 1 := by
    rcases hgd with h | h
    · omega
    · simp at h; omega
  have hlen := cellsL_len f
  have HCS := Lib.hid hcs
  have hpp := hp hL
  subst hpp
  clear bS0 bR0 hB0 hb1 hrow hgd hcs bS1 hp
  go_wp2_with fail
  refine (rshort_is HX.out _).mono ?_
  rintro e w2 ⟨rfl, hb2⟩
  go_wp2_with fail
  refine (rshort_is HY.out _).mono ?_
  rintro e w3 ⟨rfl, hb3⟩
  go_wp2_with fail
  refine (rshort_is HZ.out _).mono ?_
  rintro e w4 ⟨rfl, hb4⟩
  have hb14 : Below w1.heap.size w1 w4 := hb2.trans ((hb3.mono hb2.size).trans (hb4.mono (Nat.le_trans hb2.size hb3.size)))
  have bR4 := bR1.below hb14 bR1.lt
  have hB4 : Below w.heap.size w w4 := up hb14 hB1
  have hG4 : w4.heap[g]? = w1.heap[g]? := hb14.block g hg
  have hg4 : g < w4.heap.size := Nat.lt_of_lt_of_le hg hb14.size
  have lR4 := bR4.lt
  clear hb2 hb3 hb4 hb14 bR1 hB1
  go_wp2_with fail
  go_loopw [12] (fun c wr => ∃ i : Nat, i ≤ (cellsL f).length ∧ c = .int .i64 i ∧ BoxS wr (w.heap.size + 1) (fun _ => 0) ∧ BoxS wr w4.heap.size (solOf (((cellsL f).take i).map (movC (x, y, z)))) ∧ wr.heap[g]? = w1.heap[g]? ∧ Below w.heap.size w wr ∧ Hid (∀ c ∈ (cellsL f).take i, inM (x, y, z) c = true)) (fun c _ => (cellsL f).length - (intOf c).toNat)
  case atStart => exact ⟨0, by omega, rfl, bR4.alloc _, BoxS.zero rfl, (Below.heap_alloc w4 _ g hg4).trans hG4, hB4.alloc hB4.size _, Lib.hid fun c hc => by simp at hc⟩
  case round =>
    have hs4 := hB4.size
    clear bR4 hB4 hG4
    obtain ⟨i, hi, rfl, bR, bO, hG, hB, HA⟩ := hrel
    by_cases hlt : i < (cellsL f).length
    · have hd : decide ((i : Int) < ((cellsL f).length : Int)) = true := decide_eq_true (by omega)
      have hci : (cellsL f)[i]? = some (cellsL f)[i] := List.getElem?_eq_getElem hlt
      obtain ⟨c, hc⟩ : ∃ c, c = (cellsL f)[i] := ⟨_, rfl⟩
      rw [← hc] at hci
      clear hc
      obtain ⟨k0, k1, k2⟩ := HCS.out i c hci
      have k0 := (cell_same hG (i * 3)).trans k0
      have k1 := (cell_same hG (i * 3 + 1)).trans k1
      have k2 := (cell_same hG (i * 3 + 2)).trans k2
      have HCI := Lib.hid hci
      have hgl : g < wr.heap.size := by
        have : wr.heap[g]? ≠ none := by rw [hG]; simp [hg]
        exact Nat.lt_of_not_le fun h => this (Array.getElem?_eq_none h)
      have lO := bO.lt
      have lR := bR.lt
      have cx := X_le c
      have cy := Y_le c
      have cz := Z_le c
      have HFI := Lib.hid (solOf_fit (((cellsL f).take i).map (movC (x, y, z))))
      have HTK := Lib.hid (show solOf (((cellsL f).take (i + 1)).map (movC (x, y, z))) = setC (solOf (((cellsL f).take i).map (movC (x, y, z)))) (movC (x, y, z) c) by rw [List.take_add_one, hci]; simp only [Option.toList_some, List.map_append, List.map_cons, List.map_nil]; exact solOf_snoc _ _)
      generalize solOf (((cellsL f).take i).map (movC (x, y, z))) = h at *
      clear hci
      go_wp2_with fail
      refine (rmoved_ok (cX c : Nat) (cY c : Nat) (cZ c : Nat) x y z _ (by unfold Sm; omega) (by unfold Sm; omega) (by unfold Sm; omega) (by unfold Sm; omega) (by unfold Sm; omega) (by unfold Sm; omega)).mono ?_
      rintro e w5 ⟨rfl, hb5⟩
      have bC5 : BoxC (w5.alloc (.cells #[.int .i64 (((cX c : Nat) : Int) + x), .int .i64 (((cY c : Nat) : Int) + y), .int .i64 (((cZ c : Nat) : Int) + z)] 26)) w5.heap.size (((cX c : Nat) : Int) + x) (((cY c : Nat) : Int) + y) (((cZ c : Nat) : Int) + z) := BoxC.new rfl
      have hb5' : Below wr.heap.size wr (w5.alloc (.cells #[.int .i64 (((cX c : Nat) : Int) + x), .int .i64 (((cY c : Nat) : Int) + y), .int .i64 (((cZ c : Nat) : Int) + z)] 26)) := hb5.alloc hb5.size _
      have hs5 := hb5.size
      clear k0 k1 k2
      cases hin : inM (x, y, z) c
      · go_wp2_with fail
        refine (rinGrid_is (show inG (((cX c : Nat) : Int) + x) (((cY c : Nat) : Int) + y) (((cZ c : Nat) : Int) + z) = false from hin) _).mono ?_
        rintro e w6 ⟨rfl, hb6⟩
        have hb6' : Below wr.heap.size wr w6 := hb5'.trans (hb6.mono (by simp; omega))
        have bR6 := bR.below hb6' lR
        have hB6 : Below w.heap.size w w6 := up hb6' hB
        have lR6 := bR6.lt
        clear bC5 hb5' hb6 hb6' hb5 bR bO hB hG
        have r0 := (bR6).cell (k := 0) (by omega); have r1 := (bR6).cell (k := 1) (by omega); have r2 := (bR6).cell (k := 2) (by omega); have r3 := (bR6).cell (k := 3) (by omega); have r4 := (bR6).cell (k := 4) (by omega); have r5 := (bR6).cell (k := 5) (by omega); have r6 := (bR6).cell (k := 6) (by omega); have r7 := (bR6).cell (k := 7) (by omega)
        have q0 := (bR6).free 0; have q1 := (bR6).free 1; have q2 := (bR6).free 2; have q3 := (bR6).free 3; have q4 := (bR6).free 4; have q5 := (bR6).free 5; have q6 := (bR6).free 6; have q7 := (bR6).free 7
        go_wp2_with fail
        refine bodyPost_ret (res_se (bR6.put fun _ => 0) Tryz.results45 rfl) rfl ⟨.inr ⟨rfl, c, List.mem_of_getElem? HCI.out, hin⟩, ?_⟩
        exact below_put8 hB6 (by omega) (fun _ => 0)
      · go_wp2_with fail
        refine (rinGrid_is (show inG (((cX c : Nat) : Int) + x) (((cY c : Nat) : Int) + y) (((cZ c : Nat) : Int) + z) = true from hin) _).mono ?_
        rintro e w6 ⟨rfl, hb6⟩
        have hb6' : Below wr.heap.size wr w6 := hb5'.trans (hb6.mono (by simp; omega))
        have bR6 := bR.below hb6' lR
        have bO6 := bO.below hb6' lO
        have hG6 : w6.heap[g]? = w1.heap[g]? := (hb6'.block g hgl).trans hG
        have hB6 : Below w.heap.size w w6 := up hb6' hB
        have bC6 := blk_below bC5 hb6 bC5.lt
        have hs6 := hb6'.size
        clear bC5 hb5' hb6 hb6' hb5 bR bO hB hG
        have lO6 := bO6.lt
        have lR6 := bR6.lt
        obtain ⟨d0, d1, d2⟩ := BoxC.cells bC6
        have o0 := (bO6).cell (k := 0) (by omega); have o1 := (bO6).cell (k := 1) (by omega); have o2 := (bO6).cell (k := 2) (by omega); have o3 := (bO6).cell (k := 3) (by omega); have o4 := (bO6).cell (k := 4) (by omega); have o5 := (bO6).cell (k := 5) (by omega); have o6 := (bO6).cell (k := 6) (by omega); have o7 := (bO6).cell (k := 7) (by omega)
        go_wp2_with fail
        have HW := rwith_ok h (movC (x, y, z) c)
        rw [movC_cell hin] at HW
        refine (HW w6 HFI.out).mono ?_
        rintro e w7 ⟨rfl, hb7⟩
        have bR7 := bR6.below hb7 lR6
        have bO7 := bO6.below hb7 lO6
        have hG7 : w7.heap[g]? = w1.heap[g]? := (hb7.block g (by omega)).trans hG6
        have hB7 : Below w.heap.size w w7 := up hb7 hB6
        have lO7 := bO7.lt
        clear o0 o1 o2 o3 o4 o5 o6 o7 d0 d1 d2 bR6 bO6 hB6 bC6
        have o0 := (bO7).cell (k := 0) (by omega); have o1 := (bO7).cell (k := 1) (by omega); have o2 := (bO7).cell (k := 2) (by omega); have o3 := (bO7).cell (k := 3) (by omega); have o4 := (bO7).cell (k := 4) (by omega); have o5 := (bO7).cell (k := 5) (by omega); have o6 := (bO7).cell (k := 6) (by omega); have o7 := (bO7).cell (k := 7) (by omega)
        have q0 := (bO7).free 0; have q1 := (bO7).free 1; have q2 := (bO7).free 2; have q3 := (bO7).free 3; have q4 := (bO7).free 4; have q5 := (bO7).free 5; have q6 := (bO7).free 6; have q7 := (bO7).free 7
        go_wp2_with fail
        case roundEnd => exact ⟨⟨i + 1, by omega, by simp, bR7.putOther (by omega) _, by rw [HTK.out]; exact bO7.put (setC h (movC (x, y, z) c)), (heap_put8 _ _ (by omega)).trans hG7, below_put8 hB7 (by omega) _, Lib.hid fun a ha => by
          rw [List.take_add_one, HCI.out] at ha
          rcases List.mem_append.1 ha with ha | ha
          · exact HA.out a ha
          · simp at ha; subst ha; exact hin⟩, by simp [intOf]; omega⟩
    · obtain rfl : i = (cellsL f).length := by omega
      have hd : decide (((cellsL f).length : Int) < ((cellsL f).length : Int)) = false := decide_eq_false (by omega)
      rw [List.take_length] at bO
      have HA2 : ∀ c ∈ cellsL f, inM (x, y, z) c = true := by have := HA.out; rwa [List.take_length] at this
      have HA3 := Lib.hid HA2
      clear HA2
      have lO := bO.lt
      have lR := bR.lt
      have o0 := (bO).cell (k := 0) (by omega); have o1 := (bO).cell (k := 1) (by omega); have o2 := (bO).cell (k := 2) (by omega); have o3 := (bO).cell (k := 3) (by omega); have o4 := (bO).cell (k := 4) (by omega); have o5 := (bO).cell (k := 5) (by omega); have o6 := (bO).cell (k := 6) (by omega); have o7 := (bO).cell (k := 7) (by omega)
      have r0 := (bR).cell (k := 0) (by omega); have r1 := (bR).cell (k := 1) (by omega); have r2 := (bR).cell (k := 2) (by omega); have r3 := (bR).cell (k := 3) (by omega); have r4 := (bR).cell (k := 4) (by omega); have r5 := (bR).cell (k := 5) (by omega); have r6 := (bR).cell (k := 6) (by omega); have r7 := (bR).cell (k := 7) (by omega)
      have q0 := (bR).free 0; have q1 := (bR).free 1; have q2 := (bR).free 2; have q3 := (bR).free 3; have q4 := (bR).free 4; have q5 := (bR).free 5; have q6 := (bR).free 6; have q7 := (bR).free 7
      go_wp2_with fail
      refine bodyPost_ret (res_se (bR.put (solOf ((cellsL f).map (movC (x, y, z))))) Tryz.results45 rfl) rfl ⟨.inl ⟨rfl, HA3.out⟩, ?_⟩
      exact below_put8 hB (by omega) _
set_option maxRecDepth 100000 in
set_option maxHeartbeats 4000000 in
theorem rMoved_short (f : Sol) (x y z : Int) (w : World) (hf : Fit f) (hm : mvB x y z = false) (hL : 0 < (cellsL f).length) :
    Calls Tryz.prog 45 #[sol f, .int .i64 x, .int .i64 y, .int .i64 z] w fun e w' => e = .returned (.tuple #[sol (fun _ => 0), .int .i64 20]) ∧ Below w.heap.size w w' := by
  have HF := Lib.hid hf
  have HM := Lib.hid hm
  have dL : decide ((0 : Int) < ((cellsL f).length : Int)) = true := decide_eq_true (by omega)
  clear hf hm
  go_enter Tryz.func45, Tryz.ntmps45
  go_wp2_with fail
  have bS0 : BoxS ((w.alloc (.cells (solC f) 24)).alloc (.cells #[.int .u64 0, .int .u64 0, .int .u64 0, .int .u64 0, .int .u64 0, .int .u64 0, .int .u64 0, .int .u64 0] 24)) w.heap.size f := (BoxS.new w f).alloc _
  have bR0 : BoxS ((w.alloc (.cells (solC f) 24)).alloc (.cells #[.int .u64 0, .int .u64 0, .int .u64 0, .int .u64 0, .int .u64 0, .int .u64 0, .int .u64 0, .int .u64 0] 24)) (w.heap.size + 1) (fun _ => 0) := BoxS.zero (by simp)
  have hB0 : Below w.heap.size w ((w.alloc (.cells (solC f) 24)).alloc (.cells #[.int .u64 0, .int .u64 0, .int .u64 0, .int .u64 0, .int .u64 0, .int .u64 0, .int .u64 0, .int .u64 0] 24)) := by repeat' (first | (with_reducible exact Below.refl _ _) | (with_reducible assumption) | (with_reducible refine Below.alloc ?_ ?_ _) | (with_reducible refine Below.drew ?_) | (with_reducible refine below_drewN ?_ _) | (with_reducible refine Below.setCell ?_ ?_ _) | go_size)
  refine (rcells_ok f _ HF.out).mono ?_
  rintro e w1 ⟨v, rfl, hrow, _, hb1⟩
  have bR1 := bR0.below hb1 bR0.lt
  have bS1 := bS0.below hb1 bS0.lt
  have hB1 : Below w.heap.size w w1 := up hb1 hB0
  obtain ⟨p, cap, g, rfl, hp, hg, hgd, hcs⟩ := rowC_at (d := w.heap.size) hrow bS1.lt (by simp; omega)
  clear bS0 bR0 hB0 hb1 hrow hgd hcs bS1 hp
  go_wp2_with fail
  cases hx : shB x
  · refine (rshort_is hx _).mono ?_
    rintro e w2 ⟨rfl, hb2⟩
    have bR2 := bR1.below hb2 bR1.lt
    have hB2 : Below w.heap.size w w2 := up hb2 hB1
    have lR2 := bR2.lt
    have r0 := (bR2).cell (k := 0) (by omega); have r1 := (bR2).cell (k := 1) (by omega); have r2 := (bR2).cell (k := 2) (by omega); have r3 := (bR2).cell (k := 3) (by omega); have r4 := (bR2).cell (k := 4) (by omega); have r5 := (bR2).cell (k := 5) (by omega); have r6 := (bR2).cell (k := 6) (by omega); have r7 := (bR2).cell (k := 7) (by omega)
    have q0 := (bR2).free 0; have q1 := (bR2).free 1; have q2 := (bR2).free 2; have q3 := (bR2).free 3; have q4 := (bR2).free 4; have q5 := (bR2).free 5; have q6 := (bR2).free 6; have q7 := (bR2).free 7
    go_wp2_with fail
    refine bodyPost_ret (res_se (bR2.put fun _ => 0) Tryz.results45 rfl) rfl ⟨rfl, ?_⟩
    exact below_put8 hB2 (by omega) (fun _ => 0)
  · refine (rshort_is hx _).mono ?_
    rintro e w2 ⟨rfl, hb2⟩
    have bR2 := bR1.below hb2 bR1.lt
    have hB2 : Below w.heap.size w w2 := up hb2 hB1
    clear bR1 hB1 hb2
    go_wp2_with fail
    cases hy : shB y
    · refine (rshort_is hy _).mono ?_
      rintro e w3 ⟨rfl, hb3⟩
      have bR3 := bR2.below hb3 bR2.lt
      have hB3 : Below w.heap.size w w3 := up hb3 hB2
      have lR3 := bR3.lt
      have r0 := (bR3).cell (k := 0) (by omega); have r1 := (bR3).cell (k := 1) (by omega); have r2 := (bR3).cell (k := 2) (by omega); have r3 := (bR3).cell (k := 3) (by omega); have r4 := (bR3).cell (k := 4) (by omega); have r5 := (bR3).cell (k := 5) (by omega); have r6 := (bR3).cell (k := 6) (by omega); have r7 := (bR3).cell (k := 7) (by omega)
      have q0 := (bR3).free 0; have q1 := (bR3).free 1; have q2 := (bR3).free 2; have q3 := (bR3).free 3; have q4 := (bR3).free 4; have q5 := (bR3).free 5; have q6 := (bR3).free 6; have q7 := (bR3).free 7
      go_wp2_with fail
      refine bodyPost_ret (res_se (bR3.put fun _ => 0) Tryz.results45 rfl) rfl ⟨rfl, ?_⟩
      exact below_put8 hB3 (by omega) (fun _ => 0)
    · refine (rshort_is hy _).mono ?_
      rintro e w3 ⟨rfl, hb3⟩
      have bR3 := bR2.below hb3 bR2.lt
      have hB3 : Below w.heap.size w w3 := up hb3 hB2
      clear bR2 hB2 hb3
      have hz : shB z = false := by have := HM.out; rwa [mvB_sh, hx, hy, Bool.true_and, Bool.true_and] at this
      go_wp2_with fail
      refine (rshort_is hz _).mono ?_
      rintro e w4 ⟨rfl, hb4⟩
      have bR4 := bR3.below hb4 bR3.lt
      have hB4 : Below w.heap.size w w4 := up hb4 hB3
      have lR4 := bR4.lt
      have r0 := (bR4).cell (k := 0) (by omega); have r1 := (bR4).cell (k := 1) (by omega); have r2 := (bR4).cell (k := 2) (by omega); have r3 := (bR4).cell (k := 3) (by omega); have r4 := (bR4).cell (k := 4) (by omega); have r5 := (bR4).cell (k := 5) (by omega); have r6 := (bR4).cell (k := 6) (by omega); have r7 := (bR4).cell (k := 7) (by omega)
      have q0 := (bR4).free 0; have q1 := (bR4).free 1; have q2 := (bR4).free 2; have q3 := (bR4).free 3; have q4 := (bR4).free 4; have q5 := (bR4).free 5; have q6 := (bR4).free 6; have q7 := (bR4).free 7
      go_wp2_with fail
      refine bodyPost_ret (res_se (bR4.put fun _ => 0) Tryz.results45 rfl) rfl ⟨rfl, ?_⟩
      exact below_put8 hB4 (by omega) (fun _ => 0)
set_option maxRecDepth 100000 in
set_option maxHeartbeats 4000000 in
theorem rMoved_empty (f : Sol) (x y z : Int) (w : World) (hf : Fit f) (hL : (cellsL f).length = 0) :
    Calls Tryz.prog 45 #[sol f, .int .i64 x, .int .i64 y, .int .i64 z] w fun e w' => e = .returned (.tuple #[sol (fun _ => 0), .int .i64 0]) ∧ Below w.heap.size w w' := by
  have HF := Lib.hid hf
  clear hf
  go_enter Tryz.func45, Tryz.ntmps45
  go_wp2_with fail
  have bR0 : BoxS ((w.alloc (.cells (solC f) 24)).alloc (.cells #[.int .u64 0, .int .u64 0, .int .u64 0, .int .u64 0, .int .u64 0, .int .u64 0, .int .u64 0, .int .u64 0] 24)) (w.heap.size + 1) (fun _ => 0) := BoxS.zero (by simp)
  have hB0 : Below w.heap.size w ((w.alloc (.cells (solC f) 24)).alloc (.cells #[.int .u64 0, .int .u64 0, .int .u64 0, .int .u64 0, .int .u64 0, .int .u64 0, .int .u64 0, .int .u64 0] 24)) := by repeat' (first | (with_reducible exact Below.refl _ _) | (with_reducible assumption) | (with_reducible refine Below.alloc ?_ ?_ _) | (with_reducible refine Below.drew ?_) | (with_reducible refine below_drewN ?_ _) | (with_reducible refine Below.setCell ?_ ?_ _) | go_size)
  refine (rcells_ok f _ HF.out).mono ?_
  rintro e w1 ⟨v, rfl, hrow, hnil, hb1⟩
  have bR1 := bR0.below hb1 bR0.lt
  have hB1 : Below w.heap.size w w1 := up hb1 hB0
  have hv := hnil.2 (List.eq_nil_of_length_eq_zero hL)
  subst hv
  have lR1 := bR1.lt
  clear bR0 hB0 hb1 hrow hnil hL
  go_wp2_with fail
  go_loopw [12] (fun c wr => c = .int .i64 0 ∧ BoxS wr (w.heap.size + 1) (fun _ => 0) ∧ BoxS wr w1.heap.size (fun _ => 0) ∧ Below w.heap.size w wr) (fun c _ => 0)
  case atStart => exact ⟨rfl, bR1.alloc _, BoxS.zero rfl, hB1.alloc hB1.size _⟩
  case round =>
    obtain ⟨rfl, bR, bO, hB⟩ := hrel
    have lR := bR.lt
    have lO := bO.lt
    have o0 := (bO).cell (k := 0) (by omega); have o1 := (bO).cell (k := 1) (by omega); have o2 := (bO).cell (k := 2) (by omega); have o3 := (bO).cell (k := 3) (by omega); have o4 := (bO).cell (k := 4) (by omega); have o5 := (bO).cell (k := 5) (by omega); have o6 := (bO).cell (k := 6) (by omega); have o7 := (bO).cell (k := 7) (by omega)
    have r0 := (bR).cell (k := 0) (by omega); have r1 := (bR).cell (k := 1) (by omega); have r2 := (bR).cell (k := 2) (by omega); have r3 := (bR).cell (k := 3) (by omega); have r4 := (bR).cell (k := 4) (by omega); have r5 := (bR).cell (k := 5) (by omega); have r6 := (bR).cell (k := 6) (by omega); have r7 := (bR).cell (k := 7) (by omega)
    have q0 := (bR).free 0; have q1 := (bR).free 1; have q2 := (bR).free 2; have q3 := (bR).free 3; have q4 := (bR).free 4; have q5 := (bR).free 5; have q6 := (bR).free 6; have q7 := (bR).free 7
    go_wp2_with fail
    refine bodyPost_ret (res_se (bR.put fun _ => 0) Tryz.results45 rfl) rfl ⟨rfl, ?_⟩
    exact below_put8 hB (by omega) (fun _ => 0)
end Go.Proofs.YtadkaplafaeebaaGreatDoor
/-
  The reference's Mirrored, motion, Placed; turns that are none.
-/
set_option linter.unusedVariables false
set_option linter.unusedSimpArgs false
namespace Go.Proofs.YtadkaplafaeebaaGreatDoor
open Go Go.RowKit Go.Shelf

set_option maxRecDepth 100000 in
set_option maxHeartbeats 4000000 in
theorem rTurned_no (f : Sol) (t : Int) (w : World) (h : t < 0 ∨ 23 < t) :
    Calls Tryz.prog 43 #[sol f, .int .i64 t] w fun e w' => e = .returned (.tuple #[sol (fun _ => 0), .int .i64 1]) ∧ Below w.heap.size w w' := by
  have bR : BoxS ((w.alloc (.cells (solC f) 24)).alloc (.cells #[.int .u64 0, .int .u64 0, .int .u64 0, .int .u64 0, .int .u64 0, .int .u64 0, .int .u64 0, .int .u64 0] 24)) (w.heap.size + 1) (fun _ => 0) := BoxS.zero (by simp)
  have hB : Below w.heap.size w ((w.alloc (.cells (solC f) 24)).alloc (.cells #[.int .u64 0, .int .u64 0, .int .u64 0, .int .u64 0, .int .u64 0, .int .u64 0, .int .u64 0, .int .u64 0] 24)) := by repeat' (first | (with_reducible exact Below.refl _ _) | (with_reducible assumption) | (with_reducible refine Below.alloc ?_ ?_ _) | (with_reducible refine Below.drew ?_) | (with_reducible refine below_drewN ?_ _) | (with_reducible refine Below.setCell ?_ ?_ _) | go_size)
  have lR := bR.lt
  by_cases h0 : t < 0
  · have d1 : decide (t < 0) = true := decide_eq_true h0
    go_enter Tryz.func43, Tryz.ntmps43
    go_upto_region 1 with fail
    obtain ⟨W, hW⟩ : ∃ W, W = ((w.alloc (.cells (solC f) 24)).alloc (.cells #[.int .u64 0, .int .u64 0, .int .u64 0, .int .u64 0, .int .u64 0, .int .u64 0, .int .u64 0, .int .u64 0] 24)) := ⟨_, rfl⟩
    rw [← hW] at bR hB lR ⊢
    clear hW
    have r0 := (bR).cell (k := 0) (by omega); have r1 := (bR).cell (k := 1) (by omega); have r2 := (bR).cell (k := 2) (by omega); have r3 := (bR).cell (k := 3) (by omega); have r4 := (bR).cell (k := 4) (by omega); have r5 := (bR).cell (k := 5) (by omega); have r6 := (bR).cell (k := 6) (by omega); have r7 := (bR).cell (k := 7) (by omega)
    have q0 := (bR).free 0; have q1 := (bR).free 1; have q2 := (bR).free 2; have q3 := (bR).free 3; have q4 := (bR).free 4; have q5 := (bR).free 5; have q6 := (bR).free 6; have q7 := (bR).free 7
    go_wp2_with fail
    refine bodyPost_ret (res_se (bR.put fun _ => 0) Tryz.results43 rfl) rfl ⟨rfl, ?_⟩
    exact below_put8 hB (by omega) (fun _ => 0)
  · have d1 : decide (t < 0) = false := decide_eq_false h0
    have d2 : decide ((23 : Int) < t) = true := decide_eq_true (by omega)
    go_enter Tryz.func43, Tryz.ntmps43
    go_upto_region 1 with fail
    obtain ⟨W, hW⟩ : ∃ W, W = ((w.alloc (.cells (solC f) 24)).alloc (.cells #[.int .u64 0, .int .u64 0, .int .u64 0, .int .u64 0, .int .u64 0, .int .u64 0, .int .u64 0, .int .u64 0] 24)) := ⟨_, rfl⟩
    rw [← hW] at bR hB lR ⊢
    clear hW
    have r0 := (bR).cell (k := 0) (by omega); have r1 := (bR).cell (k := 1) (by omega); have r2 := (bR).cell (k := 2) (by omega); have r3 := (bR).cell (k := 3) (by omega); have r4 := (bR).cell (k := 4) (by omega); have r5 := (bR).cell (k := 5) (by omega); have r6 := (bR).cell (k := 6) (by omega); have r7 := (bR).cell (k := 7) (by omega)
    have q0 := (bR).free 0; have q1 := (bR).free 1; have q2 := (bR).free 2; have q3 := (bR).free 3; have q4 := (bR).free 4; have q5 := (bR).free 5; have q6 := (bR).free 6; have q7 := (bR).free 7
    go_wp2_with fail
    refine bodyPost_ret (res_se (bR.put fun _ => 0) Tryz.results43 rfl) rfl ⟨rfl, ?_⟩
    exact below_put8 hB (by omega) (fun _ => 0)
set_option maxRecDepth 100000 in
set_option maxHeartbeats 4000000 in
theorem rMirrored_no (f : Sol) (t : Int) (w : World) (h : t < 0 ∨ 2 < t) :
    Calls Tryz.prog 47 #[sol f, .int .i64 t] w fun e w' => e = .returned (.tuple #[sol (fun _ => 0), .int .i64 1]) ∧ Below w.heap.size w w' := by
  have bR : BoxS ((w.alloc (.cells (solC f) 24)).alloc (.cells #[.int .u64 0, .int .u64 0, .int .u64 0, .int .u64 0, .int .u64 0, .int .u64 0, .int .u64 0, .int .u64 0] 24)) (w.heap.size + 1) (fun _ => 0) := BoxS.zero (by simp)
  have hB : Below w.heap.size w ((w.alloc (.cells (solC f) 24)).alloc (.cells #[.int .u64 0, .int .u64 0, .int .u64 0, .int .u64 0, .int .u64 0, .int .u64 0, .int .u64 0, .int .u64 0] 24)) := by repeat' (first | (with_reducible exact Below.refl _ _) | (with_reducible assumption) | (with_reducible refine Below.alloc ?_ ?_ _) | (with_reducible refine Below.drew ?_) | (with_reducible refine below_drewN ?_ _) | (with_reducible refine Below.setCell ?_ ?_ _) | go_size)
  have lR := bR.lt
  by_cases h0 : t < 0
  · have d1 : decide (t < 0) = true := decide_eq_true h0
    go_enter Tryz.func47, Tryz.ntmps47
    go_upto_region 1 with fail
    obtain ⟨W, hW⟩ : ∃ W, W = ((w.alloc (.cells (solC f) 24)).alloc (.cells #[.int .u64 0, .int .u64 0, .int .u64 0, .int .u64 0, .int .u64 0, .int .u64 0, .int .u64 0, .int .u64 0] 24)) := ⟨_, rfl⟩
    rw [← hW] at bR hB lR ⊢
    clear hW
    have r0 := (bR).cell (k := 0) (by omega); have r1 := (bR).cell (k := 1) (by omega); have r2 := (bR).cell (k := 2) (by omega); have r3 := (bR).cell (k := 3) (by omega); have r4 := (bR).cell (k := 4) (by omega); have r5 := (bR).cell (k := 5) (by omega); have r6 := (bR).cell (k := 6) (by omega); have r7 := (bR).cell (k := 7) (by omega)
    have q0 := (bR).free 0; have q1 := (bR).free 1; have q2 := (bR).free 2; have q3 := (bR).free 3; have q4 := (bR).free 4; have q5 := (bR).free 5; have q6 := (bR).free 6; have q7 := (bR).free 7
    go_wp2_with fail
    refine bodyPost_ret (res_se (bR.put fun _ => 0) Tryz.results47 rfl) rfl ⟨rfl, ?_⟩
    exact below_put8 hB (by omega) (fun _ => 0)
  · have d1 : decide (t < 0) = false := decide_eq_false h0
    have d2 : decide ((2 : Int) < t) = true := decide_eq_true (by omega)
    go_enter Tryz.func47, Tryz.ntmps47
    go_upto_region 1 with fail
    obtain ⟨W, hW⟩ : ∃ W, W = ((w.alloc (.cells (solC f) 24)).alloc (.cells #[.int .u64 0, .int .u64 0, .int .u64 0, .int .u64 0, .int .u64 0, .int .u64 0, .int .u64 0, .int .u64 0] 24)) := ⟨_, rfl⟩
    rw [← hW] at bR hB lR ⊢
    clear hW
    have r0 := (bR).cell (k := 0) (by omega); have r1 := (bR).cell (k := 1) (by omega); have r2 := (bR).cell (k := 2) (by omega); have r3 := (bR).cell (k := 3) (by omega); have r4 := (bR).cell (k := 4) (by omega); have r5 := (bR).cell (k := 5) (by omega); have r6 := (bR).cell (k := 6) (by omega); have r7 := (bR).cell (k := 7) (by omega)
    have q0 := (bR).free 0; have q1 := (bR).free 1; have q2 := (bR).free 2; have q3 := (bR).free 3; have q4 := (bR).free 4; have q5 := (bR).free 5; have q6 := (bR).free 6; have q7 := (bR).free 7
    go_wp2_with fail
    refine bodyPost_ret (res_se (bR.put fun _ => 0) Tryz.results47 rfl) rfl ⟨rfl, ?_⟩
    exact below_put8 hB (by omega) (fun _ => 0)
theorem mir_cell0 (c : Cl) : cell (mirC 0 c) = .agg #[.int .i64 ((7 - ((cX c : Nat) : Int))), .int .i64 (((cY c : Nat) : Int)), .int .i64 (((cZ c : Nat) : Int))] := by
  unfold cell
  rw [mirC_x, mirC_y, mirC_z]
  rfl
set_option maxRecDepth 100000 in
set_option maxHeartbeats 4000000 in
theorem rMirrored_0 (f : Sol) (w : World) (hf : Fit f) :
    Calls Tryz.prog 47 #[sol f, .int .i64 0] w fun e w' => e = .returned (.tuple #[sol (mirF f 0), .int .i64 0]) ∧ Below w.heap.size w w' := by
  have HF := Lib.hid hf
  clear hf
  go_enter Tryz.func47, Tryz.ntmps47
  go_wp2_with fail
  have bS0 : BoxS (((w.alloc (.cells (solC f) 24)).alloc (.cells #[.int .u64 0, .int .u64 0, .int .u64 0, .int .u64 0, .int .u64 0, .int .u64 0, .int .u64 0, .int .u64 0] 24)).alloc (.cells #[.int .u64 0, .int .u64 0, .int .u64 0, .int .u64 0, .int .u64 0, .int .u64 0, .int .u64 0, .int .u64 0] 24)) w.heap.size f := ((BoxS.new w f).alloc _).alloc _
  have bR0 : BoxS (((w.alloc (.cells (solC f) 24)).alloc (.cells #[.int .u64 0, .int .u64 0, .int .u64 0, .int .u64 0, .int .u64 0, .int .u64 0, .int .u64 0, .int .u64 0] 24)).alloc (.cells #[.int .u64 0, .int .u64 0, .int .u64 0, .int .u64 0, .int .u64 0, .int .u64 0, .int .u64 0, .int .u64 0] 24)) (w.heap.size + 1) (fun _ => 0) := (BoxS.zero (by simp)).alloc _
  have bO0 : BoxS (((w.alloc (.cells (solC f) 24)).alloc (.cells #[.int .u64 0, .int .u64 0, .int .u64 0, .int .u64 0, .int .u64 0, .int .u64 0, .int .u64 0, .int .u64 0] 24)).alloc (.cells #[.int .u64 0, .int .u64 0, .int .u64 0, .int .u64 0, .int .u64 0, .int .u64 0, .int .u64 0, .int .u64 0] 24)) (w.heap.size + 1 + 1) (fun _ => 0) := BoxS.zero (by simp)
  have hB0 : Below w.heap.size w (((w.alloc (.cells (solC f) 24)).alloc (.cells #[.int .u64 0, .int .u64 0, .int .u64 0, .int .u64 0, .int .u64 0, .int .u64 0, .int .u64 0, .int .u64 0] 24)).alloc (.cells #[.int .u64 0, .int .u64 0, .int .u64 0, .int .u64 0, .int .u64 0, .int .u64 0, .int .u64 0, .int .u64 0] 24)) := by repeat' (first | (with_reducible exact Below.refl _ _) | (with_reducible assumption) | (with_reducible refine Below.alloc ?_ ?_ _) | (with_reducible refine Below.drew ?_) | (with_reducible refine below_drewN ?_ _) | (with_reducible refine Below.setCell ?_ ?_ _) | go_size)
  refine (rcells_ok f _ HF.out).mono ?_
  rintro e w1 ⟨v, rfl, hrow, _, hb1⟩
  have bR1 := bR0.below hb1 bR0.lt
  have bO1 := bO0.below hb1 bO0.lt
  have bS1 := bS0.below hb1 bS0.lt
  have hB1 : Below w.heap.size w w1 := up hb1 hB0
  obtain ⟨p, cap, g, rfl, hp, hg, hgd, hcs⟩ := rowC_at (d := w.heap.size) hrow bS1.lt (by simp; omega)
  have hgne : g ≠ w.heap.size + 1 + 1 := by
    rcases hgd with h | h
    · omega
    · simp at h; omega
  have hlen := cellsL_len f
  have HCS := Lib.hid hcs
  clear bS0 bR0 bO0 hB0 hb1 hrow hgd hcs bS1
  go_wp2_with fail
  go_loopw [8] (fun c wr => ∃ i : Nat, i ≤ (cellsL f).length ∧ c = .int .i64 i ∧ BoxS wr (w.heap.size + 1) (fun _ => 0) ∧ BoxS wr (w.heap.size + 1 + 1) (solOf (((cellsL f).take i).map (mirC 0))) ∧ wr.heap[g]? = w1.heap[g]? ∧ Below w.heap.size w wr) (fun c _ => (cellsL f).length - (intOf c).toNat)
  case atStart => exact ⟨0, by omega, rfl, bR1, bO1, rfl, hB1⟩
  case round =>
    clear bR1 bO1 hB1
    obtain ⟨i, hi, rfl, bR, bO, hG, hB⟩ := hrel
    by_cases hlt : i < (cellsL f).length
    · have hd : decide ((i : Int) < ((cellsL f).length : Int)) = true := decide_eq_true (by omega)
      have hci : (cellsL f)[i]? = some (cellsL f)[i] := List.getElem?_eq_getElem hlt
      obtain ⟨c, hc⟩ : ∃ c, c = (cellsL f)[i] := ⟨_, rfl⟩
      rw [← hc] at hci
      clear hc
      obtain ⟨k0, k1, k2⟩ := HCS.out i c hci
      have k0 := (cell_same hG (i * 3)).trans k0
      have k1 := (cell_same hG (i * 3 + 1)).trans k1
      have k2 := (cell_same hG (i * 3 + 2)).trans k2
      have hpp := hp (by omega)
      have hgl : g < wr.heap.size := by
        have : wr.heap[g]? ≠ none := by rw [hG]; simp [hg]
        exact Nat.lt_of_not_le fun h => this (Array.getElem?_eq_none h)
      have lO := bO.lt
      have lR := bR.lt
      have cx := X_le c
      have cy := Y_le c
      have cz := Z_le c
      have HTK := Lib.hid (show solOf (((cellsL f).take (i + 1)).map (mirC 0)) = setC (solOf (((cellsL f).take i).map (mirC 0))) (mirC 0 c) by rw [List.take_add_one, hci]; simp only [Option.toList_some, List.map_append, List.map_cons, List.map_nil]; exact solOf_snoc _ _)
      have HFI := Lib.hid (solOf_fit (((cellsL f).take i).map (mirC 0)))
      generalize solOf (((cellsL f).take i).map (mirC 0)) = h at *
      subst hpp
      clear hci
      have bX : BoxC (wr.alloc (.cells #[.int .i64 ((cX c : Nat) : Int), .int .i64 ((cY c : Nat) : Int), .int .i64 ((cZ c : Nat) : Int)] 26)) wr.heap.size (cX c : Nat) (cY c : Nat) (cZ c : Nat) := BoxC.new rfl
      have bX2 : BoxC (wr.alloc (.cells #[.int .i64 (7 - ((cX c : Nat) : Int)), .int .i64 ((cY c : Nat) : Int), .int .i64 ((cZ c : Nat) : Int)] 26)) wr.heap.size (7 - ((cX c : Nat) : Int)) ((cY c : Nat) : Int) ((cZ c : Nat) : Int) := BoxC.new rfl
      have bO2 : BoxS (wr.alloc (.cells #[.int .i64 (7 - ((cX c : Nat) : Int)), .int .i64 ((cY c : Nat) : Int), .int .i64 ((cZ c : Nat) : Int)] 26)) (w.heap.size + 1 + 1) h := bO.alloc _
      have hU : Below wr.heap.size wr (wr.alloc (.cells #[.int .i64 (7 - ((cX c : Nat) : Int)), .int .i64 ((cY c : Nat) : Int), .int .i64 ((cZ c : Nat) : Int)] 26)) := (Below.refl _ wr).alloc (Nat.le_refl _) _
      obtain ⟨e0, e1, e2⟩ := BoxC.cells bX
      have y0 := bX.free 0
      obtain ⟨d0, d1, d2⟩ := BoxC.cells bX2
      have o0 := (bO2).cell (k := 0) (by omega); have o1 := (bO2).cell (k := 1) (by omega); have o2 := (bO2).cell (k := 2) (by omega); have o3 := (bO2).cell (k := 3) (by omega); have o4 := (bO2).cell (k := 4) (by omega); have o5 := (bO2).cell (k := 5) (by omega); have o6 := (bO2).cell (k := 6) (by omega); have o7 := (bO2).cell (k := 7) (by omega)
      go_wp2_with fail
      have HW := rwith_ok h (mirC 0 c)
      rw [mir_cell0] at HW
      refine (HW _ HFI.out).mono ?_
      rintro e w5 ⟨rfl, hb5⟩
      have hb6 : Below wr.heap.size wr w5 := hU.trans (hb5.mono hU.size)
      have bO5 := bO.below hb6 lO
      have bR5 := bR.below hb6 lR
      have hG5 : w5.heap[g]? = w1.heap[g]? := (hb6.block g hgl).trans hG
      have hB5 : Below w.heap.size w w5 := up hb6 hB
      have lO5 := bO5.lt
      have lR5 := bR5.lt
      clear o0 o1 o2 o3 o4 o5 o6 o7 k0 k1 k2 bO bR hG hB d0 d1 d2 bX bX2 bO2 hU hb5 hb6 e0 e1 e2 y0
      have o0 := (bO5).cell (k := 0) (by omega); have o1 := (bO5).cell (k := 1) (by omega); have o2 := (bO5).cell (k := 2) (by omega); have o3 := (bO5).cell (k := 3) (by omega); have o4 := (bO5).cell (k := 4) (by omega); have o5 := (bO5).cell (k := 5) (by omega); have o6 := (bO5).cell (k := 6) (by omega); have o7 := (bO5).cell (k := 7) (by omega)
      have q0 := (bO5).free 0; have q1 := (bO5).free 1; have q2 := (bO5).free 2; have q3 := (bO5).free 3; have q4 := (bO5).free 4; have q5 := (bO5).free 5; have q6 := (bO5).free 6; have q7 := (bO5).free 7
      go_wp2_with fail
      case roundEnd => exact ⟨⟨i + 1, by omega, by simp, bR5.putOther (by omega) _, by rw [HTK.out]; exact bO5.put (setC h (mirC 0 c)), (heap_put8 _ _ hgne).trans hG5, below_put8 hB5 (by omega) _⟩, by simp [intOf]; omega⟩
    · obtain rfl : i = (cellsL f).length := by omega
      have hd : decide (((cellsL f).length : Int) < ((cellsL f).length : Int)) = false := decide_eq_false (by omega)
      rw [List.take_length] at bO
      have lO := bO.lt
      have lR := bR.lt
      have o0 := (bO).cell (k := 0) (by omega); have o1 := (bO).cell (k := 1) (by omega); have o2 := (bO).cell (k := 2) (by omega); have o3 := (bO).cell (k := 3) (by omega); have o4 := (bO).cell (k := 4) (by omega); have o5 := (bO).cell (k := 5) (by omega); have o6 := (bO).cell (k := 6) (by omega); have o7 := (bO).cell (k := 7) (by omega)
      have r0 := (bR).cell (k := 0) (by omega); have r1 := (bR).cell (k := 1) (by omega); have r2 := (bR).cell (k := 2) (by omega); have r3 := (bR).cell (k := 3) (by omega); have r4 := (bR).cell (k := 4) (by omega); have r5 := (bR).cell (k := 5) (by omega); have r6 := (bR).cell (k := 6) (by omega); have r7 := (bR).cell (k := 7) (by omega)
      have q0 := (bR).free 0; have q1 := (bR).free 1; have q2 := (bR).free 2; have q3 := (bR).free 3; have q4 := (bR).free 4; have q5 := (bR).free 5; have q6 := (bR).free 6; have q7 := (bR).free 7
      go_wp2_with fail
      refine bodyPost_ret (res_se (bR.put (mirF f 0)) Tryz.results47 rfl) rfl ⟨rfl, ?_⟩
      exact below_put8 hB (by omega) _
theorem mir_cell1 (c : Cl) : cell (mirC 1 c) = .agg #[.int .i64 (((cX c : Nat) : Int)), .int .i64 ((7 - ((cY c : Nat) : Int))), .int .i64 (((cZ c : Nat) : Int))] := by
  unfold cell
  rw [mirC_x, mirC_y, mirC_z]
  rfl
set_option maxRecDepth 100000 in
set_option maxHeartbeats 4000000 in
theorem rMirrored_1 (f : Sol) (w : World) (hf : Fit f) :
    Calls Tryz.prog 47 #[sol f, .int .i64 1] w fun e w' => e = .returned (.tuple #[sol (mirF f 1), .int .i64 0]) ∧ Below w.heap.size w w' := by
  have HF := Lib.hid hf
  clear hf
  go_enter Tryz.func47, Tryz.ntmps47
  go_wp2_with fail
  have bS0 : BoxS (((w.alloc (.cells (solC f) 24)).alloc (.cells #[.int .u64 0, .int .u64 0, .int .u64 0, .int .u64 0, .int .u64 0, .int .u64 0, .int .u64 0, .int .u64 0] 24)).alloc (.cells #[.int .u64 0, .int .u64 0, .int .u64 0, .int .u64 0, .int .u64 0, .int .u64 0, .int .u64 0, .int .u64 0] 24)) w.heap.size f := ((BoxS.new w f).alloc _).alloc _
  have bR0 : BoxS (((w.alloc (.cells (solC f) 24)).alloc (.cells #[.int .u64 0, .int .u64 0, .int .u64 0, .int .u64 0, .int .u64 0, .int .u64 0, .int .u64 0, .int .u64 0] 24)).alloc (.cells #[.int .u64 0, .int .u64 0, .int .u64 0, .int .u64 0, .int .u64 0, .int .u64 0, .int .u64 0, .int .u64 0] 24)) (w.heap.size + 1) (fun _ => 0) := (BoxS.zero (by simp)).alloc _
  have bO0 : BoxS (((w.alloc (.cells (solC f) 24)).alloc (.cells #[.int .u64 0, .int .u64 0, .int .u64 0, .int .u64 0, .int .u64 0, .int .u64 0, .int .u64 0, .int .u64 0] 24)).alloc (.cells #[.int .u64 0, .int .u64 0, .int .u64 0, .int .u64 0, .int .u64 0, .int .u64 0, .int .u64 0, .int .u64 0] 24)) (w.heap.size + 1 + 1) (fun _ => 0) := BoxS.zero (by simp)
  have hB0 : Below w.heap.size w (((w.alloc (.cells (solC f) 24)).alloc (.cells #[.int .u64 0, .int .u64 0, .int .u64 0, .int .u64 0, .int .u64 0, .int .u64 0, .int .u64 0, .int .u64 0] 24)).alloc (.cells #[.int .u64 0, .int .u64 0, .int .u64 0, .int .u64 0, .int .u64 0, .int .u64 0, .int .u64 0, .int .u64 0] 24)) := by repeat' (first | (with_reducible exact Below.refl _ _) | (with_reducible assumption) | (with_reducible refine Below.alloc ?_ ?_ _) | (with_reducible refine Below.drew ?_) | (with_reducible refine below_drewN ?_ _) | (with_reducible refine Below.setCell ?_ ?_ _) | go_size)
  refine (rcells_ok f _ HF.out).mono ?_
  rintro e w1 ⟨v, rfl, hrow, _, hb1⟩
  have bR1 := bR0.below hb1 bR0.lt
  have bO1 := bO0.below hb1 bO0.lt
  have bS1 := bS0.below hb1 bS0.lt
  have hB1 : Below w.heap.size w w1 := up hb1 hB0
  obtain ⟨p, cap, g, rfl, hp, hg, hgd, hcs⟩ := rowC_at (d := w.heap.size) hrow bS1.lt (by simp; omega)
  have hgne : g ≠ w.heap.size + 1 + 1 := by
    rcases hgd with h | h
    · omega
    · simp at h; omega
  have hlen := cellsL_len f
  have HCS := Lib.hid hcs
  clear bS0 bR0 bO0 hB0 hb1 hrow hgd hcs bS1
  go_wp2_with fail
  go_loopw [8] (fun c wr => ∃ i : Nat, i ≤ (cellsL f).length ∧ c = .int .i64 i ∧ BoxS wr (w.heap.size + 1) (fun _ => 0) ∧ BoxS wr (w.heap.size + 1 + 1) (solOf (((cellsL f).take i).map (mirC 1))) ∧ wr.heap[g]? = w1.heap[g]? ∧ Below w.heap.size w wr) (fun c _ => (cellsL f).length - (intOf c).toNat)
  case atStart => exact ⟨0, by omega, rfl, bR1, bO1, rfl, hB1⟩
  case round =>
    clear bR1 bO1 hB1
    obtain ⟨i, hi, rfl, bR, bO, hG, hB⟩ := hrel
    by_cases hlt : i < (cellsL f).length
    · have hd : decide ((i : Int) < ((cellsL f).length : Int)) = true := decide_eq_true (by omega)
      have hci : (cellsL f)[i]? = some (cellsL f)[i] := List.getElem?_eq_getElem hlt
      obtain ⟨c, hc⟩ : ∃ c, c = (cellsL f)[i] := ⟨_, rfl⟩
      rw [← hc] at hci
      clear hc
      obtain ⟨k0, k1, k2⟩ := HCS.out i c hci
      have k0 := (cell_same hG (i * 3)).trans k0
      have k1 := (cell_same hG (i * 3 + 1)).trans k1
      have k2 := (cell_same hG (i * 3 + 2)).trans k2
      have hpp := hp (by omega)
      have hgl : g < wr.heap.size := by
        have : wr.heap[g]? ≠ none := by rw [hG]; simp [hg]
        exact Nat.lt_of_not_le fun h => this (Array.getElem?_eq_none h)
      have lO := bO.lt
      have lR := bR.lt
      have cx := X_le c
      have cy := Y_le c
      have cz := Z_le c
      have HTK := Lib.hid (show solOf (((cellsL f).take (i + 1)).map (mirC 1)) = setC (solOf (((cellsL f).take i).map (mirC 1))) (mirC 1 c) by rw [List.take_add_one, hci]; simp only [Option.toList_some, List.map_append, List.map_cons, List.map_nil]; exact solOf_snoc _ _)
      have HFI := Lib.hid (solOf_fit (((cellsL f).take i).map (mirC 1)))
      generalize solOf (((cellsL f).take i).map (mirC 1)) = h at *
      subst hpp
      clear hci
      have bX : BoxC (wr.alloc (.cells #[.int .i64 ((cX c : Nat) : Int), .int .i64 ((cY c : Nat) : Int), .int .i64 ((cZ c : Nat) : Int)] 26)) wr.heap.size (cX c : Nat) (cY c : Nat) (cZ c : Nat) := BoxC.new rfl
      have bX2 : BoxC (wr.alloc (.cells #[.int .i64 ((cX c : Nat) : Int), .int .i64 (7 - ((cY c : Nat) : Int)), .int .i64 ((cZ c : Nat) : Int)] 26)) wr.heap.size ((cX c : Nat) : Int) (7 - ((cY c : Nat) : Int)) ((cZ c : Nat) : Int) := BoxC.new rfl
      have bO2 : BoxS (wr.alloc (.cells #[.int .i64 ((cX c : Nat) : Int), .int .i64 (7 - ((cY c : Nat) : Int)), .int .i64 ((cZ c : Nat) : Int)] 26)) (w.heap.size + 1 + 1) h := bO.alloc _
      have hU : Below wr.heap.size wr (wr.alloc (.cells #[.int .i64 ((cX c : Nat) : Int), .int .i64 (7 - ((cY c : Nat) : Int)), .int .i64 ((cZ c : Nat) : Int)] 26)) := (Below.refl _ wr).alloc (Nat.le_refl _) _
      obtain ⟨e0, e1, e2⟩ := BoxC.cells bX
      have y0 := bX.free 1
      obtain ⟨d0, d1, d2⟩ := BoxC.cells bX2
      have o0 := (bO2).cell (k := 0) (by omega); have o1 := (bO2).cell (k := 1) (by omega); have o2 := (bO2).cell (k := 2) (by omega); have o3 := (bO2).cell (k := 3) (by omega); have o4 := (bO2).cell (k := 4) (by omega); have o5 := (bO2).cell (k := 5) (by omega); have o6 := (bO2).cell (k := 6) (by omega); have o7 := (bO2).cell (k := 7) (by omega)
      go_wp2_with fail
      have HW := rwith_ok h (mirC 1 c)
      rw [mir_cell1] at HW
      refine (HW _ HFI.out).mono ?_
      rintro e w5 ⟨rfl, hb5⟩
      have hb6 : Below wr.heap.size wr w5 := hU.trans (hb5.mono hU.size)
      have bO5 := bO.below hb6 lO
      have bR5 := bR.below hb6 lR
      have hG5 : w5.heap[g]? = w1.heap[g]? := (hb6.block g hgl).trans hG
      have hB5 : Below w.heap.size w w5 := up hb6 hB
      have lO5 := bO5.lt
      have lR5 := bR5.lt
      clear o0 o1 o2 o3 o4 o5 o6 o7 k0 k1 k2 bO bR hG hB d0 d1 d2 bX bX2 bO2 hU hb5 hb6 e0 e1 e2 y0
      have o0 := (bO5).cell (k := 0) (by omega); have o1 := (bO5).cell (k := 1) (by omega); have o2 := (bO5).cell (k := 2) (by omega); have o3 := (bO5).cell (k := 3) (by omega); have o4 := (bO5).cell (k := 4) (by omega); have o5 := (bO5).cell (k := 5) (by omega); have o6 := (bO5).cell (k := 6) (by omega); have o7 := (bO5).cell (k := 7) (by omega)
      have q0 := (bO5).free 0; have q1 := (bO5).free 1; have q2 := (bO5).free 2; have q3 := (bO5).free 3; have q4 := (bO5).free 4; have q5 := (bO5).free 5; have q6 := (bO5).free 6; have q7 := (bO5).free 7
      go_wp2_with fail
      case roundEnd => exact ⟨⟨i + 1, by omega, by simp, bR5.putOther (by omega) _, by rw [HTK.out]; exact bO5.put (setC h (mirC 1 c)), (heap_put8 _ _ hgne).trans hG5, below_put8 hB5 (by omega) _⟩, by simp [intOf]; omega⟩
    · obtain rfl : i = (cellsL f).length := by omega
      have hd : decide (((cellsL f).length : Int) < ((cellsL f).length : Int)) = false := decide_eq_false (by omega)
      rw [List.take_length] at bO
      have lO := bO.lt
      have lR := bR.lt
      have o0 := (bO).cell (k := 0) (by omega); have o1 := (bO).cell (k := 1) (by omega); have o2 := (bO).cell (k := 2) (by omega); have o3 := (bO).cell (k := 3) (by omega); have o4 := (bO).cell (k := 4) (by omega); have o5 := (bO).cell (k := 5) (by omega); have o6 := (bO).cell (k := 6) (by omega); have o7 := (bO).cell (k := 7) (by omega)
      have r0 := (bR).cell (k := 0) (by omega); have r1 := (bR).cell (k := 1) (by omega); have r2 := (bR).cell (k := 2) (by omega); have r3 := (bR).cell (k := 3) (by omega); have r4 := (bR).cell (k := 4) (by omega); have r5 := (bR).cell (k := 5) (by omega); have r6 := (bR).cell (k := 6) (by omega); have r7 := (bR).cell (k := 7) (by omega)
      have q0 := (bR).free 0; have q1 := (bR).free 1; have q2 := (bR).free 2; have q3 := (bR).free 3; have q4 := (bR).free 4; have q5 := (bR).free 5; have q6 := (bR).free 6; have q7 := (bR).free 7
      go_wp2_with fail
      refine bodyPost_ret (res_se (bR.put (mirF f 1)) Tryz.results47 rfl) rfl ⟨rfl, ?_⟩
      exact below_put8 hB (by omega) _
theorem mir_cell2 (c : Cl) : cell (mirC 2 c) = .agg #[.int .i64 (((cX c : Nat) : Int)), .int .i64 (((cY c : Nat) : Int)), .int .i64 ((7 - ((cZ c : Nat) : Int)))] := by
  unfold cell
  rw [mirC_x, mirC_y, mirC_z]
  rfl
set_option maxRecDepth 100000 in
set_option maxHeartbeats 4000000 in
theorem rMirrored_2 (f : Sol) (w : World) (hf : Fit f) :
    Calls Tryz.prog 47 #[sol f, .int .i64 2] w fun e w' => e = .returned (.tuple #[sol (mirF f 2), .int .i64 0]) ∧ Below w.heap.size w w' := by
  have HF := Lib.hid hf
  clear hf
  go_enter Tryz.func47, Tryz.ntmps47
  go_wp2_with fail
  have bS0 : BoxS (((w.alloc (.cells (solC f) 24)).alloc (.cells #[.int .u64 0, .int .u64 0, .int .u64 0, .int .u64 0, .int .u64 0, .int .u64 0, .int .u64 0, .int .u64 0] 24)).alloc (.cells #[.int .u64 0, .int .u64 0, .int .u64 0, .int .u64 0, .int .u64 0, .int .u64 0, .int .u64 0, .int .u64 0] 24)) w.heap.size f := ((BoxS.new w f).alloc _).alloc _
  have bR0 : BoxS (((w.alloc (.cells (solC f) 24)).alloc (.cells #[.int .u64 0, .int .u64 0, .int .u64 0, .int .u64 0, .int .u64 0, .int .u64 0, .int .u64 0, .int .u64 0] 24)).alloc (.cells #[.int .u64 0, .int .u64 0, .int .u64 0, .int .u64 0, .int .u64 0, .int .u64 0, .int .u64 0, .int .u64 0] 24)) (w.heap.size + 1) (fun _ => 0) := (BoxS.zero (by simp)).alloc _
  have bO0 : BoxS (((w.alloc (.cells (solC f) 24)).alloc (.cells #[.int .u64 0, .int .u64 0, .int .u64 0, .int .u64 0, .int .u64 0, .int .u64 0, .int .u64 0, .int .u64 0] 24)).alloc (.cells #[.int .u64 0, .int .u64 0, .int .u64 0, .int .u64 0, .int .u64 0, .int .u64 0, .int .u64 0, .int .u64 0] 24)) (w.heap.size + 1 + 1) (fun _ => 0) := BoxS.zero (by simp)
  have hB0 : Below w.heap.size w (((w.alloc (.cells (solC f) 24)).alloc (.cells #[.int .u64 0, .int .u64 0, .int .u64 0, .int .u64 0, .int .u64 0, .int .u64 0, .int .u64 0, .int .u64 0] 24)).alloc (.cells #[.int .u64 0, .int .u64 0, .int .u64 0, .int .u64 0, .int .u64 0, .int .u64 0, .int .u64 0, .int .u64 0] 24)) := by repeat' (first | (with_reducible exact Below.refl _ _) | (with_reducible assumption) | (with_reducible refine Below.alloc ?_ ?_ _) | (with_reducible refine Below.drew ?_) | (with_reducible refine below_drewN ?_ _) | (with_reducible refine Below.setCell ?_ ?_ _) | go_size)
  refine (rcells_ok f _ HF.out).mono ?_
  rintro e w1 ⟨v, rfl, hrow, _, hb1⟩
  have bR1 := bR0.below hb1 bR0.lt
  have bO1 := bO0.below hb1 bO0.lt
  have bS1 := bS0.below hb1 bS0.lt
  have hB1 : Below w.heap.size w w1 := up hb1 hB0
  obtain ⟨p, cap, g, rfl, hp, hg, hgd, hcs⟩ := rowC_at (d := w.heap.size) hrow bS1.lt (by simp; omega)
  have hgne : g ≠ w.heap.size + 1 + 1 := by
    rcases hgd with h | h
    · omega
    · simp at h; omega
  have hlen := cellsL_len f
  have HCS := Lib.hid hcs
  clear bS0 bR0 bO0 hB0 hb1 hrow hgd hcs bS1
  go_wp2_with fail
  go_loopw [8] (fun c wr => ∃ i : Nat, i ≤ (cellsL f).length ∧ c = .int .i64 i ∧ BoxS wr (w.heap.size + 1) (fun _ => 0) ∧ BoxS wr (w.heap.size + 1 + 1) (solOf (((cellsL f).take i).map (mirC 2))) ∧ wr.heap[g]? = w1.heap[g]? ∧ Below w.heap.size w wr) (fun c _ => (cellsL f).length - (intOf c).toNat)
  case atStart => exact ⟨0, by omega, rfl, bR1, bO1, rfl, hB1⟩
  case round =>
    clear bR1 bO1 hB1
    obtain ⟨i, hi, rfl, bR, bO, hG, hB⟩ := hrel
    by_cases hlt : i < (cellsL f).length
    · have hd : decide ((i : Int) < ((cellsL f).length : Int)) = true := decide_eq_true (by omega)
      have hci : (cellsL f)[i]? = some (cellsL f)[i] := List.getElem?_eq_getElem hlt
      obtain ⟨c, hc⟩ : ∃ c, c = (cellsL f)[i] := ⟨_, rfl⟩
      rw [← hc] at hci
      clear hc
      obtain ⟨k0, k1, k2⟩ := HCS.out i c hci
      have k0 := (cell_same hG (i * 3)).trans k0
      have k1 := (cell_same hG (i * 3 + 1)).trans k1
      have k2 := (cell_same hG (i * 3 + 2)).trans k2
      have hpp := hp (by omega)
      have hgl : g < wr.heap.size := by
        have : wr.heap[g]? ≠ none := by rw [hG]; simp [hg]
        exact Nat.lt_of_not_le fun h => this (Array.getElem?_eq_none h)
      have lO := bO.lt
      have lR := bR.lt
      have cx := X_le c
      have cy := Y_le c
      have cz := Z_le c
      have HTK := Lib.hid (show solOf (((cellsL f).take (i + 1)).map (mirC 2)) = setC (solOf (((cellsL f).take i).map (mirC 2))) (mirC 2 c) by rw [List.take_add_one, hci]; simp only [Option.toList_some, List.map_append, List.map_cons, List.map_nil]; exact solOf_snoc _ _)
      have HFI := Lib.hid (solOf_fit (((cellsL f).take i).map (mirC 2)))
      generalize solOf (((cellsL f).take i).map (mirC 2)) = h at *
      subst hpp
      clear hci
      have bX : BoxC (wr.alloc (.cells #[.int .i64 ((cX c : Nat) : Int), .int .i64 ((cY c : Nat) : Int), .int .i64 ((cZ c : Nat) : Int)] 26)) wr.heap.size (cX c : Nat) (cY c : Nat) (cZ c : Nat) := BoxC.new rfl
      have bX2 : BoxC (wr.alloc (.cells #[.int .i64 ((cX c : Nat) : Int), .int .i64 ((cY c : Nat) : Int), .int .i64 (7 - ((cZ c : Nat) : Int))] 26)) wr.heap.size ((cX c : Nat) : Int) ((cY c : Nat) : Int) (7 - ((cZ c : Nat) : Int)) := BoxC.new rfl
      have bO2 : BoxS (wr.alloc (.cells #[.int .i64 ((cX c : Nat) : Int), .int .i64 ((cY c : Nat) : Int), .int .i64 (7 - ((cZ c : Nat) : Int))] 26)) (w.heap.size + 1 + 1) h := bO.alloc _
      have hU : Below wr.heap.size wr (wr.alloc (.cells #[.int .i64 ((cX c : Nat) : Int), .int .i64 ((cY c : Nat) : Int), .int .i64 (7 - ((cZ c : Nat) : Int))] 26)) := (Below.refl _ wr).alloc (Nat.le_refl _) _
      obtain ⟨e0, e1, e2⟩ := BoxC.cells bX
      have y0 := bX.free 2
      obtain ⟨d0, d1, d2⟩ := BoxC.cells bX2
      have o0 := (bO2).cell (k := 0) (by omega); have o1 := (bO2).cell (k := 1) (by omega); have o2 := (bO2).cell (k := 2) (by omega); have o3 := (bO2).cell (k := 3) (by omega); have o4 := (bO2).cell (k := 4) (by omega); have o5 := (bO2).cell (k := 5) (by omega); have o6 := (bO2).cell (k := 6) (by omega); have o7 := (bO2).cell (k := 7) (by omega)
      go_wp2_with fail
      have HW := rwith_ok h (mirC 2 c)
      rw [mir_cell2] at HW
      refine (HW _ HFI.out).mono ?_
      rintro e w5 ⟨rfl, hb5⟩
      have hb6 : Below wr.heap.size wr w5 := hU.trans (hb5.mono hU.size)
      have bO5 := bO.below hb6 lO
      have bR5 := bR.below hb6 lR
      have hG5 : w5.heap[g]? = w1.heap[g]? := (hb6.block g hgl).trans hG
      have hB5 : Below w.heap.size w w5 := up hb6 hB
      have lO5 := bO5.lt
      have lR5 := bR5.lt
      clear o0 o1 o2 o3 o4 o5 o6 o7 k0 k1 k2 bO bR hG hB d0 d1 d2 bX bX2 bO2 hU hb5 hb6 e0 e1 e2 y0
      have o0 := (bO5).cell (k := 0) (by omega); have o1 := (bO5).cell (k := 1) (by omega); have o2 := (bO5).cell (k := 2) (by omega); have o3 := (bO5).cell (k := 3) (by omega); have o4 := (bO5).cell (k := 4) (by omega); have o5 := (bO5).cell (k := 5) (by omega); have o6 := (bO5).cell (k := 6) (by omega); have o7 := (bO5).cell (k := 7) (by omega)
      have q0 := (bO5).free 0; have q1 := (bO5).free 1; have q2 := (bO5).free 2; have q3 := (bO5).free 3; have q4 := (bO5).free 4; have q5 := (bO5).free 5; have q6 := (bO5).free 6; have q7 := (bO5).free 7
      go_wp2_with fail
      case roundEnd => exact ⟨⟨i + 1, by omega, by simp, bR5.putOther (by omega) _, by rw [HTK.out]; exact bO5.put (setC h (mirC 2 c)), (heap_put8 _ _ hgne).trans hG5, below_put8 hB5 (by omega) _⟩, by simp [intOf]; omega⟩
    · obtain rfl : i = (cellsL f).length := by omega
      have hd : decide (((cellsL f).length : Int) < ((cellsL f).length : Int)) = false := decide_eq_false (by omega)
      rw [List.take_length] at bO
      have lO := bO.lt
      have lR := bR.lt
      have o0 := (bO).cell (k := 0) (by omega); have o1 := (bO).cell (k := 1) (by omega); have o2 := (bO).cell (k := 2) (by omega); have o3 := (bO).cell (k := 3) (by omega); have o4 := (bO).cell (k := 4) (by omega); have o5 := (bO).cell (k := 5) (by omega); have o6 := (bO).cell (k := 6) (by omega); have o7 := (bO).cell (k := 7) (by omega)
      have r0 := (bR).cell (k := 0) (by omega); have r1 := (bR).cell (k := 1) (by omega); have r2 := (bR).cell (k := 2) (by omega); have r3 := (bR).cell (k := 3) (by omega); have r4 := (bR).cell (k := 4) (by omega); have r5 := (bR).cell (k := 5) (by omega); have r6 := (bR).cell (k := 6) (by omega); have r7 := (bR).cell (k := 7) (by omega)
      have q0 := (bR).free 0; have q1 := (bR).free 1; have q2 := (bR).free 2; have q3 := (bR).free 3; have q4 := (bR).free 4; have q5 := (bR).free 5; have q6 := (bR).free 6; have q7 := (bR).free 7
      go_wp2_with fail
      refine bodyPost_ret (res_se (bR.put (mirF f 2)) Tryz.results47 rfl) rfl ⟨rfl, ?_⟩
      exact below_put8 hB (by omega) _
end Go.Proofs.YtadkaplafaeebaaGreatDoor
/-
  The reference's motion and Placed.
-/
set_option linter.unusedVariables false
set_option linter.unusedSimpArgs false
namespace Go.Proofs.YtadkaplafaeebaaGreatDoor
open Go Go.RowKit Go.Shelf

set_option maxRecDepth 100000 in
set_option maxHeartbeats 4000000 in
theorem rmotion_ok (t x y z : Int) (w : World) : Calls Tryz.prog 106 #[.agg #[.int .i64 (t), .int .i64 (x), .int .i64 (y), .int .i64 (z)]] w fun e w' => e = .returned (.bool (motB t x y z)) ∧ Below w.heap.size w w' := by
  have M0 : Q4 (w.alloc (.cells #[.int .i64 (t), .int .i64 (x), .int .i64 (y), .int .i64 (z)] 46)) w.heap.size t x y z := blk_new rfl
  have hB0 : Below w.heap.size w (w.alloc (.cells #[.int .i64 (t), .int .i64 (x), .int .i64 (y), .int .i64 (z)] 46)) := (Below.refl _ _).alloc (Nat.le_refl _) _
  by_cases ht : 0 ≤ t ∧ t < 24
  · have d1 : decide (0 ≤ t) = true := decide_eq_true ht.1
    have d2 : decide (t ≤ 23) = true := decide_eq_true (by omega)
    have HT : motB t x y z = (shB x && (shB y && shB z)) := by unfold motB; rw [decide_eq_true ht, Bool.true_and, mvB_sh]
    have HTH := Lib.hid HT
    clear HT
    go_enter Tryz.func106, Tryz.ntmps106
    go_wp2_with fail
    cases hx : shB x
    · refine (rshort_is hx _).mono ?_
      rintro e w1 ⟨rfl, hb1⟩
      have hB1 : Below w.heap.size w w1 := up hb1 hB0
      go_wp2_with fail
      go_ret
      exact ⟨retB (by rw [HTH.out, hx]; rfl), hB1⟩
    · refine (rshort_is hx _).mono ?_
      rintro e w1 ⟨rfl, hb1⟩
      have hB1 : Below w.heap.size w w1 := up hb1 hB0
      have M1 := blk_below M0 hb1 (blk_lt M0)
      obtain ⟨m0, m1, m2, m3⟩ := Q4.cells M1
      go_wp2_with fail
      cases hy : shB y
      · refine (rshort_is hy _).mono ?_
        rintro e w2 ⟨rfl, hb2⟩
        have hB2 : Below w.heap.size w w2 := up hb2 hB1
        go_wp2_with fail
        go_ret
        exact ⟨retB (by rw [HTH.out, hx, hy]; rfl), hB2⟩
      · refine (rshort_is hy _).mono ?_
        rintro e w2 ⟨rfl, hb2⟩
        have hB2 : Below w.heap.size w w2 := up hb2 hB1
        have M2 := blk_below M1 hb2 (blk_lt M1)
        clear m0 m1 m2 m3
        obtain ⟨m0, m1, m2, m3⟩ := Q4.cells M2
        go_wp2_with fail
        refine (rshort_ok z _).mono ?_
        rintro e w3 ⟨rfl, hb3⟩
        have hB3 : Below w.heap.size w w3 := up hb3 hB2
        go_wp2_with fail
        go_ret
        exact ⟨retB (by rw [HTH.out, hx, hy]; rfl), hB3⟩
  · have HT : motB t x y z = false := by unfold motB; rw [decide_eq_false ht]; rfl
    have HTH := Lib.hid HT
    clear HT
    by_cases h0 : 0 ≤ t
    · have d1 : decide (0 ≤ t) = true := decide_eq_true h0
      have d2 : decide (t ≤ 23) = false := decide_eq_false (by omega)
      go_enter Tryz.func106, Tryz.ntmps106
      go_wp2_with fail
      go_ret
      exact ⟨retB (by rw [HTH.out]), hB0⟩
    · have d1 : decide (0 ≤ t) = false := decide_eq_false h0
      go_enter Tryz.func106, Tryz.ntmps106
      go_wp2_with fail
      go_ret
      exact ⟨retB (by rw [HTH.out]), hB0⟩
theorem rmotion_is {t x y z : Int} {b : Bool} (h : motB t x y z = b) (w : World) : Calls Tryz.prog 106 #[.agg #[.int .i64 (t), .int .i64 (x), .int .i64 (y), .int .i64 (z)]] w fun e w' => e = .returned (.bool b) ∧ Below w.heap.size w w' := by
  subst h
  exact rmotion_ok t x y z w
set_option maxRecDepth 100000 in
set_option maxHeartbeats 4000000 in
theorem rPlaced_no (f : Sol) (t x y z : Int) (w : World) (h : motB t x y z = false) :
    Calls Tryz.prog 49 #[sol f, .agg #[.int .i64 (t), .int .i64 (x), .int .i64 (y), .int .i64 (z)]] w fun e w' => e = .returned (.tuple #[sol (fun _ => 0), .int .i64 1]) ∧ Below w.heap.size w w' := by
  have H := Lib.hid h
  clear h
  go_enter Tryz.func49, Tryz.ntmps49
  go_wp2_with fail
  refine (rmotion_is H.out _).mono ?_
  rintro e w1 ⟨rfl, hb1⟩
  have bR : BoxS w1 (w.heap.size + 1 + 1) (fun _ => 0) := (BoxS.zero (by simp)).below hb1 (by simp <;> omega)
  have hB1 : Below w.heap.size w w1 := up hb1 (by repeat' (first | (with_reducible exact Below.refl _ _) | (with_reducible assumption) | (with_reducible refine Below.alloc ?_ ?_ _) | (with_reducible refine Below.drew ?_) | (with_reducible refine below_drewN ?_ _) | (with_reducible refine Below.setCell ?_ ?_ _) | go_size))
  have l1 := bR.lt
  have r0 := (bR).cell (k := 0) (by omega); have r1 := (bR).cell (k := 1) (by omega); have r2 := (bR).cell (k := 2) (by omega); have r3 := (bR).cell (k := 3) (by omega); have r4 := (bR).cell (k := 4) (by omega); have r5 := (bR).cell (k := 5) (by omega); have r6 := (bR).cell (k := 6) (by omega); have r7 := (bR).cell (k := 7) (by omega)
  have q0 := (bR).free 0; have q1 := (bR).free 1; have q2 := (bR).free 2; have q3 := (bR).free 3; have q4 := (bR).free 4; have q5 := (bR).free 5; have q6 := (bR).free 6; have q7 := (bR).free 7
  go_wp2_with fail
  refine bodyPost_ret (res_se (bR.put fun _ => 0) Tryz.results49 rfl) rfl ⟨rfl, ?_⟩
  exact below_put8 hB1 (by omega) (fun _ => 0)
set_option maxRecDepth 100000 in
set_option maxHeartbeats 4000000 in
theorem rPlaced_of (f r : Sol) (t : Nat) (x y z e0 : Int) (w : World) (hf : Fit f) (ht : t < 24) (hm : mvB x y z = true)
    (hM : ∀ W, Calls Tryz.prog 45 #[sol (turnedF f t), .int .i64 x, .int .i64 y, .int .i64 z] W fun e w' => e = .returned (.tuple #[sol r, .int .i64 e0]) ∧ Below W.heap.size W w') :
    Calls Tryz.prog 49 #[sol f, .agg #[.int .i64 (t), .int .i64 (x), .int .i64 (y), .int .i64 (z)]] w fun e w' => e = .returned (.tuple #[sol r, .int .i64 e0]) ∧ Below w.heap.size w w' := by
  have H := Lib.hid (show motB t x y z = true by unfold motB; rw [decide_eq_true (by omega), hm]; rfl)
  have HF := Lib.hid hf
  have HM := Lib.hid hM
  clear hf hM hm
  go_enter Tryz.func49, Tryz.ntmps49
  go_wp2_with fail
  refine (rmotion_is H.out _).mono ?_
  rintro e w1 ⟨rfl, hb1⟩
  have bS : BoxS w1 w.heap.size f := (((BoxS.new w f).alloc _).alloc _).below hb1 (by simp <;> omega)
  have bM : Q4 w1 (w.heap.size + 1) t x y z := blk_below (blk_alloc (blk_new (by simp)) _) hb1 (by simp <;> omega)
  have bR : BoxS w1 (w.heap.size + 1 + 1) (fun _ => 0) := (BoxS.zero (by simp)).below hb1 (by simp <;> omega)
  have hB1 : Below w.heap.size w w1 := up hb1 (by repeat' (first | (with_reducible exact Below.refl _ _) | (with_reducible assumption) | (with_reducible refine Below.alloc ?_ ?_ _) | (with_reducible refine Below.drew ?_) | (with_reducible refine below_drewN ?_ _) | (with_reducible refine Below.setCell ?_ ?_ _) | go_size))
  clear hb1
  obtain ⟨m0, m1, m2, m3⟩ := Q4.cells bM
  have c0 := (bS).cell (k := 0) (by omega); have c1 := (bS).cell (k := 1) (by omega); have c2 := (bS).cell (k := 2) (by omega); have c3 := (bS).cell (k := 3) (by omega); have c4 := (bS).cell (k := 4) (by omega); have c5 := (bS).cell (k := 5) (by omega); have c6 := (bS).cell (k := 6) (by omega); have c7 := (bS).cell (k := 7) (by omega)
  go_wp2_with fail
  refine (rTurned_yes f t _ HF.out ht).mono ?_
  rintro e w2 ⟨rfl, hb2⟩
  have bM2 := blk_alloc (blk_below bM hb2 (blk_lt bM)) (.cells (solC (turnedF f t)) 24)
  have bR2 := (bR.below hb2 bR.lt).alloc (.cells (solC (turnedF f t)) 24)
  have hB2 : Below w.heap.size w w2 := up hb2 hB1
  have hB2' := hB2.alloc hB2.size (.cells (solC (turnedF f t)) 24)
  clear bM bR hB1 hb2 m0 m1 m2 m3 c0 c1 c2 c3 c4 c5 c6 c7 bS hB2
  obtain ⟨m0, m1, m2, m3⟩ := Q4.cells bM2
  go_wp2_with fail
  refine (HM.out _).mono ?_
  rintro e w3 ⟨rfl, hb3⟩
  have bR3 := bR2.below hb3 bR2.lt
  have hB3 : Below w.heap.size w w3 := up hb3 hB2'
  have l3 := bR3.lt
  have r0 := (bR3).cell (k := 0) (by omega); have r1 := (bR3).cell (k := 1) (by omega); have r2 := (bR3).cell (k := 2) (by omega); have r3 := (bR3).cell (k := 3) (by omega); have r4 := (bR3).cell (k := 4) (by omega); have r5 := (bR3).cell (k := 5) (by omega); have r6 := (bR3).cell (k := 6) (by omega); have r7 := (bR3).cell (k := 7) (by omega)
  have q0 := (bR3).free 0; have q1 := (bR3).free 1; have q2 := (bR3).free 2; have q3 := (bR3).free 3; have q4 := (bR3).free 4; have q5 := (bR3).free 5; have q6 := (bR3).free 6; have q7 := (bR3).free 7
  go_wp2_with fail
  refine bodyPost_ret (res_se (bR3.put r) Tryz.results49 rfl) rfl ⟨rfl, ?_⟩
  exact below_put8 hB3 (by omega) _
end Go.Proofs.YtadkaplafaeebaaGreatDoor
