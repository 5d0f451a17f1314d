/-
  The reference's Join, Meet, Less, In, corners.
-/
import Derived.Test.YtadkaplafaeebaaGreatDoorPkAQ
import Derived.Test.YtadkaplafaeebaaGreatDoorPkFQ
import Derived.Test.YtadkaplafaeebaaGreatDoorPkXBQ
import Derived.Deep.Cut
import Derived.Test.YtadkaplafaeebaaGreatDoorPkRBQ
import Derived.Test.YtadkaplafaeebaaGreatDoorPkTEQ
import Derived.Test.YtadkaplafaeebaaGreatDoorPkRAQ
import Derived.Test.YtadkaplafaeebaaGreatDoorPkTAQ
import Derived.Test.YtadkaplafaeebaaGreatDoorPkPQ
set_option linter.unusedVariables false
set_option linter.unusedSimpArgs false
namespace Go.Proofs.YtadkaplafaeebaaGreatDoor
open Go Go.RowKit

set_option maxRecDepth 100000 in
set_option maxHeartbeats 2000000 in
theorem rjoin_ok (f g : Sol) (w : World) (hf : Fit f) (hg : Fit g) :
    Calls Tryz.prog 31 #[sol f, sol g] w fun e w' => e = .returned (sol (joinF f g)) ∧ Below w.heap.size w w' := by
  go_enter Tryz.func31, Tryz.ntmps31
  go_wp2_with fail
  go_loopw [5] (fun c wr => ∃ k : Nat, k ≤ 8 ∧ c = .int .i64 k ∧ BoxS wr w.heap.size (mix k (joinF f g) f) ∧ BoxS wr (w.heap.size + 1) g ∧ BoxS wr (w.heap.size + 1 + 1) (fun _ => 0) ∧ Below w.heap.size w wr) (fun c _ => 8 - (intOf c).toNat)
  case atStart => exact ⟨0, by omega, rfl, ((BoxS.new w f).alloc _).alloc _, (BoxS.new' (by simp)).alloc _, BoxS.zero (by simp), by go_grown⟩
  case round =>
    obtain ⟨k, hk, rfl, hA, hB, hR, hw⟩ := hrel
    by_cases hlt : k < 8
    · have hd : decide ((k : Int) < 8) = true := decide_eq_true (by omega)
      have b1 : f k < 18446744073709551616 := hf k
      have b2 : g k < 18446744073709551616 := hg k
      have e1 : mix k (joinF f g) f k = f k := by unfold mix; rw [if_neg (by omega)]
      have e2 : bits .or .u64 (f k : Int) (g k : Int) = ((joinF f g k : Nat) : Int) := bits_or b1 b2
      have E2 := Lib.hid e2
      have cA := hA.cell hlt
      have cB := hB.cell hlt
      rw [e1] at cA
      have lA := hA.lt
      have lB := hB.lt
      have lR := hR.lt
      have hki : ((k : Nat) : Int) < 8 := by omega
      clear e1 e2 b1 b2
      go_wp2_with fail
      obtain ⟨W, hW⟩ : ∃ W, W = wr := ⟨_, rfl⟩
      subst hW
      (refine wp_region_quiet_tail 9 (fun w' => Below W.heap.size W w') (by kernel_rfl) (by kernel_rfl) (Below.drew (Below.refl _ _)) ?_; simp only [List.take_succ_cons, List.take_zero, List.drop_succ_cons, List.drop_zero]; (iterate 9 (refine wpQuiet_step (fun K hK => ?_); go_simp; first | (refine hK _ ?_; clear hK K) | (apply Exists.intro; refine ⟨fun W' hW' => ?_, hK _ ?_⟩; (focus (first | (with_reducible exact rfl) | (with_reducible exact ⟨rfl, rfl⟩) | (obtain ⟨hcq, hfq⟩ := bcell hW'; have hzq := hW'.size; (try go_simp); first | (with_reducible exact rfl) | (with_reducible exact ⟨rfl, rfl⟩) | (fail)))); clear hK K))); refine wpQuiet_nil ?_; intro w1q hb1q)
      rw [E2.out]
      have hA1 := hA.below hb1q lA
      have hB1 := hB.below hb1q lB
      have hR1 := hR.below hb1q lR
      have hw1 : Below w.heap.size w w1q := up hb1q hw
      have v1 := hA1.cell hlt
      have fr := hA1.free k
      clear cA cB hA hB hR hw
      go_wp2_with fail
      case roundEnd => exact ⟨⟨k + 1, by omega, by simp, by rw [← mix_succ]; exact hA1.set hlt _, hB1.other (by omega) _, hR1.other (by omega) _, hw1.setCell (by simp) _⟩, by simp [intOf]; omega⟩
    · obtain rfl : k = 8 := by omega
      have hd : decide (((8 : Nat) : Int) < 8) = false := by decide
      have lA := hA.lt
      have lR := hR.lt
      have c0 := (hA).cell (k := 0) (by omega); have c1 := (hA).cell (k := 1) (by omega); have c2 := (hA).cell (k := 2) (by omega); have c3 := (hA).cell (k := 3) (by omega); have c4 := (hA).cell (k := 4) (by omega); have c5 := (hA).cell (k := 5) (by omega); have c6 := (hA).cell (k := 6) (by omega); have c7 := (hA).cell (k := 7) (by omega)
      have r0 := (hR).cell (k := 0) (by omega); have r1 := (hR).cell (k := 1) (by omega); have r2 := (hR).cell (k := 2) (by omega); have r3 := (hR).cell (k := 3) (by omega); have r4 := (hR).cell (k := 4) (by omega); have r5 := (hR).cell (k := 5) (by omega); have r6 := (hR).cell (k := 6) (by omega); have r7 := (hR).cell (k := 7) (by omega)
      have q0 := (hR).free 0; have q1 := (hR).free 1; have q2 := (hR).free 2; have q3 := (hR).free 3; have q4 := (hR).free 4; have q5 := (hR).free 5; have q6 := (hR).free 6; have q7 := (hR).free 7
      go_wp2_with fail
      refine bodyPost_ret (res_s ((hR.put (mix 8 (joinF f g) f)).congr fun i hi => ?_) Tryz.results31 rfl) rfl ⟨rfl, ?_⟩
      · unfold mix; rw [if_pos hi]
      · exact below_put8 hw (by omega) _
set_option maxRecDepth 100000 in
set_option maxHeartbeats 2000000 in
theorem rless_ok (f g : Sol) (w : World) (hf : Fit f) (hg : Fit g) :
    Calls Tryz.prog 35 #[sol f, sol g] w fun e w' => e = .returned (sol (lessF f g)) ∧ Below w.heap.size w w' := by
  go_enter Tryz.func35, Tryz.ntmps35
  go_wp2_with fail
  go_loopw [5] (fun c wr => ∃ k : Nat, k ≤ 8 ∧ c = .int .i64 k ∧ BoxS wr w.heap.size (mix k (lessF f g) f) ∧ BoxS wr (w.heap.size + 1) g ∧ BoxS wr (w.heap.size + 1 + 1) (fun _ => 0) ∧ Below w.heap.size w wr) (fun c _ => 8 - (intOf c).toNat)
  case atStart => exact ⟨0, by omega, rfl, ((BoxS.new w f).alloc _).alloc _, (BoxS.new' (by simp)).alloc _, BoxS.zero (by simp), by go_grown⟩
  case round =>
    obtain ⟨k, hk, rfl, hA, hB, hR, hw⟩ := hrel
    by_cases hlt : k < 8
    · have hd : decide ((k : Int) < 8) = true := decide_eq_true (by omega)
      have b1 : f k < 18446744073709551616 := hf k
      have b2 : g k < 18446744073709551616 := hg k
      have e1 : mix k (lessF f g) f k = f k := by unfold mix; rw [if_neg (by omega)]
      have e2 : bits .andNot .u64 (f k : Int) (g k : Int) = ((lessF f g k : Nat) : Int) := bits_andNot b1 b2
      have E2 := Lib.hid e2
      have cA := hA.cell hlt
      have cB := hB.cell hlt
      rw [e1] at cA
      have lA := hA.lt
      have lB := hB.lt
      have lR := hR.lt
      have hki : ((k : Nat) : Int) < 8 := by omega
      clear e1 e2 b1 b2
      go_wp2_with fail
      obtain ⟨W, hW⟩ : ∃ W, W = wr := ⟨_, rfl⟩
      subst hW
      (refine wp_region_quiet_tail 9 (fun w' => Below W.heap.size W w') (by kernel_rfl) (by kernel_rfl) (Below.drew (Below.refl _ _)) ?_; simp only [List.take_succ_cons, List.take_zero, List.drop_succ_cons, List.drop_zero]; (iterate 9 (refine wpQuiet_step (fun K hK => ?_); go_simp; first | (refine hK _ ?_; clear hK K) | (apply Exists.intro; refine ⟨fun W' hW' => ?_, hK _ ?_⟩; (focus (first | (with_reducible exact rfl) | (with_reducible exact ⟨rfl, rfl⟩) | (obtain ⟨hcq, hfq⟩ := bcell hW'; have hzq := hW'.size; (try go_simp); first | (with_reducible exact rfl) | (with_reducible exact ⟨rfl, rfl⟩) | (fail)))); clear hK K))); refine wpQuiet_nil ?_; intro w1q hb1q)
      rw [E2.out]
      have hA1 := hA.below hb1q lA
      have hB1 := hB.below hb1q lB
      have hR1 := hR.below hb1q lR
      have hw1 : Below w.heap.size w w1q := up hb1q hw
      have v1 := hA1.cell hlt
      have fr := hA1.free k
      clear cA cB hA hB hR hw
      go_wp2_with fail
      case roundEnd => exact ⟨⟨k + 1, by omega, by simp, by rw [← mix_succ]; exact hA1.set hlt _, hB1.other (by omega) _, hR1.other (by omega) _, hw1.setCell (by simp) _⟩, by simp [intOf]; omega⟩
    · obtain rfl : k = 8 := by omega
      have hd : decide (((8 : Nat) : Int) < 8) = false := by decide
      have lA := hA.lt
      have lR := hR.lt
      have c0 := (hA).cell (k := 0) (by omega); have c1 := (hA).cell (k := 1) (by omega); have c2 := (hA).cell (k := 2) (by omega); have c3 := (hA).cell (k := 3) (by omega); have c4 := (hA).cell (k := 4) (by omega); have c5 := (hA).cell (k := 5) (by omega); have c6 := (hA).cell (k := 6) (by omega); have c7 := (hA).cell (k := 7) (by omega)
      have r0 := (hR).cell (k := 0) (by omega); have r1 := (hR).cell (k := 1) (by omega); have r2 := (hR).cell (k := 2) (by omega); have r3 := (hR).cell (k := 3) (by omega); have r4 := (hR).cell (k := 4) (by omega); have r5 := (hR).cell (k := 5) (by omega); have r6 := (hR).cell (k := 6) (by omega); have r7 := (hR).cell (k := 7) (by omega)
      have q0 := (hR).free 0; have q1 := (hR).free 1; have q2 := (hR).free 2; have q3 := (hR).free 3; have q4 := (hR).free 4; have q5 := (hR).free 5; have q6 := (hR).free 6; have q7 := (hR).free 7
      go_wp2_with fail
      refine bodyPost_ret (res_s ((hR.put (mix 8 (lessF f g) f)).congr fun i hi => ?_) Tryz.results35 rfl) rfl ⟨rfl, ?_⟩
      · unfold mix; rw [if_pos hi]
      · exact below_put8 hw (by omega) _
def rinB (f g : Sol) : Bool := emptyS (lessF f g)
set_option maxRecDepth 100000 in
set_option maxHeartbeats 2000000 in
theorem rin_ok (f g : Sol) (w : World) (hf : Fit f) (hg : Fit g) :
    Calls Tryz.prog 37 #[sol f, sol g] w fun e w' => e = .returned (.bool (rinB f g)) ∧ Below w.heap.size w w' := by
  have HF := Lib.hid hf
  have HG := Lib.hid hg
  clear hf hg
  have hB0 : Below w.heap.size w ((w.alloc (.cells (solC f) 24)).alloc (.cells (solC g) 24)) := by repeat' (first | (with_reducible exact Below.refl _ _) | (with_reducible assumption) | (with_reducible refine Below.alloc ?_ ?_ _) | (with_reducible refine Below.drew ?_) | (with_reducible refine below_drewN ?_ _) | (with_reducible refine Below.setCell ?_ ?_ _) | go_size)
  go_enter Tryz.func37, Tryz.ntmps37
  go_wp2_with fail
  refine (rless_ok f g _ HF.out HG.out).mono ?_
  rintro e w1 ⟨rfl, hb1⟩
  have hB1 : Below w.heap.size w w1 := up hb1 hB0
  go_wp2_with fail
  go_ret
  exact ⟨rfl, hB1⟩
theorem rin_is {f g : Sol} (hf : Fit f) : rinB f g = inB f g := by
  rw [Bool.eq_iff_iff, in_iff hf]
  unfold rinB
  have hl : Fit (lessF f g) := fun i => andN_lt (hf i)
  rw [empty_has hl]
  have key : ∀ p, hasI (lessF f g) p = (hasI f p && !hasI g p) := fun p => by
    unfold hasI hasC lessF
    rw [andN_bit]
    cases inG p.1 p.2.1 p.2.2 <;> simp
  constructor
  · intro h p hp
    have := h p
    rw [key, hp] at this
    simpa using this
  · intro h p
    rw [key]
    cases hp : hasI f p with
    | false => rfl
    | true => rw [h p hp]; rfl
end Go.Proofs.YtadkaplafaeebaaGreatDoor
/-
  The reference's SameCells, of the same cells twice.
-/
set_option linter.unusedVariables false
set_option linter.unusedSimpArgs false
namespace Go.Proofs.YtadkaplafaeebaaGreatDoor
open Go Go.RowKit

end Go.Proofs.YtadkaplafaeebaaGreatDoor
/-
  The reference's Has at a cell out of the grid.
-/
set_option linter.unusedVariables false
set_option linter.unusedSimpArgs false
namespace Go.Proofs.YtadkaplafaeebaaGreatDoor
open Go Go.RowKit

set_option maxRecDepth 100000 in
set_option maxHeartbeats 1000000 in
theorem rhas_no (f : Sol) (x y z : Int) (w : World) (h : inG x y z = false) :
    Calls Tryz.prog 24 #[sol f, .agg #[.int .i64 (x), .int .i64 (y), .int .i64 (z)]] w fun e w' => e = .returned (.bool false) ∧ Below w.heap.size w w' := by
  have H := Lib.hid h
  clear h
  have bC : BoxC ((w.alloc (.cells (solC f) 24)).alloc (.cells #[.int .i64 x, .int .i64 y, .int .i64 z] 26)) (w.heap.size + 1) x y z := BoxC.new (by simp)
  have d0 := bC.c0
  have d1 := bC.c1
  have d2 := bC.c2
  go_enter Tryz.func24, Tryz.ntmps24
  go_wp2
  obtain ⟨W, hW⟩ : ∃ W, W = ((w.alloc (.cells (solC f) 24)).alloc (.cells #[.int .i64 x, .int .i64 y, .int .i64 z] 26)) := ⟨_, rfl⟩
  have hBW : Below w.heap.size w W := by rw [hW]; repeat' (first | (with_reducible exact Below.refl _ _) | (with_reducible assumption) | (with_reducible refine Below.alloc ?_ ?_ _) | (with_reducible refine Below.drew ?_) | (with_reducible refine below_drewN ?_ _) | (with_reducible refine Below.setCell ?_ ?_ _) | go_size)
  rw [← hW] at d0 d1 d2 ⊢
  have lC : w.heap.size + 1 < W.heap.size := by rw [hW]; simp <;> omega
  clear hW bC
  refine wp_region_quiet (C := fun w' => Below W.heap.size W w') (by kernel_rfl) (by kernel_rfl) (Below.drew (Below.refl _ _)) ?_
  refine wpQuiet_step (fun K hK => ?_)
  go_simp
  refine ⟨.agg #[.int .i64 (x), .int .i64 (y), .int .i64 (z)], fun W' hW' => ?_, hK _ ?_⟩
  · obtain ⟨hcq, hfq⟩ := bcell hW'
    have hzq := hW'.size
    (try go_simp)
    done
  clear hK K
  refine wpQuiet_step (fun K hK => ?_)
  go_simp
  refine ⟨.bool false, fun W' hW' => ?_, hK _ ?_⟩
  · refine (rinGrid_is H.out _).mono ?_
    rintro e w2 ⟨rfl, hb2⟩
    exact ⟨rfl, hW'.trans (hb2.mono hW'.size)⟩
  clear hK K
  refine wpQuiet_step (fun K hK => ?_)
  go_simp
  refine ⟨.bool false, fun W' hW' => rfl, ?_⟩
  generalize hA : (Act.mk _ _ : Act) = A
  refine hK A ?_
  clear hK K
  have hA7 : A.tmps[7]? = some (.bool false) := by rw [← hA]; rfl
  refine wpQuiet_off 14 2 true 7 (by kernel_rfl) (by kernel_rfl) hA7 ?_
  generalize hB : putU _ A = B
  have hB2 : B = { tmps := #[sol f, .agg #[.int .i64 (x), .int .i64 (y), .int .i64 (z)], .pointer (some ⟨w.heap.size, 0, none⟩), .pointer (some ⟨w.heap.size + 1, 0, none⟩), .bool false, .agg #[.int .i64 (x), .int .i64 (y), .int .i64 (z)], .bool false, .bool false, undef, undef, undef, undef, undef, undef, undef, undef, undef, undef, undef, undef, undef, undef, undef], defers := [] } := by
    rw [← hB, ← hA]
    kernel_rfl
  rw [hB2]
  clear hB hB2 hA hA7
  simp only [List.drop_succ_cons, List.drop_zero]
  refine wpQuiet_step (fun K hK => ?_)
  go_simp
  refine ⟨.bool false, fun W' hW' => rfl, ?_⟩
  generalize hA : (Act.mk _ _ : Act) = A
  refine hK A ?_
  clear hK K
  subst hA
  refine wpQuiet_step (fun K hK => ?_)
  go_simp
  refine ⟨.bool false, fun W' hW' => rfl, ?_⟩
  generalize hA : (Act.mk _ _ : Act) = A
  refine hK A ?_
  clear hK K
  subst hA
  refine wpQuiet_nil ?_
  intro w1q hb1q
  go_wp2
  go_ret
  exact ⟨rfl, hBW.trans (hb1q.mono hBW.size)⟩
theorem rhas_ok (f : Sol) (p : I3) (w : World) (hf : Fit f) : Calls Tryz.prog 24 #[sol f, encI p] w fun e w' => e = .returned (.bool (hasI f p)) ∧ Below w.heap.size w w' := by
  unfold hasI
  by_cases h : inG p.1 p.2.1 p.2.2 = true
  · have h7 : In7 p := by unfold In7; exact of_decide_eq_true h
    have := rhas_yes f (ofI p) w hf
    unfold cell at this
    rw [ofI_x h7, ofI_y h7, ofI_z h7] at this
    rw [h]
    exact this
  · have h0 : inG p.1 p.2.1 p.2.2 = false := by simpa using h
    rw [h0]
    exact rhas_no f p.1 p.2.1 p.2.2 w h0
end Go.Proofs.YtadkaplafaeebaaGreatDoor
/-
  The law of RelG with relations that also speak of the world (a row that has been laid).
-/
set_option linter.unusedVariables false
set_option linter.unusedSimpArgs false
namespace Go.Proofs.YtadkaplafaeebaaGreatDoor
open Go Go.RowKit

section
variable {P : Program} {ops : Array Oper}
theorem wp_region_relW {id : Nat} {Q : Exit → Act → World → Prop} {a : Act} {w : World} (V : Nat → Value → World → Prop) (C : World → Prop) (hm : P.follows .mixedOrders = true) (hD : dstB ops = true) (hB : backB ops = true) (hC : C w.drew)
    (hS : szB ops a.tmps.size = true)
    (hst : ∀ j v w w', Below w.heap.size w w' → V j v w → V j v w')
    (hop : ∀ i o, ops[i]? = some o → ∀ (a' : Act) (w' : World), C w' → (∀ j t, preB ops i j = true → dstR ops j = some t → ∃ v, V j v w' ∧ a'.tmps[t]? = some v) → (∀ t, fixB ops t = true → a'.tmps[t]? = a.tmps[t]?) →
      Region.wanted o (yielded ops a'.tmps) = true ∧ ∀ K : Act → World → Prop, (∀ v w'', V i v w'' → C w'' → Below w'.heap.size w' w'' → K (a'.put o.dst v) w'') → o.wp P a' w' K Q)
    (hend : ∀ (vals : Nat → Value) (w' : World), C w' → (∀ i, i < ops.size → V i (vals i) w') → Q .normal (putA ops vals (List.range ops.size) a) w') : (Code.region id ops true).wp P Q a w := by
  have hsz : ∀ i t, dstR ops i = some t → t < a.tmps.size := fun i t hd => by
    have hi : i < ops.size := by
      rcases Nat.lt_or_ge i ops.size with h' | h'
      · exact h'
      · simp [dstR, Array.getElem?_eq_none h'] at hd
    have h1 := List.all_eq_true.1 hS i (List.mem_range.2 hi)
    rw [hd] at h1
    simpa using h1
  refine wp_region_any hm ?_
  have all : ∀ (l : Array Bool) (vals : Nat → Value) (w' : World), C w' → (∀ j, l.getD j false = true → V j (vals j) w') → (∀ j, j < ops.size → l.getD j false = true) → Q .normal (putL ops l vals (List.range ops.size) a) w' := fun l vals w' hC hV hl => by
    rw [putL_all l vals _ _ fun j hj => hl j (List.mem_range.1 hj)]
    exact hend vals w' hC fun i hi => hV i (hl i hi)
  have key : ∀ (fuel : Nat) (l : Array Bool) (vals : Nat → Value) (w' : World), l.size = ops.size → C w' → (∀ j, l.getD j false = true → V j (vals j) w') → l.toList.count false ≤ fuel → wpAny P .any ops Q fuel l (putL ops l vals (List.range ops.size) a) w' := by
    have gd : ∀ (l : Array Bool) (j : Nat), l.size = ops.size → j < ops.size → l.getD j true = l.getD j false := fun l j hs hj => by
      have : j < l.size := by omega
      simp [Array.getD, this]
    have done : ∀ (l : Array Bool), l.size = ops.size → Region.ready .any ops l = [] → ∀ j, j < ops.size → l.getD j false = true := fun l hs hr j => by
      induction j using Nat.strongRecOn with
      | ind j ih =>
        intro hj
        refine Classical.byContradiction fun hc => ?_
        have hc : l.getD j false = false := by simpa using hc
        have hm : j ∈ Region.ready .any ops l := mem_ready.2 ⟨by rw [gd l j hs hj]; exact hc, ops[j], Array.getElem?_eq_getElem hj, fun e he hb => by
          have h1 := List.all_eq_true.1 hB j (List.mem_range.2 hj)
          rw [Array.getElem?_eq_getElem hj] at h1
          have h2 := Array.all_eq_true_iff_forall_mem.1 h1 e he
          have h3 : e.on < j := by simpa [hb] using h2
          exact ih _ h3 (by omega)⟩
        rw [hr] at hm
        cases hm
    intro fuel
    induction fuel with
    | zero =>
      intro l vals w' hs hC hV hc
      have hl : ∀ j, j < ops.size → l.getD j false = true := fun j hj => by
        have h0 : l.toList.count false = 0 := by omega
        have h1 := List.count_eq_zero.1 h0
        have hjl : j < l.size := by omega
        have h2 : l[j] ≠ false := fun e => h1 (by rw [← e]; exact Array.getElem_mem_toList hjl)
        simpa [Array.getD, hjl] using h2
      refine ⟨List.eq_nil_iff_forall_not_mem.2 fun j hj => ?_, all l vals w' hC hV hl⟩
      obtain ⟨h1, o, ho, _⟩ := mem_ready.1 hj
      have hj' : j < ops.size := (Array.getElem?_eq_some_iff.1 ho).1
      rw [gd l j hs hj', hl j hj'] at h1
      cases h1
    | succ fuel ih =>
      intro l vals w' hs hC hV hc
      refine ⟨fun hr => all l vals w' hC hV (done l hs hr), fun i hi => ?_⟩
      obtain ⟨h1, o, ho, hall⟩ := mem_ready.1 hi
      have hi' : i < ops.size := (Array.getElem?_eq_some_iff.1 ho).1
      rw [gd l i hs hi'] at h1
      have hin : ∀ j t, preB ops i j = true → dstR ops j = some t → ∃ v, V j v w' ∧ (putL ops l vals (List.range ops.size) a).tmps[t]? = some v := by
        intro j t hp hd
        unfold preB at hp
        rw [ho] at hp
        obtain ⟨k, hk, hbe⟩ := Array.any_eq_true.1 (show (o.after.any fun e => Region.binds .any e && decide (e.on = j)) = true from hp)
        have he : o.after[k] ∈ o.after := Array.getElem_mem hk
        generalize o.after[k] = e at hbe he
        simp only [Bool.and_eq_true, decide_eq_true_eq] at hbe
        obtain ⟨hb, rfl⟩ := hbe
        have hl := hall e he hb
        have hj' : e.on < ops.size := by
          rcases Nat.lt_or_ge e.on ops.size with h' | h'
          · exact h'
          · simp [dstR, Array.getElem?_eq_none h'] at hd
        exact ⟨vals e.on, hV _ hl, putL_slot hD l vals hd hl a (hsz _ _ hd) _ hj'⟩
      obtain ⟨hwt, hgo⟩ := hop i o ho _ w' hC hin (fun t ht => putL_other l vals _ _ fun j hj => by simpa using List.all_eq_true.1 ht j hj)
      unfold wpOp
      rw [ho]
      simp only [hwt, if_true]
      refine .inl (hgo _ ?_)
      · intro v w'' hv hC' hbl
        have hdo : o.dst = dstR ops i := by simp [dstR, ho]
        rw [hdo, ← putL_step hD l vals i v a (by omega) h1 _ hi']
        refine ih _ _ w'' (by simpa using hs) hC' (fun j hj => ?_) ?_
        · by_cases e : j = i
          · subst e; simp [upd, hv]
          · rw [getD_other l e] at hj
            simpa [upd, e] using hst j _ _ _ hbl (hV j hj)
        · have hil : i < l.toList.length := by simpa using (by omega : i < l.size)
          have h2 : l.toList[i] = false := by
            have hil' : i < l.size := by omega
            simpa [Array.getD, hil'] using h1
          have h3 : l.toList.count false = (l.toList.set i true).count false + 1 := by
            have h4 : 0 < l.toList.count false := List.count_pos_iff.2 (by rw [← h2]; exact List.getElem_mem hil)
            rw [List.count_set hil, h2, if_pos (by decide), if_neg (by decide)]
            omega
          rw [Array.toList_setIfInBounds]
          omega
  have h0 : ∀ j, (Array.replicate ops.size false).getD j false = false := by
    intro j
    rw [Array.getD_eq_getD_getElem?, Array.getElem?_replicate]
    split <;> rfl
  have h := key ops.size (Array.replicate ops.size false) (fun _ => undef) w.drew (by simp) hC (fun j hj => by rw [h0] at hj; cases hj) (Nat.le_trans List.count_le_length (by simp))
  rwa [putL_none _ _ _ _ fun j _ => h0 j] at h
end
end Go.Proofs.YtadkaplafaeebaaGreatDoor
