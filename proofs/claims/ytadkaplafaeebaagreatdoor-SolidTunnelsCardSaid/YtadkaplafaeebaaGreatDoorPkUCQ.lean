/-
  The reference's SameSolids, of two lists of the same solids.
-/
import Derived.Test.YtadkaplafaeebaaGreatDoorPkTHQ
import Derived.Test.YtadkaplafaeebaaGreatDoorPkXBQ
import Derived.Test.YtadkaplafaeebaaGreatDoorPkRQ
import Derived.Test.YtadkaplafaeebaaGreatDoorPkTJQ
import Derived.Test.YtadkaplafaeebaaGreatDoorPkTCQ
import Derived.Test.YtadkaplafaeebaaGreatDoorPkMQ
import Derived.Test.YtadkaplafaeebaaGreatDoorPkTAQ
set_option linter.unusedVariables false
set_option linter.unusedSimpArgs false
namespace Go.Proofs.YtadkaplafaeebaaGreatDoor
open Go Go.RowKit

/-- A row of solids that a slice points to: what its block holds. -/
theorem rowS_pos {W : World} {b : Nat} {p : Option Addr} {cap n : Nat} {l : List Sol} (h : W.ownsRow b 24 8 (.slice p n cap) n (flatS l)) (hl : 0 < n) :
    ∃ g, p = some ⟨g, 0, none⟩ ∧ g < W.heap.size ∧ ∀ k f, l[k]? = some f → ∀ j, j < 8 → W.cell? ⟨g, k * 8 + j, none⟩ = some (.int .u64 (f j : Nat)) := by
  rcases h.2 with ⟨e1, e2⟩ | ⟨g, cap', cur, e1, _, e3, _⟩
  · omega
  · injection e1 with e4
    refine ⟨g, e4, (Array.getElem?_eq_some_iff.1 e3).1, fun k f hk j hj => ?_⟩
    have h1 := h.cells (g := g) (by rw [e4]; rfl) (8 * k + j) _ (flatS_get l k j f hk hj)
    rw [addr_add, Nat.mul_comm 8 k] at h1
    exact h1
set_option maxRecDepth 100000 in
set_option maxHeartbeats 4000000 in
theorem sameSolids_ok (l m : List Sol) (va vb : Value) (b1 b2 : Nat) (w : World) (h1 : w.ownsRow b1 24 8 va l.length (flatS l)) (h2 : w.ownsRow b2 24 8 vb m.length (flatS m)) (hlm : l.length = m.length)
    (he : ∀ (i : Nat) (f g : Sol), l[i]? = some f → m[i]? = some g → eqS f g = true) (hl : l.length ≤ 20000) :
    Calls Tryz.prog 61 #[va, vb] w fun e w' => e = .returned (.bool true) ∧ Below w.heap.size w w' := by
  rw [← hlm] at h2
  have HLM := Lib.hid hlm
  clear hlm
  obtain ⟨p1, c1, rfl⟩ := own_len h1
  obtain ⟨p2, c2, rfl⟩ := own_len h2
  have hn : ((l.length : Int) != (l.length : Int)) = false := by simp
  go_enter Tryz.func61, Tryz.ntmps61
  go_wp2
  go_loopw [5] (fun c wr => ∃ i : Nat, i ≤ l.length ∧ c = .int .i64 i ∧ Below w.heap.size w wr) (fun c _ => l.length - (intOf c).toNat)
  case atStart => exact ⟨0, by omega, rfl, Below.refl _ _⟩
  case round =>
    obtain ⟨i, hi, rfl, hB⟩ := hrel
    by_cases hlt : i < l.length
    · have hd : decide ((i : Int) < (l.length : Int)) = true := decide_eq_true (by omega)
      have hlb : (i : Int) < (l.length : Int) := by omega
      have hci : l[i]? = some l[i] := List.getElem?_eq_getElem hlt
      have hdi : m[i]? = some (m[i]'(by have := HLM.out; omega)) := List.getElem?_eq_getElem (by have := HLM.out; omega)
      obtain ⟨f, hf⟩ : ∃ f, f = l[i] := ⟨_, rfl⟩
      obtain ⟨g, hg⟩ : ∃ g, g = m[i]'(by have := HLM.out; omega) := ⟨_, rfl⟩
      rw [← hf] at hci
      rw [← hg] at hdi
      have hfg := he i f g hci hdi
      obtain ⟨g1, rfl, hg1, k1⟩ := rowS_pos h1 (by omega)
      obtain ⟨g2, rfl, hg2, k2⟩ := rowS_pos h2 (by omega)
      have x := fun j hj => (hB.cell (p := ⟨g1, i * 8 + j, none⟩) hg1).trans (k1 i f hci j hj)
      have y := fun j hj => (hB.cell (p := ⟨g2, i * 8 + j, none⟩) hg2).trans (k2 i g hdi j hj)
      have x0 := x 0 (by omega); have x1 := x 1 (by omega); have x2 := x 2 (by omega); have x3 := x 3 (by omega); have x4 := x 4 (by omega); have x5 := x 5 (by omega); have x6 := x 6 (by omega); have x7 := x 7 (by omega)
      have y0 := y 0 (by omega); have y1 := y 1 (by omega); have y2 := y 2 (by omega); have y3 := y 3 (by omega); have y4 := y 4 (by omega); have y5 := y 5 (by omega); have y6 := y 6 (by omega); have y7 := y 7 (by omega)
      rw [Nat.add_zero] at x0 y0
      have s0 := hB.size
      clear hf hg hci hdi k1 k2 x y
      go_wp2_with fail
      obtain ⟨W, hW⟩ : ∃ W, W = wr := ⟨_, rfl⟩
      subst hW
      have lg1 : g1 < W.heap.size := by omega
      have lg2 : g2 < W.heap.size := by omega
      (refine wp_region_quiet (C := fun w' => Below W.heap.size W w') (by kernel_rfl) (by kernel_rfl) (Below.drew (Below.refl _ _)) ?_; (iterate 9 (refine wpQuiet_step (fun K hK => ?_); go_simp; first | (refine hK _ ?_; clear hK K) | (apply Exists.intro; refine ⟨fun W' hW' => ?_, hK _ ?_⟩; (focus (first | (with_reducible exact rfl) | (with_reducible exact ⟨rfl, rfl⟩) | (obtain ⟨hcq, hfq⟩ := bcell hW'; have hzq := hW'.size; (try go_simp); first | (with_reducible exact rfl) | (with_reducible exact ⟨rfl, rfl⟩) | (fail)))); clear hK K))); refine wpQuiet_nil ?_; intro w1q hb1q)
      have hB1 : Below w.heap.size w w1q := up hb1q hB
      go_wp2_with fail
      case roundEnd => exact ⟨⟨i + 1, by omega, by simp, hB1⟩, by simp [intOf]; omega⟩
    · obtain rfl : i = l.length := by omega
      have hd : decide ((l.length : Int) < (l.length : Int)) = false := decide_eq_false (by omega)
      go_wp2
      go_ret
      exact ⟨rfl, hB⟩
end Go.Proofs.YtadkaplafaeebaaGreatDoor
/-
  The reference's Compare.
-/
set_option linter.unusedVariables false
set_option linter.unusedSimpArgs false
namespace Go.Proofs.YtadkaplafaeebaaGreatDoor
open Go Go.RowKit

theorem cmpFrom_lt {f g : Sol} {n i : Nat} (hn : 0 < n) (h : f i < g i) : cmpFrom f g n i = -1 := by
  obtain ⟨m, rfl⟩ : ∃ m, n = m + 1 := ⟨n - 1, by omega⟩
  have : cmpN (f i) (g i) = -1 := by unfold cmpN; rw [if_pos h]
  unfold cmpFrom
  rw [this]
  rfl
theorem cmpFrom_gt {f g : Sol} {n i : Nat} (hn : 0 < n) (h : g i < f i) : cmpFrom f g n i = 1 := by
  obtain ⟨m, rfl⟩ : ∃ m, n = m + 1 := ⟨n - 1, by omega⟩
  have : cmpN (f i) (g i) = 1 := by unfold cmpN; rw [if_neg (by omega), if_pos h]
  unfold cmpFrom
  rw [this]
  rfl
theorem cmpFrom_at {f g : Sol} {n i : Nat} (h1 : ¬ f i < g i) (h2 : ¬ g i < f i) : cmpFrom f g (n + 1) i = cmpFrom f g n (i + 1) := by
  have : cmpN (f i) (g i) = 0 := by unfold cmpN; rw [if_neg h1, if_neg h2]
  rw [cmpFrom, this]
  rfl
set_option maxRecDepth 100000 in
set_option maxHeartbeats 4000000 in
theorem rcompare_ok (f g : Sol) (w : World) :
    Calls Tryz.prog 87 #[sol f, sol g] w fun e w' => e = .returned (.int .i64 (cmpS f g)) ∧ Below w.heap.size w w' := by
  have A0 : BoxS ((w.alloc (.cells (solC f) 24)).alloc (.cells (solC g) 24)) w.heap.size f := (BoxS.new _ _).alloc _
  have B0 : BoxS ((w.alloc (.cells (solC f) 24)).alloc (.cells (solC g) 24)) (w.heap.size + 1) g := BoxS.new' (by simp)
  have hB0 : Below w.heap.size w ((w.alloc (.cells (solC f) 24)).alloc (.cells (solC g) 24)) := by repeat' (first | (with_reducible exact Below.refl _ _) | (with_reducible assumption) | (with_reducible refine Below.alloc ?_ ?_ _) | (with_reducible refine Below.drew ?_) | (with_reducible refine below_drewN ?_ _) | (with_reducible refine Below.setCell ?_ ?_ _) | go_size)
  have HS : Hid (cmpS f g = cmpFrom f g (8 - 0) 0) := Lib.hid rfl
  generalize cmpS f g = r at *
  go_enter Tryz.func87, Tryz.ntmps87
  go_wp2_with fail
  go_loopw [5] (fun c wr => ∃ i : Nat, i ≤ 8 ∧ c = .int .i64 i ∧ r = cmpFrom f g (8 - i) i ∧ BoxS wr w.heap.size f ∧ BoxS wr (w.heap.size + 1) g ∧ Below w.heap.size w wr) (fun c _ => 8 - (intOf c).toNat)
  case atStart => exact ⟨0, by omega, rfl, HS.out, A0, B0, hB0⟩
  case round =>
    clear A0 B0 hB0 HS
    obtain ⟨i, hi, rfl, hr, A, B, hB⟩ := hrel
    have HR := Lib.hid hr
    clear hr
    by_cases hlt : i < 8
    · have hd : decide ((i : Int) < 8) = true := decide_eq_true (by omega)
      have hib : (i : Int) < 8 := by omega
      have a1 := A.cell hlt
      have b1 := B.cell hlt
      have lA : w.heap.size < wr.heap.size := A.lt
      have lB : w.heap.size + 1 < wr.heap.size := B.lt
      by_cases h1 : f i < g i
      · have k1 : decide (f i < g i) = true := decide_eq_true h1
        go_wp2_with fail
        (refine wp_region_quiet (C := fun w' => Below wr.heap.size wr w') (by kernel_rfl) (by kernel_rfl) (Below.drew (Below.refl _ _)) ?_; (iterate 7 (refine wpQuiet_step (fun K hK => ?_); go_simp; first | (refine hK _ ?_; clear hK K) | (apply Exists.intro; refine ⟨fun W' hW' => ?_, hK _ ?_⟩; (focus (first | (with_reducible exact rfl) | (with_reducible exact ⟨rfl, rfl⟩) | (obtain ⟨hcq, hfq⟩ := bcell hW'; have hzq := hW'.size; (try go_simp); first | (with_reducible exact rfl) | (with_reducible exact ⟨rfl, rfl⟩) | (fail)))); clear hK K))); refine wpQuiet_nil ?_; intro w1q hb1q)
        go_wp2_with fail
        go_ret
        exact ⟨retI (by rw [HR.out, cmpFrom_lt (by omega) h1]), up hb1q hB⟩
      · have k1 : decide (f i < g i) = false := decide_eq_false h1
        go_wp2_with fail
        (refine wp_region_quiet (C := fun w' => Below wr.heap.size wr w') (by kernel_rfl) (by kernel_rfl) (Below.drew (Below.refl _ _)) ?_; (iterate 7 (refine wpQuiet_step (fun K hK => ?_); go_simp; first | (refine hK _ ?_; clear hK K) | (apply Exists.intro; refine ⟨fun W' hW' => ?_, hK _ ?_⟩; (focus (first | (with_reducible exact rfl) | (with_reducible exact ⟨rfl, rfl⟩) | (obtain ⟨hcq, hfq⟩ := bcell hW'; have hzq := hW'.size; (try go_simp); first | (with_reducible exact rfl) | (with_reducible exact ⟨rfl, rfl⟩) | (fail)))); clear hK K))); refine wpQuiet_nil ?_; intro w1q hb1q)
        obtain ⟨Y, hY⟩ : ∃ Y, Y = w1q := ⟨_, rfl⟩
        subst hY
        have A2 := A.below hb1q lA
        have B2 := B.below hb1q lB
        have hB2 : Below w.heap.size w Y := up hb1q hB
        clear a1 b1 A B hB hb1q lA lB
        have a1 := A2.cell hlt
        have b1 := B2.cell hlt
        have lA : w.heap.size < Y.heap.size := A2.lt
        have lB : w.heap.size + 1 < Y.heap.size := B2.lt
        by_cases h2 : g i < f i
        · have k2 : decide (g i < f i) = true := decide_eq_true h2
          go_wp2_with fail
          (refine wp_region_quiet (C := fun w' => Below Y.heap.size Y w') (by kernel_rfl) (by kernel_rfl) (Below.drew (Below.refl _ _)) ?_; (iterate 7 (refine wpQuiet_step (fun K hK => ?_); go_simp; first | (refine hK _ ?_; clear hK K) | (apply Exists.intro; refine ⟨fun W' hW' => ?_, hK _ ?_⟩; (focus (first | (with_reducible exact rfl) | (with_reducible exact ⟨rfl, rfl⟩) | (obtain ⟨hcq, hfq⟩ := bcell hW'; have hzq := hW'.size; (try go_simp); first | (with_reducible exact rfl) | (with_reducible exact ⟨rfl, rfl⟩) | (fail)))); clear hK K))); refine wpQuiet_nil ?_; intro w1q hb1q)
          go_wp2_with fail
          go_ret
          exact ⟨retI (by rw [HR.out, cmpFrom_gt (by omega) h2]), up hb1q hB2⟩
        · have k2 : decide (g i < f i) = false := decide_eq_false h2
          go_wp2_with fail
          (refine wp_region_quiet (C := fun w' => Below Y.heap.size Y w') (by kernel_rfl) (by kernel_rfl) (Below.drew (Below.refl _ _)) ?_; (iterate 7 (refine wpQuiet_step (fun K hK => ?_); go_simp; first | (refine hK _ ?_; clear hK K) | (apply Exists.intro; refine ⟨fun W' hW' => ?_, hK _ ?_⟩; (focus (first | (with_reducible exact rfl) | (with_reducible exact ⟨rfl, rfl⟩) | (obtain ⟨hcq, hfq⟩ := bcell hW'; have hzq := hW'.size; (try go_simp); first | (with_reducible exact rfl) | (with_reducible exact ⟨rfl, rfl⟩) | (fail)))); clear hK K))); refine wpQuiet_nil ?_; intro w1q hb1q)
          go_wp2_with fail
          go_roundw
          case rel => exact ⟨i + 1, by omega, by go_num, by rw [HR.out, show 8 - i = (8 - (i + 1)) + 1 by omega, cmpFrom_at h1 h2], A2.below hb1q lA, B2.below hb1q lB, up hb1q hB2⟩
          case measure => simp [intOf]; omega
    · obtain rfl : i = 8 := by omega
      have hd : decide (((8 : Nat) : Int) < 8) = false := by decide
      go_wp2_with fail
      go_ret
      exact ⟨retI (by rw [HR.out]; rfl), hB⟩
end Go.Proofs.YtadkaplafaeebaaGreatDoor
/-
  The reference's cornered.
-/
set_option linter.unusedVariables false
set_option linter.unusedSimpArgs false
namespace Go.Proofs.YtadkaplafaeebaaGreatDoor
open Go Go.RowKit

end Go.Proofs.YtadkaplafaeebaaGreatDoor
/-
  The reference's Symmetries.
-/
set_option linter.unusedVariables false
set_option linter.unusedSimpArgs false
namespace Go.Proofs.YtadkaplafaeebaaGreatDoor
open Go Go.RowKit Go.Shelf

end Go.Proofs.YtadkaplafaeebaaGreatDoor
/-
  The reference's Put.
-/
set_option linter.unusedVariables false
set_option linter.unusedSimpArgs false
namespace Go.Proofs.YtadkaplafaeebaaGreatDoor
open Go Go.RowKit Go.Shelf

section
variable {P : Program} {w : World}
end
/-- A list of solids that lies from a block on. -/
def OwnS (b : Nat) (W : World) (v : Value) (l : List Sol) : Prop := W.ownsRow b 24 8 v l.length (flatS l) ∧ (v = .slice none 0 0 ↔ l = [])
theorem ownS_app {b : Nat} {W : World} {v : Value} {l : List Sol} (h : W.ownsRow b 24 8 v l.length (flatS l)) (hn : 0 < l.length) : OwnS b W v l := by
  refine ⟨h, fun e => ?_, fun e => ?_⟩
  · rcases h.2 with ⟨_, h2⟩ | ⟨g, cap, cur, h2, _⟩
    · omega
    · rw [e] at h2; cases h2
  · rw [e] at hn; cases hn
end Go.Proofs.YtadkaplafaeebaaGreatDoor
/-
  The reference's Images, Canon and Same.
-/
set_option linter.unusedVariables false
set_option linter.unusedSimpArgs false
namespace Go.Proofs.YtadkaplafaeebaaGreatDoor
open Go Go.RowKit Go.Shelf

theorem ownS_below {b : Nat} {W W' : World} {v : Value} {l : List Sol} (h : OwnS b W v l) (k : Below W.heap.size W W') : OwnS b W' v l := ⟨row_below h.1 k, h.2⟩
theorem ownS_base {b b' : Nat} {W : World} {v : Value} {l : List Sol} (h : OwnS b W v l) (k : b' ≤ b) : OwnS b' W v l := ⟨row_base h.1 k, h.2⟩
theorem ownS_nil (b : Nat) (W : World) : OwnS b W (.slice none 0 0) [] := ⟨World.ownsRow_nil _ _ _ _, by simp⟩
end Go.Proofs.YtadkaplafaeebaaGreatDoor
