/-
  Walks of the reference's functions on texts.
-/
import Derived.Test.YtgonaamjjhhiiaaGreatDoorRefA
import Derived.Deep.RegionWith
import Derived.Test.YtgonaamjjhhiiaaGreatDoorTxtV
set_option linter.unusedVariables false
set_option linter.unusedSimpArgs false
namespace Go.Proofs.YtgonaamjjhhiiaaGreatDoor
open Go Go.RowKit

def digB (u : Nat) : ByteArray := ⟨(Lib.decDigits u).toArray⟩
theorem digB_small {u : Nat} (h : u < 10) : digB u = ⟨#[UInt8.ofNat (48 + u)]⟩ := by unfold digB; rw [dec_small h]
theorem digB_big {u : Nat} (h : ¬ u < 10) : digB u = digB (u / 10) ++ ⟨#[UInt8.ofNat (48 + u % 10)]⟩ := by
  unfold digB
  rw [dec_big h]
  simp [ByteArray.mk_append_mk]
/-- A slice of one byte as a text. -/
theorem conv_at (W : World) (g c : Nat) (k : Int) (hc : W.cell? ⟨g, 0, none⟩ = some (.int .u8 k)) (h0 : 0 ≤ k) (h1 : k ≤ 255) :
    (convert 91 9 (.slice (some ⟨g, 0, none⟩) 1 c)).run Tryz.prog W = .ok (.string ⟨#[UInt8.ofNat k.toNat]⟩) W := by
  refine run_convert_bytes_back W _ _ _ ⟨g, 0, none⟩ c [UInt8.ofNat k.toNat] Tryz.underlying91 Tryz.underlying5 Tryz.underlying9 ?_
  intro j hj
  obtain rfl : j = 0 := by simpa using hj
  have : ((UInt8.ofNat k.toNat).toNat : Int) = k := by
    rw [UInt8.toNat_ofNat']
    omega
  show W.cell? ⟨g, 0 + 0, none⟩ = _
  rw [Nat.zero_add, hc]
  exact congrArg (fun z => some (Value.int .u8 z)) this.symm
@[go_sem] theorem conv_one (W : World) (g c : Nat) (k : Int) (e : TypeId) (fr : Nat × Nat) (hg : g = W.heap.size) (h0 : 0 ≤ k) (h1 : k ≤ 255) :
    (convert 91 9 (.slice (some ⟨g, 0, none⟩) 1 c)).run Tryz.prog (W.alloc (.cells #[.int .u8 k] e fr)) = .ok (.string ⟨#[UInt8.ofNat k.toNat]⟩) (W.alloc (.cells #[.int .u8 k] e fr)) := by
  subst hg
  exact conv_at _ _ c k (World.cell?_alloc_mark W _ e fr 0) h0 h1
theorem digits_small (n : Int) (w : World) (h0 : 0 ≤ n) (h1 : n < 10) :
    Calls Tryz.prog 24 #[.int .i64 n] w fun e w' => e = .returned (.string (digB n.toNat)) ∧ Below w.heap.size w w' := by
  have hk : n = 0 ∨ n = 1 ∨ n = 2 ∨ n = 3 ∨ n = 4 ∨ n = 5 ∨ n = 6 ∨ n = 7 ∨ n = 8 ∨ n = 9 := by omega
  clear h0 h1
  rcases hk with rfl | rfl | rfl | rfl | rfl | rfl | rfl | rfl | rfl | rfl
  all_goals
    go_enter Tryz.func24, Tryz.ntmps24
    go_wp2_with fail
    go_returns
    exact ⟨by rw [digB_small (by decide)]; rfl, by go_grown⟩
set_option maxRecDepth 4000 in
set_option maxHeartbeats 2000000 in
theorem digits_step (n : Int) (S : ByteArray) (w : World) (h0 : 10 ≤ n) (h1 : n ≤ 4000000000000000000) (hS : S.size ≤ 20)
    (H : ∀ W, Calls Tryz.prog 24 #[.int .i64 (n / 10)] W fun e w' => e = .returned (.string S) ∧ Below W.heap.size W w') :
    Calls Tryz.prog 24 #[.int .i64 n] w fun e w' => e = .returned (.string (S ++ ⟨#[UInt8.ofNat (48 + (n % 10).toNat)]⟩)) ∧ Below w.heap.size w w' := by
  have hM : ¬ 9223372036854775807 < S.size + 1 := by omega
  have hN : S.size + 1 ≤ 9223372036854775807 := by omega
  have hk : n % 10 = 0 ∨ n % 10 = 1 ∨ n % 10 = 2 ∨ n % 10 = 3 ∨ n % 10 = 4 ∨ n % 10 = 5 ∨ n % 10 = 6 ∨ n % 10 = 7 ∨ n % 10 = 8 ∨ n % 10 = 9 := by omega
  have hq : IntKind.i64.wrap (n.tdiv 10) = n / 10 := by
    rw [Int.tdiv_eq_ediv_of_nonneg (by omega)]
    exact IntWalk.i64_in _ (by omega)
  have H2 : ∀ W, Calls Tryz.prog 24 #[.int .i64 (IntKind.i64.wrap (n.tdiv 10))] W fun e w' => e = .returned (.string S) ∧ Below W.heap.size W w' := fun W => by rw [hq]; exact H W
  have H' := Lib.hid H2
  clear H H2 hq
  have hr : n.tmod 10 = n % 10 := Int.tmod_eq_emod_of_nonneg (by omega)
  rcases hk with hk | hk | hk | hk | hk | hk | hk | hk | hk | hk
  · rw [hk] at hr ⊢
    clear hk
    have hv1 : IntKind.i64.wrap 48 = 48 := by decide +kernel
    have hv2 : IntKind.u8.wrap 48 = 48 := by decide +kernel
    have hcv := fun (W : World) (g c : Nat) (h : W.cell? ⟨g, 0, none⟩ = some (.int .u8 48)) => conv_at W g c 48 h (by decide) (by decide)
    go_enter Tryz.func24, Tryz.ntmps24
    go_wp2_with fail
    go_region_with ((first | (go_at_call 24; (with_reducible refine Calls.mono (H'.out _) ?_); rintro e w1 ⟨rfl, hb1⟩; obtain ⟨hc1, hf1⟩ := bcell hb1; have hB1 : Below w.heap.size w w1 := up hb1 (by repeat' (first | (with_reducible exact Below.refl _ _) | (with_reducible assumption) | (with_reducible refine Below.alloc ?_ ?_ _) | (with_reducible refine Below.drew ?_) | (with_reducible refine below_drewN ?_ _) | (with_reducible refine Below.setCell ?_ ?_ _) | go_size)); have hz1 := hb1.size; (try simp at hz1))))
    all_goals
      go_wp2
      go_returns
      exact ⟨rfl, by repeat' (first | (with_reducible exact Below.refl _ _) | (with_reducible assumption) | (with_reducible refine Below.alloc ?_ ?_ _) | (with_reducible refine Below.drew ?_) | (with_reducible refine below_drewN ?_ _) | (with_reducible refine Below.setCell ?_ ?_ _) | go_size)⟩
  · rw [hk] at hr ⊢
    clear hk
    have hv1 : IntKind.i64.wrap 49 = 49 := by decide +kernel
    have hv2 : IntKind.u8.wrap 49 = 49 := by decide +kernel
    have hcv := fun (W : World) (g c : Nat) (h : W.cell? ⟨g, 0, none⟩ = some (.int .u8 49)) => conv_at W g c 49 h (by decide) (by decide)
    go_enter Tryz.func24, Tryz.ntmps24
    go_wp2_with fail
    go_region_with ((first | (go_at_call 24; (with_reducible refine Calls.mono (H'.out _) ?_); rintro e w1 ⟨rfl, hb1⟩; obtain ⟨hc1, hf1⟩ := bcell hb1; have hB1 : Below w.heap.size w w1 := up hb1 (by repeat' (first | (with_reducible exact Below.refl _ _) | (with_reducible assumption) | (with_reducible refine Below.alloc ?_ ?_ _) | (with_reducible refine Below.drew ?_) | (with_reducible refine below_drewN ?_ _) | (with_reducible refine Below.setCell ?_ ?_ _) | go_size)); have hz1 := hb1.size; (try simp at hz1))))
    all_goals
      go_wp2
      go_returns
      exact ⟨rfl, by repeat' (first | (with_reducible exact Below.refl _ _) | (with_reducible assumption) | (with_reducible refine Below.alloc ?_ ?_ _) | (with_reducible refine Below.drew ?_) | (with_reducible refine below_drewN ?_ _) | (with_reducible refine Below.setCell ?_ ?_ _) | go_size)⟩
  · rw [hk] at hr ⊢
    clear hk
    have hv1 : IntKind.i64.wrap 50 = 50 := by decide +kernel
    have hv2 : IntKind.u8.wrap 50 = 50 := by decide +kernel
    have hcv := fun (W : World) (g c : Nat) (h : W.cell? ⟨g, 0, none⟩ = some (.int .u8 50)) => conv_at W g c 50 h (by decide) (by decide)
    go_enter Tryz.func24, Tryz.ntmps24
    go_wp2_with fail
    go_region_with ((first | (go_at_call 24; (with_reducible refine Calls.mono (H'.out _) ?_); rintro e w1 ⟨rfl, hb1⟩; obtain ⟨hc1, hf1⟩ := bcell hb1; have hB1 : Below w.heap.size w w1 := up hb1 (by repeat' (first | (with_reducible exact Below.refl _ _) | (with_reducible assumption) | (with_reducible refine Below.alloc ?_ ?_ _) | (with_reducible refine Below.drew ?_) | (with_reducible refine below_drewN ?_ _) | (with_reducible refine Below.setCell ?_ ?_ _) | go_size)); have hz1 := hb1.size; (try simp at hz1))))
    all_goals
      go_wp2
      go_returns
      exact ⟨rfl, by repeat' (first | (with_reducible exact Below.refl _ _) | (with_reducible assumption) | (with_reducible refine Below.alloc ?_ ?_ _) | (with_reducible refine Below.drew ?_) | (with_reducible refine below_drewN ?_ _) | (with_reducible refine Below.setCell ?_ ?_ _) | go_size)⟩
  · rw [hk] at hr ⊢
    clear hk
    have hv1 : IntKind.i64.wrap 51 = 51 := by decide +kernel
    have hv2 : IntKind.u8.wrap 51 = 51 := by decide +kernel
    have hcv := fun (W : World) (g c : Nat) (h : W.cell? ⟨g, 0, none⟩ = some (.int .u8 51)) => conv_at W g c 51 h (by decide) (by decide)
    go_enter Tryz.func24, Tryz.ntmps24
    go_wp2_with fail
    go_region_with ((first | (go_at_call 24; (with_reducible refine Calls.mono (H'.out _) ?_); rintro e w1 ⟨rfl, hb1⟩; obtain ⟨hc1, hf1⟩ := bcell hb1; have hB1 : Below w.heap.size w w1 := up hb1 (by repeat' (first | (with_reducible exact Below.refl _ _) | (with_reducible assumption) | (with_reducible refine Below.alloc ?_ ?_ _) | (with_reducible refine Below.drew ?_) | (with_reducible refine below_drewN ?_ _) | (with_reducible refine Below.setCell ?_ ?_ _) | go_size)); have hz1 := hb1.size; (try simp at hz1))))
    all_goals
      go_wp2
      go_returns
      exact ⟨rfl, by repeat' (first | (with_reducible exact Below.refl _ _) | (with_reducible assumption) | (with_reducible refine Below.alloc ?_ ?_ _) | (with_reducible refine Below.drew ?_) | (with_reducible refine below_drewN ?_ _) | (with_reducible refine Below.setCell ?_ ?_ _) | go_size)⟩
  · rw [hk] at hr ⊢
    clear hk
    have hv1 : IntKind.i64.wrap 52 = 52 := by decide +kernel
    have hv2 : IntKind.u8.wrap 52 = 52 := by decide +kernel
    have hcv := fun (W : World) (g c : Nat) (h : W.cell? ⟨g, 0, none⟩ = some (.int .u8 52)) => conv_at W g c 52 h (by decide) (by decide)
    go_enter Tryz.func24, Tryz.ntmps24
    go_wp2_with fail
    go_region_with ((first | (go_at_call 24; (with_reducible refine Calls.mono (H'.out _) ?_); rintro e w1 ⟨rfl, hb1⟩; obtain ⟨hc1, hf1⟩ := bcell hb1; have hB1 : Below w.heap.size w w1 := up hb1 (by repeat' (first | (with_reducible exact Below.refl _ _) | (with_reducible assumption) | (with_reducible refine Below.alloc ?_ ?_ _) | (with_reducible refine Below.drew ?_) | (with_reducible refine below_drewN ?_ _) | (with_reducible refine Below.setCell ?_ ?_ _) | go_size)); have hz1 := hb1.size; (try simp at hz1))))
    all_goals
      go_wp2
      go_returns
      exact ⟨rfl, by repeat' (first | (with_reducible exact Below.refl _ _) | (with_reducible assumption) | (with_reducible refine Below.alloc ?_ ?_ _) | (with_reducible refine Below.drew ?_) | (with_reducible refine below_drewN ?_ _) | (with_reducible refine Below.setCell ?_ ?_ _) | go_size)⟩
  · rw [hk] at hr ⊢
    clear hk
    have hv1 : IntKind.i64.wrap 53 = 53 := by decide +kernel
    have hv2 : IntKind.u8.wrap 53 = 53 := by decide +kernel
    have hcv := fun (W : World) (g c : Nat) (h : W.cell? ⟨g, 0, none⟩ = some (.int .u8 53)) => conv_at W g c 53 h (by decide) (by decide)
    go_enter Tryz.func24, Tryz.ntmps24
    go_wp2_with fail
    go_region_with ((first | (go_at_call 24; (with_reducible refine Calls.mono (H'.out _) ?_); rintro e w1 ⟨rfl, hb1⟩; obtain ⟨hc1, hf1⟩ := bcell hb1; have hB1 : Below w.heap.size w w1 := up hb1 (by repeat' (first | (with_reducible exact Below.refl _ _) | (with_reducible assumption) | (with_reducible refine Below.alloc ?_ ?_ _) | (with_reducible refine Below.drew ?_) | (with_reducible refine below_drewN ?_ _) | (with_reducible refine Below.setCell ?_ ?_ _) | go_size)); have hz1 := hb1.size; (try simp at hz1))))
    all_goals
      go_wp2
      go_returns
      exact ⟨rfl, by repeat' (first | (with_reducible exact Below.refl _ _) | (with_reducible assumption) | (with_reducible refine Below.alloc ?_ ?_ _) | (with_reducible refine Below.drew ?_) | (with_reducible refine below_drewN ?_ _) | (with_reducible refine Below.setCell ?_ ?_ _) | go_size)⟩
  · rw [hk] at hr ⊢
    clear hk
    have hv1 : IntKind.i64.wrap 54 = 54 := by decide +kernel
    have hv2 : IntKind.u8.wrap 54 = 54 := by decide +kernel
    have hcv := fun (W : World) (g c : Nat) (h : W.cell? ⟨g, 0, none⟩ = some (.int .u8 54)) => conv_at W g c 54 h (by decide) (by decide)
    go_enter Tryz.func24, Tryz.ntmps24
    go_wp2_with fail
    go_region_with ((first | (go_at_call 24; (with_reducible refine Calls.mono (H'.out _) ?_); rintro e w1 ⟨rfl, hb1⟩; obtain ⟨hc1, hf1⟩ := bcell hb1; have hB1 : Below w.heap.size w w1 := up hb1 (by repeat' (first | (with_reducible exact Below.refl _ _) | (with_reducible assumption) | (with_reducible refine Below.alloc ?_ ?_ _) | (with_reducible refine Below.drew ?_) | (with_reducible refine below_drewN ?_ _) | (with_reducible refine Below.setCell ?_ ?_ _) | go_size)); have hz1 := hb1.size; (try simp at hz1))))
    all_goals
      go_wp2
      go_returns
      exact ⟨rfl, by repeat' (first | (with_reducible exact Below.refl _ _) | (with_reducible assumption) | (with_reducible refine Below.alloc ?_ ?_ _) | (with_reducible refine Below.drew ?_) | (with_reducible refine below_drewN ?_ _) | (with_reducible refine Below.setCell ?_ ?_ _) | go_size)⟩
  · rw [hk] at hr ⊢
    clear hk
    have hv1 : IntKind.i64.wrap 55 = 55 := by decide +kernel
    have hv2 : IntKind.u8.wrap 55 = 55 := by decide +kernel
    have hcv := fun (W : World) (g c : Nat) (h : W.cell? ⟨g, 0, none⟩ = some (.int .u8 55)) => conv_at W g c 55 h (by decide) (by decide)
    go_enter Tryz.func24, Tryz.ntmps24
    go_wp2_with fail
    go_region_with ((first | (go_at_call 24; (with_reducible refine Calls.mono (H'.out _) ?_); rintro e w1 ⟨rfl, hb1⟩; obtain ⟨hc1, hf1⟩ := bcell hb1; have hB1 : Below w.heap.size w w1 := up hb1 (by repeat' (first | (with_reducible exact Below.refl _ _) | (with_reducible assumption) | (with_reducible refine Below.alloc ?_ ?_ _) | (with_reducible refine Below.drew ?_) | (with_reducible refine below_drewN ?_ _) | (with_reducible refine Below.setCell ?_ ?_ _) | go_size)); have hz1 := hb1.size; (try simp at hz1))))
    all_goals
      go_wp2
      go_returns
      exact ⟨rfl, by repeat' (first | (with_reducible exact Below.refl _ _) | (with_reducible assumption) | (with_reducible refine Below.alloc ?_ ?_ _) | (with_reducible refine Below.drew ?_) | (with_reducible refine below_drewN ?_ _) | (with_reducible refine Below.setCell ?_ ?_ _) | go_size)⟩
  · rw [hk] at hr ⊢
    clear hk
    have hv1 : IntKind.i64.wrap 56 = 56 := by decide +kernel
    have hv2 : IntKind.u8.wrap 56 = 56 := by decide +kernel
    have hcv := fun (W : World) (g c : Nat) (h : W.cell? ⟨g, 0, none⟩ = some (.int .u8 56)) => conv_at W g c 56 h (by decide) (by decide)
    go_enter Tryz.func24, Tryz.ntmps24
    go_wp2_with fail
    go_region_with ((first | (go_at_call 24; (with_reducible refine Calls.mono (H'.out _) ?_); rintro e w1 ⟨rfl, hb1⟩; obtain ⟨hc1, hf1⟩ := bcell hb1; have hB1 : Below w.heap.size w w1 := up hb1 (by repeat' (first | (with_reducible exact Below.refl _ _) | (with_reducible assumption) | (with_reducible refine Below.alloc ?_ ?_ _) | (with_reducible refine Below.drew ?_) | (with_reducible refine below_drewN ?_ _) | (with_reducible refine Below.setCell ?_ ?_ _) | go_size)); have hz1 := hb1.size; (try simp at hz1))))
    all_goals
      go_wp2
      go_returns
      exact ⟨rfl, by repeat' (first | (with_reducible exact Below.refl _ _) | (with_reducible assumption) | (with_reducible refine Below.alloc ?_ ?_ _) | (with_reducible refine Below.drew ?_) | (with_reducible refine below_drewN ?_ _) | (with_reducible refine Below.setCell ?_ ?_ _) | go_size)⟩
  · rw [hk] at hr ⊢
    clear hk
    have hv1 : IntKind.i64.wrap 57 = 57 := by decide +kernel
    have hv2 : IntKind.u8.wrap 57 = 57 := by decide +kernel
    have hcv := fun (W : World) (g c : Nat) (h : W.cell? ⟨g, 0, none⟩ = some (.int .u8 57)) => conv_at W g c 57 h (by decide) (by decide)
    go_enter Tryz.func24, Tryz.ntmps24
    go_wp2_with fail
    go_region_with ((first | (go_at_call 24; (with_reducible refine Calls.mono (H'.out _) ?_); rintro e w1 ⟨rfl, hb1⟩; obtain ⟨hc1, hf1⟩ := bcell hb1; have hB1 : Below w.heap.size w w1 := up hb1 (by repeat' (first | (with_reducible exact Below.refl _ _) | (with_reducible assumption) | (with_reducible refine Below.alloc ?_ ?_ _) | (with_reducible refine Below.drew ?_) | (with_reducible refine below_drewN ?_ _) | (with_reducible refine Below.setCell ?_ ?_ _) | go_size)); have hz1 := hb1.size; (try simp at hz1))))
    all_goals
      go_wp2
      go_returns
      exact ⟨rfl, by repeat' (first | (with_reducible exact Below.refl _ _) | (with_reducible assumption) | (with_reducible refine Below.alloc ?_ ?_ _) | (with_reducible refine Below.drew ?_) | (with_reducible refine below_drewN ?_ _) | (with_reducible refine Below.setCell ?_ ?_ _) | go_size)⟩

theorem digB_size (u : Nat) (h : u < 10000000000000000000) : (digB u).size ≤ 19 := by
  have := dec_len u 19 (by omega) (by omega)
  show (Lib.decDigits u).toArray.size ≤ 19
  simpa using this
theorem digits_any (k : Nat) : ∀ (n : Int) (w : World), n.toNat ≤ k → 0 ≤ n → n ≤ 4000000000000000000 →
    Calls Tryz.prog 24 #[.int .i64 n] w fun e w' => e = .returned (.string (digB n.toNat)) ∧ Below w.heap.size w w' := by
  induction k with
  | zero => intro n w hk h0 h1; exact digits_small n w h0 (by omega)
  | succ k ih =>
    intro n w hk h0 h1
    by_cases h : n < 10
    · exact digits_small n w h0 h
    · have e : digB n.toNat = digB (n / 10).toNat ++ ⟨#[UInt8.ofNat (48 + (n % 10).toNat)]⟩ := by
        rw [digB_big (by omega)]
        have e1 : n.toNat / 10 = (n / 10).toNat := by omega
        have e2 : n.toNat % 10 = (n % 10).toNat := by omega
        rw [e1, e2]
      rw [e]
      have hz := digB_size (n / 10).toNat (by omega)
      exact digits_step n _ w (by omega) h1 (by omega) (fun W => ih (n / 10) W (by omega) (by omega) (by omega))
end Go.Proofs.YtgonaamjjhhiiaaGreatDoor
