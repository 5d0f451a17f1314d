/-
  The greatest lock; whether a set is one.
-/
import Derived.Test.YtoajocgfmbakjaaGreatDoorPaH
set_option linter.unusedVariables false
set_option linter.unusedSimpArgs false
namespace Go.Proofs.YtoajocgfmbakjaaGreatDoor
open Go Go.RowKit Go.Shelf

theorem roundsK_lt {ms : List Sol} (h12 : ms.length ≤ 12) : ∀ (n g : Nat), g < 65536 → (roundsK ms n g).2 < 65536
  | 0, g, h => h
  | n + 1, g, h => by
    unfold roundsK
    split
    · exact h
    · exact roundsK_lt h12 n _ (or16 h (readyK_lt ms g ms.length (by omega)))
/-- The greatest lock. -/
def lockF (ms : List Sol) : Nat := andN (allN ms.length) (roundsF ms).2
set_option maxRecDepth 100000 in
set_option maxHeartbeats 2000000 in
theorem greatest_ok (ms : List Sol) (v : Value) (b : Nat) (w : World) (hm : ∀ m ∈ ms, Fit m) (h12 : ms.length ≤ 12) (av : Nat → Prop) (hav : ∀ k, av k → k < w.heap.size) (hv : Mld w v b ms av) :
    Calls Tryz.prog 125 #[mldV v b] w (RetK (setV (lockF ms)) b v ms av w) := by
  have HM := Lib.hid hm
  have HV := Lib.hid hv
  have lb := hv.ways.lt
  clear hm
  obtain ⟨A, hA⟩ : ∃ A, A = w.heap.size := ⟨_, rfl⟩
  obtain ⟨W1, hW1⟩ : ∃ W1, W1 = w.alloc (.cells #[v, .map (some b)] 101) := ⟨_, rfl⟩
  have hB1 : Below w.heap.size w W1 := by rw [hW1]; exact (Below.refl _ w).alloc (Nat.le_refl _) _
  have m1 : W1.heap[A]? = some (.cells #[v, .map (some b)] 101 (0, 0)) := by rw [hW1, hA]; exact World.alloc_heap_new w _
  have HK1 := Lib.hid (kept_below (v := v) HV.out.ways hB1)
  obtain ⟨pa, cap, rfl, hmx, _⟩ := hv.sols
  have H0 := rounds_ok ms (.slice pa ms.length cap) b W1 HM.out h12 av (fun k hk => Nat.lt_of_lt_of_le (hav k hk) hB1.size) (HV.out.kept HK1.out)
  have M1 := Lib.hid m1
  have hr16 : (roundsF ms).2 < 65536 := roundsK_lt h12 _ _ (by omega)
  have HL := Lib.hid (show lockF ms = andN (allN ms.length) (roundsF ms).2 from rfl)
  obtain ⟨R, hR⟩ : ∃ R, R = (roundsF ms).2 := ⟨_, rfl⟩
  rw [← hR] at H0 hr16 HL
  rw [hW1] at H0
  have HR0 := Lib.hid H0
  have HA := Lib.hid hA
  have HAL := Lib.hid (fun W => all_ok pa ms.length cap (by omega) W)
  have HWO := Lib.hid (fun W => without_ok (allN ms.length) R (allN_lt (by omega)) hr16 W)
  clear hA H0 hR hr16
  go_enter Tryz.func125, Tryz.ntmps125
  go_wp2_with fail
  refine HR0.out.mono ?_
  rw [← hW1]
  rintro e w2 ⟨⟨u, rfl, _, _⟩, hk2⟩
  rw [← HA.out]
  have m2 := kept_cells hk2 M1.out (HV.out.kept HK1.out).ways
  have HK2 := Lib.hid (kept_trans HK1.out hk2)
  clear hv hB1 hW1 hk2 HR0 m1
  have d0 := cells4 m2 0 _ rfl
  go_wp2_with fail
  refine (HAL.out _).mono ?_
  rintro e w3 ⟨rfl, hb3⟩
  have HK3 := Lib.hid (kept_trans HK2.out (kept_below (v := .slice pa ms.length cap) HK2.out.2 hb3))
  clear d0 m2 hb3
  go_wp2_with fail
  refine (HWO.out _).mono ?_
  rintro e w4 ⟨rfl, hb4⟩
  go_wp2
  go_ret
  exact ⟨by rw [HL.out]; rfl, kept_trans HK3.out (kept_below HK3.out.2 hb4)⟩
end Go.Proofs.YtoajocgfmbakjaaGreatDoor
/-
  Lock.
-/
set_option linter.unusedVariables false
set_option linter.unusedSimpArgs false
namespace Go.Proofs.YtoajocgfmbakjaaGreatDoor
open Go Go.RowKit Go.Shelf

theorem row_base {W : World} {b b' size n : Nat} {e : TypeId} {v : Value} {xs : List Value} (h : W.ownsRow b e size v n xs) (hb : b' ≤ b) : W.ownsRow b' e size v n xs :=
  ⟨h.1, h.2.imp id fun ⟨g, cap, cur, h1, h2, h3⟩ => ⟨g, cap, cur, h1, Nat.le_trans hb h2, h3⟩⟩
theorem lockF_lt {ms : List Sol} (h12 : ms.length ≤ 12) : lockF ms < 65536 := andN16 (allN_lt (by omega))
/-- What Lock returns, as a list. -/
def lockL (ms : List Sol) : List Nat := if chkM ms = 0 then listS (lockF ms) else []
set_option maxRecDepth 100000 in
set_option maxHeartbeats 2000000 in
theorem lock_ok (ms : List Sol) (v : Value) (w : World) (hv : SolsAt w v ms) (hm : ∀ m ∈ ms, Fit m) (hT : Tab32 w) :
    Calls Tryz.prog 57 #[v] w fun e w' => (∃ u, e = .returned (.tuple #[u, .int .i64 (chkM ms)]) ∧ w'.ownsRow w.heap.size 3 1 u (lockL ms).length (flatI (lockL ms)) ∧ (u = .slice none 0 0 ↔ lockL ms = [])) ∧ Below w.heap.size w w' := by
  have HT := Lib.hid hT
  clear hT
  by_cases hc : chkM ms = 0
  · have HY := Lib.hid (look_yes ms v w hv hm hc)
    have h12 := chkM_len hc
    have HM := Lib.hid hm
    have HO := Lib.hid (show lockL ms = listS (lockF ms) from if_pos hc)
    rw [hc, HO.out]
    have hl16 := lockF_lt h12
    obtain ⟨pa, cap, rfl, _, _⟩ := hv
    clear hm hc
    go_enter Tryz.func57, Tryz.ntmps57
    go_wp2_with fail
    refine HY.out.mono ?_
    rintro e w1 ⟨b, rfl, hb, hM1, hB1⟩
    have q1 : (w1.alloc (.cells #[.slice pa ms.length cap, .map (some b)] 101)).heap[w1.heap.size]? = some (.cells #[.slice pa ms.length cap, .map (some b)] 101 (0, 0)) := World.alloc_heap_new w1 _
    have hA := (Below.refl _ w1).alloc (Nat.le_refl _) (.cells #[.slice pa ms.length cap, .map (some b)] 101)
    have hB2 : Below w.heap.size w (w1.alloc (.cells #[.slice pa ms.length cap, .map (some b)] 101)) := hB1.trans (hA.mono hB1.size)
    have c0 := cells4 q1 0 _ rfl
    have c1 := cells4 q1 1 _ rfl
    have HG := Lib.hid (greatest_ok ms (.slice pa ms.length cap) b _ HM.out h12 noBlk (fun _ h => h.elim) (hM1.below hA))
    have HB2 := Lib.hid hB2
    have HB := Lib.hid hb
    clear q1 hA hB2 hM1 hB1 hb
    go_wp2_with fail
    refine HG.out.mono ?_
    rintro e w3 ⟨rfl, hk3⟩
    have HB3 := Lib.hid (kept_out hk3 HB.out HB2.out)
    clear c0 c1 hk3 HG
    have HL := Lib.hid (list_ok (lockF ms) w3 hl16 (HT.out.below HB3.out (Nat.le_refl _)))
    go_wp2_with fail
    refine HL.out.mono ?_
    rintro e w4 ⟨⟨u, rfl, hrow, hnil⟩, hb4⟩
    go_wp2
    go_returns
    exact ⟨⟨u, rfl, row_base hrow HB3.out.size, hnil⟩, up hb4 HB3.out⟩
  · have HN := Lib.hid (look_no ms v w hv hm hc)
    have HO := Lib.hid (show lockL ms = [] from if_neg hc)
    rw [HO.out]
    obtain ⟨c, hcc⟩ : ∃ c, c = chkM ms := ⟨_, rfl⟩
    rw [← hcc] at HN hc ⊢
    have hne : (c != 0) = true := by simpa using hc
    clear hcc hc hm
    go_enter Tryz.func57, Tryz.ntmps57
    go_wp2_with fail
    refine HN.out.mono ?_
    rintro e w1 ⟨rfl, hB1⟩
    go_wp2
    go_returns
    exact ⟨⟨_, rfl, World.ownsRow_nil _ _ _ _, by simp⟩, hB1.alloc hB1.size _⟩
end Go.Proofs.YtoajocgfmbakjaaGreatDoor
