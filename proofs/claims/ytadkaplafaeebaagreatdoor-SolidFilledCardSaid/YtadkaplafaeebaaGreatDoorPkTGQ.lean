/-
  A list of cells among the arguments, opened; the solid of a list of cells.
-/
import Derived.Test.YtadkaplafaeebaaGreatDoorLiftQ
import Derived.Test.YtadkaplafaeebaaGreatDoorPkXQ
import Derived.Deep.Slices
import Derived.Test.YtadkaplafaeebaaGreatDoorPkFQ
import Derived.Test.YtadkaplafaeebaaGreatDoorPkRAQ
set_option linter.unusedVariables false
set_option linter.unusedSimpArgs false
namespace Go.Proofs.YtadkaplafaeebaaGreatDoor
open Go Go.ChangeShapes Go.WideShapes Go.ChangeAt Go.RowKit

/-- A slice of n cells with the coordinates z. -/
def CellsAt (W : World) (pa : Option Addr) (n : Nat) (z : Nat → I3) : Prop := n ≤ maxLen ∧ (n = 0 ∨ ∃ b o, pa = some ⟨b, o, none⟩ ∧ b < W.heap.size ∧
  ∀ j, j < n → W.cell? ⟨b, o + j * 3, none⟩ = some (.int .i64 (z j).1) ∧ W.cell? ⟨b, o + j * 3 + 1, none⟩ = some (.int .i64 (z j).2.1) ∧ W.cell? ⟨b, o + j * 3 + 2, none⟩ = some (.int .i64 (z j).2.2))
theorem CellsAt.below {W W' : World} {pa : Option Addr} {n : Nat} {z : Nat → I3} (h : CellsAt W pa n z) {k : Nat} (hb : Below k W W') (hk : W.heap.size ≤ k) : CellsAt W' pa n z := by
  refine ⟨h.1, h.2.imp id ?_⟩
  rintro ⟨b, o, e, hlt, hc⟩
  refine ⟨b, o, e, Nat.lt_of_lt_of_le hlt (hb.size), fun j hj => ?_⟩
  obtain ⟨h0, h1, h2⟩ := hc j hj
  exact ⟨(hb.cell (p := ⟨b, o + j * 3, none⟩) (by simp; omega)).trans h0, (hb.cell (p := ⟨b, o + j * 3 + 1, none⟩) (by simp; omega)).trans h1, (hb.cell (p := ⟨b, o + j * 3 + 2, none⟩) (by simp; omega)).trans h2⟩
/-- The solid of the first cells of a list. -/
def ofN (z : Nat → I3) : Nat → Sol
  | 0 => fun _ => 0
  | k + 1 => setC (ofN z k) (ofI (z k))
theorem ofN_fit (z : Nat → I3) : ∀ k, Fit (ofN z k)
  | 0 => fit0
  | k + 1 => setC_fit (ofN_fit z k) _
end Go.Proofs.YtadkaplafaeebaaGreatDoor
/-
  Of.
-/
set_option linter.unusedVariables false
set_option linter.unusedSimpArgs false
namespace Go.Proofs.YtadkaplafaeebaaGreatDoor
open Go Go.RowKit

theorem nat_of7 {p : I3} (h : In7 p) : ∃ c : Cl, ofI p = c ∧ p = (((cX c : Nat) : Int), ((cY c : Nat) : Int), ((cZ c : Nat) : Int)) := by
  refine ⟨ofI p, rfl, ?_⟩
  have := toI_ofI h
  unfold toI at this
  exact this.symm
end Go.Proofs.YtadkaplafaeebaaGreatDoor
/-
  The reference's Of.
-/
set_option linter.unusedVariables false
set_option linter.unusedSimpArgs false
namespace Go.Proofs.YtadkaplafaeebaaGreatDoor
open Go Go.RowKit

set_option maxRecDepth 100000 in
set_option maxHeartbeats 4000000 in
theorem rof_walk (pa : Option Addr) (n c : Nat) (z : Nat → I3) (w : World) (hn : n ≤ 1000) (hc : CellsAt w pa n z) :
    Calls Tryz.prog 22 #[.slice pa n c] w fun e w' => ((e = .returned (.tuple #[sol (ofN z n), .int .i64 0]) ∧ ∀ j, j < n → In7 (z j)) ∨ (e = .returned (.tuple #[sol (fun _ => 0), .int .i64 1]) ∧ ∃ j, j < n ∧ ¬ In7 (z j))) ∧ Below w.heap.size w w' := by
  have d1 : decide ((1000 : Int) < (n : Int)) = false := decide_eq_false (by omega)
  have bR0 : BoxS ((w.alloc (.cells (solC fun _ => 0) 24)).alloc (.cells (solC fun _ => 0) 24)) w.heap.size (fun _ => 0) := (BoxS.zero rfl).alloc _
  have bS0 : BoxS ((w.alloc (.cells (solC fun _ => 0) 24)).alloc (.cells (solC fun _ => 0) 24)) (w.heap.size + 1) (fun _ => 0) := BoxS.zero (by simp)
  have hB0 : Below w.heap.size w ((w.alloc (.cells (solC fun _ => 0) 24)).alloc (.cells (solC fun _ => 0) 24)) := by repeat' (first | (with_reducible exact Below.refl _ _) | (with_reducible assumption) | (with_reducible refine Below.alloc ?_ ?_ _) | (with_reducible refine Below.drew ?_) | (with_reducible refine below_drewN ?_ _) | (with_reducible refine Below.setCell ?_ ?_ _) | go_size)
  go_enter Tryz.func22, Tryz.ntmps22
  go_wp2_with fail
  go_loopw [5] (fun c wr => ∃ i : Nat, i ≤ n ∧ c = .int .i64 i ∧ BoxS wr w.heap.size (fun _ => 0) ∧ BoxS wr (w.heap.size + 1) (ofN z i) ∧ (∀ j, j < i → In7 (z j)) ∧ Below w.heap.size w wr) (fun c _ => n - (intOf c).toNat)
  case atStart => exact ⟨0, by omega, rfl, bR0, bS0, fun j hj => by omega, hB0⟩
  case round =>
    clear bR0 bS0 hB0
    obtain ⟨i, hi, rfl, bR, bS, hall, hB⟩ := hrel
    by_cases hlt : i < n
    · have hd : decide ((i : Int) < (n : Int)) = true := decide_eq_true (by omega)
      obtain ⟨_, b, o, rfl, hb, hcs⟩ : True ∧ ∃ b o, pa = some ⟨b, o, none⟩ ∧ b < w.heap.size ∧ ∀ j, j < n → w.cell? ⟨b, o + j * 3, none⟩ = some (.int .i64 (z j).1) ∧ w.cell? ⟨b, o + j * 3 + 1, none⟩ = some (.int .i64 (z j).2.1) ∧ w.cell? ⟨b, o + j * 3 + 2, none⟩ = some (.int .i64 (z j).2.2) := ⟨trivial, hc.2.resolve_left (by omega)⟩
      obtain ⟨k0, k1, k2⟩ := hcs i hlt
      have k0 := (hB.cell (p := ⟨b, o + i * 3, none⟩) hb).trans k0
      have k1 := (hB.cell (p := ⟨b, o + i * 3 + 1, none⟩) hb).trans k1
      have k2 := (hB.cell (p := ⟨b, o + i * 3 + 2, none⟩) hb).trans k2
      have lS := bS.lt
      have lR := bR.lt
      have s0 := hB.size
      have HZ : Hid (ofN z (i + 1) = setC (ofN z i) (ofI (z i))) := Lib.hid rfl
      obtain ⟨q, hq⟩ : ∃ q, q = z i := ⟨_, rfl⟩
      rw [← hq] at k0 k1 k2 HZ
      have HQ := Lib.hid hq
      clear hq
      by_cases h7 : In7 q
      · obtain ⟨d, hd1, rfl⟩ := nat_of7 h7
        rw [hd1] at HZ
        have HW := Lib.hid (fun (W : World) => rwith_ok (ofN z i) d W (ofN_fit z i))
        generalize ofN z i = h at *
        go_wp2_with fail
        refine (rinGrid_is (inG_cell d) _).mono ?_
        rintro e w2 ⟨rfl, hb2⟩
        have bS2 := bS.below hb2 lS
        have bR2 := bR.below hb2 lR
        have hB2 : Below w.heap.size w w2 := up hb2 hB
        have k0 := (hb2.cell (p := ⟨b, o + i * 3, none⟩) (by simp; omega)).trans k0
        have k1 := (hb2.cell (p := ⟨b, o + i * 3 + 1, none⟩) (by simp; omega)).trans k1
        have k2 := (hb2.cell (p := ⟨b, o + i * 3 + 2, none⟩) (by simp; omega)).trans k2
        have lS2 : w.heap.size + 1 < w2.heap.size := bS2.lt
        have hb' : b < w2.heap.size := by omega
        clear bS bR hB hb2
        have o0 := (bS2).cell (k := 0) (by omega); have o1 := (bS2).cell (k := 1) (by omega); have o2 := (bS2).cell (k := 2) (by omega); have o3 := (bS2).cell (k := 3) (by omega); have o4 := (bS2).cell (k := 4) (by omega); have o5 := (bS2).cell (k := 5) (by omega); have o6 := (bS2).cell (k := 6) (by omega); have o7 := (bS2).cell (k := 7) (by omega)
        go_wp2_with fail
        (refine wp_region_quiet_tail 6 (fun w' => Below w2.heap.size w2 w') (by kernel_rfl) (by kernel_rfl) (Below.drew (Below.refl _ _)) ?_; simp only [List.take_succ_cons, List.take_zero, List.drop_succ_cons, List.drop_zero]; (iterate 6 (refine wpQuiet_step (fun K hK => ?_); go_simp; first | (refine hK _ ?_; clear hK K) | (apply Exists.intro; refine ⟨fun W' hW' => ?_, hK _ ?_⟩; (focus (first | (with_reducible exact rfl) | (with_reducible exact ⟨rfl, rfl⟩) | (obtain ⟨hcq, hfq⟩ := bcell hW'; have hzq := hW'.size; (try go_simp); first | (with_reducible exact rfl) | (with_reducible exact ⟨rfl, rfl⟩) | (first | ((with_reducible refine Calls.mono (HW.out _) ?_); rintro e w9 ⟨rfl, hb9⟩; exact ⟨rfl, hW'.trans (hb9.mono hW'.size)⟩))))); clear hK K))); refine wpQuiet_nil ?_; intro w1q hb1q)
        have bS3 := bS2.below hb1q lS2
        have bR3 := bR2.below hb1q bR2.lt
        have hB3 : Below w.heap.size w w1q := up hb1q hB2
        have lS3 := bS3.lt
        clear o0 o1 o2 o3 o4 o5 o6 o7 k0 k1 k2 bS2 bR2 hB2
        have o0 := (bS3).cell (k := 0) (by omega); have o1 := (bS3).cell (k := 1) (by omega); have o2 := (bS3).cell (k := 2) (by omega); have o3 := (bS3).cell (k := 3) (by omega); have o4 := (bS3).cell (k := 4) (by omega); have o5 := (bS3).cell (k := 5) (by omega); have o6 := (bS3).cell (k := 6) (by omega); have o7 := (bS3).cell (k := 7) (by omega)
        have q0 := (bS3).free 0; have q1 := (bS3).free 1; have q2 := (bS3).free 2; have q3 := (bS3).free 3; have q4 := (bS3).free 4; have q5 := (bS3).free 5; have q6 := (bS3).free 6; have q7 := (bS3).free 7
        go_wp2_with fail
        case roundEnd => exact ⟨⟨i + 1, by omega, by simp, bR3.putOther (by omega) _, by rw [HZ.out]; exact bS3.put (setC h d), fun j hj => (by
          by_cases e : j = i
          · rw [e, ← HQ.out]; exact h7
          · exact hall j (by omega)), below_put8 hB3 (by omega) _⟩, by simp [intOf]; omega⟩
      · have hno : inG q.1 q.2.1 q.2.2 = false := decide_eq_false h7
        go_wp2_with fail
        refine (rinGrid_is hno _).mono ?_
        rintro e w2 ⟨rfl, hb2⟩
        have bR2 := bR.below hb2 lR
        have hB2 : Below w.heap.size w w2 := up hb2 hB
        have lR2 := bR2.lt
        have r0 := (bR2).cell (k := 0) (by omega); have r1 := (bR2).cell (k := 1) (by omega); have r2 := (bR2).cell (k := 2) (by omega); have r3 := (bR2).cell (k := 3) (by omega); have r4 := (bR2).cell (k := 4) (by omega); have r5 := (bR2).cell (k := 5) (by omega); have r6 := (bR2).cell (k := 6) (by omega); have r7 := (bR2).cell (k := 7) (by omega)
        have q0 := (bR2).free 0; have q1 := (bR2).free 1; have q2 := (bR2).free 2; have q3 := (bR2).free 3; have q4 := (bR2).free 4; have q5 := (bR2).free 5; have q6 := (bR2).free 6; have q7 := (bR2).free 7
        go_wp2_with fail
        refine bodyPost_ret (res_se (bR2.put fun _ => 0) Tryz.results22 rfl) rfl ⟨.inr ⟨rfl, i, hlt, by rw [← HQ.out]; exact h7⟩, ?_⟩
        exact below_put8 hB2 (by omega) (fun _ => 0)
    · obtain rfl : i = n := by omega
      have hd : decide ((i : Int) < (i : Int)) = false := decide_eq_false (by omega)
      have lS := bS.lt
      have lR := bR.lt
      have o0 := (bS).cell (k := 0) (by omega); have o1 := (bS).cell (k := 1) (by omega); have o2 := (bS).cell (k := 2) (by omega); have o3 := (bS).cell (k := 3) (by omega); have o4 := (bS).cell (k := 4) (by omega); have o5 := (bS).cell (k := 5) (by omega); have o6 := (bS).cell (k := 6) (by omega); have o7 := (bS).cell (k := 7) (by omega)
      have r0 := (bR).cell (k := 0) (by omega); have r1 := (bR).cell (k := 1) (by omega); have r2 := (bR).cell (k := 2) (by omega); have r3 := (bR).cell (k := 3) (by omega); have r4 := (bR).cell (k := 4) (by omega); have r5 := (bR).cell (k := 5) (by omega); have r6 := (bR).cell (k := 6) (by omega); have r7 := (bR).cell (k := 7) (by omega)
      have q0 := (bR).free 0; have q1 := (bR).free 1; have q2 := (bR).free 2; have q3 := (bR).free 3; have q4 := (bR).free 4; have q5 := (bR).free 5; have q6 := (bR).free 6; have q7 := (bR).free 7
      go_wp2_with fail
      refine bodyPost_ret (res_se (bR.put (ofN z i)) Tryz.results22 rfl) rfl ⟨.inl ⟨rfl, hall⟩, ?_⟩
      exact below_put8 hB (by omega) _
end Go.Proofs.YtadkaplafaeebaaGreatDoor
