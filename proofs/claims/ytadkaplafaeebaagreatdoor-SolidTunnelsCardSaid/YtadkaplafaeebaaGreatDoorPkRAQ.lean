/-
  The reference's small functions: inGrid, Has at a cell of the grid.
-/
import Derived.Test.YtadkaplafaeebaaGreatDoorPkDQ
import Derived.Test.YtadkaplafaeebaaGreatDoorPkIQ
import Derived.Test.YtadkaplafaeebaaGreatDoorPkKQ
import Derived.Test.YtadkaplafaeebaaGreatDoorPkFQ
import Derived.Deep.Cut
import Derived.Test.YtadkaplafaeebaaGreatDoorPkXBQ
import Derived.Test.YtadkaplafaeebaaGreatDoorPkMQ
import Derived.Test.YtadkaplafaeebaaGreatDoorPkGQ
set_option linter.unusedVariables false
set_option linter.unusedSimpArgs false
namespace Go.Proofs.YtadkaplafaeebaaGreatDoor
open Go Go.RowKit

theorem bit_expr {x y : Nat} (hx : x ≤ 7) (hy : y ≤ 7) : IntKind.u64.wrap (2 ^ min (IntKind.u64.wrap (IntKind.i64.wrap (IntKind.i64.wrap (8 * (y : Int)) + (x : Int)))).toNat 64) = ((bitN x y : Nat) : Int) := by
  have e1 : IntKind.i64.wrap (8 * (y : Int)) = 8 * (y : Int) := IntWalk.i64_in _ (by omega)
  have e2 : IntKind.i64.wrap (8 * (y : Int) + (x : Int)) = 8 * (y : Int) + (x : Int) := IntWalk.i64_in _ (by omega)
  have e3 : IntKind.u64.wrap (8 * (y : Int) + (x : Int)) = ((8 * y + x : Nat) : Int) := by rw [IntKind.wrap_u64]; omega
  rw [e1, e2, e3, Int.toNat_natCast, Nat.min_eq_left (by omega)]
  exact wrap_pow (by omega)
theorem rinGrid_ok (x y z : Int) (w : World) : Calls Tryz.prog 92 #[.agg #[.int .i64 (x), .int .i64 (y), .int .i64 (z)]] w fun e w' => e = .returned (.bool (inG x y z)) ∧ Below w.heap.size w w' := by
  go_enter Tryz.func92, Tryz.ntmps92
  go_wp2
  all_goals
    go_ret
    exact ⟨retB (by unfold inG; rw [Bool.eq_iff_iff]; simp; omega), by go_grown⟩
theorem rinGrid_is {x y z : Int} {b : Bool} (h : inG x y z = b) (w : World) : Calls Tryz.prog 92 #[.agg #[.int .i64 (x), .int .i64 (y), .int .i64 (z)]] w fun e w' => e = .returned (.bool b) ∧ Below w.heap.size w w' := by
  subst h
  exact rinGrid_ok x y z w
set_option maxRecDepth 100000 in
set_option maxHeartbeats 4000000 in
theorem rhas_yes (f : Sol) (c : Cl) (w : World) (hf : Fit f) :
    Calls Tryz.prog 24 #[sol f, cell c] w fun e w' => e = .returned (.bool (hasC f c)) ∧ Below w.heap.size w w' := by
  have hx := X_le c
  have hy := Y_le c
  have hz := Z_le c
  have hzi : ((cZ c : Nat) : Int) < 8 := by omega
  have b1 := hf (cZ c)
  have hand := bits_and b1 (bit_lt hx hy)
  have hne := and_bit_ne (f (cZ c)) (cX c) (cY c)
  have bS : BoxS ((w.alloc (.cells (solC f) 24)).alloc (.cells #[.int .i64 ((cX c : Nat) : Int), .int .i64 ((cY c : Nat) : Int), .int .i64 ((cZ c : Nat) : Int)] 26)) w.heap.size f := (BoxS.new w f).alloc _
  have bC : BoxC ((w.alloc (.cells (solC f) 24)).alloc (.cells #[.int .i64 ((cX c : Nat) : Int), .int .i64 ((cY c : Nat) : Int), .int .i64 ((cZ c : Nat) : Int)] 26)) (w.heap.size + 1) (cX c : Nat) (cY c : Nat) (cZ c : Nat) := BoxC.new (by simp)
  have d0 := bC.c0
  have d1 := bC.c1
  have d2 := bC.c2
  have v1 := bS.cell (k := cZ c) (by omega)
  unfold hasC
  clear hf
  go_enter Tryz.func24, Tryz.ntmps24
  go_wp2
  obtain ⟨W, hW⟩ : ∃ W, W = ((w.alloc (.cells (solC f) 24)).alloc (.cells #[.int .i64 ((cX c : Nat) : Int), .int .i64 ((cY c : Nat) : Int), .int .i64 ((cZ c : Nat) : Int)] 26)) := ⟨_, rfl⟩
  have hBW : Below w.heap.size w W := by rw [hW]; repeat' (first | (with_reducible exact Below.refl _ _) | (with_reducible assumption) | (with_reducible refine Below.alloc ?_ ?_ _) | (with_reducible refine Below.drew ?_) | (with_reducible refine below_drewN ?_ _) | (with_reducible refine Below.setCell ?_ ?_ _) | go_size)
  rw [← hW] at d0 d1 d2 v1 ⊢
  have lC : w.heap.size + 1 < W.heap.size := by rw [hW]; simp <;> omega
  have lS : w.heap.size < W.heap.size := by omega
  clear hW bC bS
  (refine wp_region_quiet (C := fun w' => Below W.heap.size W w') (by kernel_rfl) (by kernel_rfl) (Below.drew (Below.refl _ _)) ?_; (iterate 19 (refine wpQuiet_step (fun K hK => ?_); go_simp; first | (refine hK _ ?_; clear hK K) | (apply Exists.intro; refine ⟨fun W' hW' => ?_, hK _ ?_⟩; (focus (first | (with_reducible exact rfl) | (with_reducible exact ⟨rfl, rfl⟩) | (obtain ⟨hcq, hfq⟩ := bcell hW'; have hzq := hW'.size; (try go_simp); first | (with_reducible exact rfl) | (with_reducible exact ⟨rfl, rfl⟩) | (refine (rinGrid_is (inG_cell c) _).mono ?_; rintro e w2 ⟨rfl, hb2⟩; exact ⟨rfl, hW'.trans (hb2.mono hW'.size)⟩)))); clear hK K))); refine wpQuiet_nil ?_; intro w1q hb1q)
  go_wp2
  go_ret
  exact ⟨retB (by rw [bit_expr hx hy, hand]; exact hne), hBW.trans (hb1q.mono hBW.size)⟩
end Go.Proofs.YtadkaplafaeebaaGreatDoor
/-
  The reference's with, and its Cells.
-/
set_option linter.unusedVariables false
set_option linter.unusedSimpArgs false
namespace Go.Proofs.YtadkaplafaeebaaGreatDoor
open Go Go.RowKit

set_option maxRecDepth 100000 in
set_option maxHeartbeats 4000000 in
theorem rwith_ok (f : Sol) (c : Cl) (w : World) (hf : Fit f) :
    Calls Tryz.prog 93 #[sol f, cell c] w fun e w' => e = .returned (sol (setC f c)) ∧ Below w.heap.size w w' := by
  have hx := X_le c
  have hy := Y_le c
  have hz := Z_le c
  have hzi : ((cZ c : Nat) : Int) < 8 := by omega
  have b1 := hf (cZ c)
  have hor := bits_or b1 (bit_lt hx hy)
  have HB := Lib.hid (bit_expr hx hy)
  have HO := Lib.hid hor
  have bS : BoxS (((w.alloc (.cells (solC f) 24)).alloc (.cells #[.int .i64 ((cX c : Nat) : Int), .int .i64 ((cY c : Nat) : Int), .int .i64 ((cZ c : Nat) : Int)] 26)).alloc (.cells (solC fun _ => 0) 24)) w.heap.size f := ((BoxS.new w f).alloc _).alloc _
  have bC : BoxC (((w.alloc (.cells (solC f) 24)).alloc (.cells #[.int .i64 ((cX c : Nat) : Int), .int .i64 ((cY c : Nat) : Int), .int .i64 ((cZ c : Nat) : Int)] 26)).alloc (.cells (solC fun _ => 0) 24)) (w.heap.size + 1) (cX c : Nat) (cY c : Nat) (cZ c : Nat) := BoxC.alloc (BoxC.new (by simp)) _
  have bR : BoxS (((w.alloc (.cells (solC f) 24)).alloc (.cells #[.int .i64 ((cX c : Nat) : Int), .int .i64 ((cY c : Nat) : Int), .int .i64 ((cZ c : Nat) : Int)] 26)).alloc (.cells (solC fun _ => 0) 24)) (w.heap.size + 1 + 1) (fun _ => 0) := BoxS.new' (by simp)
  have d0 := bC.c0
  have d1 := bC.c1
  have d2 := bC.c2
  have v1 := bS.cell (k := cZ c) (by omega)
  have fr := bS.free (cZ c)
  go_enter Tryz.func93, Tryz.ntmps93
  go_wp2
  obtain ⟨W, hW⟩ : ∃ W, W = (((w.alloc (.cells (solC f) 24)).alloc (.cells #[.int .i64 ((cX c : Nat) : Int), .int .i64 ((cY c : Nat) : Int), .int .i64 ((cZ c : Nat) : Int)] 26)).alloc (.cells #[.int .u64 0, .int .u64 0, .int .u64 0, .int .u64 0, .int .u64 0, .int .u64 0, .int .u64 0, .int .u64 0] 24)) := ⟨_, rfl⟩
  have hBW : Below w.heap.size w W := by rw [hW]; repeat' (first | (with_reducible exact Below.refl _ _) | (with_reducible assumption) | (with_reducible refine Below.alloc ?_ ?_ _) | (with_reducible refine Below.drew ?_) | (with_reducible refine below_drewN ?_ _) | (with_reducible refine Below.setCell ?_ ?_ _) | go_size)
  have bS' : BoxS W w.heap.size f := by rw [hW]; exact bS
  have bR' : BoxS W (w.heap.size + 1 + 1) (fun _ => 0) := by rw [hW]; exact bR
  replace d0 : W.cell? ⟨w.heap.size + 1, 0, none⟩ = some (.int .i64 ((cX c : Nat) : Int)) := by rw [hW]; exact d0
  replace d1 : W.cell? ⟨w.heap.size + 1, 1, none⟩ = some (.int .i64 ((cY c : Nat) : Int)) := by rw [hW]; exact d1
  replace d2 : W.cell? ⟨w.heap.size + 1, 2, none⟩ = some (.int .i64 ((cZ c : Nat) : Int)) := by rw [hW]; exact d2
  replace v1 := bS'.cell (k := cZ c) (by omega)
  replace fr := bS'.free (cZ c)
  rw [← hW]
  clear bS bC bR hW hor b1
  have lR := bR'.lt
  have lC : w.heap.size + 1 < W.heap.size := by omega
  have lS : w.heap.size < W.heap.size := by omega
  (refine wp_region_quiet_tail 16 (fun w' => Below W.heap.size W w') (by kernel_rfl) (by kernel_rfl) (Below.drew (Below.refl _ _)) ?_; simp only [List.take_succ_cons, List.take_zero, List.drop_succ_cons, List.drop_zero]; (iterate 16 (refine wpQuiet_step (fun K hK => ?_); go_simp; first | (refine hK _ ?_; clear hK K) | (apply Exists.intro; refine ⟨fun W' hW' => ?_, hK _ ?_⟩; (focus (first | (with_reducible exact rfl) | (with_reducible exact ⟨rfl, rfl⟩) | (obtain ⟨hcq, hfq⟩ := bcell hW'; have hzq := hW'.size; (try go_simp); first | (with_reducible exact rfl) | (with_reducible exact ⟨rfl, rfl⟩) | (fail)))); clear hK K))); refine wpQuiet_nil ?_; intro w1q hb1q)
  rw [HB.out, HO.out]
  have bS1 := bS'.below hb1q lS
  have bR1 := bR'.below hb1q lR
  have hB1 : Below w.heap.size w w1q := hBW.trans (hb1q.mono hBW.size)
  have fr1 := bS1.free (cZ c)
  clear d0 d1 d2 v1 fr bS' bR' hBW
  have v1 := bS1.cell (k := cZ c) (by omega)
  have S2 : BoxS (w1q.setCell ⟨w.heap.size, cZ c, none⟩ (.int .u64 ((f (cZ c) ||| bitN (cX c) (cY c) : Nat) : Int))) w.heap.size (setC f c) := bS1.set (by omega) _
  have R2 : BoxS (w1q.setCell ⟨w.heap.size, cZ c, none⟩ (.int .u64 ((f (cZ c) ||| bitN (cX c) (cY c) : Nat) : Int))) (w.heap.size + 1 + 1) (fun _ => 0) := bR1.other (by omega) _
  have hB2 : Below w.heap.size w (w1q.setCell ⟨w.heap.size, cZ c, none⟩ (.int .u64 ((f (cZ c) ||| bitN (cX c) (cY c) : Nat) : Int))) := hB1.setCell (by simp) _
  have l2 := S2.lt
  have l3 := R2.lt
  have c0 := (S2).cell (k := 0) (by omega); have c1 := (S2).cell (k := 1) (by omega); have c2 := (S2).cell (k := 2) (by omega); have c3 := (S2).cell (k := 3) (by omega); have c4 := (S2).cell (k := 4) (by omega); have c5 := (S2).cell (k := 5) (by omega); have c6 := (S2).cell (k := 6) (by omega); have c7 := (S2).cell (k := 7) (by omega)
  have r0 := (R2).cell (k := 0) (by omega); have r1 := (R2).cell (k := 1) (by omega); have r2 := (R2).cell (k := 2) (by omega); have r3 := (R2).cell (k := 3) (by omega); have r4 := (R2).cell (k := 4) (by omega); have r5 := (R2).cell (k := 5) (by omega); have r6 := (R2).cell (k := 6) (by omega); have r7 := (R2).cell (k := 7) (by omega)
  have q0 := (R2).free 0; have q1 := (R2).free 1; have q2 := (R2).free 2; have q3 := (R2).free 3; have q4 := (R2).free 4; have q5 := (R2).free 5; have q6 := (R2).free 6; have q7 := (R2).free 7
  go_wp2_with fail
  refine bodyPost_ret (res_s (R2.put (setC f c)) Tryz.results93 rfl) rfl ⟨rfl, ?_⟩
  exact below_put8 hB2 (by omega) _
end Go.Proofs.YtadkaplafaeebaaGreatDoor
/-
  The reference's Cells.
-/
set_option linter.unusedVariables false
set_option linter.unusedSimpArgs false
namespace Go.Proofs.YtadkaplafaeebaaGreatDoor
open Go Go.RowKit Go.Shelf

theorem asc_ext : ∀ l m : List Cl, l.Pairwise (fun a b => a.1 < b.1) → m.Pairwise (fun a b => a.1 < b.1) → (∀ x, x ∈ l ↔ x ∈ m) → l = m
  | [], [], _, _, _ => rfl
  | [], b :: m, _, _, h => by have := (h b).2 List.mem_cons_self; cases this
  | a :: l, [], _, _, h => by have := (h a).1 List.mem_cons_self; cases this
  | a :: l, b :: m, hl, hm, h => by
    obtain ⟨h1, h2⟩ := List.pairwise_cons.1 hl
    obtain ⟨k1, k2⟩ := List.pairwise_cons.1 hm
    have e : a = b := by
      rcases List.mem_cons.1 ((h a).1 List.mem_cons_self) with e | e
      · exact e
      · rcases List.mem_cons.1 ((h b).2 List.mem_cons_self) with e' | e'
        · exact e'.symm
        · have := k1 a e
          have := h1 b e'
          omega
    subst e
    rw [asc_ext l m h2 k2 fun x => ?_]
    constructor
    · intro hx
      rcases List.mem_cons.1 ((h x).1 (List.mem_cons_of_mem _ hx)) with e | e
      · subst e
        have := h1 x hx
        omega
      · exact e
    · intro hx
      rcases List.mem_cons.1 ((h x).2 (List.mem_cons_of_mem _ hx)) with e | e
      · subst e
        have := k1 x hx
        omega
      · exact e
def mkC (i : Nat) : Cl := ⟨i % 512, Nat.mod_lt _ (by omega)⟩
/-- The cells of a solid whose numbers are below n. -/
def cellsTo (f : Sol) (n : Nat) : List Cl := ((List.range n).map mkC).filter (hasC f)
theorem cellsTo_succ (f : Sol) (n : Nat) : cellsTo f (n + 1) = cellsTo f n ++ if hasC f (mkC n) then [mkC n] else [] := by
  unfold cellsTo
  rw [List.range_succ, List.map_append, List.filter_append]
  simp only [List.map_cons, List.map_nil, List.filter_cons, List.filter_nil]
theorem cellsTo_all (f : Sol) : cellsTo f 512 = cellsL f := by
  refine asc_ext _ _ ?_ (cells_asc f) fun x => ?_
  · unfold cellsTo
    refine List.Pairwise.filter _ (List.pairwise_map.2 ((List.pairwise_lt_range (n := 512)).imp_of_mem fun {a b} ha hb hab => ?_))
    have ha := List.mem_range.1 ha
    have hb := List.mem_range.1 hb
    show a % 512 < b % 512
    omega
  · rw [mem_cells]
    unfold cellsTo
    rw [List.mem_filter]
    refine ⟨fun h => h.2, fun h => ⟨List.mem_map.2 ⟨x.1, List.mem_range.2 x.2, ?_⟩, h⟩⟩
    exact Fin.ext (Nat.mod_eq_of_lt x.2)
theorem cellsTo_len (f : Sol) (n : Nat) : (cellsTo f n).length ≤ n := by
  unfold cellsTo
  exact Nat.le_trans (List.length_filter_le _ _) (by simp)
theorem cell_of {x y z : Nat} (hx : x < 8) (hy : y < 8) (hz : z < 8) : ∃ c : Cl, cX c = x ∧ cY c = y ∧ cZ c = z ∧ mkC (64 * z + 8 * y + x) = c := by
  refine ⟨mkC (64 * z + 8 * y + x), ?_, ?_, ?_, rfl⟩
  · show (64 * z + 8 * y + x) % 512 % 8 = x
    omega
  · show (64 * z + 8 * y + x) % 512 / 8 % 8 = y
    omega
  · show (64 * z + 8 * y + x) % 512 / 64 = z
    omega
theorem cells3_new (W : World) (x y z : Int) : ∀ j u, ([.int .i64 x, .int .i64 y, .int .i64 z] : List Value)[j]? = some u → (W.alloc (.cells #[.int .i64 x, .int .i64 y, .int .i64 z] 26)).cell? ((⟨W.heap.size, 0, none⟩ : Addr).add j) = some u := by
  intro j u hu
  have h : BoxC (W.alloc (.cells #[.int .i64 x, .int .i64 y, .int .i64 z] 26)) W.heap.size x y z := BoxC.new rfl
  rw [addr_add]
  rcases j with _ | _ | _ | j
  · rw [h.c0]; exact hu
  · rw [h.c1]; exact hu
  · rw [h.c2]; exact hu
  · simp at hu
set_option maxRecDepth 100000 in
set_option maxHeartbeats 4000000 in
theorem rcells_ok (f : Sol) (w : World) (hf : Fit f) :
    Calls Tryz.prog 27 #[sol f] w fun e w' => ∃ v, e = .returned v ∧ w'.ownsRow (w.heap.size + 1) 26 3 v (cellsL f).length (flatC (cellsL f)) ∧ (v = .slice none 0 0 ↔ cellsL f = []) ∧ Below w.heap.size w w' := by
  obtain ⟨i0, hi, hz0, hz1, hz2⟩ := info_parts info_cell
  have HF := Lib.hid hf
  clear hf
  go_enter Tryz.func27, Tryz.ntmps27
  go_wp2_with fail
  have bS0 : BoxS (w.alloc (.cells (solC f) 24)) w.heap.size f := BoxS.new w f
  have hB0 : Below w.heap.size w (w.alloc (.cells (solC f) 24)) := by repeat' (first | (with_reducible exact Below.refl _ _) | (with_reducible assumption) | (with_reducible refine Below.alloc ?_ ?_ _) | (with_reducible refine Below.drew ?_) | (with_reducible refine below_drewN ?_ _) | (with_reducible refine Below.setCell ?_ ?_ _) | go_size)
  go_loopw [3, 4] (fun lv c wr => ∃ z : Nat, z ≤ 8 ∧ c = .int .i64 z ∧ BoxS wr w.heap.size f ∧ wr.ownsRow (w.heap.size + 1) 26 3 lv (cellsTo f (64 * z)).length (flatC (cellsTo f (64 * z))) ∧ (lv = .slice none 0 0 ↔ cellsTo f (64 * z) = []) ∧ Below w.heap.size w wr ∧ w.heap.size + 1 ≤ wr.heap.size) (fun _ c _ => 8 - (intOf c).toNat)
  case atStart => exact ⟨0, by omega, rfl, bS0, World.ownsRow_nil _ _ _ _, by simp [cellsTo], hB0, by simp⟩
  case round =>
    clear bS0 hB0
    obtain ⟨z, hz, rfl, bS, hrow, hnil, hB, hsz⟩ := hrel
    by_cases hlz : z < 8
    · have hd : decide ((z : Int) < 8) = true := decide_eq_true (by omega)
      go_wp2_with fail
      go_loopw [3, 5] (fun lv c wr => ∃ y : Nat, y ≤ 8 ∧ c = .int .i64 y ∧ BoxS wr w.heap.size f ∧ wr.ownsRow (w.heap.size + 1) 26 3 lv (cellsTo f (64 * z + 8 * y)).length (flatC (cellsTo f (64 * z + 8 * y))) ∧ (lv = .slice none 0 0 ↔ cellsTo f (64 * z + 8 * y) = []) ∧ Below w.heap.size w wr ∧ w.heap.size + 1 ≤ wr.heap.size) (fun _ c _ => 8 - (intOf c).toNat)
      case atStart => exact ⟨0, by omega, rfl, bS, hrow, hnil, hB, hsz⟩
      case round =>
        clear bS hrow hnil hB hsz hd
        obtain ⟨y, hy, rfl, bS, hrow, hnil, hB, hsz⟩ := hrel
        by_cases hly : y < 8
        · have hd : decide ((y : Int) < 8) = true := decide_eq_true (by omega)
          go_wp2_with fail
          go_loopw [3, 6] (fun lv c wr => ∃ x : Nat, x ≤ 8 ∧ c = .int .i64 x ∧ BoxS wr w.heap.size f ∧ wr.ownsRow (w.heap.size + 1) 26 3 lv (cellsTo f (64 * z + 8 * y + x)).length (flatC (cellsTo f (64 * z + 8 * y + x))) ∧ (lv = .slice none 0 0 ↔ cellsTo f (64 * z + 8 * y + x) = []) ∧ Below w.heap.size w wr ∧ w.heap.size + 1 ≤ wr.heap.size) (fun _ c _ => 8 - (intOf c).toNat)
          case atStart => exact ⟨0, by omega, rfl, bS, hrow, hnil, hB, hsz⟩
          case round =>
            clear bS hrow hnil hB hsz hd
            obtain ⟨x, hx, rfl, bS, hrow, hnil, hB, hsz⟩ := hrel
            by_cases hlx : x < 8
            · have hd : decide ((x : Int) < 8) = true := decide_eq_true (by omega)
              have kS := bS.lt
              have hlen := cellsTo_len f (64 * z + 8 * y + x)
              have HS := Lib.hid (cellsTo_succ f (64 * z + 8 * y + x))
              obtain ⟨c, hcx, hcy, hcz, hmk⟩ := cell_of hlx hly hlz
              rw [hmk] at HS
              have HH := Lib.hid (fun W => rhas_yes f c W HF.out)
              have hcl : celL c = [.int .i64 (x : Int), .int .i64 (y : Int), .int .i64 (z : Int)] := by unfold celL; rw [hcx, hcy, hcz]
              unfold cell at HH
              rw [hcx, hcy, hcz] at HH
              have HCL := Lib.hid hcl
              clear hcl hmk hcx hcy hcz
              have k0 := (bS).cell (k := 0) (by omega); have k1 := (bS).cell (k := 1) (by omega); have k2 := (bS).cell (k := 2) (by omega); have k3 := (bS).cell (k := 3) (by omega); have k4 := (bS).cell (k := 4) (by omega); have k5 := (bS).cell (k := 5) (by omega); have k6 := (bS).cell (k := 6) (by omega); have k7 := (bS).cell (k := 7) (by omega)
              go_wp2_with fail
              refine (HH.out _).mono ?_
              rintro e w2 ⟨rfl, hb2⟩
              have bX2 : BoxC w2 wr.heap.size x y z := blk_below (BoxC.new (x := x) (y := y) (z := z) rfl) hb2 (by simp)
              have hb3 : Below wr.heap.size wr w2 := ((Below.refl _ wr).alloc (Nat.le_refl _) (.cells #[.int .i64 x, .int .i64 y, .int .i64 z] 26)).trans (hb2.mono (by simp))
              have bS2 := bS.below hb3 kS
              have hrow2 := row_below hrow hb3
              have hB2 : Below w.heap.size w w2 := up hb3 hB
              have hs2 := hB2.size
              have hs3 := hb3.size
              have lX := blk_lt bX2
              clear k0 k1 k2 k3 k4 k5 k6 k7 hb2 bS hrow hB
              obtain ⟨d0, d1, d2⟩ := BoxC.cells bX2
              cases hq : hasC f c
              · have HSN := Lib.hid (show cellsTo f (64 * z + 8 * y + (x + 1)) = cellsTo f (64 * z + 8 * y + x) by rw [show 64 * z + 8 * y + (x + 1) = 64 * z + 8 * y + x + 1 by omega, HS.out, hq]; simp)
                go_wp2_with fail
                go_roundw
                case rel => exact ⟨x + 1, by omega, by go_num, bS2, by rw [HSN.out]; exact hrow2, by rw [HSN.out]; exact hnil, hB2, by omega⟩
                case measure => simp [intOf]; omega
              · have HSN := Lib.hid (show cellsTo f (64 * z + 8 * y + (x + 1)) = cellsTo f (64 * z + 8 * y + x) ++ [c] by rw [show 64 * z + 8 * y + (x + 1) = 64 * z + 8 * y + x + 1 by omega, HS.out, hq]; simp)
                go_wp2_with (at_builtin; refine wpList_append_own _ rfl _ _ 27 rfl (w.heap.size + 1) 26 i0 (.agg #[.int .i64 (0), .int .i64 (0), .int .i64 (0)]) 3 24 under_cells hi hz0 hz1 hz2 rfl (by decide) u3 _ _ rfl (hrow2.alloc _) ⟨w2.heap.size, 0, none⟩ 1 1 (celL c) rfl rfl (by rw [HCL.out]; exact cells3_new _ _ _ _) (celL_one c) (by simp only [maxLen]; omega) (by omega) (by simp; omega) ?_; intro v' w4 hown' hgrow _; obtain ⟨g', cap', rfl⟩ := ownsRow_succ hown')
                have hb5 : Below (w.heap.size + 1) w2 w4 := ((Below.refl (w.heap.size + 1) w2).alloc (by omega) _).grown hgrow (by simp; omega) fun j ej => (hrow2.lt j ej).1
                have hs5 := hb5.size
                exact ⟨⟨x + 1, by omega, by go_num, bS2.below hb5 (by omega), by rw [HSN.out, flatC_snoc]; simpa using hown', by rw [HSN.out]; simp, hB2.trans (hb5.mono (by omega)), by omega⟩, by simp [intOf]; omega⟩
            · obtain rfl : x = 8 := by omega
              have hd : decide (((8 : Nat) : Int) < 8) = false := by decide
              go_wp2_with fail
              go_roundw
              case rel => exact ⟨y + 1, by omega, by go_num, bS, hrow, hnil, hB, hsz⟩
              case measure => simp [intOf]; omega
        · obtain rfl : y = 8 := by omega
          have hd : decide (((8 : Nat) : Int) < 8) = false := by decide
          go_wp2_with fail
          go_roundw
          case rel => exact ⟨z + 1, by omega, by go_num, bS, hrow, hnil, hB, hsz⟩
          case measure => simp [intOf]; omega
    · obtain rfl : z = 8 := by omega
      have hd : decide (((8 : Nat) : Int) < 8) = false := by decide
      rw [show 64 * 8 = 512 by omega, cellsTo_all] at hrow hnil
      go_wp2_with fail
      go_ret
      exact ⟨_, rfl, hrow, hnil, hB⟩
end Go.Proofs.YtadkaplafaeebaaGreatDoor
/-
  The reference's moved, rolled, turned.
-/
set_option linter.unusedVariables false
set_option linter.unusedSimpArgs false
namespace Go.Proofs.YtadkaplafaeebaaGreatDoor
open Go Go.RowKit Go.Shelf

theorem rmoved_ok (x y z a b c : Int) (w : World) (hx : Sm x) (hy : Sm y) (hz : Sm z) (ha : Sm a) (hb : Sm b) (hc : Sm c) :
    Calls Tryz.prog 104 #[.agg #[.int .i64 (x), .int .i64 (y), .int .i64 (z)], .int .i64 a, .int .i64 b, .int .i64 c] w fun e w' => e = .returned (.agg #[.int .i64 (x + a), .int .i64 (y + b), .int .i64 (z + c)]) ∧ Below w.heap.size w w' := by
  unfold Sm at hx hy hz ha hb hc
  go_enter Tryz.func104, Tryz.ntmps104
  go_wp2
  refine bodyPost_ret (res_3 Tryz.results104 rfl (by go_cell) (by go_cell) (by go_cell)) rfl ⟨rfl, by go_grown⟩
end Go.Proofs.YtadkaplafaeebaaGreatDoor
