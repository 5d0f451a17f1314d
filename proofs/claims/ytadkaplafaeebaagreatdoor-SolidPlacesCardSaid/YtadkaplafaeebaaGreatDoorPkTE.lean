/-
  The reference's Count.
-/
import Derived.Test.YtadkaplafaeebaaGreatDoorPkRA
import Derived.Test.YtadkaplafaeebaaGreatDoorPkXB
import Derived.Test.YtadkaplafaeebaaGreatDoorPkRB
set_option linter.unusedVariables false
set_option linter.unusedSimpArgs false
namespace Go.Proofs.YtadkaplafaeebaaGreatDoor
open Go Go.RowKit

theorem own_len {W : World} {b size : Nat} {e : TypeId} {v : Value} {n : Nat} {xs : List Value} (h : W.ownsRow b e size v n xs) : ∃ p cap, v = .slice p n cap := by
  rcases h.2 with ⟨e1, e2⟩ | ⟨g, cap, cur, e1, _⟩
  · exact ⟨none, 0, by rw [e1, e2]⟩
  · exact ⟨_, _, e1⟩
theorem rcount_ok (f : Sol) (w : World) (hf : Fit f) : Calls Tryz.prog 29 #[sol f] w fun e w' => e = .returned (.int .i64 (numF f : Nat)) ∧ Below w.heap.size w w' := by
  have HF := Lib.hid hf
  clear hf
  have hB0 : Below w.heap.size w (w.alloc (.cells (solC f) 24)) := (Below.refl _ _).alloc (Nat.le_refl _) _
  go_enter Tryz.func29, Tryz.ntmps29
  go_wp2_with fail
  refine (rcells_ok f _ HF.out).mono ?_
  rintro e w1 ⟨v, rfl, hrow, _, hb1⟩
  obtain ⟨p, cap, rfl⟩ := own_len hrow
  have hB1 : Below w.heap.size w w1 := up hb1 hB0
  clear hrow
  go_wp2_with fail
  go_ret
  exact ⟨rfl, hB1⟩
end Go.Proofs.YtadkaplafaeebaaGreatDoor
/-
  The least and the greatest coordinates of the cells of a solid: mathematics.
-/
set_option linter.unusedVariables false
set_option linter.unusedSimpArgs false
namespace Go.Proofs.YtadkaplafaeebaaGreatDoor
open Go Go.RowKit

/-- The least and the greatest of some number over a list of cells, from a first one on. -/
def minL (g : Cl → Nat) (l : List Cl) (m : Nat) : Nat := l.foldl (fun m c => min m (g c)) m
def maxL (g : Cl → Nat) (l : List Cl) (m : Nat) : Nat := l.foldl (fun m c => max m (g c)) m
theorem minL_snoc (g : Cl → Nat) (l : List Cl) (c : Cl) (m : Nat) : minL g (l ++ [c]) m = min (minL g l m) (g c) := by
  unfold minL
  rw [List.foldl_append]
  rfl
theorem maxL_snoc (g : Cl → Nat) (l : List Cl) (c : Cl) (m : Nat) : maxL g (l ++ [c]) m = max (maxL g l m) (g c) := by
  unfold maxL
  rw [List.foldl_append]
  rfl
theorem minL_is (g : Cl → Nat) (b : Nat) : ∀ (l : List Cl) (m : Nat), b ≤ m → (∀ c ∈ l, b ≤ g c) → (m = b ∨ ∃ c ∈ l, g c = b) → minL g l m = b
  | [], m, _, _, h => by
    rcases h with h | ⟨c, hc, _⟩
    · exact h
    · cases hc
  | c :: l, m, hm, hl, h => by
    unfold minL
    rw [List.foldl_cons]
    have hc := hl c List.mem_cons_self
    refine minL_is g b l _ (by omega) (fun d hd => hl d (List.mem_cons_of_mem _ hd)) ?_
    rcases h with h | ⟨d, hd, e⟩
    · exact .inl (by omega)
    · rcases List.mem_cons.1 hd with rfl | hd
      · exact .inl (by omega)
      · exact .inr ⟨d, hd, e⟩
theorem maxL_is (g : Cl → Nat) (b : Nat) : ∀ (l : List Cl) (m : Nat), m ≤ b → (∀ c ∈ l, g c ≤ b) → (m = b ∨ ∃ c ∈ l, g c = b) → maxL g l m = b
  | [], m, _, _, h => by
    rcases h with h | ⟨c, hc, _⟩
    · exact h
    · cases hc
  | c :: l, m, hm, hl, h => by
    unfold maxL
    rw [List.foldl_cons]
    have hc := hl c List.mem_cons_self
    refine maxL_is g b l _ (by omega) (fun d hd => hl d (List.mem_cons_of_mem _ hd)) ?_
    rcases h with h | ⟨d, hd, e⟩
    · exact .inl (by omega)
    · rcases List.mem_cons.1 hd with rfl | hd
      · exact .inl (by omega)
      · exact .inr ⟨d, hd, e⟩
theorem cl_low {f : Sol} (hf : Fit f) {c : Cl} (h : c ∈ cellsL f) : lowX f ≤ cX c ∧ lowY f ≤ cY c ∧ lowZ f ≤ cZ c := by
  have := has_low hf ((mem_cellI f c).1 h)
  unfold toI at this
  simp only at this
  omega
theorem cl_high {f : Sol} (hf : Fit f) {c : Cl} (h : c ∈ cellsL f) : cX c ≤ highX f - 1 ∧ cY c ≤ highY f - 1 ∧ cZ c ≤ highZ f - 1 := by
  have := has_high hf ((mem_cellI f c).1 h)
  unfold toI at this
  simp only at this
  omega
theorem cl_of {f : Sol} {p : I3} (h : hasI f p = true) : ∃ c ∈ cellsL f, toI c = p := by
  have h7 := has_in7 h
  exact ⟨ofI p, (mem_cellI f _).2 (by rw [toI_ofI h7]; exact h), toI_ofI h7⟩
theorem cl_at {f : Sol} (hf : Fit f) (he : emptyS f = false) : (∃ c ∈ cellsL f, cX c = lowX f) ∧ (∃ c ∈ cellsL f, cY c = lowY f) ∧ (∃ c ∈ cellsL f, cZ c = lowZ f) ∧ (∃ c ∈ cellsL f, cX c = highX f - 1) ∧ (∃ c ∈ cellsL f, cY c = highY f - 1) ∧ (∃ c ∈ cellsL f, cZ c = highZ f - 1) := by
  have hb := boundN hf he
  have := hb.x0
  have := hb.y0
  have := hb.z0
  obtain ⟨⟨p1, h1, e1⟩, ⟨p2, h2, e2⟩, ⟨p3, h3, e3⟩⟩ := has_at_low hf he
  obtain ⟨⟨p4, h4, e4⟩, ⟨p5, h5, e5⟩, ⟨p6, h6, e6⟩⟩ := has_at_high hf he
  obtain ⟨c1, m1, q1⟩ := cl_of h1
  obtain ⟨c2, m2, q2⟩ := cl_of h2
  obtain ⟨c3, m3, q3⟩ := cl_of h3
  obtain ⟨c4, m4, q4⟩ := cl_of h4
  obtain ⟨c5, m5, q5⟩ := cl_of h5
  obtain ⟨c6, m6, q6⟩ := cl_of h6
  subst q1 q2 q3 q4 q5 q6
  unfold toI at *
  simp only at *
  exact ⟨⟨c1, m1, by omega⟩, ⟨c2, m2, by omega⟩, ⟨c3, m3, by omega⟩, ⟨c4, m4, by omega⟩, ⟨c5, m5, by omega⟩, ⟨c6, m6, by omega⟩⟩
theorem bnd_all {f : Sol} (hf : Fit f) (he : emptyS f = false) {c0 : Cl} (h0 : c0 ∈ cellsL f) :
    (minL cX (cellsL f) (cX c0) = lowX f ∧ minL cY (cellsL f) (cY c0) = lowY f ∧ minL cZ (cellsL f) (cZ c0) = lowZ f) ∧ maxL cX (cellsL f) (cX c0) = highX f - 1 ∧ maxL cY (cellsL f) (cY c0) = highY f - 1 ∧ maxL cZ (cellsL f) (cZ c0) = highZ f - 1 := by
  obtain ⟨a1, a2, a3, a4, a5, a6⟩ := cl_at hf he
  exact ⟨⟨minL_is _ _ _ _ (cl_low hf h0).1 (fun c hc => (cl_low hf hc).1) (.inr a1), minL_is _ _ _ _ (cl_low hf h0).2.1 (fun c hc => (cl_low hf hc).2.1) (.inr a2), minL_is _ _ _ _ (cl_low hf h0).2.2 (fun c hc => (cl_low hf hc).2.2) (.inr a3)⟩,
    maxL_is _ _ _ _ (cl_high hf h0).1 (fun c hc => (cl_high hf hc).1) (.inr a4), maxL_is _ _ _ _ (cl_high hf h0).2.1 (fun c hc => (cl_high hf hc).2.1) (.inr a5), maxL_is _ _ _ _ (cl_high hf h0).2.2 (fun c hc => (cl_high hf hc).2.2) (.inr a6)⟩
end Go.Proofs.YtadkaplafaeebaaGreatDoor
/-
  Block.
-/
set_option linter.unusedVariables false
set_option linter.unusedSimpArgs false
namespace Go.Proofs.YtadkaplafaeebaaGreatDoor
open Go Go.RowKit

/-- The cells of a box, row by row, level by level, put into a solid. -/
def blkX (f : Sol) (x y z : Nat) : Nat → Sol
  | 0 => f
  | n + 1 => setC (blkX f x y z n) (mkC (64 * z + 8 * y + (x + n)))
def blkY (f : Sol) (x y z nx : Nat) : Nat → Sol
  | 0 => f
  | n + 1 => blkX (blkY f x y z nx n) x (y + n) z nx
def blkZ (f : Sol) (x y z nx ny : Nat) : Nat → Sol
  | 0 => f
  | n + 1 => blkY (blkZ f x y z nx ny n) x y (z + n) nx ny
theorem blkX_fit {f : Sol} (h : Fit f) (x y z : Nat) : ∀ n, Fit (blkX f x y z n)
  | 0 => h
  | n + 1 => setC_fit (blkX_fit h x y z n) _
theorem blkY_fit {f : Sol} (h : Fit f) (x y z nx : Nat) : ∀ n, Fit (blkY f x y z nx n)
  | 0 => h
  | n + 1 => blkX_fit (blkY_fit h x y z nx n) _ _ _ nx
theorem blkZ_fit {f : Sol} (h : Fit f) (x y z nx ny : Nat) : ∀ n, Fit (blkZ f x y z nx ny n)
  | 0 => h
  | n + 1 => blkY_fit (blkZ_fit h x y z nx ny n) _ _ _ nx ny
/-- The cells of a box. -/
def blkF (a b c d e g : Nat) : Sol := blkZ (fun _ => 0) a b c (d + 1 - a) (e + 1 - b) (g + 1 - c)
set_option maxRecDepth 100000 in
set_option maxHeartbeats 4000000 in
theorem block_in (a b c d e g : Nat) (w : World) (hd : a ≤ d ∧ d ≤ 7) (he : b ≤ e ∧ e ≤ 7) (hg : c ≤ g ∧ g ≤ 7) :
    Calls Tryz.prog 40 #[.agg #[.int .i64 ((a : Int)), .int .i64 ((b : Int)), .int .i64 ((c : Int)), .int .i64 ((d : Int)), .int .i64 ((e : Int)), .int .i64 ((g : Int))]] w fun e' w' => e' = .returned (.tuple #[sol (blkF a b c d e g), .int .i64 0]) ∧ Below w.heap.size w w' := by
  have i1 : inG (a : Int) (b : Int) (c : Int) = true := decide_eq_true (by omega)
  have i2 : inG (d : Int) (e : Int) (g : Int) = true := decide_eq_true (by omega)
  have I1 := Lib.hid i1
  have I2 := Lib.hid i2
  have q1 : decide (d < a) = false := decide_eq_false (by omega)
  have q2 : decide (e < b) = false := decide_eq_false (by omega)
  have q3 : decide (g < c) = false := decide_eq_false (by omega)
  have X0 : Box6 ((w.alloc (.cells #[.int .i64 (a), .int .i64 (b), .int .i64 (c), .int .i64 (d), .int .i64 (e), .int .i64 (g)] 40)).alloc (.cells (solC fun _ => 0) 24)) w.heap.size a b c d e g := blk_alloc (blk_new rfl) _
  have R0 : BoxS ((w.alloc (.cells #[.int .i64 (a), .int .i64 (b), .int .i64 (c), .int .i64 (d), .int .i64 (e), .int .i64 (g)] 40)).alloc (.cells (solC fun _ => 0) 24)) (w.heap.size + 1) (fun _ => 0) := BoxS.zero (by simp)
  have hB0 : Below w.heap.size w ((w.alloc (.cells #[.int .i64 (a), .int .i64 (b), .int .i64 (c), .int .i64 (d), .int .i64 (e), .int .i64 (g)] 40)).alloc (.cells (solC fun _ => 0) 24)) := by repeat' (first | (with_reducible exact Below.refl _ _) | (with_reducible assumption) | (with_reducible refine Below.alloc ?_ ?_ _) | (with_reducible refine Below.drew ?_) | (with_reducible refine below_drewN ?_ _) | (with_reducible refine Below.setCell ?_ ?_ _) | go_size)
  clear i1 i2
  go_enter Tryz.func40, Tryz.ntmps40
  go_wp2_with fail
  refine (inGrid_is I1.out _).mono ?_
  rintro e' w1 ⟨rfl, b1⟩
  have X1 := blk_below X0 b1 (blk_lt X0)
  have R1 := R0.below b1 R0.lt
  have hB1 : Below w.heap.size w w1 := up b1 hB0
  have lX := blk_lt X1
  obtain ⟨x0, x1, x2, x3, x4, x5⟩ := Box6.cells X1
  go_wp2_with fail
  refine (inGrid_is I2.out _).mono ?_
  rintro e' w2 ⟨rfl, b2⟩
  have X2 := blk_below X1 b2 lX
  have R2 := R1.below b2 R1.lt
  have hB2 : Below w.heap.size w w2 := up b2 hB1
  clear x0 x1 x2 x3 x4 x5 lX X0 X1 R0 R1 hB0 hB1 b1 b2
  have lX : w.heap.size < w2.heap.size := blk_lt X2
  have lR : w.heap.size + 1 < w2.heap.size := R2.lt
  obtain ⟨x0, x1, x2, x3, x4, x5⟩ := Box6.cells X2
  go_wp2_with fail
  have S0 : BoxS (w2.alloc (.cells (solC fun _ => 0) 24)) w2.heap.size (fun _ => 0) := BoxS.zero rfl
  have X3 := blk_alloc X2 (.cells (solC fun _ => 0) 24)
  have R3 := R2.alloc (.cells (solC fun _ => 0) 24)
  have hB3 := hB2.alloc hB2.size (.cells (solC fun _ => 0) 24)
  clear x0 x1 x2 x3 x4 x5 X2 R2 hB2
  go_loopw [5] (fun c5 wr => ∃ Z : Nat, c ≤ Z ∧ Z ≤ g + 1 ∧ c5 = .int .i64 Z ∧ Box6 wr w.heap.size a b c d e g ∧ BoxS wr (w.heap.size + 1) (fun _ => 0) ∧ BoxS wr w2.heap.size (blkZ (fun _ => 0) a b c (d + 1 - a) (e + 1 - b) (Z - c)) ∧ Below w.heap.size w wr) (fun c5 _ => g + 1 - (intOf c5).toNat)
  case atStart => exact ⟨c, Nat.le_refl _, by omega, rfl, X3, R3, by rw [Nat.sub_self]; exact S0, hB3⟩
  case round =>
    clear X3 R3 S0 hB3
    obtain ⟨Z, hZ0, hZ, rfl, X, R, S, hB⟩ := hrel
    have lX' := blk_lt X
    have hs := hB.size
    obtain ⟨x0, x1, x2, x3, x4, x5⟩ := Box6.cells X
    by_cases hlt : Z ≤ g
    · have hdz : decide (Z ≤ g) = true := decide_eq_true (by omega)
      have HZ := Lib.hid (show blkZ (fun _ => 0) a b c (d + 1 - a) (e + 1 - b) (Z + 1 - c) = blkY (blkZ (fun _ => 0) a b c (d + 1 - a) (e + 1 - b) (Z - c)) a b Z (d + 1 - a) (e + 1 - b) by rw [show Z + 1 - c = (Z - c) + 1 by omega]; show blkY _ a b (c + (Z - c)) _ _ = _; rw [show c + (Z - c) = Z by omega])
      obtain ⟨F, hF⟩ : ∃ F, F = blkZ (fun _ => 0) a b c (d + 1 - a) (e + 1 - b) (Z - c) := ⟨_, rfl⟩
      have hFf : Fit F := by rw [hF]; exact blkZ_fit fit0 _ _ _ _ _ _
      rw [← hF] at S HZ
      clear hF
      go_wp2_with fail
      go_loopw [6] (fun c6 wr => ∃ Y : Nat, b ≤ Y ∧ Y ≤ e + 1 ∧ c6 = .int .i64 Y ∧ Box6 wr w.heap.size a b c d e g ∧ BoxS wr (w.heap.size + 1) (fun _ => 0) ∧ BoxS wr w2.heap.size (blkY F a b Z (d + 1 - a) (Y - b)) ∧ Below w.heap.size w wr) (fun c6 _ => e + 1 - (intOf c6).toNat)
      case atStart => exact ⟨b, Nat.le_refl _, by omega, rfl, X, R, by rw [Nat.sub_self]; exact S, hB⟩
      case round =>
        clear X R S hB x0 x1 x2 x3 x4 x5 lX' hs
        obtain ⟨Y, hY0, hY, rfl, X, R, S, hB⟩ := hrel
        have lX' := blk_lt X
        have hs := hB.size
        obtain ⟨x0, x1, x2, x3, x4, x5⟩ := Box6.cells X
        by_cases hly : Y ≤ e
        · have hdy : decide (Y ≤ e) = true := decide_eq_true (by omega)
          have HY := Lib.hid (show blkY F a b Z (d + 1 - a) (Y + 1 - b) = blkX (blkY F a b Z (d + 1 - a) (Y - b)) a Y Z (d + 1 - a) by rw [show Y + 1 - b = (Y - b) + 1 by omega]; show blkX _ a (b + (Y - b)) Z _ = _; rw [show b + (Y - b) = Y by omega])
          obtain ⟨G, hG⟩ : ∃ G, G = blkY F a b Z (d + 1 - a) (Y - b) := ⟨_, rfl⟩
          have hGf : Fit G := by rw [hG]; exact blkY_fit hFf _ _ _ _ _
          rw [← hG] at S HY
          clear hG
          go_wp2_with fail
          go_loopw [7] (fun c7 wr => ∃ V : Nat, a ≤ V ∧ V ≤ d + 1 ∧ c7 = .int .i64 V ∧ Box6 wr w.heap.size a b c d e g ∧ BoxS wr (w.heap.size + 1) (fun _ => 0) ∧ BoxS wr w2.heap.size (blkX G a Y Z (V - a)) ∧ Below w.heap.size w wr) (fun c7 _ => d + 1 - (intOf c7).toNat)
          case atStart => exact ⟨a, Nat.le_refl _, by omega, rfl, X, R, by rw [Nat.sub_self]; exact S, hB⟩
          case round =>
            clear X R S hB x0 x1 x2 x3 x4 x5 lX' hs
            obtain ⟨V, hV0, hV, rfl, X, R, S, hB⟩ := hrel
            have lX' := blk_lt X
            have hs := hB.size
            obtain ⟨x0, x1, x2, x3, x4, x5⟩ := Box6.cells X
            by_cases hlv : V ≤ d
            · have hdv : decide (V ≤ d) = true := decide_eq_true (by omega)
              have hV7 : V ≤ 7 := by omega
              have hY7 : Y ≤ 7 := by omega
              have hZ7 : (Z : Int) < 8 := by omega
              obtain ⟨cc, hcx, hcy, hcz, hmk⟩ := cell_of (show V < 8 by omega) (show Y < 8 by omega) (show Z < 8 by omega)
              have HV := Lib.hid (show blkX G a Y Z (V + 1 - a) = up8 (blkX G a Y Z (V - a)) Z (blkX G a Y Z (V - a) Z ||| bitN V Y) by
                rw [show V + 1 - a = (V - a) + 1 by omega]
                show setC _ (mkC (64 * Z + 8 * Y + (a + (V - a)))) = _
                rw [show a + (V - a) = V by omega, hmk]
                unfold setC
                rw [hcx, hcy, hcz])
              obtain ⟨K, hK⟩ : ∃ K, K = blkX G a Y Z (V - a) := ⟨_, rfl⟩
              have hKf : Fit K := by rw [hK]; exact blkX_fit hGf _ _ _ _
              rw [← hK] at S HV
              clear hK hmk hcx hcy hcz
              have HO := Lib.hid (bits_or (hKf Z) (bit_lt hV7 hY7))
              have HBT := Lib.hid (fun (W : World) => bit_ok V Y Z W hV7 hY7)
              have v1 := S.cell (k := Z) (by omega)
              have fr := S.free Z
              have lS := S.lt
              have lR' := R.lt
              go_wp2_with fail
              have lS2 : w2.heap.size < wr.heap.size := lS
              (refine wp_region_quiet_tail 10 (fun w' => Below wr.heap.size wr w') (by kernel_rfl) (by kernel_rfl) (Below.drew (Below.refl _ _)) ?_; simp only [List.take_succ_cons, List.take_zero, List.drop_succ_cons, List.drop_zero]; (iterate 10 (refine wpQuiet_step (fun K hK => ?_); go_simp; first | (refine hK _ ?_; clear hK K) | (apply Exists.intro; refine ⟨fun W' hW' => ?_, hK _ ?_⟩; (focus (first | (with_reducible exact rfl) | (with_reducible exact ⟨rfl, rfl⟩) | (obtain ⟨hcq, hfq⟩ := bcell hW'; have hzq := hW'.size; (try go_simp); first | (with_reducible exact rfl) | (with_reducible exact ⟨rfl, rfl⟩) | (first | ((with_reducible refine Calls.mono (HBT.out _) ?_); rintro e w9 ⟨rfl, hb9⟩; exact ⟨rfl, hW'.trans (hb9.mono hW'.size)⟩))))); clear hK K))); refine wpQuiet_nil ?_; intro w1q hb1q)
              rw [HO.out]
              have S1 := S.below hb1q lS
              have R1 := R.below hb1q lR'
              have X1 := blk_below X hb1q lX'
              have hB1 : Below w.heap.size w w1q := up hb1q hB
              clear v1 fr S R X hB x0 x1 x2 x3 x4 x5
              have v1 := S1.cell (k := Z) (by omega)
              have fr := S1.free Z
              have S2 : BoxS (w1q.setCell ⟨w2.heap.size, Z, none⟩ (.int .u64 ((K Z ||| bitN V Y : Nat) : Int))) w2.heap.size (up8 K Z (K Z ||| bitN V Y)) := S1.set (by omega) _
              go_wp2_with fail
              go_roundw
              case rel => exact ⟨V + 1, by omega, by omega, by go_num, blk_other X1 (by omega) _, R1.other (by omega) _, by rw [HV.out]; exact S2, hB1.setCell (by simp; omega) _⟩
              case measure => simp [intOf]; omega
            · obtain rfl : V = d + 1 := by omega
              have hdv : decide (d + 1 ≤ d) = false := decide_eq_false (by omega)
              go_wp2_with fail
              go_roundw
              case rel => exact ⟨Y + 1, by omega, by omega, by go_num, X, R, by rw [HY.out]; exact S, hB⟩
              case measure => simp [intOf]; omega
        · obtain rfl : Y = e + 1 := by omega
          have hdy : decide (e + 1 ≤ e) = false := decide_eq_false (by omega)
          go_wp2_with fail
          go_roundw
          case rel => exact ⟨Z + 1, by omega, by omega, by go_num, X, R, by rw [HZ.out]; exact S, hB⟩
          case measure => simp [intOf]; omega
    · obtain rfl : Z = g + 1 := by omega
      have hdz : decide (g + 1 ≤ g) = false := decide_eq_false (by omega)
      have lS := S.lt
      have lR' := R.lt
      have o0 := (S).cell (k := 0) (by omega); have o1 := (S).cell (k := 1) (by omega); have o2 := (S).cell (k := 2) (by omega); have o3 := (S).cell (k := 3) (by omega); have o4 := (S).cell (k := 4) (by omega); have o5 := (S).cell (k := 5) (by omega); have o6 := (S).cell (k := 6) (by omega); have o7 := (S).cell (k := 7) (by omega)
      have r0 := (R).cell (k := 0) (by omega); have r1 := (R).cell (k := 1) (by omega); have r2 := (R).cell (k := 2) (by omega); have r3 := (R).cell (k := 3) (by omega); have r4 := (R).cell (k := 4) (by omega); have r5 := (R).cell (k := 5) (by omega); have r6 := (R).cell (k := 6) (by omega); have r7 := (R).cell (k := 7) (by omega)
      have q0 := (R).free 0; have q1 := (R).free 1; have q2 := (R).free 2; have q3 := (R).free 3; have q4 := (R).free 4; have q5 := (R).free 5; have q6 := (R).free 6; have q7 := (R).free 7
      go_wp2_with fail
      refine bodyPost_ret (res_se (R.put (blkF a b c d e g)) Tryz.results40 rfl) rfl ⟨rfl, ?_⟩
      exact below_put8 hB (by omega) _
end Go.Proofs.YtadkaplafaeebaaGreatDoor
/-
  The reference's Block.
-/
set_option linter.unusedVariables false
set_option linter.unusedSimpArgs false
namespace Go.Proofs.YtadkaplafaeebaaGreatDoor
open Go Go.RowKit

set_option maxRecDepth 100000 in
set_option maxHeartbeats 4000000 in
theorem rblock_in (a b c d e g : Nat) (w : World) (hd : a ≤ d ∧ d ≤ 7) (he : b ≤ e ∧ e ≤ 7) (hg : c ≤ g ∧ g ≤ 7) :
    Calls Tryz.prog 41 #[.agg #[.int .i64 ((a : Int)), .int .i64 ((b : Int)), .int .i64 ((c : Int)), .int .i64 ((d : Int)), .int .i64 ((e : Int)), .int .i64 ((g : Int))]] w fun e' w' => e' = .returned (.tuple #[sol (blkF a b c d e g), .int .i64 0]) ∧ Below w.heap.size w w' := by
  have i1 : inG (a : Int) (b : Int) (c : Int) = true := decide_eq_true (by omega)
  have i2 : inG (d : Int) (e : Int) (g : Int) = true := decide_eq_true (by omega)
  have I1 := Lib.hid i1
  have I2 := Lib.hid i2
  have q1 : decide (d < a) = false := decide_eq_false (by omega)
  have q2 : decide (e < b) = false := decide_eq_false (by omega)
  have q3 : decide (g < c) = false := decide_eq_false (by omega)
  have X0 : Box6 ((w.alloc (.cells #[.int .i64 (a), .int .i64 (b), .int .i64 (c), .int .i64 (d), .int .i64 (e), .int .i64 (g)] 40)).alloc (.cells (solC fun _ => 0) 24)) w.heap.size a b c d e g := blk_alloc (blk_new rfl) _
  have R0 : BoxS ((w.alloc (.cells #[.int .i64 (a), .int .i64 (b), .int .i64 (c), .int .i64 (d), .int .i64 (e), .int .i64 (g)] 40)).alloc (.cells (solC fun _ => 0) 24)) (w.heap.size + 1) (fun _ => 0) := BoxS.zero (by simp)
  have hB0 : Below w.heap.size w ((w.alloc (.cells #[.int .i64 (a), .int .i64 (b), .int .i64 (c), .int .i64 (d), .int .i64 (e), .int .i64 (g)] 40)).alloc (.cells (solC fun _ => 0) 24)) := by repeat' (first | (with_reducible exact Below.refl _ _) | (with_reducible assumption) | (with_reducible refine Below.alloc ?_ ?_ _) | (with_reducible refine Below.drew ?_) | (with_reducible refine below_drewN ?_ _) | (with_reducible refine Below.setCell ?_ ?_ _) | go_size)
  clear i1 i2
  go_enter Tryz.func41, Tryz.ntmps41
  go_wp2_with fail
  refine (rinGrid_is I1.out _).mono ?_
  rintro e' w1 ⟨rfl, b1⟩
  have X1 := blk_below X0 b1 (blk_lt X0)
  have R1 := R0.below b1 R0.lt
  have hB1 : Below w.heap.size w w1 := up b1 hB0
  have lX := blk_lt X1
  obtain ⟨x0, x1, x2, x3, x4, x5⟩ := Box6.cells X1
  go_wp2_with fail
  refine (rinGrid_is I2.out _).mono ?_
  rintro e' w2 ⟨rfl, b2⟩
  have X2 := blk_below X1 b2 lX
  have R2 := R1.below b2 R1.lt
  have hB2 : Below w.heap.size w w2 := up b2 hB1
  clear x0 x1 x2 x3 x4 x5 lX X0 X1 R0 R1 hB0 hB1 b1 b2
  have lX : w.heap.size < w2.heap.size := blk_lt X2
  have lR : w.heap.size + 1 < w2.heap.size := R2.lt
  obtain ⟨x0, x1, x2, x3, x4, x5⟩ := Box6.cells X2
  go_wp2_with fail
  have S0 : BoxS (w2.alloc (.cells (solC fun _ => 0) 24)) w2.heap.size (fun _ => 0) := BoxS.zero rfl
  have X3 := blk_alloc X2 (.cells (solC fun _ => 0) 24)
  have R3 := R2.alloc (.cells (solC fun _ => 0) 24)
  have hB3 := hB2.alloc hB2.size (.cells (solC fun _ => 0) 24)
  clear x0 x1 x2 x3 x4 x5 X2 R2 hB2
  go_loopw [5] (fun c5 wr => ∃ Z : Nat, c ≤ Z ∧ Z ≤ g + 1 ∧ c5 = .int .i64 Z ∧ Box6 wr w.heap.size a b c d e g ∧ BoxS wr (w.heap.size + 1) (fun _ => 0) ∧ BoxS wr w2.heap.size (blkZ (fun _ => 0) a b c (d + 1 - a) (e + 1 - b) (Z - c)) ∧ Below w.heap.size w wr) (fun c5 _ => g + 1 - (intOf c5).toNat)
  case atStart => exact ⟨c, Nat.le_refl _, by omega, rfl, X3, R3, by rw [Nat.sub_self]; exact S0, hB3⟩
  case round =>
    clear X3 R3 S0 hB3
    obtain ⟨Z, hZ0, hZ, rfl, X, R, S, hB⟩ := hrel
    have lX' := blk_lt X
    have hs := hB.size
    obtain ⟨x0, x1, x2, x3, x4, x5⟩ := Box6.cells X
    by_cases hlt : Z ≤ g
    · have hdz : decide (Z ≤ g) = true := decide_eq_true (by omega)
      have HZ := Lib.hid (show blkZ (fun _ => 0) a b c (d + 1 - a) (e + 1 - b) (Z + 1 - c) = blkY (blkZ (fun _ => 0) a b c (d + 1 - a) (e + 1 - b) (Z - c)) a b Z (d + 1 - a) (e + 1 - b) by rw [show Z + 1 - c = (Z - c) + 1 by omega]; show blkY _ a b (c + (Z - c)) _ _ = _; rw [show c + (Z - c) = Z by omega])
      obtain ⟨F, hF⟩ : ∃ F, F = blkZ (fun _ => 0) a b c (d + 1 - a) (e + 1 - b) (Z - c) := ⟨_, rfl⟩
      have hFf : Fit F := by rw [hF]; exact blkZ_fit fit0 _ _ _ _ _ _
      rw [← hF] at S HZ
      clear hF
      go_wp2_with fail
      go_loopw [6] (fun c6 wr => ∃ Y : Nat, b ≤ Y ∧ Y ≤ e + 1 ∧ c6 = .int .i64 Y ∧ Box6 wr w.heap.size a b c d e g ∧ BoxS wr (w.heap.size + 1) (fun _ => 0) ∧ BoxS wr w2.heap.size (blkY F a b Z (d + 1 - a) (Y - b)) ∧ Below w.heap.size w wr) (fun c6 _ => e + 1 - (intOf c6).toNat)
      case atStart => exact ⟨b, Nat.le_refl _, by omega, rfl, X, R, by rw [Nat.sub_self]; exact S, hB⟩
      case round =>
        clear X R S hB x0 x1 x2 x3 x4 x5 lX' hs
        obtain ⟨Y, hY0, hY, rfl, X, R, S, hB⟩ := hrel
        have lX' := blk_lt X
        have hs := hB.size
        obtain ⟨x0, x1, x2, x3, x4, x5⟩ := Box6.cells X
        by_cases hly : Y ≤ e
        · have hdy : decide (Y ≤ e) = true := decide_eq_true (by omega)
          have HY := Lib.hid (show blkY F a b Z (d + 1 - a) (Y + 1 - b) = blkX (blkY F a b Z (d + 1 - a) (Y - b)) a Y Z (d + 1 - a) by rw [show Y + 1 - b = (Y - b) + 1 by omega]; show blkX _ a (b + (Y - b)) Z _ = _; rw [show b + (Y - b) = Y by omega])
          obtain ⟨G, hG⟩ : ∃ G, G = blkY F a b Z (d + 1 - a) (Y - b) := ⟨_, rfl⟩
          have hGf : Fit G := by rw [hG]; exact blkY_fit hFf _ _ _ _ _
          rw [← hG] at S HY
          clear hG
          go_wp2_with fail
          go_loopw [7] (fun c7 wr => ∃ V : Nat, a ≤ V ∧ V ≤ d + 1 ∧ c7 = .int .i64 V ∧ Box6 wr w.heap.size a b c d e g ∧ BoxS wr (w.heap.size + 1) (fun _ => 0) ∧ BoxS wr w2.heap.size (blkX G a Y Z (V - a)) ∧ Below w.heap.size w wr) (fun c7 _ => d + 1 - (intOf c7).toNat)
          case atStart => exact ⟨a, Nat.le_refl _, by omega, rfl, X, R, by rw [Nat.sub_self]; exact S, hB⟩
          case round =>
            clear X R S hB x0 x1 x2 x3 x4 x5 lX' hs
            obtain ⟨V, hV0, hV, rfl, X, R, S, hB⟩ := hrel
            have lX' := blk_lt X
            have hs := hB.size
            obtain ⟨x0, x1, x2, x3, x4, x5⟩ := Box6.cells X
            by_cases hlv : V ≤ d
            · have hdv : decide (V ≤ d) = true := decide_eq_true (by omega)
              have hV7 : V ≤ 7 := by omega
              have hY7 : Y ≤ 7 := by omega
              have hZ7 : (Z : Int) < 8 := by omega
              obtain ⟨cc, hcx, hcy, hcz, hmk⟩ := cell_of (show V < 8 by omega) (show Y < 8 by omega) (show Z < 8 by omega)
              have HV := Lib.hid (show blkX G a Y Z (V + 1 - a) = setC (blkX G a Y Z (V - a)) cc by
                rw [show V + 1 - a = (V - a) + 1 by omega]
                show setC _ (mkC (64 * Z + 8 * Y + (a + (V - a)))) = _
                rw [show a + (V - a) = V by omega, hmk])
              obtain ⟨K, hK⟩ : ∃ K, K = blkX G a Y Z (V - a) := ⟨_, rfl⟩
              have hKf : Fit K := by rw [hK]; exact blkX_fit hGf _ _ _ _
              rw [← hK] at S HV
              have HW := Lib.hid (fun (W : World) => rwith_ok K cc W hKf)
              unfold cell at HW
              rw [hcx, hcy, hcz] at HW
              clear hK hmk hcx hcy hcz
              have lS := S.lt
              have lR' := R.lt
              have lS2 : w2.heap.size < wr.heap.size := lS
              have o0 := (S).cell (k := 0) (by omega); have o1 := (S).cell (k := 1) (by omega); have o2 := (S).cell (k := 2) (by omega); have o3 := (S).cell (k := 3) (by omega); have o4 := (S).cell (k := 4) (by omega); have o5 := (S).cell (k := 5) (by omega); have o6 := (S).cell (k := 6) (by omega); have o7 := (S).cell (k := 7) (by omega)
              go_wp2_with fail
              (with_reducible refine Calls.mono (HW.out _) ?_)
              rintro e' w1q ⟨rfl, hb1q⟩
              have S1 := S.below hb1q lS
              have R1 := R.below hb1q lR'
              have X1 := blk_below X hb1q lX'
              have hB1 : Below w.heap.size w w1q := up hb1q hB
              have lS1 := S1.lt
              clear S R X hB x0 x1 x2 x3 x4 x5 o0 o1 o2 o3 o4 o5 o6 o7
              have o0 := (S1).cell (k := 0) (by omega); have o1 := (S1).cell (k := 1) (by omega); have o2 := (S1).cell (k := 2) (by omega); have o3 := (S1).cell (k := 3) (by omega); have o4 := (S1).cell (k := 4) (by omega); have o5 := (S1).cell (k := 5) (by omega); have o6 := (S1).cell (k := 6) (by omega); have o7 := (S1).cell (k := 7) (by omega)
              have q0 := (S1).free 0; have q1 := (S1).free 1; have q2 := (S1).free 2; have q3 := (S1).free 3; have q4 := (S1).free 4; have q5 := (S1).free 5; have q6 := (S1).free 6; have q7 := (S1).free 7
              go_wp2_with fail
              go_roundw
              case rel => exact ⟨V + 1, by omega, by omega, by go_num, (heap_put8 _ _ (by omega)).trans X1, R1.putOther (by omega) _, by rw [HV.out]; exact S1.put (setC K cc), below_put8 hB1 (by omega) _⟩
              case measure => simp [intOf]; omega
            · obtain rfl : V = d + 1 := by omega
              have hdv : decide (d + 1 ≤ d) = false := decide_eq_false (by omega)
              go_wp2_with fail
              go_roundw
              case rel => exact ⟨Y + 1, by omega, by omega, by go_num, X, R, by rw [HY.out]; exact S, hB⟩
              case measure => simp [intOf]; omega
        · obtain rfl : Y = e + 1 := by omega
          have hdy : decide (e + 1 ≤ e) = false := decide_eq_false (by omega)
          go_wp2_with fail
          go_roundw
          case rel => exact ⟨Z + 1, by omega, by omega, by go_num, X, R, by rw [HZ.out]; exact S, hB⟩
          case measure => simp [intOf]; omega
    · obtain rfl : Z = g + 1 := by omega
      have hdz : decide (g + 1 ≤ g) = false := decide_eq_false (by omega)
      have lS := S.lt
      have lR' := R.lt
      have o0 := (S).cell (k := 0) (by omega); have o1 := (S).cell (k := 1) (by omega); have o2 := (S).cell (k := 2) (by omega); have o3 := (S).cell (k := 3) (by omega); have o4 := (S).cell (k := 4) (by omega); have o5 := (S).cell (k := 5) (by omega); have o6 := (S).cell (k := 6) (by omega); have o7 := (S).cell (k := 7) (by omega)
      have r0 := (R).cell (k := 0) (by omega); have r1 := (R).cell (k := 1) (by omega); have r2 := (R).cell (k := 2) (by omega); have r3 := (R).cell (k := 3) (by omega); have r4 := (R).cell (k := 4) (by omega); have r5 := (R).cell (k := 5) (by omega); have r6 := (R).cell (k := 6) (by omega); have r7 := (R).cell (k := 7) (by omega)
      have q0 := (R).free 0; have q1 := (R).free 1; have q2 := (R).free 2; have q3 := (R).free 3; have q4 := (R).free 4; have q5 := (R).free 5; have q6 := (R).free 6; have q7 := (R).free 7
      go_wp2_with fail
      refine bodyPost_ret (res_se (R.put (blkF a b c d e g)) Tryz.results41 rfl) rfl ⟨rfl, ?_⟩
      exact below_put8 hB (by omega) _
end Go.Proofs.YtadkaplafaeebaaGreatDoor
/-
  Block, and the reference's Block, of what is no box.
-/
set_option linter.unusedVariables false
set_option linter.unusedSimpArgs false
namespace Go.Proofs.YtadkaplafaeebaaGreatDoor
open Go Go.RowKit

/-- The first test of a box that fails: 0 the low corner is out of the grid, 1 the high one, 2 to 4 the sides. -/
def boxNo (a b c d e g : Int) : Nat → Prop
  | 0 => inG a b c = false
  | 1 => inG a b c = true ∧ inG d e g = false
  | 2 => inG a b c = true ∧ inG d e g = true ∧ d < a
  | 3 => inG a b c = true ∧ inG d e g = true ∧ ¬ d < a ∧ e < b
  | _ => inG a b c = true ∧ inG d e g = true ∧ ¬ d < a ∧ ¬ e < b ∧ g < c
set_option maxRecDepth 100000 in
set_option maxHeartbeats 4000000 in
theorem block_no (a b c d e g : Int) (k : Nat) (w : World) (hk : k < 5) (h : boxNo a b c d e g k) :
    Calls Tryz.prog 40 #[.agg #[.int .i64 (a), .int .i64 (b), .int .i64 (c), .int .i64 (d), .int .i64 (e), .int .i64 (g)]] w fun e' w' => e' = .returned (.tuple #[sol (fun _ => 0), .int .i64 1]) ∧ Below w.heap.size w w' := by
  have X0 : Box6 ((w.alloc (.cells #[.int .i64 (a), .int .i64 (b), .int .i64 (c), .int .i64 (d), .int .i64 (e), .int .i64 (g)] 40)).alloc (.cells (solC fun _ => 0) 24)) w.heap.size a b c d e g := blk_alloc (blk_new rfl) _
  have R0 : BoxS ((w.alloc (.cells #[.int .i64 (a), .int .i64 (b), .int .i64 (c), .int .i64 (d), .int .i64 (e), .int .i64 (g)] 40)).alloc (.cells (solC fun _ => 0) 24)) (w.heap.size + 1) (fun _ => 0) := BoxS.zero (by simp)
  have hB0 : Below w.heap.size w ((w.alloc (.cells #[.int .i64 (a), .int .i64 (b), .int .i64 (c), .int .i64 (d), .int .i64 (e), .int .i64 (g)] 40)).alloc (.cells (solC fun _ => 0) 24)) := by repeat' (first | (with_reducible exact Below.refl _ _) | (with_reducible assumption) | (with_reducible refine Below.alloc ?_ ?_ _) | (with_reducible refine Below.drew ?_) | (with_reducible refine below_drewN ?_ _) | (with_reducible refine Below.setCell ?_ ?_ _) | go_size)
  by_cases k0 : k = 0
  · subst k0
    have H := Lib.hid (show inG a b c = false from h)
    clear h
    go_enter Tryz.func40, Tryz.ntmps40
    go_wp2_with fail
    refine (inGrid_is H.out _).mono ?_
    rintro e' w1 ⟨rfl, b1⟩
    have R1 := R0.below b1 R0.lt
    have hB1 : Below w.heap.size w w1 := up b1 hB0
    have lR := R1.lt
    have r0 := (R1).cell (k := 0) (by omega); have r1 := (R1).cell (k := 1) (by omega); have r2 := (R1).cell (k := 2) (by omega); have r3 := (R1).cell (k := 3) (by omega); have r4 := (R1).cell (k := 4) (by omega); have r5 := (R1).cell (k := 5) (by omega); have r6 := (R1).cell (k := 6) (by omega); have r7 := (R1).cell (k := 7) (by omega)
    have q0 := (R1).free 0; have q1 := (R1).free 1; have q2 := (R1).free 2; have q3 := (R1).free 3; have q4 := (R1).free 4; have q5 := (R1).free 5; have q6 := (R1).free 6; have q7 := (R1).free 7
    go_wp2_with fail
    refine bodyPost_ret (res_se (R1.put fun _ => 0) Tryz.results40 rfl) rfl ⟨rfl, ?_⟩
    exact below_put8 hB1 (by omega) (fun _ => 0)
  · have hA : inG a b c = true := by
      rcases (show k = 1 ∨ k = 2 ∨ k = 3 ∨ k = 4 by omega) with rfl | rfl | rfl | rfl <;> exact h.1
    have HA := Lib.hid hA
    clear hA
    go_enter Tryz.func40, Tryz.ntmps40
    go_wp2_with fail
    refine (inGrid_is HA.out _).mono ?_
    rintro e' w1 ⟨rfl, b1⟩
    have R1 := R0.below b1 R0.lt
    have X1 := blk_below X0 b1 (blk_lt X0)
    have hB1 : Below w.heap.size w w1 := up b1 hB0
    have lX := blk_lt X1
    obtain ⟨x0, x1, x2, x3, x4, x5⟩ := Box6.cells X1
    go_wp2_with fail
    by_cases k1 : k = 1
    · subst k1
      refine (inGrid_is (show inG d e g = false from h.2) _).mono ?_
      rintro e' w2 ⟨rfl, b2⟩
      have R2 := R1.below b2 R1.lt
      have hB2 : Below w.heap.size w w2 := up b2 hB1
      have lR := R2.lt
      have r0 := (R2).cell (k := 0) (by omega); have r1 := (R2).cell (k := 1) (by omega); have r2 := (R2).cell (k := 2) (by omega); have r3 := (R2).cell (k := 3) (by omega); have r4 := (R2).cell (k := 4) (by omega); have r5 := (R2).cell (k := 5) (by omega); have r6 := (R2).cell (k := 6) (by omega); have r7 := (R2).cell (k := 7) (by omega)
      have q0 := (R2).free 0; have q1 := (R2).free 1; have q2 := (R2).free 2; have q3 := (R2).free 3; have q4 := (R2).free 4; have q5 := (R2).free 5; have q6 := (R2).free 6; have q7 := (R2).free 7
      go_wp2_with fail
      refine bodyPost_ret (res_se (R2.put fun _ => 0) Tryz.results40 rfl) rfl ⟨rfl, ?_⟩
      exact below_put8 hB2 (by omega) (fun _ => 0)
    · have hD : inG d e g = true := by
        rcases (show k = 2 ∨ k = 3 ∨ k = 4 by omega) with rfl | rfl | rfl <;> exact h.2.1
      refine (inGrid_is hD _).mono ?_
      rintro e' w2 ⟨rfl, b2⟩
      have R2 := R1.below b2 R1.lt
      have X2 := blk_below X1 b2 lX
      have hB2 : Below w.heap.size w w2 := up b2 hB1
      clear x0 x1 x2 x3 x4 x5 lX
      have lR : w.heap.size + 1 < w2.heap.size := R2.lt
      have lX : w.heap.size < w2.heap.size := blk_lt X2
      obtain ⟨x0, x1, x2, x3, x4, x5⟩ := Box6.cells X2
      have r0 := (R2).cell (k := 0) (by omega); have r1 := (R2).cell (k := 1) (by omega); have r2 := (R2).cell (k := 2) (by omega); have r3 := (R2).cell (k := 3) (by omega); have r4 := (R2).cell (k := 4) (by omega); have r5 := (R2).cell (k := 5) (by omega); have r6 := (R2).cell (k := 6) (by omega); have r7 := (R2).cell (k := 7) (by omega)
      have q0 := (R2).free 0; have q1 := (R2).free 1; have q2 := (R2).free 2; have q3 := (R2).free 3; have q4 := (R2).free 4; have q5 := (R2).free 5; have q6 := (R2).free 6; have q7 := (R2).free 7
      rcases (show k = 2 ∨ k = 3 ∨ k = 4 by omega) with rfl | rfl | rfl
      · have q1 : decide (d < a) = true := decide_eq_true h.2.2
        clear h
        go_wp2_with fail
        refine bodyPost_ret (res_se (R2.put fun _ => 0) Tryz.results40 rfl) rfl ⟨rfl, ?_⟩
        exact below_put8 hB2 (by omega) (fun _ => 0)
      · have q1 : decide (d < a) = false := decide_eq_false h.2.2.1
        have q2 : decide (e < b) = true := decide_eq_true h.2.2.2
        clear h
        go_wp2_with fail
        refine bodyPost_ret (res_se (R2.put fun _ => 0) Tryz.results40 rfl) rfl ⟨rfl, ?_⟩
        exact below_put8 hB2 (by omega) (fun _ => 0)
      · have q1 : decide (d < a) = false := decide_eq_false h.2.2.1
        have q2 : decide (e < b) = false := decide_eq_false h.2.2.2.1
        have q3 : decide (g < c) = true := decide_eq_true h.2.2.2.2
        clear h
        go_wp2_with fail
        refine bodyPost_ret (res_se (R2.put fun _ => 0) Tryz.results40 rfl) rfl ⟨rfl, ?_⟩
        exact below_put8 hB2 (by omega) (fun _ => 0)
set_option maxRecDepth 100000 in
set_option maxHeartbeats 4000000 in
theorem rblock_no (a b c d e g : Int) (k : Nat) (w : World) (hk : k < 5) (h : boxNo a b c d e g k) :
    Calls Tryz.prog 41 #[.agg #[.int .i64 (a), .int .i64 (b), .int .i64 (c), .int .i64 (d), .int .i64 (e), .int .i64 (g)]] w fun e' w' => e' = .returned (.tuple #[sol (fun _ => 0), .int .i64 1]) ∧ Below w.heap.size w w' := by
  have X0 : Box6 ((w.alloc (.cells #[.int .i64 (a), .int .i64 (b), .int .i64 (c), .int .i64 (d), .int .i64 (e), .int .i64 (g)] 40)).alloc (.cells (solC fun _ => 0) 24)) w.heap.size a b c d e g := blk_alloc (blk_new rfl) _
  have R0 : BoxS ((w.alloc (.cells #[.int .i64 (a), .int .i64 (b), .int .i64 (c), .int .i64 (d), .int .i64 (e), .int .i64 (g)] 40)).alloc (.cells (solC fun _ => 0) 24)) (w.heap.size + 1) (fun _ => 0) := BoxS.zero (by simp)
  have hB0 : Below w.heap.size w ((w.alloc (.cells #[.int .i64 (a), .int .i64 (b), .int .i64 (c), .int .i64 (d), .int .i64 (e), .int .i64 (g)] 40)).alloc (.cells (solC fun _ => 0) 24)) := by repeat' (first | (with_reducible exact Below.refl _ _) | (with_reducible assumption) | (with_reducible refine Below.alloc ?_ ?_ _) | (with_reducible refine Below.drew ?_) | (with_reducible refine below_drewN ?_ _) | (with_reducible refine Below.setCell ?_ ?_ _) | go_size)
  by_cases k0 : k = 0
  · subst k0
    have H := Lib.hid (show inG a b c = false from h)
    clear h
    go_enter Tryz.func41, Tryz.ntmps41
    go_wp2_with fail
    refine (rinGrid_is H.out _).mono ?_
    rintro e' w1 ⟨rfl, b1⟩
    have R1 := R0.below b1 R0.lt
    have hB1 : Below w.heap.size w w1 := up b1 hB0
    have lR := R1.lt
    have r0 := (R1).cell (k := 0) (by omega); have r1 := (R1).cell (k := 1) (by omega); have r2 := (R1).cell (k := 2) (by omega); have r3 := (R1).cell (k := 3) (by omega); have r4 := (R1).cell (k := 4) (by omega); have r5 := (R1).cell (k := 5) (by omega); have r6 := (R1).cell (k := 6) (by omega); have r7 := (R1).cell (k := 7) (by omega)
    have q0 := (R1).free 0; have q1 := (R1).free 1; have q2 := (R1).free 2; have q3 := (R1).free 3; have q4 := (R1).free 4; have q5 := (R1).free 5; have q6 := (R1).free 6; have q7 := (R1).free 7
    go_wp2_with fail
    refine bodyPost_ret (res_se (R1.put fun _ => 0) Tryz.results41 rfl) rfl ⟨rfl, ?_⟩
    exact below_put8 hB1 (by omega) (fun _ => 0)
  · have hA : inG a b c = true := by
      rcases (show k = 1 ∨ k = 2 ∨ k = 3 ∨ k = 4 by omega) with rfl | rfl | rfl | rfl <;> exact h.1
    have HA := Lib.hid hA
    clear hA
    go_enter Tryz.func41, Tryz.ntmps41
    go_wp2_with fail
    refine (rinGrid_is HA.out _).mono ?_
    rintro e' w1 ⟨rfl, b1⟩
    have R1 := R0.below b1 R0.lt
    have X1 := blk_below X0 b1 (blk_lt X0)
    have hB1 : Below w.heap.size w w1 := up b1 hB0
    have lX := blk_lt X1
    obtain ⟨x0, x1, x2, x3, x4, x5⟩ := Box6.cells X1
    go_wp2_with fail
    by_cases k1 : k = 1
    · subst k1
      refine (rinGrid_is (show inG d e g = false from h.2) _).mono ?_
      rintro e' w2 ⟨rfl, b2⟩
      have R2 := R1.below b2 R1.lt
      have hB2 : Below w.heap.size w w2 := up b2 hB1
      have lR := R2.lt
      have r0 := (R2).cell (k := 0) (by omega); have r1 := (R2).cell (k := 1) (by omega); have r2 := (R2).cell (k := 2) (by omega); have r3 := (R2).cell (k := 3) (by omega); have r4 := (R2).cell (k := 4) (by omega); have r5 := (R2).cell (k := 5) (by omega); have r6 := (R2).cell (k := 6) (by omega); have r7 := (R2).cell (k := 7) (by omega)
      have q0 := (R2).free 0; have q1 := (R2).free 1; have q2 := (R2).free 2; have q3 := (R2).free 3; have q4 := (R2).free 4; have q5 := (R2).free 5; have q6 := (R2).free 6; have q7 := (R2).free 7
      go_wp2_with fail
      refine bodyPost_ret (res_se (R2.put fun _ => 0) Tryz.results41 rfl) rfl ⟨rfl, ?_⟩
      exact below_put8 hB2 (by omega) (fun _ => 0)
    · have hD : inG d e g = true := by
        rcases (show k = 2 ∨ k = 3 ∨ k = 4 by omega) with rfl | rfl | rfl <;> exact h.2.1
      refine (rinGrid_is hD _).mono ?_
      rintro e' w2 ⟨rfl, b2⟩
      have R2 := R1.below b2 R1.lt
      have X2 := blk_below X1 b2 lX
      have hB2 : Below w.heap.size w w2 := up b2 hB1
      clear x0 x1 x2 x3 x4 x5 lX
      have lR : w.heap.size + 1 < w2.heap.size := R2.lt
      have lX : w.heap.size < w2.heap.size := blk_lt X2
      obtain ⟨x0, x1, x2, x3, x4, x5⟩ := Box6.cells X2
      have r0 := (R2).cell (k := 0) (by omega); have r1 := (R2).cell (k := 1) (by omega); have r2 := (R2).cell (k := 2) (by omega); have r3 := (R2).cell (k := 3) (by omega); have r4 := (R2).cell (k := 4) (by omega); have r5 := (R2).cell (k := 5) (by omega); have r6 := (R2).cell (k := 6) (by omega); have r7 := (R2).cell (k := 7) (by omega)
      have q0 := (R2).free 0; have q1 := (R2).free 1; have q2 := (R2).free 2; have q3 := (R2).free 3; have q4 := (R2).free 4; have q5 := (R2).free 5; have q6 := (R2).free 6; have q7 := (R2).free 7
      rcases (show k = 2 ∨ k = 3 ∨ k = 4 by omega) with rfl | rfl | rfl
      · have q1 : decide (d < a) = true := decide_eq_true h.2.2
        clear h
        go_wp2_with fail
        refine bodyPost_ret (res_se (R2.put fun _ => 0) Tryz.results41 rfl) rfl ⟨rfl, ?_⟩
        exact below_put8 hB2 (by omega) (fun _ => 0)
      · have q1 : decide (d < a) = false := decide_eq_false h.2.2.1
        have q2 : decide (e < b) = true := decide_eq_true h.2.2.2
        clear h
        go_wp2_with fail
        refine bodyPost_ret (res_se (R2.put fun _ => 0) Tryz.results41 rfl) rfl ⟨rfl, ?_⟩
        exact below_put8 hB2 (by omega) (fun _ => 0)
      · have q1 : decide (d < a) = false := decide_eq_false h.2.2.1
        have q2 : decide (e < b) = false := decide_eq_false h.2.2.2.1
        have q3 : decide (g < c) = true := decide_eq_true h.2.2.2.2
        clear h
        go_wp2_with fail
        refine bodyPost_ret (res_se (R2.put fun _ => 0) Tryz.results41 rfl) rfl ⟨rfl, ?_⟩
        exact below_put8 hB2 (by omega) (fun _ => 0)
theorem box_case (a b c d e g : Int) : (∃ a' b' c' d' e' g' : Nat, (a = a' ∧ b = b' ∧ c = c') ∧ (d = d' ∧ e = e' ∧ g = g') ∧ (a' ≤ d' ∧ d' ≤ 7) ∧ (b' ≤ e' ∧ e' ≤ 7) ∧ (c' ≤ g' ∧ g' ≤ 7)) ∨ ∃ k, k < 5 ∧ boxNo a b c d e g k := by
  cases h1 : inG a b c with
  | false => exact .inr ⟨0, by omega, h1⟩
  | true =>
    cases h2 : inG d e g with
    | false => exact .inr ⟨1, by omega, h1, h2⟩
    | true =>
      by_cases h3 : d < a
      · exact .inr ⟨2, by omega, h1, h2, h3⟩
      · by_cases h4 : e < b
        · exact .inr ⟨3, by omega, h1, h2, h3, h4⟩
        · by_cases h5 : g < c
          · exact .inr ⟨4, by omega, h1, h2, h3, h4, h5⟩
          · have q1 := of_decide_eq_true h1
            have q2 := of_decide_eq_true h2
            exact .inl ⟨a.toNat, b.toNat, c.toNat, d.toNat, e.toNat, g.toNat, by omega, by omega, by omega, by omega, by omega⟩
end Go.Proofs.YtadkaplafaeebaaGreatDoor
