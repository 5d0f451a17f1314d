/-
  The reference's classes.
-/
import Derived.Test.YtadkaplafaeebaaGreatDoorPkUDQ
import Derived.Test.YtadkaplafaeebaaGreatDoorPkRBQ
import Derived.Test.YtadkaplafaeebaaGreatDoorPkTHQ
import Derived.Test.YtadkaplafaeebaaGreatDoorPkRQ
import Derived.Test.YtadkaplafaeebaaGreatDoorPkTCQ
import Derived.Test.YtadkaplafaeebaaGreatDoorPkTEQ
import Derived.Test.YtadkaplafaeebaaGreatDoorPkUCQ
import Derived.Test.YtadkaplafaeebaaGreatDoorPkUAQ
set_option linter.unusedVariables false
set_option linter.unusedSimpArgs false
namespace Go.Proofs.YtadkaplafaeebaaGreatDoor
open Go Go.RowKit Go.Shelf

/-- The solid that a block holds. -/
def readS (W : World) (b : Nat) : Sol := fun i => match W.cell? ⟨b, i, none⟩ with
  | some (.int _ n) => n.toNat
  | _ => 0
theorem readS_box {W : World} {b : Nat} {f : Sol} (h : BoxS W b f) : eqS (readS W b) f = true := eqS_of fun k hk => by
  unfold readS
  rw [h.cell hk]
  exact Int.toNat_natCast _
theorem cnt_congr {f g : Sol} (h : eqS f g = true) : cnt f = cnt g := by
  unfold cnt
  refine List.countP_congr fun c _ => ?_
  have := has_congr h (toI c)
  rw [has_cell, has_cell] at this
  rw [this]
theorem grown_refl (W : World) (r : Option Nat) : W.grownBy W r := ⟨rfl, rfl, rfl, Nat.le_refl _, fun _ _ _ => rfl⟩
theorem grown_below {W W' : World} (h : Below W.heap.size W W') (r : Option Nat) : W.grownBy W' r := ⟨h.os, h.tape, h.output, h.size, fun k hk _ => h.block k hk⟩
theorem grown_put (W : World) (N : Nat) (f : Sol) : W.grownBy (put8 W N f) (some N) := by
  have one : ∀ (W : World) (j : Nat) (v : Value), W.grownBy (W.setCell ⟨N, j, none⟩ v) (some N) := fun W j v => ⟨rfl, rfl, rfl, by simp, fun k _ hk => Below.heap_setCell W ⟨N, j, none⟩ v k (fun e => hk (by rw [e]))⟩
  exact grownT (grownT (grownT (grownT (grownT (grownT (grownT (one _ _ _) (one _ _ _)) (one _ _ _)) (one _ _ _)) (one _ _ _)) (one _ _ _)) (one _ _ _)) (one _ _ _)
theorem grown_to {W W' : World} {n N : Nat} (h : W.grownBy W' (some N)) (hn : n ≤ N) (hs : n ≤ W.heap.size) : Below n W W' := ⟨h.os, h.tape, h.output, h.size, fun k hk => h.block k (by omega) (fun e => by injection e with e; omega)⟩
theorem row_heap {W W' : World} {b size n : Nat} {e : TypeId} {v : Value} {xs : List Value} (h : W.ownsRow b e size v n xs) (hb : ∀ j, b ≤ j → W'.heap[j]? = W.heap[j]?) : W'.ownsRow b e size v n xs := by
  refine ⟨h.1, ?_⟩
  rcases h.2 with h4 | ⟨g, cap, cur, e1, e2, e3, e4⟩
  · exact .inl h4
  · exact .inr ⟨g, cap, cur, e1, e2, (hb g e2).trans e3, e4⟩
theorem solL_congr {f g : Sol} (h : eqS f g = true) : solL f = solL g := by
  have e := eqS_at h
  unfold solL solC
  rw [e 0 (by omega), e 1 (by omega), e 2 (by omega), e 3 (by omega), e 4 (by omega), e 5 (by omega), e 6 (by omega), e 7 (by omega)]
def lenV : Value → Nat
  | .slice _ n _ => n
  | _ => 0
theorem lenV_own {W : World} {b size n : Nat} {e : TypeId} {v : Value} {xs : List Value} (h : W.ownsRow b e size v n xs) : lenV v = n := by
  rcases h.2 with ⟨h1, h2⟩ | ⟨g, cap, cur, h1, _⟩
  · rw [h1, h2]; rfl
  · rw [h1]; rfl
def boolV : Value → Bool
  | .bool b => b
  | _ => false
theorem clsF_len (nb : I3 → List I3) (f : Sol) : (clsF nb f).length ≤ 512 := Nat.le_trans (clsAt_len nb f _) (cellsL_len f)
theorem less_has {f g : Sol} (p : I3) : hasI (lessF f g) p = (hasI f p && !hasI g p) := by
  unfold hasI hasC lessF
  rw [andN_bit]
  cases inG p.1 p.2.1 p.2.2 <;> simp
theorem less_fit {f : Sol} (hf : Fit f) (g : Sol) : Fit (lessF f g) := fun i => andN_lt (hf i)
theorem rwith_zero (c : Cl) (w : World) : Calls Tryz.prog 93 #[.agg #[.int .u64 0, .int .u64 0, .int .u64 0, .int .u64 0, .int .u64 0, .int .u64 0, .int .u64 0, .int .u64 0], .agg #[.int .i64 (((cX c : Nat) : Int)), .int .i64 (((cY c : Nat) : Int)), .int .i64 (((cZ c : Nat) : Int))]] w fun e w' => e = .returned (sol (setC (fun _ => 0) c)) ∧ Below w.heap.size w w' := rwith_ok (fun _ => 0) c w fit0
theorem rwith_at (k : Sol) (c : Cl) (hk : Fit k) (w : World) : Calls Tryz.prog 93 #[sol k, .agg #[.int .i64 (((cX c : Nat) : Int)), .int .i64 (((cY c : Nat) : Int)), .int .i64 (((cZ c : Nat) : Int))]] w fun e w' => e = .returned (sol (setC k c)) ∧ Below w.heap.size w w' := rwith_ok k c w hk
theorem rhas_at (k : Sol) (c : Cl) (b : Bool) (hk : Fit k) (hb : hasC k c = b) (w : World) : Calls Tryz.prog 24 #[sol k, .agg #[.int .i64 (((cX c : Nat) : Int)), .int .i64 (((cY c : Nat) : Int)), .int .i64 (((cZ c : Nat) : Int))]] w fun e w' => e = .returned (.bool b) ∧ Below w.heap.size w w' := by
  rw [← hb]
  exact rhas_yes k c w hk
theorem rfar_at (c d : Cl) (w : World) : Calls Tryz.prog 153 #[.agg #[.int .i64 (((cX c : Nat) : Int)), .int .i64 (((cY c : Nat) : Int)), .int .i64 (((cZ c : Nat) : Int))], .agg #[.int .i64 (((cX d : Nat) : Int)), .int .i64 (((cY d : Nat) : Int)), .int .i64 (((cZ d : Nat) : Int))]] w fun e w' => e = .returned (.tuple #[.int .i64 (farS (toI c) (toI d)), .int .i64 (farM (toI c) (toI d))]) ∧ Below w.heap.size w w' := by
  have a1 := X_le c
  have a2 := Y_le c
  have a3 := Z_le c
  have b1 := X_le d
  have b2 := Y_le d
  have b3 := Z_le d
  exact rfar_ok _ _ _ _ _ _ w (by omega) (by omega) (by omega) (by omega) (by omega) (by omega)
set_option maxRecDepth 100000 in
set_option maxHeartbeats 16000000 in
theorem rclasses_ok (fc : Bool) (f : Sol) (w : World) (hf : Fit f) :
    Calls Tryz.prog 124 #[sol f, .bool fc] w fun e w' => ∃ v, e = .returned v ∧ w'.ownsRow (w.heap.size + 1 + 1) 24 8 v (clsF (nbF fc) f).length (flatS (clsF (nbF fc) f)) ∧ (v = .slice none 0 0 ↔ clsF (nbF fc) f = []) ∧ Below w.heap.size w w' := by
  obtain ⟨i0, hi, hz0, hz1, hz2⟩ := info_parts info_sol
  have HN := Lib.hid (clsF_len (nbF fc) f)
  have S0 : BoxS ((w.alloc (.cells (solC f) 24)).alloc (.cells (solC f) 24)) (w.heap.size + 1) f := BoxS.new' (by simp)
  have hB0 : Below w.heap.size w ((w.alloc (.cells (solC f) 24)).alloc (.cells (solC f) 24)) := by repeat' (first | (with_reducible exact Below.refl _ _) | (with_reducible assumption) | (with_reducible refine Below.alloc ?_ ?_ _) | (with_reducible refine Below.drew ?_) | (with_reducible refine below_drewN ?_ _) | (with_reducible refine Below.setCell ?_ ?_ _) | go_size)
  go_enter Tryz.func124, Tryz.ntmps124
  go_wp2_with fail
  go_loopw [6] (fun o wr => ∃ (r : Sol) (L : List Sol), Fit r ∧ clsF (nbF fc) f = L ++ clsF (nbF fc) r ∧ BoxS wr (w.heap.size + 1) r ∧ wr.ownsRow (w.heap.size + 1 + 1) 24 8 o L.length (flatS L) ∧ (o = .slice none 0 0 ↔ L = []) ∧ Below w.heap.size w wr ∧ w.heap.size + 1 + 1 ≤ wr.heap.size) (fun o _ => 600 - lenV o)
  case atStart => exact ⟨f, [], hf, by simp, S0, World.ownsRow_nil _ _ _ _, by simp, hB0, by simp⟩
  case round =>
    clear S0 hB0 hf
    obtain ⟨r, L, hr, hcl, S, hrow, hnil, hB, hsz⟩ := hrel
    have lS := S.lt
    have HR := Lib.hid hr
    have HCL := Lib.hid hcl
    have hLl : L.length ≤ 512 := by
      have h1 := congrArg List.length hcl
      rw [List.length_append] at h1
      have := HN.out
      omega
    clear hr hcl
    have s0 := (S).cell (k := 0) (by omega); have s1 := (S).cell (k := 1) (by omega); have s2 := (S).cell (k := 2) (by omega); have s3 := (S).cell (k := 3) (by omega); have s4 := (S).cell (k := 4) (by omega); have s5 := (S).cell (k := 5) (by omega); have s6 := (S).cell (k := 6) (by omega); have s7 := (S).cell (k := 7) (by omega)
    cases he : emptyS r with
    | true =>
      go_wp2_with fail
      go_ret
      have e1 : clsF (nbF fc) f = L := by rw [HCL.out, clsF_nil _ (cells_of_empty HR.out he), List.append_nil]
      exact ⟨u6, rfl, by rw [e1]; exact hrow, by rw [e1]; exact hnil, hB⟩
    | false =>
      have hlpos : 0 < (cellsL r).length := len_pos HR.out he
      obtain ⟨c0, ct, hcr⟩ : ∃ c0 ct, cellsL r = c0 :: ct := by
        cases h : cellsL r with
        | nil => rw [h] at hlpos; cases hlpos
        | cons a l => exact ⟨a, l, rfl⟩
      have HCR := Lib.hid hcr
      have hc0 : (cellsL r)[0]? = some c0 := by rw [hcr]; rfl
      have HC0 := Lib.hid (show hasC r c0 = true from (mem_cells r c0).1 (by rw [hcr]; exact List.mem_cons_self))
      clear hcr
      have hlen := cellsL_len r
      go_wp2_with fail
      refine (rcells_ok r _ HR.out).mono ?_
      rintro e w1 ⟨v, rfl, hrow1, _, b1⟩
      have S1 := S.below b1 lS
      have hrowL := row_below hrow b1
      have hB1 : Below w.heap.size w w1 := up b1 hB
      obtain ⟨p, cap, g, rfl, hp, hg, hgd, hcs⟩ := rowC_at (d := w.heap.size + 1) hrow1 S1.lt (by omega)
      obtain rfl := hp hlpos
      obtain ⟨k0, k1, k2⟩ := hcs 0 c0 hc0
      simp only [Nat.zero_mul, Nat.zero_add] at k0 k1 k2
      have HCS := Lib.hid hcs
      have hl0 : (0 : Int) < ((cellsL r).length : Int) := by omega
      have hs1 := b1.size
      clear s0 s1 s2 s3 s4 s5 s6 s7 S hrow hB b1 hrow1 hgd hcs hp lS hc0
      go_wp2_with fail
      refine (rwith_zero c0 _).mono ?_
      rintro e w2 ⟨rfl, b2⟩
      obtain ⟨kk, hkk⟩ : ∃ kk, kk = setC (fun _ => 0) c0 := ⟨_, rfl⟩
      have GK := Lib.hid (show Gro (nbF fc) r (toI c0) kk by rw [hkk]; exact gro_start HC0.out)
      rw [← hkk]
      clear hkk k0 k1 k2 hl0
      have S2 := S1.below b2 S1.lt
      have hrow2 := row_below hrowL b2
      have hB2 : Below w.heap.size w w2 := up b2 hB1
      have hgN : g < w2.heap.size := Nat.lt_of_lt_of_le hg b2.size
      have hsN : w.heap.size + 1 + 1 ≤ w2.heap.size := Nat.le_trans hsz (Nat.le_trans hs1 b2.size)
      have hcs2 : ∀ i c, (cellsL r)[i]? = some c → w2.cell? ⟨g, i * 3, none⟩ = some (.int .i64 (cX c : Nat)) ∧ w2.cell? ⟨g, i * 3 + 1, none⟩ = some (.int .i64 (cY c : Nat)) ∧ w2.cell? ⟨g, i * 3 + 2, none⟩ = some (.int .i64 (cZ c : Nat)) := fun i c hc => by
        obtain ⟨a0, a1, a2⟩ := HCS.out i c hc
        exact ⟨(b2.cell (p := ⟨g, i * 3, none⟩) hg).trans a0, (b2.cell (p := ⟨g, i * 3 + 1, none⟩) hg).trans a1, (b2.cell (p := ⟨g, i * 3 + 2, none⟩) hg).trans a2⟩
      have HCY := Lib.hid hcs2
      have K2 : BoxS (w2.alloc (.cells (solC kk) 24)) w2.heap.size kk := BoxS.new _ _
      have hBY : Below w2.heap.size w2 (w2.alloc (.cells (solC kk) 24)) := (Below.refl _ _).alloc (Nat.le_refl _) _
      clear hcs2 HCS S1 hrowL hB1 b2 hs1 hg hsz
      go_upto_region 6 with fail
      obtain ⟨Y, hY⟩ : ∃ Y, Y = w2.alloc (.cells (solC kk) 24) := ⟨_, rfl⟩
      rw [← hY] at K2 hBY ⊢
      clear hY
      go_wp2_with fail
      go_loopw [9] (fun gv wr => ∃ (gb : Bool) (k : Sol), gv = .bool gb ∧ Gro (nbF fc) r (toI c0) k ∧ BoxS wr w2.heap.size k ∧ (gb = false → ∀ d ∈ cellsL r, hasC k d = false → ∀ e ∈ cellsL k, nearB fc (toI d) (toI e) = false) ∧ Below w2.heap.size w2 wr) (fun gv W => if boolV gv = true then 600 - cnt (readS W w2.heap.size) else 0)
      case atStart => exact ⟨true, kk, rfl, GK.out, K2, (fun h => by cases h), hBY⟩
      case round =>
        clear K2 GK hBY
        obtain ⟨gb, k, rfl, hgro, K, hshut, hBW⟩ := hrel
        have HG := Lib.hid hgro
        have HSH := Lib.hid hshut
        have lK := K.lt
        clear hgro hshut
        cases gb with
        | false =>
          have S3 := S2.below hBW S2.lt
          have row3 := row_below hrow2 hBW
          have hB3 : Below w.heap.size w wr := up hBW hB2
          have KE := Lib.hid (gro_end HR.out HG.out (gro_closed (HSH.out rfl)))
          have hs3 := hBW.size
          have k0 := (K).cell (k := 0) (by omega); have k1 := (K).cell (k := 1) (by omega); have k2 := (K).cell (k := 2) (by omega); have k3 := (K).cell (k := 3) (by omega); have k4 := (K).cell (k := 4) (by omega); have k5 := (K).cell (k := 5) (by omega); have k6 := (K).cell (k := 6) (by omega); have k7 := (K).cell (k := 7) (by omega)
          go_upto_region 24 with (at_builtin; refine wpList_append_own _ rfl _ _ 58 rfl (w.heap.size + 1 + 1) 24 i0 (sol fun _ => 0) 8 64 under_sols hi hz0 hz1 hz2 rfl (by decide) u6 _ _ rfl (row3.alloc _) ⟨wr.heap.size, 0, none⟩ 1 1 (solL k) rfl rfl (solL_cells (BoxS.new' rfl)) (solL_one k) (by simp only [maxLen]; omega) (by omega) (by simp; omega) ?_; intro v' w4 hown' hgrow _; obtain ⟨g', cap', rfl⟩ := ownsRow_succ hown')
          have hb4 : Below (w.heap.size + 1 + 1) wr w4 := ((Below.refl (w.heap.size + 1 + 1) wr).alloc (by omega) _).grown hgrow (by simp; omega) fun j ej => (row3.lt j ej).1
          have S4 := S3.below hb4 (by omega)
          have K4 : BoxS w4 w2.heap.size k := (hgrow.block _ (by simp; omega) (fun e => by have := (hrow2.lt _ e.symm).2; omega)).trans (K.alloc _)
          have hB4 : Below w.heap.size w w4 := hB3.trans (hb4.mono (by omega))
          have hs4 := hb4.size
          have lS4 := S4.lt
          have lK4 := K4.lt
          clear k0 k1 k2 k3 k4 k5 k6 k7 S3 K hB3 hb4 hBW hgrow
          have k0 := (K4).cell (k := 0) (by omega); have k1 := (K4).cell (k := 1) (by omega); have k2 := (K4).cell (k := 2) (by omega); have k3 := (K4).cell (k := 3) (by omega); have k4 := (K4).cell (k := 4) (by omega); have k5 := (K4).cell (k := 5) (by omega); have k6 := (K4).cell (k := 6) (by omega); have k7 := (K4).cell (k := 7) (by omega)
          have s0 := (S4).cell (k := 0) (by omega); have s1 := (S4).cell (k := 1) (by omega); have s2 := (S4).cell (k := 2) (by omega); have s3 := (S4).cell (k := 3) (by omega); have s4 := (S4).cell (k := 4) (by omega); have s5 := (S4).cell (k := 5) (by omega); have s6 := (S4).cell (k := 6) (by omega); have s7 := (S4).cell (k := 7) (by omega)
          go_wp2_with fail
          refine (rless_ok r k _ HR.out HG.out.fit).mono ?_
          rintro e w5 ⟨rfl, b5⟩
          have S5 := S4.below b5 lS4
          have row5 := row_below hown' b5
          have hB5 : Below w.heap.size w w5 := up b5 hB4
          have hs5 := b5.size
          clear k0 k1 k2 k3 k4 k5 k6 k7 s0 s1 s2 s3 s4 s5 s6 s7 S4 K4 hB4 b5 hown'
          have lS5 := S5.lt
          have s0 := (S5).cell (k := 0) (by omega); have s1 := (S5).cell (k := 1) (by omega); have s2 := (S5).cell (k := 2) (by omega); have s3 := (S5).cell (k := 3) (by omega); have s4 := (S5).cell (k := 4) (by omega); have s5 := (S5).cell (k := 5) (by omega); have s6 := (S5).cell (k := 6) (by omega); have s7 := (S5).cell (k := 7) (by omega)
          have q0 := (S5).free 0; have q1 := (S5).free 1; have q2 := (S5).free 2; have q3 := (S5).free 3; have q4 := (S5).free 4; have q5 := (S5).free 5; have q6 := (S5).free 6; have q7 := (S5).free 7
          go_wp2_with fail
          have hu := lenV_own hrow2
          have el : (L ++ [(clsOf (nbF fc) r (toI c0)).2]).length = L.length + 1 := by simp
          have ef : flatS (L ++ [(clsOf (nbF fc) r (toI c0)).2]) = flatS L ++ solL k := by rw [flatS_snoc, solL_congr KE.out]
          refine ⟨⟨(clsOf (nbF fc) r (toI c0)).1, L ++ [(clsOf (nbF fc) r (toI c0)).2], (cls_fit _ HR.out _).1, by rw [HCL.out, clsF_step _ HCR.out]; simp, (S5.put (lessF r k)).congr (eqS_at (less_cls _ HR.out _ KE.out less_has (less_fit HR.out k))), ?_, by simp, below_put8 hB5 (show w.heap.size ≤ w.heap.size + 1 by omega) (lessF r k), by simp; omega⟩, ?_⟩
          · rw [el, ef]
            exact row_heap (W' := put8 w5 (w.heap.size + 1) (lessF r k)) row5 fun j hj => heap_put8 w5 (lessF r k) (by omega)
          · rw [hu]
            show 600 - (L.length + 1) < 600 - L.length
            omega
        | true =>
          have s0 := (K).cell (k := 0) (by omega); have s1 := (K).cell (k := 1) (by omega); have s2 := (K).cell (k := 2) (by omega); have s3 := (K).cell (k := 3) (by omega); have s4 := (K).cell (k := 4) (by omega); have s5 := (K).cell (k := 5) (by omega); have s6 := (K).cell (k := 6) (by omega); have s7 := (K).cell (k := 7) (by omega)
          go_wp2_with fail
          refine (rcells_ok k _ HG.out.fit).mono ?_
          rintro e w3 ⟨v3, rfl, hrow3, _, b3⟩
          have K3 := K.below b3 lK
          have hBW3 : Below w2.heap.size w2 w3 := up b3 hBW
          have hkpos : 0 < (cellsL k).length := by
            obtain ⟨d, hd, _⟩ := cl_of' HG.out.has
            exact List.length_pos_of_mem hd
          obtain ⟨p3, cap3, g3, rfl, hp3, hg3, hgd3, hcs3⟩ := rowC_at (d := w.heap.size + 1) hrow3 (by have := hBW3.size; omega) (by have := hBW.size; omega)
          obtain rfl := hp3 hkpos
          have hg3N : g3 ≠ w2.heap.size := by
            have := hBW.size
            omega
          have HC3 := Lib.hid hcs3
          have hlk := cellsL_len k
          clear s0 s1 s2 s3 s4 s5 s6 s7 hrow3 b3 hp3 hgd3 hcs3
          go_wp2_with fail
          go_loopw [9, 11] (fun gv c wr => ∃ (gb : Bool) (i : Nat) (k' : Sol), gv = .bool gb ∧ c = .int .i64 i ∧ i ≤ (cellsL r).length ∧ Gro (nbF fc) r (toI c0) k' ∧ (∀ p, hasI k p = true → hasI k' p = true) ∧ BoxS wr w2.heap.size k' ∧ (gb = true → cnt k < cnt k') ∧ (gb = false → k' = k ∧ ∀ d ∈ (cellsL r).take i, hasC k d = false → ∀ e ∈ cellsL k, nearB fc (toI d) (toI e) = false) ∧ w3.grownBy wr (some w2.heap.size)) (fun _ c _ => (cellsL r).length - (intOf c).toNat)
          case atStart => exact ⟨false, 0, k, rfl, rfl, by omega, HG.out, (fun _ h => h), K3, (fun h => by cases h), (fun _ => ⟨rfl, fun d hd => by simp at hd⟩), grown_refl _ _⟩
          case round =>
            clear K3
            obtain ⟨gb, i, k', rfl, rfl, hi', hgro', hsub, K', hyes, hno, hgr⟩ := hrel
            have HG' := Lib.hid hgro'
            have HSUB := Lib.hid hsub
            have HYES := Lib.hid hyes
            have HNO := Lib.hid hno
            clear hgro' hsub hyes hno
            have lK' := K'.lt
            by_cases hlt : i < (cellsL r).length
            · have hd : decide ((i : Int) < ((cellsL r).length : Int)) = true := decide_eq_true (by omega)
              have hib : (i : Int) < ((cellsL r).length : Int) := by omega
              have hci : (cellsL r)[i]? = some (cellsL r)[i] := List.getElem?_eq_getElem hlt
              obtain ⟨d, hdd⟩ : ∃ d, d = (cellsL r)[i] := ⟨_, rfl⟩
              rw [← hdd] at hci
              clear hdd
              have HRD := Lib.hid (show hasC r d = true from (mem_cells r d).1 (List.mem_of_getElem? hci))
              have HTK := Lib.hid (show (cellsL r).take (i + 1) = (cellsL r).take i ++ [d] by rw [List.take_add_one, hci]; rfl)
              obtain ⟨q0, q1, q2⟩ := HCY.out i d hci
              have hBW4 : Below w2.heap.size w2 wr := hBW3.trans (grown_to hgr (Nat.le_refl _) hBW3.size)
              have m0 := (hBW4.cell (p := ⟨g, i * 3, none⟩) hgN).trans q0
              have m1 := (hBW4.cell (p := ⟨g, i * 3 + 1, none⟩) hgN).trans q1
              have m2 := (hBW4.cell (p := ⟨g, i * 3 + 2, none⟩) hgN).trans q2
              have lg : g < wr.heap.size := Nat.lt_of_lt_of_le hgN hBW4.size
              clear q0 q1 q2
              have s0 := (K').cell (k := 0) (by omega); have s1 := (K').cell (k := 1) (by omega); have s2 := (K').cell (k := 2) (by omega); have s3 := (K').cell (k := 3) (by omega); have s4 := (K').cell (k := 4) (by omega); have s5 := (K').cell (k := 5) (by omega); have s6 := (K').cell (k := 6) (by omega); have s7 := (K').cell (k := 7) (by omega)
              obtain ⟨W, hW⟩ : ∃ W, W = wr := ⟨_, rfl⟩
              subst hW
              cases hh : hasC k' d with
              | true =>
                have HA := Lib.hid (fun X => rhas_at k' d true HG'.out.fit hh X)
                go_wp2_with fail
                (refine wp_region_quiet (C := fun w' => Below W.heap.size W w') (by kernel_rfl) (by kernel_rfl) (Below.drew (Below.refl _ _)) ?_; (iterate 6 (refine wpQuiet_step (fun K hK => ?_); go_simp; first | (refine hK _ ?_; clear hK K) | (apply Exists.intro; refine ⟨fun W' hW' => ?_, hK _ ?_⟩; (focus (first | (with_reducible exact rfl) | (with_reducible exact ⟨rfl, rfl⟩) | (obtain ⟨hcq, hfq⟩ := bcell hW'; have hzq := hW'.size; (try go_simp); first | (with_reducible exact rfl) | (with_reducible exact ⟨rfl, rfl⟩) | (first | ((with_reducible refine Calls.mono (HA.out _) ?_); rintro e w9 ⟨rfl, hb9⟩; exact ⟨rfl, hW'.trans (hb9.mono hW'.size)⟩))))); clear hK K))); refine wpQuiet_nil ?_; intro w1q hb1q)
                have K5 := K'.below hb1q lK'
                have hgr5 := grownT hgr (grown_below hb1q _)
                clear m0 m1 m2 s0 s1 s2 s3 s4 s5 s6 s7 hgr K' hb1q
                go_wp2_with fail
                go_roundw
                case rel => exact ⟨gb, i + 1, k', rfl, by go_num, by omega, HG'.out, HSUB.out, K5, HYES.out, (fun h => by
                  obtain ⟨e1, e2⟩ := HNO.out h
                  refine ⟨e1, fun x hx hkx => ?_⟩
                  rw [HTK.out] at hx
                  rcases List.mem_append.1 hx with hx | hx
                  · exact e2 x hx hkx
                  · rw [List.mem_singleton.1 hx, ← e1, hh] at hkx
                    cases hkx), hgr5⟩
                case measure => simp [intOf]; omega
              | false =>
                have HA := Lib.hid (fun X => rhas_at k' d false HG'.out.fit hh X)
                go_wp2_with fail
                (refine wp_region_quiet (C := fun w' => Below W.heap.size W w') (by kernel_rfl) (by kernel_rfl) (Below.drew (Below.refl _ _)) ?_; (iterate 6 (refine wpQuiet_step (fun K hK => ?_); go_simp; first | (refine hK _ ?_; clear hK K) | (apply Exists.intro; refine ⟨fun W' hW' => ?_, hK _ ?_⟩; (focus (first | (with_reducible exact rfl) | (with_reducible exact ⟨rfl, rfl⟩) | (obtain ⟨hcq, hfq⟩ := bcell hW'; have hzq := hW'.size; (try go_simp); first | (with_reducible exact rfl) | (with_reducible exact ⟨rfl, rfl⟩) | (first | ((with_reducible refine Calls.mono (HA.out _) ?_); rintro e w9 ⟨rfl, hb9⟩; exact ⟨rfl, hW'.trans (hb9.mono hW'.size)⟩))))); clear hK K))); refine wpQuiet_nil ?_; intro w1q hb1q)
                have K5 := K'.below hb1q lK'
                have hgr5 := grownT hgr (grown_below hb1q _)
                clear m0 m1 m2 s0 s1 s2 s3 s4 s5 s6 s7 hgr K' hb1q hBW4 lg lK'
                obtain ⟨V, hV⟩ : ∃ V, V = w1q := ⟨_, rfl⟩
                subst hV
                go_wp2_with fail
                go_loopw [12, 13] (fun nv c wr => ∃ j : Nat, j ≤ (cellsL k).length ∧ c = .int .i64 j ∧ nv = .bool (((cellsL k).take j).any fun e => nearB fc (toI d) (toI e)) ∧ Below V.heap.size V wr) (fun _ c _ => (cellsL k).length - (intOf c).toNat)
                case atStart => exact ⟨0, by omega, rfl, rfl, Below.refl _ _⟩
                case round =>
                  obtain ⟨j, hj, rfl, rfl, hBV⟩ := hrel
                  obtain ⟨nr, hnr⟩ : ∃ nr, nr = ((cellsL k).take j).any fun e => nearB fc (toI d) (toI e) := ⟨_, rfl⟩
                  rw [← hnr]
                  have HNR := Lib.hid hnr
                  clear hnr
                  by_cases hlj : j < (cellsL k).length
                  · have hdj : decide ((j : Int) < ((cellsL k).length : Int)) = true := decide_eq_true (by omega)
                    have hjb : (j : Int) < ((cellsL k).length : Int) := by omega
                    have hcj : (cellsL k)[j]? = some (cellsL k)[j] := List.getElem?_eq_getElem hlj
                    obtain ⟨x, hxx⟩ : ∃ x, x = (cellsL k)[j] := ⟨_, rfl⟩
                    rw [← hxx] at hcj
                    clear hxx
                    have HAN := Lib.hid (show (((cellsL k).take (j + 1)).any fun e => nearB fc (toI d) (toI e)) = (nr || nearB fc (toI d) (toI x)) by rw [List.take_add_one, hcj, HNR.out]; simp)
                    have hBV2 : Below w2.heap.size w2 V := hBW3.trans (grown_to hgr5 (Nat.le_refl _) hBW3.size)
                    obtain ⟨q0, q1, q2⟩ := HCY.out i d hci
                    have hb2r : Below w2.heap.size w2 wr := hBV2.trans (hBV.mono hBV2.size)
                    have m0 := (hb2r.cell (p := ⟨g, i * 3, none⟩) hgN).trans q0
                    have m1 := (hb2r.cell (p := ⟨g, i * 3 + 1, none⟩) hgN).trans q1
                    have m2 := (hb2r.cell (p := ⟨g, i * 3 + 2, none⟩) hgN).trans q2
                    obtain ⟨n0, n1, n2⟩ := HC3.out j x hcj
                    have hg3r : wr.heap[g3]? = w3.heap[g3]? := (hBV.block g3 (Nat.lt_of_lt_of_le hg3 hgr5.size)).trans (hgr5.block g3 hg3 (fun e => hg3N (by injection e)))
                    have n0 := (cell_same hg3r (j * 3)).trans n0
                    have n1 := (cell_same hg3r (j * 3 + 1)).trans n1
                    have n2 := (cell_same hg3r (j * 3 + 2)).trans n2
                    have lg : g < wr.heap.size := Nat.lt_of_lt_of_le hgN hb2r.size
                    have lg3 : g3 < wr.heap.size := Nat.lt_of_lt_of_le (Nat.lt_of_lt_of_le hg3 hgr5.size) hBV.size
                    have HFA := Lib.hid (fun X => rfar_at d x X)
                    have HNB := Lib.hid (show nearB fc (toI d) (toI x) = ((fc && (farS (toI d) (toI x) == 1)) || (!fc && (farM (toI d) (toI x) == 1))) from rfl)
                    clear q0 q1 q2 hg3r hb2r hBV2
                    generalize farS (toI d) (toI x) = fs at *
                    generalize farM (toI d) (toI x) = fm at *
                    obtain ⟨X, hX⟩ : ∃ X, X = wr := ⟨_, rfl⟩
                    subst hX
                    go_wp2_with fail
                    (refine wp_region_quiet (C := fun w' => Below X.heap.size X w') (by kernel_rfl) (by kernel_rfl) (Below.drew (Below.refl _ _)) ?_; (iterate 14 (refine wpQuiet_step (fun K hK => ?_); go_simp; first | (refine hK _ ?_; clear hK K) | (apply Exists.intro; refine ⟨fun W' hW' => ?_, hK _ ?_⟩; (focus (first | (with_reducible exact rfl) | (with_reducible exact ⟨rfl, rfl⟩) | (obtain ⟨hcq, hfq⟩ := bcell hW'; have hzq := hW'.size; (try go_simp); first | (with_reducible exact rfl) | (with_reducible exact ⟨rfl, rfl⟩) | (first | ((with_reducible refine Calls.mono (HFA.out _) ?_); rintro e w9 ⟨rfl, hb9⟩; exact ⟨rfl, hW'.trans (hb9.mono hW'.size)⟩))))); clear hK K))); refine wpQuiet_nil ?_; intro w1q hb1q)
                    have hBX : Below V.heap.size V w1q := up hb1q hBV
                    clear m0 m1 m2 n0 n1 n2 hb1q hBV lg lg3
                    cases nr with
                    | true =>
                      go_wp2_with fail
                      go_roundw
                      case rel => exact ⟨j + 1, by omega, by go_num, by rw [HAN.out, Bool.true_or], hBX⟩
                      case measure => simp [intOf]; omega
                    | false =>
                      cases fc with
                      | true =>
                        cases hs : (fs == 1) with
                        | true =>
                          go_wp2_with fail
                          go_roundw
                          case rel => exact ⟨j + 1, by omega, by go_num, by rw [HAN.out, HNB.out, hs]; rfl, hBX⟩
                          case measure => simp [intOf]; omega
                        | false =>
                          go_wp2_with fail
                          go_roundw
                          case rel => exact ⟨j + 1, by omega, by go_num, by rw [HAN.out, HNB.out, hs]; rfl, hBX⟩
                          case measure => simp [intOf]; omega
                      | false =>
                        cases hs : (fm == 1) with
                        | true =>
                          go_wp2_with fail
                          go_roundw
                          case rel => exact ⟨j + 1, by omega, by go_num, by rw [HAN.out, HNB.out, hs]; rfl, hBX⟩
                          case measure => simp [intOf]; omega
                        | false =>
                          go_wp2_with fail
                          go_roundw
                          case rel => exact ⟨j + 1, by omega, by go_num, by rw [HAN.out, HNB.out, hs]; rfl, hBX⟩
                          case measure => simp [intOf]; omega
                  · obtain rfl : j = (cellsL k).length := by omega
                    have hdj : decide (((cellsL k).length : Int) < ((cellsL k).length : Int)) = false := decide_eq_false (by omega)
                    have HAL := Lib.hid (show nr = (cellsL k).any fun e => nearB fc (toI d) (toI e) by rw [HNR.out, List.take_length])
                    have K6 := K5.below hBV K5.lt
                    have hgr6 := grownT hgr5 (grown_below hBV _)
                    have hcle : cnt k ≤ cnt k' := by
                      cases gb with
                      | true => exact Nat.le_of_lt (HYES.out rfl)
                      | false => rw [(HNO.out rfl).1]; exact Nat.le_refl _
                    cases nr with
                    | true =>
                      have hBV2 : Below w2.heap.size w2 V := hBW3.trans (grown_to hgr5 (Nat.le_refl _) hBW3.size)
                      obtain ⟨q0, q1, q2⟩ := HCY.out i d hci
                      have hb2r : Below w2.heap.size w2 wr := hBV2.trans (hBV.mono hBV2.size)
                      have m0 := (hb2r.cell (p := ⟨g, i * 3, none⟩) hgN).trans q0
                      have m1 := (hb2r.cell (p := ⟨g, i * 3 + 1, none⟩) hgN).trans q1
                      have m2 := (hb2r.cell (p := ⟨g, i * 3 + 2, none⟩) hgN).trans q2
                      have lg : g < wr.heap.size := Nat.lt_of_lt_of_le hgN hb2r.size
                      have lK6 := K6.lt
                      have s0 := (K6).cell (k := 0) (by omega); have s1 := (K6).cell (k := 1) (by omega); have s2 := (K6).cell (k := 2) (by omega); have s3 := (K6).cell (k := 3) (by omega); have s4 := (K6).cell (k := 4) (by omega); have s5 := (K6).cell (k := 5) (by omega); have s6 := (K6).cell (k := 6) (by omega); have s7 := (K6).cell (k := 7) (by omega)
                      have HW := Lib.hid (fun X => rwith_at k' d HG'.out.fit X)
                      obtain ⟨sk, hsk⟩ : ∃ sk, sk = setC k' d := ⟨_, rfl⟩
                      have HGN := Lib.hid (show Gro (nbF fc) r (toI c0) sk by
                        rw [hsk]
                        obtain ⟨e, he, hn⟩ := List.any_eq_true.1 HAL.out.symm
                        exact gro_set HG'.out HSUB.out HRD.out hh ⟨e, he, hn⟩)
                      have HSN := Lib.hid (show ∀ p, hasI k p = true → hasI sk p = true from fun p hp => by rw [hsk]; exact set_sub (HSUB.out p hp))
                      have HCN := Lib.hid (show cnt k < cnt sk by rw [hsk]; exact Nat.lt_of_le_of_lt hcle (cnt_set hh))
                      rw [← hsk] at HW
                      clear hsk q0 q1 q2 hb2r hBV2
                      go_wp2_with fail
                      obtain ⟨X, hX⟩ : ∃ X, X = wr := ⟨_, rfl⟩
                      subst hX
                      (refine wp_region_quiet_tail 6 (fun w' => Below X.heap.size X w') (by kernel_rfl) (by kernel_rfl) (Below.drew (Below.refl _ _)) ?_; simp only [List.take_succ_cons, List.take_zero, List.drop_succ_cons, List.drop_zero]; (iterate 6 (refine wpQuiet_step (fun K hK => ?_); go_simp; first | (refine hK _ ?_; clear hK K) | (apply Exists.intro; refine ⟨fun W' hW' => ?_, hK _ ?_⟩; (focus (first | (with_reducible exact rfl) | (with_reducible exact ⟨rfl, rfl⟩) | (obtain ⟨hcq, hfq⟩ := bcell hW'; have hzq := hW'.size; (try go_simp); first | (with_reducible exact rfl) | (with_reducible exact ⟨rfl, rfl⟩) | (first | ((with_reducible refine Calls.mono (HW.out _) ?_); rintro e w9 ⟨rfl, hb9⟩; exact ⟨rfl, hW'.trans (hb9.mono hW'.size)⟩))))); clear hK K))); refine wpQuiet_nil ?_; intro w1q hb1q)
                      have K7 := K6.below hb1q lK6
                      have hgr7 := grownT hgr6 (grown_below hb1q _)
                      clear m0 m1 m2 s0 s1 s2 s3 s4 s5 s6 s7 K6 hgr6 hb1q hBV lg lK6 K5 hgr5
                      have lK7 := K7.lt
                      have s0 := (K7).cell (k := 0) (by omega); have s1 := (K7).cell (k := 1) (by omega); have s2 := (K7).cell (k := 2) (by omega); have s3 := (K7).cell (k := 3) (by omega); have s4 := (K7).cell (k := 4) (by omega); have s5 := (K7).cell (k := 5) (by omega); have s6 := (K7).cell (k := 6) (by omega); have s7 := (K7).cell (k := 7) (by omega)
                      have q0 := (K7).free 0; have q1 := (K7).free 1; have q2 := (K7).free 2; have q3 := (K7).free 3; have q4 := (K7).free 4; have q5 := (K7).free 5; have q6 := (K7).free 6; have q7 := (K7).free 7
                      go_wp2_with fail
                      exact ⟨⟨true, i + 1, sk, rfl, by go_num, by omega, HGN.out, HSN.out, K7.put sk, (fun _ => HCN.out), (fun h => by cases h), grownT hgr7 (grown_put w1q w2.heap.size sk)⟩, by simp [intOf]; omega⟩
                    | false =>
                      clear hBV
                      go_wp2_with fail
                      go_roundw
                      case rel => exact ⟨gb, i + 1, k', rfl, by go_num, by omega, HG'.out, HSUB.out, K6, HYES.out, (fun h => by
                        obtain ⟨e1, e2⟩ := HNO.out h
                        refine ⟨e1, fun x hx hkx => ?_⟩
                        rw [HTK.out] at hx
                        rcases List.mem_append.1 hx with hx | hx
                        · exact e2 x hx hkx
                        · rw [List.mem_singleton.1 hx]
                          intro e he
                          have := HAL.out
                          cases hne : nearB fc (toI d) (toI e) with
                          | false => rfl
                          | true =>
                            rw [List.any_eq_true.2 ⟨e, he, hne⟩] at this
                            cases this), hgr6⟩
                      case measure => simp [intOf]; omega
            · obtain rfl : i = (cellsL r).length := by omega
              have hd : decide (((cellsL r).length : Int) < ((cellsL r).length : Int)) = false := decide_eq_false (by omega)
              have hBW4 : Below w2.heap.size w2 wr := hBW3.trans (grown_to hgr (Nat.le_refl _) hBW3.size)
              go_wp2_with fail
              go_roundw
              case rel => exact ⟨gb, k', rfl, HG'.out, K', (fun h x hx hkx e he => by
                obtain ⟨e1, e2⟩ := HNO.out h
                rw [List.take_length] at e2
                rw [e1] at hkx he
                exact e2 x hx hkx e he), hBW4⟩
              case measure =>
                have c1 := cnt_congr (readS_box K)
                have c2 := cnt_congr (readS_box K')
                have c3 := cnt_le k
                have c4 := cnt_le k'
                rw [c1, c2]
                cases gb with
                | true =>
                  have := HYES.out rfl
                  show (if true = true then 600 - cnt k' else 0) < if true = true then 600 - cnt k else 0
                  rw [if_pos rfl, if_pos rfl]
                  omega
                | false =>
                  show (if false = true then 600 - cnt k' else 0) < if true = true then 600 - cnt k else 0
                  rw [if_neg Bool.false_ne_true, if_pos rfl]
                  omega
end Go.Proofs.YtadkaplafaeebaaGreatDoor
/-
  The reference's full, inner, Parts, Cavities.
-/
set_option linter.unusedVariables false
set_option linter.unusedSimpArgs false
namespace Go.Proofs.YtadkaplafaeebaaGreatDoor
open Go Go.RowKit Go.Shelf

def fullS : Sol := blkF 0 0 0 7 7 7
def innerS : Sol := blkF 1 1 1 6 6 6
theorem rblock_full (w : World) : Calls Tryz.prog 41 #[.agg #[.int .i64 (0), .int .i64 (0), .int .i64 (0), .int .i64 (7), .int .i64 (7), .int .i64 (7)]] w fun e' w' => e' = .returned (.tuple #[sol fullS, .int .i64 0]) ∧ Below w.heap.size w w' := rblock_in 0 0 0 7 7 7 w (by omega) (by omega) (by omega)
theorem rblock_inner (w : World) : Calls Tryz.prog 41 #[.agg #[.int .i64 (1), .int .i64 (1), .int .i64 (1), .int .i64 (6), .int .i64 (6), .int .i64 (6)]] w fun e' w' => e' = .returned (.tuple #[sol innerS, .int .i64 0]) ∧ Below w.heap.size w w' := rblock_in 1 1 1 6 6 6 w (by omega) (by omega) (by omega)
set_option maxRecDepth 100000 in
set_option maxHeartbeats 2000000 in
theorem rfull_ok (w : World) : Calls Tryz.prog 127 #[] w fun e w' => e = .returned (sol fullS) ∧ Below w.heap.size w w' := by
  have R0 : BoxS (w.alloc (.cells (solC fun _ => 0) 24)) w.heap.size (fun _ => 0) := BoxS.zero rfl
  have hB0 : Below w.heap.size w (w.alloc (.cells (solC fun _ => 0) 24)) := by repeat' (first | (with_reducible exact Below.refl _ _) | (with_reducible assumption) | (with_reducible refine Below.alloc ?_ ?_ _) | (with_reducible refine Below.drew ?_) | (with_reducible refine below_drewN ?_ _) | (with_reducible refine Below.setCell ?_ ?_ _) | go_size)
  have HB := Lib.hid (fun W => rblock_full W)
  obtain ⟨s, hs⟩ : ∃ s, s = fullS := ⟨_, rfl⟩
  rw [← hs] at HB ⊢
  clear hs
  go_enter Tryz.func127, Tryz.ntmps127
  go_wp2_with fail
  refine (HB.out _).mono ?_
  rintro e w1 ⟨rfl, b1⟩
  have R1 := (R0.below b1 R0.lt).alloc (.cells (solC s) 24)
  have O1 : BoxS (w1.alloc (.cells (solC s) 24)) w1.heap.size s := BoxS.new _ _
  have hB1q : Below w.heap.size w w1 := up b1 hB0
  have hB1 := hB1q.alloc hB1q.size (.cells (solC s) 24)
  clear R0 hB0 b1 hB1q
  go_upto_region 2 with fail
  obtain ⟨N, hN⟩ : ∃ N, N = w1.heap.size := ⟨_, rfl⟩
  obtain ⟨Y, hY⟩ : ∃ Y, Y = w1.alloc (.cells (solC s) 24) := ⟨_, rfl⟩
  rw [← hY] at R1 O1 hB1 ⊢
  rw [← hN] at O1 ⊢
  clear hY hN
  have lR : w.heap.size < Y.heap.size := R1.lt
  have lO : N < Y.heap.size := O1.lt
  have r0 := (R1).cell (k := 0) (by omega); have r1 := (R1).cell (k := 1) (by omega); have r2 := (R1).cell (k := 2) (by omega); have r3 := (R1).cell (k := 3) (by omega); have r4 := (R1).cell (k := 4) (by omega); have r5 := (R1).cell (k := 5) (by omega); have r6 := (R1).cell (k := 6) (by omega); have r7 := (R1).cell (k := 7) (by omega)
  have q0 := (R1).free 0; have q1 := (R1).free 1; have q2 := (R1).free 2; have q3 := (R1).free 3; have q4 := (R1).free 4; have q5 := (R1).free 5; have q6 := (R1).free 6; have q7 := (R1).free 7
  have o0 := (O1).cell (k := 0) (by omega); have o1 := (O1).cell (k := 1) (by omega); have o2 := (O1).cell (k := 2) (by omega); have o3 := (O1).cell (k := 3) (by omega); have o4 := (O1).cell (k := 4) (by omega); have o5 := (O1).cell (k := 5) (by omega); have o6 := (O1).cell (k := 6) (by omega); have o7 := (O1).cell (k := 7) (by omega)
  go_wp2_with fail
  refine bodyPost_ret (res_s (R1.put s) Tryz.results127 rfl) rfl ⟨rfl, ?_⟩
  exact below_put8 hB1 (Nat.le_refl _) s
set_option maxRecDepth 100000 in
set_option maxHeartbeats 2000000 in
theorem rinner_ok (w : World) : Calls Tryz.prog 128 #[] w fun e w' => e = .returned (sol innerS) ∧ Below w.heap.size w w' := by
  have R0 : BoxS (w.alloc (.cells (solC fun _ => 0) 24)) w.heap.size (fun _ => 0) := BoxS.zero rfl
  have hB0 : Below w.heap.size w (w.alloc (.cells (solC fun _ => 0) 24)) := by repeat' (first | (with_reducible exact Below.refl _ _) | (with_reducible assumption) | (with_reducible refine Below.alloc ?_ ?_ _) | (with_reducible refine Below.drew ?_) | (with_reducible refine below_drewN ?_ _) | (with_reducible refine Below.setCell ?_ ?_ _) | go_size)
  have HB := Lib.hid (fun W => rblock_inner W)
  obtain ⟨s, hs⟩ : ∃ s, s = innerS := ⟨_, rfl⟩
  rw [← hs] at HB ⊢
  clear hs
  go_enter Tryz.func128, Tryz.ntmps128
  go_wp2_with fail
  refine (HB.out _).mono ?_
  rintro e w1 ⟨rfl, b1⟩
  have R1 := (R0.below b1 R0.lt).alloc (.cells (solC s) 24)
  have O1 : BoxS (w1.alloc (.cells (solC s) 24)) w1.heap.size s := BoxS.new _ _
  have hB1q : Below w.heap.size w w1 := up b1 hB0
  have hB1 := hB1q.alloc hB1q.size (.cells (solC s) 24)
  clear R0 hB0 b1 hB1q
  go_upto_region 2 with fail
  obtain ⟨N, hN⟩ : ∃ N, N = w1.heap.size := ⟨_, rfl⟩
  obtain ⟨Y, hY⟩ : ∃ Y, Y = w1.alloc (.cells (solC s) 24) := ⟨_, rfl⟩
  rw [← hY] at R1 O1 hB1 ⊢
  rw [← hN] at O1 ⊢
  clear hY hN
  have lR : w.heap.size < Y.heap.size := R1.lt
  have lO : N < Y.heap.size := O1.lt
  have r0 := (R1).cell (k := 0) (by omega); have r1 := (R1).cell (k := 1) (by omega); have r2 := (R1).cell (k := 2) (by omega); have r3 := (R1).cell (k := 3) (by omega); have r4 := (R1).cell (k := 4) (by omega); have r5 := (R1).cell (k := 5) (by omega); have r6 := (R1).cell (k := 6) (by omega); have r7 := (R1).cell (k := 7) (by omega)
  have q0 := (R1).free 0; have q1 := (R1).free 1; have q2 := (R1).free 2; have q3 := (R1).free 3; have q4 := (R1).free 4; have q5 := (R1).free 5; have q6 := (R1).free 6; have q7 := (R1).free 7
  have o0 := (O1).cell (k := 0) (by omega); have o1 := (O1).cell (k := 1) (by omega); have o2 := (O1).cell (k := 2) (by omega); have o3 := (O1).cell (k := 3) (by omega); have o4 := (O1).cell (k := 4) (by omega); have o5 := (O1).cell (k := 5) (by omega); have o6 := (O1).cell (k := 6) (by omega); have o7 := (O1).cell (k := 7) (by omega)
  go_wp2_with fail
  refine bodyPost_ret (res_s (R1.put s) Tryz.results128 rfl) rfl ⟨rfl, ?_⟩
  exact below_put8 hB1 (Nat.le_refl _) s
set_option maxRecDepth 100000 in
set_option maxHeartbeats 2000000 in
theorem rparts_ok (f : Sol) (w : World) (hf : Fit f) :
    Calls Tryz.prog 73 #[sol f] w fun e w' => ∃ v, e = .returned v ∧ OwnS (w.heap.size + 1) w' v (partsF f) ∧ Below w.heap.size w w' := by
  have HC := Lib.hid (fun W => rclasses_ok false f W hf)
  have S0 : BoxS (w.alloc (.cells (solC f) 24)) w.heap.size f := BoxS.new _ _
  have hB0 : Below w.heap.size w (w.alloc (.cells (solC f) 24)) := by repeat' (first | (with_reducible exact Below.refl _ _) | (with_reducible assumption) | (with_reducible refine Below.alloc ?_ ?_ _) | (with_reducible refine Below.drew ?_) | (with_reducible refine below_drewN ?_ _) | (with_reducible refine Below.setCell ?_ ?_ _) | go_size)
  have s0 := (S0).cell (k := 0) (by omega); have s1 := (S0).cell (k := 1) (by omega); have s2 := (S0).cell (k := 2) (by omega); have s3 := (S0).cell (k := 3) (by omega); have s4 := (S0).cell (k := 4) (by omega); have s5 := (S0).cell (k := 5) (by omega); have s6 := (S0).cell (k := 6) (by omega); have s7 := (S0).cell (k := 7) (by omega)
  go_enter Tryz.func73, Tryz.ntmps73
  go_wp2_with fail
  refine (HC.out _).mono ?_
  rintro e w1 ⟨v, rfl, hrow, hnil, b1⟩
  have hB1 : Below w.heap.size w w1 := up b1 hB0
  clear s0 s1 s2 s3 s4 s5 s6 s7
  go_wp2_with fail
  go_ret
  exact ⟨v, rfl, ⟨row_base hrow (by simp), hnil⟩, hB1⟩
theorem full_all : ∀ c : Cl, hasC fullS c = true := by
  have h : (List.range 512).all (fun i => hasC fullS ⟨i % 512, Nat.mod_lt _ (by omega)⟩) = true := by kernel_rfl
  intro c
  have := List.all_eq_true.1 h c.1 (List.mem_range.2 c.2)
  have e : (⟨c.1 % 512, Nat.mod_lt _ (by omega)⟩ : Cl) = c := Fin.ext (Nat.mod_eq_of_lt c.2)
  rwa [e] at this
def innB (p : I3) : Bool := decide (1 ≤ p.1 ∧ p.1 ≤ 6 ∧ 1 ≤ p.2.1 ∧ p.2.1 ≤ 6 ∧ 1 ≤ p.2.2 ∧ p.2.2 ≤ 6)
theorem inner_all : ∀ c : Cl, hasC innerS c = innB (toI c) := by
  have h : (List.range 512).all (fun i => hasC innerS ⟨i % 512, Nat.mod_lt _ (by omega)⟩ == innB (toI ⟨i % 512, Nat.mod_lt _ (by omega)⟩)) = true := by kernel_rfl
  intro c
  have := List.all_eq_true.1 h c.1 (List.mem_range.2 c.2)
  have e : (⟨c.1 % 512, Nat.mod_lt _ (by omega)⟩ : Cl) = c := Fin.ext (Nat.mod_eq_of_lt c.2)
  rw [e] at this
  exact beq_iff_eq.1 this
theorem full_fit : Fit fullS := blkZ_fit fit0 _ _ _ _ _ _
theorem inner_fit : Fit innerS := blkZ_fit fit0 _ _ _ _ _ _
theorem less_void {f : Sol} (hf : Fit f) : eqS (lessF fullS f) (voidF f) = true := by
  refine has_ext (less_fit full_fit f) (void_fit f) fun p => ?_
  rw [less_has, has_void hf]
  by_cases h7 : In7 p
  · rw [decide_eq_true h7]
    have := full_all (ofI p)
    rw [← has_cell, toI_ofI h7] at this
    rw [this]
  · rw [decide_eq_false h7, hasI_out h7]
theorem in_within {g : Sol} (hg : Fit g) (he : emptyS g = false) : inB g innerS = withinF g := by
  rw [Bool.eq_iff_iff, in_iff hg, within_iff hg he]
  constructor
  · intro h p hp
    obtain ⟨c, _, e⟩ := cl_of' (h p hp)
    have := h p hp
    rw [← e, has_cell, inner_all] at this
    rw [← e]
    unfold innB at this
    have h2 := of_decide_eq_true this
    exact h2
  · intro h p hp
    obtain ⟨c, _, e⟩ := cl_of' hp
    rw [← e, has_cell, inner_all]
    unfold innB
    rw [e]
    exact decide_eq_true (h p hp)
set_option maxRecDepth 100000 in
set_option maxHeartbeats 4000000 in
theorem rcav_ok (f : Sol) (w : World) (hf : Fit f) :
    Calls Tryz.prog 75 #[sol f] w fun e w' => ∃ v, e = .returned v ∧ OwnS (w.heap.size + 1) w' v (cavF f) ∧ Below w.heap.size w w' := by
  obtain ⟨i0, hi, hz0, hz1, hz2⟩ := info_parts info_sol
  have HL := Lib.hid (fun W => (rless_ok fullS f W full_fit hf).mono fun e w' h => (show e = .returned (sol (voidF f)) ∧ Below W.heap.size W w' from by rw [← sol_congr (eqS_at (less_void hf))]; exact h))
  have HCL : Hid (∀ W, Calls Tryz.prog 124 #[sol (voidF f), .bool true] W fun e w' => ∃ v, e = .returned v ∧ w'.ownsRow (W.heap.size + 1 + 1) 24 8 v (clsF facingL (voidF f)).length (flatS (clsF facingL (voidF f))) ∧ (v = .slice none 0 0 ↔ clsF facingL (voidF f) = []) ∧ Below W.heap.size W w') := Lib.hid fun W => rclasses_ok true (voidF f) W (void_fit f)
  have HE := Lib.hid (cls_each facingL (voidF f) (void_fit f))
  have HN := Lib.hid (clsF_len facingL (voidF f))
  have HCV := Lib.hid (show cavF f = (clsF facingL (voidF f)).filter withinF from rfl)
  have S0 : BoxS (w.alloc (.cells (solC f) 24)) w.heap.size f := BoxS.new _ _
  have hB0 : Below w.heap.size w (w.alloc (.cells (solC f) 24)) := by repeat' (first | (with_reducible exact Below.refl _ _) | (with_reducible assumption) | (with_reducible refine Below.alloc ?_ ?_ _) | (with_reducible refine Below.drew ?_) | (with_reducible refine below_drewN ?_ _) | (with_reducible refine Below.setCell ?_ ?_ _) | go_size)
  clear hf
  go_enter Tryz.func75, Tryz.ntmps75
  go_upto_region 1 with fail
  obtain ⟨U, hU⟩ : ∃ U, U = w.alloc (.cells (solC f) 24) := ⟨_, rfl⟩
  rw [← hU] at S0 hB0 ⊢
  clear hU
  have lS := S0.lt
  have hCd : Below U.heap.size U U.drew := Below.drew (Below.refl _ _)
  refine wp_region_relW (fun (i : Nat) (v : Value) (W : World) => match i with | 0 => v = sol fullS | 1 => v = sol f | 2 => v = sol (voidF f) | 3 => ∃ b, W.ownsRow b 24 8 v (clsF facingL (voidF f)).length (flatS (clsF facingL (voidF f))) | _ => ∃ b, W.ownsRow b 24 8 v (clsF facingL (voidF f)).length (flatS (clsF facingL (voidF f)))) (fun W => Below U.heap.size U W) (by kernel_rfl) (by kernel_rfl) (by kernel_rfl) hCd (by kernel_rfl) ?hst ?hop ?hend
  case hst =>
    intro j v W W' hb hv
    rcases j with _ | _ | _ | _ | _ | j
    all_goals first | exact hv | (obtain ⟨b, hr⟩ := hv; exact ⟨b, row_below hr hb⟩) | (obtain ⟨b, hr, hn⟩ := hv; exact ⟨b, row_below hr hb, hn⟩)
  case hop =>
    intro i o ho a' W hC hin hfix
    have A3 := S0.below hC lS
    have a0 := (A3).cell (k := 0) (by omega); have a1 := (A3).cell (k := 1) (by omega); have a2 := (A3).cell (k := 2) (by omega); have a3 := (A3).cell (k := 3) (by omega); have a4 := (A3).cell (k := 4) (by omega); have a5 := (A3).cell (k := 5) (by omega); have a6 := (A3).cell (k := 6) (by omega); have a7 := (A3).cell (k := 7) (by omega)
    have q1 : a'.tmps[1]? = some (.pointer (some ⟨w.heap.size, 0, none⟩)) := hfix 1 (by kernel_rfl)
    have hi : i < 5 := (Array.getElem?_eq_some_iff.1 ho).1
    rcases (show i = 0 ∨ i = 1 ∨ i = 2 ∨ i = 3 ∨ i = 4 by omega) with rfl | rfl | rfl | rfl | rfl
    · obtain rfl := Option.some.inj ho
      refine ⟨rfl, fun K hK => ?_⟩
      clear hin hfix ho
      go_simp
      refine (rfull_ok _).mono ?_
      rintro e W2 ⟨rfl, hb⟩
      exact hK _ _ rfl (hC.trans (hb.mono hC.size)) hb
    · obtain rfl := Option.some.inj ho
      refine ⟨rfl, fun K hK => ?_⟩
      clear hin hfix ho
      go_simp
      exact hK _ _ rfl hC (Below.refl _ _)
    · obtain ⟨v0, rfl, h0⟩ := hin 0 6 (by kernel_rfl) (by kernel_rfl)
      obtain ⟨v1, rfl, h1⟩ := hin 1 7 (by kernel_rfl) (by kernel_rfl)
      obtain rfl := Option.some.inj ho
      refine ⟨rfl, fun K hK => ?_⟩
      clear hin hfix ho
      go_simp
      refine (HL.out _).mono ?_
      rintro e W2 ⟨rfl, hb⟩
      exact hK _ _ rfl (hC.trans (hb.mono hC.size)) hb
    · obtain ⟨v2, rfl, h2⟩ := hin 2 8 (by kernel_rfl) (by kernel_rfl)
      obtain rfl := Option.some.inj ho
      refine ⟨rfl, fun K hK => ?_⟩
      clear hin hfix ho
      go_simp
      refine (HCL.out _).mono ?_
      rintro e W2 ⟨v, rfl, hrow, _, hb⟩
      exact hK _ _ ⟨_, hrow⟩ (hC.trans (hb.mono hC.size)) hb
    · obtain ⟨v3, ⟨b3, hr3⟩, h3⟩ := hin 3 9 (by kernel_rfl) (by kernel_rfl)
      obtain rfl := Option.some.inj ho
      refine ⟨rfl, fun K hK => ?_⟩
      clear hin hfix ho
      go_simp
      exact hK _ _ ⟨b3, hr3⟩ hC (Below.refl _ _)
  case hend =>
  intro vals W hC hV
  have z0 := hV 0 (by decide)
  have z1 := hV 1 (by decide)
  have z2 := hV 2 (by decide)
  have y4 := hV 4 (by decide)
  clear hV
  simp only at z0 z1 z2 y4
  have hr : List.range 5 = [0, 1, 2, 3, 4] := rfl
  simp only [List.size_toArray, List.length_cons, List.length_nil, Nat.reduceAdd, List.drop_succ_cons, List.drop_zero, putA, hr, List.foldl_cons, List.foldl_nil, dstR, List.getElem?_toArray, List.getElem?_cons_succ, List.getElem?_cons_zero, Option.bind_some, Act.put, List.setIfInBounds_toArray, List.set_cons_succ, List.set_cons_zero, z0, z1, z2]
  clear hr z0 z1 z2
  obtain ⟨x3, hx3⟩ : ∃ v, v = vals 3 := ⟨_, rfl⟩
  obtain ⟨x4, hx4⟩ : ∃ v, v = vals 4 := ⟨_, rfl⟩
  rw [← hx3, ← hx4]
  rw [← hx4] at y4
  clear hx3 hx4 vals
  have hB1 : Below w.heap.size w W := up hC hB0
  have hsW : w.heap.size + 1 ≤ W.heap.size := Nat.le_trans lS hC.size
  generalize clsF facingL (voidF f) = L at *
  obtain ⟨b4, hr4⟩ := y4
  obtain ⟨p, cap, rfl⟩ := own_len hr4
  clear S0 hB0 hC hCd lS HL HCL
  have hLn := HN.out
  go_wp2_with fail
  go_loopw [4, 5] (fun o c wr => ∃ i : Nat, i ≤ L.length ∧ c = .int .i64 i ∧ OwnS W.heap.size wr o ((L.take i).filter withinF) ∧ Below W.heap.size W wr) (fun _ c _ => L.length - (intOf c).toNat)
  case atStart => exact ⟨0, by omega, rfl, ownS_nil _ _, Below.refl _ _⟩
  case round =>
    obtain ⟨i, hi', rfl, ho, hB⟩ := hrel
    by_cases hlt : i < L.length
    · have hd : decide ((i : Int) < (L.length : Int)) = true := decide_eq_true (by omega)
      have hib : (i : Int) < (L.length : Int) := by omega
      obtain ⟨g, rfl, hg, hcs⟩ := rowS_pos hr4 (by omega)
      have hci : L[i]? = some L[i] := List.getElem?_eq_getElem hlt
      obtain ⟨m, hm⟩ : ∃ m, m = L[i] := ⟨_, rfl⟩
      rw [← hm] at hci
      clear hm
      obtain ⟨hme, hmf⟩ := HE.out m (List.mem_of_getElem? hci)
      have HM := Lib.hid (fun X => (rin_ok m innerS X hmf inner_fit).mono fun e w' h => (show e = .returned (.bool (withinF m)) ∧ Below X.heap.size X w' from by rw [← in_within hmf hme, ← rin_is hmf]; exact h))
      have HI := Lib.hid (fun X => rinner_ok X)
      have HTK := Lib.hid (show (L.take (i + 1)).filter withinF = (L.take i).filter withinF ++ if withinF m = true then [m] else [] by
        rw [List.take_add_one, hci, List.filter_append]
        simp only [Option.toList_some, List.filter_cons, List.filter_nil])
      have hfl : ((L.take i).filter withinF).length ≤ 512 := Nat.le_trans (List.length_filter_le _ _) (by rw [List.length_take]; omega)
      have x := fun j hj => (hB.cell (p := ⟨g, i * 8 + j, none⟩) hg).trans (hcs i m hci j hj)
      have x0 := x 0 (by omega); have x1 := x 1 (by omega); have x2 := x 2 (by omega); have x3 := x 3 (by omega); have x4 := x 4 (by omega); have x5 := x 5 (by omega); have x6 := x 6 (by omega); have x7 := x 7 (by omega)
      rw [Nat.add_zero] at x0
      have HCI := Lib.hid hci
      have lg : g < wr.heap.size := Nat.lt_of_lt_of_le hg hB.size
      clear x hme hmf hci
      generalize withinF m = wb at *
      generalize innerS = inn at *
      go_wp2_with fail
      obtain ⟨X, hX⟩ : ∃ X, X = wr := ⟨_, rfl⟩
      subst hX
      (refine wp_region_quiet (C := fun w' => Below X.heap.size X w') (by kernel_rfl) (by kernel_rfl) (Below.drew (Below.refl _ _)) ?_; (iterate 6 (refine wpQuiet_step (fun K hK => ?_); go_simp; first | (refine hK _ ?_; clear hK K) | (apply Exists.intro; refine ⟨fun W' hW' => ?_, hK _ ?_⟩; (focus (first | (with_reducible exact rfl) | (with_reducible exact ⟨rfl, rfl⟩) | (obtain ⟨hcq, hfq⟩ := bcell hW'; have hzq := hW'.size; (try go_simp); first | (with_reducible exact rfl) | (with_reducible exact ⟨rfl, rfl⟩) | (first | ((with_reducible refine Calls.mono (HI.out _) ?_); rintro e w9 ⟨rfl, hb9⟩; exact ⟨rfl, hW'.trans (hb9.mono hW'.size)⟩) | ((with_reducible refine Calls.mono (HM.out _) ?_); rintro e w9 ⟨rfl, hb9⟩; exact ⟨rfl, hW'.trans (hb9.mono hW'.size)⟩))))); clear hK K))); refine wpQuiet_nil ?_; intro w1q hb1q)
      have hB2 : Below W.heap.size W w1q := up hb1q hB
      have ho2 := ownS_below ho hb1q
      have lg2 : g < w1q.heap.size := Nat.lt_of_lt_of_le lg hb1q.size
      clear x0 x1 x2 x3 x4 x5 x6 x7 ho hB lg hb1q
      cases wb with
      | false =>
        go_wp2_with fail
        go_roundw
        case rel => exact ⟨i + 1, by omega, by go_num, by rw [HTK.out]; simpa using ho2, hB2⟩
        case measure => simp [intOf]; omega
      | true =>
        have x := fun j hj => (hB2.cell (p := ⟨g, i * 8 + j, none⟩) hg).trans (hcs i m HCI.out j hj)
        have x0 := x 0 (by omega); have x1 := x 1 (by omega); have x2 := x 2 (by omega); have x3 := x 3 (by omega); have x4 := x 4 (by omega); have x5 := x 5 (by omega); have x6 := x 6 (by omega); have x7 := x 7 (by omega)
        rw [Nat.add_zero] at x0
        clear x
        have hs2 := hB2.size
        have row3 := ho2.1
        go_wp2_with (at_builtin; refine wpList_append_own _ rfl _ _ 58 rfl W.heap.size 24 i0 (sol fun _ => 0) 8 64 under_sols hi hz0 hz1 hz2 rfl (by decide) u4 _ _ rfl (row3.alloc _) ⟨w1q.heap.size, 0, none⟩ 1 1 (solL m) rfl rfl (solL_cells (BoxS.new' rfl)) (solL_one m) (by simp only [maxLen]; omega) (by omega) (by simp; omega) ?_; intro v' w4 hown' hgrow _; obtain ⟨g', cap', rfl⟩ := ownsRow_succ hown')
        have hb4 : Below W.heap.size w1q w4 := ((Below.refl W.heap.size w1q).alloc (by omega) _).grown hgrow (by simp; omega) fun j ej => (row3.lt j ej).1
        refine ⟨⟨i + 1, by omega, by go_num, ?_, hB2.trans (hb4.mono (Nat.le_refl _))⟩, by simp [intOf]; omega⟩
        rw [HTK.out, if_pos rfl]
        refine ownS_app ?_ (by simp)
        rw [flatS_snoc, List.length_append]
        exact hown'
    · obtain rfl : i = L.length := by omega
      have hd : decide ((L.length : Int) < (L.length : Int)) = false := decide_eq_false (by omega)
      rw [List.take_length] at ho
      go_wp2_with fail
      go_ret
      exact ⟨u4, rfl, by rw [HCV.out]; exact ownS_base ho hsW, up hB hB1⟩
end Go.Proofs.YtadkaplafaeebaaGreatDoor
