/-
  Parts; isWithin.
-/
import Derived.Test.YtadkaplafaeebaaGreatDoorClsT
import Derived.Test.YtadkaplafaeebaaGreatDoorPkE
set_option linter.unusedVariables false
set_option linter.unusedSimpArgs false
namespace Go.Proofs.YtadkaplafaeebaaGreatDoor
open Go Go.RowKit Go.Shelf

theorem row_base {W : World} {b b' size n : Nat} {e : TypeId} {v : Value} {xs : List Value} (h : W.ownsRow b e size v n xs) (hb : b' ≤ b) : W.ownsRow b' e size v n xs := by
  refine ⟨h.1, ?_⟩
  rcases h.2 with h4 | ⟨g, cap, cur, e1, e2, e3⟩
  · exact .inl h4
  · exact .inr ⟨g, cap, cur, e1, Nat.le_trans hb e2, e3⟩
/-- A slice that holds these solids, in blocks of the call's own. -/
def OwnSols (w W : World) (v : Value) (l : List Sol) : Prop := W.ownsRow w.heap.size 24 8 v l.length (flatS l) ∧ (v = .slice none 0 0 ↔ l = [])
def partsF (f : Sol) : List Sol := clsF touchL f
set_option maxRecDepth 100000 in
set_option maxHeartbeats 4000000 in
theorem parts_ok (f : Sol) (w : World) (hf : Fit f) (hT : Tab64 w) :
    Calls Tryz.prog 72 #[sol f] w fun e w' => ∃ v, e = .returned v ∧ OwnSols w w' v (partsF f) ∧ Below w.heap.size w w' := by
  have HF := Lib.hid hf
  have HT := Lib.hid hT
  clear hf hT
  have hA : Below w.heap.size w (w.alloc (.cells (solC f) 24)) := by repeat' (first | (with_reducible exact Below.refl _ _) | (with_reducible assumption) | (with_reducible refine Below.alloc ?_ ?_ _) | (with_reducible refine Below.drew ?_) | (with_reducible refine below_drewN ?_ _) | (with_reducible refine Below.setCell ?_ ?_ _) | go_size)
  go_enter Tryz.func72, Tryz.ntmps72
  go_wp2_with fail
  refine (classesT_ok f _ HF.out (HT.out.below hA (Nat.le_refl _))).mono ?_
  rintro e w1 ⟨v, rfl, h1, h2, h3⟩
  go_wp2_with fail
  go_ret
  refine ⟨v, rfl, ⟨row_base h1 (by simp <;> omega), h2⟩, hA.trans (h3.mono (by simp))⟩
/-- No cell at the border: of a solid that has cells. -/
def withinF (f : Sol) : Bool := decide (0 < lowX f ∧ 0 < lowY f ∧ 0 < lowZ f ∧ highX f < 8 ∧ highY f < 8 ∧ highZ f < 8)
set_option maxRecDepth 100000 in
set_option maxHeartbeats 4000000 in
theorem isWithin_is (f : Sol) (b : Bool) (w : World) (hf : Fit f) (he : emptyS f = false) (hb : withinF f = b) :
    Calls Tryz.prog 126 #[sol f] w fun e w' => e = .returned (.bool b) ∧ Below w.heap.size w w' := by
  have HB := fun W => bounds_yes f W hf he
  clear hf he
  unfold withinF at hb
  obtain ⟨lx, hlx⟩ : ∃ x, x = lowX f := ⟨_, rfl⟩
  obtain ⟨ly, hly⟩ : ∃ x, x = lowY f := ⟨_, rfl⟩
  obtain ⟨lz, hlz⟩ : ∃ x, x = lowZ f := ⟨_, rfl⟩
  obtain ⟨hx, hhx⟩ : ∃ x, x = highX f := ⟨_, rfl⟩
  obtain ⟨hy, hhy⟩ : ∃ x, x = highY f := ⟨_, rfl⟩
  obtain ⟨hz, hhz⟩ : ∃ x, x = highZ f := ⟨_, rfl⟩
  rw [← hlx, ← hly, ← hlz, ← hhx, ← hhy, ← hhz] at hb HB
  clear hlx hly hlz hhx hhy hhz
  have HBB := Lib.hid HB
  have H := Lib.hid hb
  clear HB hb
  have hA : Below w.heap.size w (w.alloc (.cells (solC f) 24)) := by repeat' (first | (with_reducible exact Below.refl _ _) | (with_reducible assumption) | (with_reducible refine Below.alloc ?_ ?_ _) | (with_reducible refine Below.drew ?_) | (with_reducible refine below_drewN ?_ _) | (with_reducible refine Below.setCell ?_ ?_ _) | go_size)
  go_enter Tryz.func126, Tryz.ntmps126
  go_wp2_with fail
  refine (HBB.out _).mono ?_
  rintro e w1 ⟨rfl, hb1⟩
  have hB1 := hA.trans (hb1.mono (by simp))
  clear hA hb1
  go_wp2
  all_goals
    go_ret
    refine ⟨retB ?_, hB1.alloc hB1.size _⟩
    have H2 := H.out
    rw [← H2]
    first | exact decide_eq_decide.2 (by omega) | exact (decide_eq_true (by omega)).symm | exact (decide_eq_false (by omega)).symm
end Go.Proofs.YtadkaplafaeebaaGreatDoor
/-
  Cavities.
-/
set_option linter.unusedVariables false
set_option linter.unusedSimpArgs false
namespace Go.Proofs.YtadkaplafaeebaaGreatDoor
open Go Go.RowKit Go.Shelf

/-- The cells that are not in a solid. -/
def voidF (f : Sol) : Sol := fun i => 18446744073709551615 - f i
def voidK (f : Sol) (k : Nat) : Sol := fun i => if i < k then voidF f i else 0
theorem void_fit (f : Sol) : Fit (voidF f) := fun i => by unfold voidF; omega
theorem voidK_succ (f : Sol) (k : Nat) : up8 (voidK f k) k (voidF f k) = voidK f (k + 1) := by
  funext i
  unfold up8 voidK
  by_cases h : i = k
  · subst h; rw [if_pos rfl, if_pos (by omega)]
  · rw [if_neg h]
    by_cases h2 : i < k
    · rw [if_pos h2, if_pos (by omega)]
    · rw [if_neg h2, if_neg (by omega)]
theorem flatS_get : ∀ (l : List Sol) (i j : Nat) (f : Sol), l[i]? = some f → j < 8 → (flatS l)[8 * i + j]? = some (.int .u64 (f j : Nat))
  | [], i, j, f, h, _ => by simp at h
  | g :: l, 0, j, f, h, hj => by
    simp only [List.getElem?_cons_zero, Option.some.injEq] at h
    subst h
    have : flatS (g :: l) = solL g ++ flatS l := by simp [flatS]
    rw [this, List.getElem?_append_left (by rw [solL_len]; omega)]
    simp only [Nat.mul_zero, Nat.zero_add]
    rcases lt8 hj with rfl | rfl | rfl | rfl | rfl | rfl | rfl | rfl <;> rfl
  | g :: l, i + 1, j, f, h, hj => by
    have e : flatS (g :: l) = solL g ++ flatS l := by simp [flatS]
    rw [e, List.getElem?_append_right (by rw [solL_len]; omega), solL_len]
    have := flatS_get l i j f (by simpa using h) hj
    rw [show 8 * (i + 1) + j - 8 = 8 * i + j by omega]
    exact this
theorem cls_each (nb : I3 → List I3) (f : Sol) (hf : Fit f) : ∀ c ∈ clsF nb f, emptyS c = false ∧ Fit c := by
  have : ∀ (l : List Cl) (t : Sol × List Sol), Fit t.1 → (∀ c ∈ t.2, emptyS c = false ∧ Fit c) → ∀ c ∈ (l.foldl (clsStep nb) t).2, emptyS c = false ∧ Fit c := by
    intro l
    induction l with
    | nil => intro t _ h; exact h
    | cons x l ih =>
      intro t ht h
      refine ih _ (clsStep_fit ht x) ?_
      intro c hc
      unfold clsStep at hc
      simp only at hc
      by_cases he : emptyS (dfs nb 513 (toI x) (t.1, fun _ => 0)).2 = true
      · rw [if_pos he] at hc; exact h c hc
      · rw [if_neg he, List.mem_append] at hc
        rcases hc with hc | hc
        · exact h c hc
        · rw [List.mem_singleton] at hc
          subst hc
          exact ⟨by simpa using he, (dfs_fit nb 513 (toI x) (t.1, fun _ => 0) ht fit0).2⟩
  exact this (cellsL f) (f, []) hf (by simp)
theorem addr_add (g k : Nat) : (⟨g, 0, none⟩ : Addr).add k = ⟨g, k, none⟩ := by simp [Addr.add]; try omega
def cavF (f : Sol) : List Sol := (clsF facingL (voidF f)).filter withinF

theorem bits_not {x : Nat} (hx : x < 18446744073709551616) : bits .xor .u64 (if IntKind.u64.signed = true then -1 else IntKind.u64.max) (x : Int) = ((18446744073709551615 - x : Nat) : Int) := by
  have e : (if IntKind.u64.signed = true then (-1 : Int) else IntKind.u64.max) = ((18446744073709551615 : Nat) : Int) := by decide
  rw [e, bits_xor_u64_nat _ _ (by omega) hx]
  congr 1
  apply Nat.eq_of_testBit_eq
  intro i
  have h1 := Nat.testBit_two_pow_sub_succ (x := x) (n := 64) hx i
  have h2 := Nat.testBit_two_pow_sub_one 64 i
  rw [show (18446744073709551615 - x) = 2 ^ 64 - (x + 1) by omega, h1, Nat.testBit_xor, show (18446744073709551615 : Nat) = 2 ^ 64 - 1 by decide, h2]
  by_cases hi : i < 64
  · rw [decide_eq_true hi]; simp
  · rw [decide_eq_false hi, Nat.testBit_lt_two_pow (Nat.lt_of_lt_of_le hx (by rw [show (18446744073709551616 : Nat) = 2 ^ 64 by decide]; exact Nat.pow_le_pow_right (by omega) (by omega)))]; rfl
set_option maxRecDepth 100000 in
set_option maxHeartbeats 4000000 in
theorem cav_ok (f : Sol) (w : World) (hf : Fit f) (hT : Tab64 w) :
    Calls Tryz.prog 74 #[sol f] w fun e w' => ∃ v, e = .returned v ∧ OwnSols w w' v (cavF f) ∧ Below w.heap.size w w' := by
  have HF := Lib.hid hf
  have HT := Lib.hid hT
  clear hf hT
  obtain ⟨i0, hi, hz0, hz1, hz2⟩ := info_parts info_sol
  go_enter Tryz.func74, Tryz.ntmps74
  go_wp2
  go_loopw [10] (fun c wr => ∃ k : Nat, k ≤ 8 ∧ c = .int .i64 k ∧ BoxS wr (w.heap.size + 1) (voidK f k) ∧ Below w.heap.size w wr) (fun c _ => 8 - (intOf c).toNat)
  case atStart => exact ⟨0, by omega, rfl, BoxS.zero (by simp), by repeat' (first | (with_reducible exact Below.refl _ _) | (with_reducible assumption) | (with_reducible refine Below.alloc ?_ ?_ _) | (with_reducible refine Below.drew ?_) | (with_reducible refine below_drewN ?_ _) | (with_reducible refine Below.setCell ?_ ?_ _) | go_size)⟩
  case round =>
    obtain ⟨k, hk, rfl, hA, hw⟩ := hrel
    by_cases hlt : k < 8
    · have hd : decide ((k : Int) < 8) = true := decide_eq_true (by omega)
      have hix := run_index_sol f k hlt
      have hb := HF.out k
      have cA := hA.cell hlt
      have fA := hA.free k
      go_wp2
      rw [bits_not hb]
      have hA2 := hA.set hlt (voidF f k)
      rw [voidK_succ] at hA2
      have hw2 := hw.setCell (p := ⟨w.heap.size + 1, k, none⟩) (by simp) (.int .u64 ((voidF f k : Nat) : Int))
      exact ⟨⟨k + 1, by omega, by go_num, hA2, hw2⟩, by simp [intOf]; omega⟩
    · obtain rfl : k = 8 := by omega
      have hV : BoxS wr (w.heap.size + 1) (voidF f) := hA.congr fun k hk => by unfold voidK; rw [if_pos hk]
      clear hA
      have c0 := (hV).cell (k := 0) (by omega); have c1 := (hV).cell (k := 1) (by omega); have c2 := (hV).cell (k := 2) (by omega); have c3 := (hV).cell (k := 3) (by omega); have c4 := (hV).cell (k := 4) (by omega); have c5 := (hV).cell (k := 5) (by omega); have c6 := (hV).cell (k := 6) (by omega); have c7 := (hV).cell (k := 7) (by omega)
      go_wp2_with fail
      obtain ⟨cs, hcs⟩ : ∃ cs, cs = clsF facingL (voidF f) := ⟨_, rfl⟩
      have HE := Lib.hid (cls_each facingL (voidF f) (void_fit f))
      have hcf : cavF f = cs.filter withinF := by unfold cavF; rw [hcs]
      have hlen : cs.length ≤ 512 := by rw [hcs]; exact Nat.le_trans (clsAt_len facingL (voidF f) _) (cellsL_len _)
      refine (classesF_ok (voidF f) _ (void_fit f) (HT.out.below hw (Nat.le_refl _))).mono ?_
      rintro e w2 ⟨v2, rfl, r1, r2, r3⟩
      rw [← hcs] at r1 r2 HE
      have HCF := Lib.hid hcf
      clear hcs hcf hV c0 c1 c2 c3 c4 c5 c6 c7
      have hw3 := hw.trans (r3.mono hw.size)
      have hs2 := r3.size
      have hs1 := hw.size
      have hp2 : ∃ p cap, v2 = .slice p cs.length cap := by
        rcases r1.2 with ⟨h1, h2⟩ | ⟨g, cap, cur, h1, _⟩
        · exact ⟨none, 0, by rw [h1, h2]⟩
        · exact ⟨_, _, h1⟩
      obtain ⟨p2, cap2, hv2⟩ := hp2
      subst hv2
      clear r3
      go_wp2_with fail
      go_loopw [6, 22] (fun lv c wr => ∃ (i : Nat) (L : List Sol), i ≤ cs.length ∧ c = .int .i64 i ∧ Hid (L = (cs.take i).filter withinF) ∧ wr.ownsRow w2.heap.size 24 8 lv L.length (flatS L) ∧ (lv = .slice none 0 0 ↔ L = []) ∧ Below w2.heap.size w2 wr) (fun _ c _ => cs.length - (intOf c).toNat)
      case atStart => exact ⟨0, [], by omega, rfl, Lib.hid (by simp), World.ownsRow_nil _ _ _ _, by simp, Below.refl _ _⟩
      case round =>
        obtain ⟨i, L, hi2, rfl, HL, hrow, hnil, hW⟩ := hrel
        by_cases hlt2 : i < cs.length
        · have hd : decide ((i : Int) < (cs.length : Int)) = true := decide_eq_true (by omega)
          have hci : cs[i]? = some cs[i] := List.getElem?_eq_getElem hlt2
          obtain ⟨c, hc⟩ : ∃ c, c = cs[i] := ⟨_, rfl⟩
          rw [← hc] at hci
          clear hc
          have hTk : cs.take (i + 1) = cs.take i ++ [c] := by rw [List.take_add_one, hci]; rfl
          have HTk := Lib.hid hTk
          clear hTk
          obtain ⟨he, hfc⟩ := HE.out c (List.mem_of_getElem? hci)
          obtain ⟨g, rfl, hg⟩ : ∃ g, p2 = some ⟨g, 0, none⟩ ∧ g < w2.heap.size := by
            rcases r1.2 with ⟨h1, h2⟩ | ⟨g, cap, cur, h1, _, h3, _⟩
            · omega
            · injection h1 with h4; exact ⟨g, h4, (Array.getElem?_eq_some_iff.1 h3).1⟩
          have hcell : ∀ j, j < 8 → wr.cell? ⟨g, i * 8 + j, none⟩ = some (.int .u64 (c j : Nat)) := fun j hj => by
            have h1 := r1.cells (g := g) rfl (8 * i + j) _ (flatS_get cs i j c hci hj)
            rw [addr_add, Nat.mul_comm 8 i] at h1
            exact (hW.cell (p := ⟨g, i * 8 + j, none⟩) hg).trans h1
          have k0 := hcell 0 (by omega)
          rw [Nat.add_zero] at k0
          have k1 := hcell 1 (by omega); have k2 := hcell 2 (by omega); have k3 := hcell 3 (by omega); have k4 := hcell 4 (by omega); have k5 := hcell 5 (by omega); have k6 := hcell 6 (by omega); have k7 := hcell 7 (by omega)
          clear hcell
          have hLl : L.length ≤ cs.length := by rw [HL.out]; exact Nat.le_trans (List.length_filter_le _ _) (by simp; omega)
          have bC : BoxS (wr.alloc (.cells (solC c) 24)) wr.heap.size c := BoxS.new wr c
          have hA2 : Below wr.heap.size wr (wr.alloc (.cells (solC c) 24)) := (Below.refl _ wr).alloc (Nat.le_refl _) _
          have hsW := hW.size
          go_wp2_with fail
          cases hwi : withinF c
          · refine (isWithin_is c false _ hfc he hwi).mono ?_
            rintro e w3 ⟨rfl, hb3⟩
            have hb4 := hA2.trans (hb3.mono (by simp))
            go_wp2_with fail
            have hrow3 := row_below hrow hb4
            go_roundw
            case rel => exact ⟨i + 1, L, by omega, by go_num, Lib.hid (by rw [HTk.out, List.filter_append, ← HL.out]; simp [hwi]), hrow3, hnil, hW.trans (hb4.mono hsW)⟩
            case measure => simp [intOf]; omega
          · refine (isWithin_is c true _ hfc he hwi).mono ?_
            rintro e w3 ⟨rfl, hb3⟩
            have hb4 := hA2.trans (hb3.mono (by simp))
            have bC3 := bC.below hb3 (by simp)
            have hrow3 := row_below hrow hb4
            have hs3 := hb4.size
            have c0 := (bC3).cell (k := 0) (by omega); have c1 := (bC3).cell (k := 1) (by omega); have c2 := (bC3).cell (k := 2) (by omega); have c3 := (bC3).cell (k := 3) (by omega); have c4 := (bC3).cell (k := 4) (by omega); have c5 := (bC3).cell (k := 5) (by omega); have c6 := (bC3).cell (k := 6) (by omega); have c7 := (bC3).cell (k := 7) (by omega)
            go_wp2_with (at_builtin; refine wpList_append_own _ rfl _ _ 58 rfl w2.heap.size 24 i0 (sol fun _ => 0) 8 64 under_sols hi hz0 hz1 hz2 rfl (by decide) u6 _ _ rfl (hrow3.alloc _) ⟨w3.heap.size, 0, none⟩ 1 1 (solL c) rfl rfl (solL_cells (BoxS.new' rfl)) (solL_one c) (by simp only [maxLen]; omega) (by omega) (by simp; omega) ?_; intro v' w4 hown' hgrow _; obtain ⟨g', cap', rfl⟩ := ownsRow_succ hown')
            have hb5 : Below w2.heap.size w3 w4 := ((Below.refl w2.heap.size w3).alloc (by omega) _).grown hgrow (by simp; omega) fun j ej => (hrow3.lt j ej).1
            exact ⟨⟨i + 1, L ++ [c], by omega, by go_num, Lib.hid (by rw [HTk.out, List.filter_append, ← HL.out]; simp [hwi]), by simp only [List.length_append, List.length_cons, List.length_nil, flatS_snoc]; exact hown', by simp, (hW.trans (hb4.mono hsW)).trans hb5⟩, by simp [intOf]; omega⟩
        · obtain rfl : i = cs.length := by omega
          have hd : decide ((cs.length : Int) < (cs.length : Int)) = false := decide_eq_false (by omega)
          have HL2 := Lib.hid (show L = cavF f by rw [HL.out, HCF.out, List.take_length])
          have hsW := hW.size
          go_wp2
          go_ret
          rw [← HL2.out]
          exact ⟨u6, rfl, ⟨row_base hrow (by omega), hnil⟩, hw3.trans (hW.mono (by omega))⟩
end Go.Proofs.YtadkaplafaeebaaGreatDoor
