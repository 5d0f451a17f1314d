/-
  The reference's far.
-/
import Derived.Test.YtadkaplafaeebaaGreatDoorPkUAQ
import Derived.Test.YtadkaplafaeebaaGreatDoorTurnQ
import Derived.Lib.MinMax
import Derived.Test.YtadkaplafaeebaaGreatDoorPkTHQ
import Derived.Test.YtadkaplafaeebaaGreatDoorPkRAQ
import Derived.Test.YtadkaplafaeebaaGreatDoorPkRBQ
set_option linter.unusedVariables false
set_option linter.unusedSimpArgs false
namespace Go.Proofs.YtadkaplafaeebaaGreatDoor
open Go Go.RowKit

@[go_sem high] theorem run_max_ints3 {P : Program} (w : World) (ts : Array TypeId) (t : TypeId) (k k' k'' : IntKind) (x y z : Int) :
    (Builtin.max_ ts t #[.int k x, .int k' y, .int k'' z]).run P w = .ok (.int k (max (max x y) z)) w := by
  have e : ∀ x y : Int, (if y > x then y else x) = max x y := fun x y => by
    rw [Int.max_def]
    split <;> split <;> omega
  simp [Builtin.max_, Builtin.max2, e]
theorem wrap_sm {x : Int} (h : -100000 ≤ x ∧ x ≤ 100000) : IntKind.i64.wrap x = x := IntWalk.i64_in _ (by omega)
set_option maxRecDepth 100000 in
set_option maxHeartbeats 1000000 in
theorem rfar_ok (x y z u v t : Int) (w : World) (h1 : -1000 ≤ x ∧ x ≤ 1000) (h2 : -1000 ≤ y ∧ y ≤ 1000) (h3 : -1000 ≤ z ∧ z ≤ 1000) (h4 : -1000 ≤ u ∧ u ≤ 1000) (h5 : -1000 ≤ v ∧ v ≤ 1000) (h6 : -1000 ≤ t ∧ t ≤ 1000) :
    Calls Tryz.prog 153 #[.agg #[.int .i64 (x), .int .i64 (y), .int .i64 (z)], .agg #[.int .i64 (u), .int .i64 (v), .int .i64 (t)]] w fun e w' => e = .returned (.tuple #[.int .i64 (farS (x, y, z) (u, v, t)), .int .i64 (farM (x, y, z) (u, v, t))]) ∧ Below w.heap.size w w' := by
  have bC : BoxC ((w.alloc (.cells #[.int .i64 x, .int .i64 y, .int .i64 z] 26)).alloc (.cells #[.int .i64 u, .int .i64 v, .int .i64 t] 26)) w.heap.size x y z := (BoxC.new rfl).alloc _
  have bD : BoxC ((w.alloc (.cells #[.int .i64 x, .int .i64 y, .int .i64 z] 26)).alloc (.cells #[.int .i64 u, .int .i64 v, .int .i64 t] 26)) (w.heap.size + 1) u v t := BoxC.new (by simp)
  have c0 := bC.c0
  have c1 := bC.c1
  have c2 := bC.c2
  have d0 := bD.c0
  have d1 := bD.c1
  have d2 := bD.c2
  have s0 : IntKind.i64.wrap (max (x - u) (u - x) + max (y - v) (v - y)) = max (x - u) (u - x) + max (y - v) (v - y) := wrap_sm (by omega)
  have s1 : IntKind.i64.wrap (max (x - u) (u - x) + max (y - v) (v - y) + max (z - t) (t - z)) = max (x - u) (u - x) + max (y - v) (v - y) + max (z - t) (t - z) := wrap_sm (by omega)
  go_enter Tryz.func153, Tryz.ntmps153
  go_wp2_with fail
  go_returns
  have e : farM (x, y, z) (u, v, t) = max (x - u) (max (u - x) (max (y - v) (max (v - y) (max (z - t) (t - z))))) := by unfold farM; simp only; omega
  rw [e]
  exact ⟨rfl, by repeat' (first | (with_reducible exact Below.refl _ _) | (with_reducible assumption) | (with_reducible refine Below.alloc ?_ ?_ _) | (with_reducible refine Below.drew ?_) | (with_reducible refine below_drewN ?_ _) | (with_reducible refine Below.setCell ?_ ?_ _) | go_size)⟩
end Go.Proofs.YtadkaplafaeebaaGreatDoor
/-
  The reference's some.
-/
set_option linter.unusedVariables false
set_option linter.unusedSimpArgs false
namespace Go.Proofs.YtadkaplafaeebaaGreatDoor
open Go Go.RowKit

structure SomeW (w : World) (f : Sol) (lx ly lz hx hy hz : Int) (W : World) : Prop where
  s : BoxS W w.heap.size f
  l : BoxC W (w.heap.size + 1) lx ly lz
  h : BoxC W (w.heap.size + 1 + 1) hx hy hz
  b : Below w.heap.size w W
theorem SomeW.below {w : World} {f : Sol} {lx ly lz hx hy hz : Int} {W W' : World} (h : SomeW w f lx ly lz hx hy hz W) (k : Below W.heap.size W W') : SomeW w f lx ly lz hx hy hz W' :=
  ⟨h.s.below k h.s.lt, blk_below h.l k (blk_lt h.l), blk_below h.h k (blk_lt h.h), up k h.b⟩
set_option maxRecDepth 100000 in
set_option maxHeartbeats 4000000 in
theorem rsome_ok (f : Sol) (lx ly lz hx hy hz : Int) (w : World) (hf : Fit f) (h1 : -2 ≤ lx ∧ lx ≤ 20) (h2 : -2 ≤ ly ∧ ly ≤ 20) (h3 : -2 ≤ lz ∧ lz ≤ 20) (h4 : -2 ≤ hx ∧ hx ≤ 20) (h5 : -2 ≤ hy ∧ hy ≤ 20) (h6 : -2 ≤ hz ∧ hz ≤ 20) :
    Calls Tryz.prog 129 #[sol f, .agg #[.int .i64 (lx), .int .i64 (ly), .int .i64 (lz)], .agg #[.int .i64 (hx), .int .i64 (hy), .int .i64 (hz)]] w fun e w' => e = .returned (.bool (boxB f (lx, ly, lz) (hx, hy, hz))) ∧ Below w.heap.size w w' := by
  have HR := Lib.hid (fun (p : I3) (W : World) => rhas_ok f p W hf)
  have W0 : SomeW w f lx ly lz hx hy hz (((w.alloc (.cells (solC f) 24)).alloc (.cells #[.int .i64 (lx), .int .i64 (ly), .int .i64 (lz)] 26)).alloc (.cells #[.int .i64 (hx), .int .i64 (hy), .int .i64 (hz)] 26)) :=
    ⟨((BoxS.new _ _).alloc _).alloc _, (BoxC.new (by simp)).alloc _, BoxC.new (by simp), by repeat' (first | (with_reducible exact Below.refl _ _) | (with_reducible assumption) | (with_reducible refine Below.alloc ?_ ?_ _) | (with_reducible refine Below.drew ?_) | (with_reducible refine below_drewN ?_ _) | (with_reducible refine Below.setCell ?_ ?_ _) | go_size)⟩
  obtain ⟨r, hr⟩ : ∃ r, r = boxB f (lx, ly, lz) (hx, hy, hz) := ⟨_, rfl⟩
  have hyes : ∀ x y z : Int, hasI f (x, y, z) = true → lx ≤ x → x ≤ hx → ly ≤ y → y ≤ hy → lz ≤ z → z ≤ hz → r = true := fun x y z a a1 a2 a3 a4 a5 a6 => by
    rw [hr]; exact boxB_iff.2 ⟨(x, y, z), a, a1, a2, a3, a4, a5, a6⟩
  have hno : (∀ x y z : Int, hasI f (x, y, z) = true → lx ≤ x → x ≤ hx → ly ≤ y → y ≤ hy → lz ≤ z → z ≤ hz → False) → r = false := fun h => by
    cases hb : r with
    | false => rfl
    | true =>
      rw [hr] at hb
      obtain ⟨⟨x, y, z⟩, a, a1, a2, a3, a4, a5, a6⟩ := boxB_iff.1 hb
      exact (h x y z a a1 a2 a3 a4 a5 a6).elim
  have HY := Lib.hid hyes
  have HN := Lib.hid hno
  rw [← hr]
  clear hr hyes hno
  go_enter Tryz.func129, Tryz.ntmps129
  have l2 := W0.l.c2
  go_wp2_with fail
  clear l2
  go_loopw [7] (fun c wr => ∃ z : Int, c = .int .i64 z ∧ lz ≤ z ∧ z ≤ 21 ∧ (∀ a b d : Int, hasI f (a, b, d) = true → lx ≤ a → a ≤ hx → ly ≤ b → b ≤ hy → lz ≤ d → d ≤ hz → z ≤ d) ∧ SomeW w f lx ly lz hx hy hz wr) (fun c _ => (hz + 1 - intOf c).toNat)
  case atStart => exact ⟨lz, rfl, Int.le_refl _, by omega, fun a b d _ _ _ _ _ h _ => h, W0⟩
  case round =>
    clear W0
    obtain ⟨z, rfl, z1, z2, zn, W1⟩ := hrel
    have ZN := Lib.hid zn
    clear zn
    by_cases hlz : z ≤ hz
    · have hd : decide (z ≤ hz) = true := decide_eq_true hlz
      have k2 := W1.h.c2
      have k1 := W1.l.c1
      go_wp2_with fail
      clear k1 k2 hd
      go_loopw [8] (fun c wr => ∃ y : Int, c = .int .i64 y ∧ ly ≤ y ∧ y ≤ 21 ∧ (∀ a b : Int, hasI f (a, b, z) = true → lx ≤ a → a ≤ hx → ly ≤ b → b ≤ hy → y ≤ b) ∧ SomeW w f lx ly lz hx hy hz wr) (fun c _ => (hy + 1 - intOf c).toNat)
      case atStart => exact ⟨ly, rfl, Int.le_refl _, by omega, fun a b _ _ _ h _ => h, W1⟩
      case round =>
        clear W1
        obtain ⟨y, rfl, y1, y2, yn, W1⟩ := hrel
        have YN := Lib.hid yn
        clear yn
        by_cases hly : y ≤ hy
        · have hd : decide (y ≤ hy) = true := decide_eq_true hly
          have k1 := W1.h.c1
          have k0 := W1.l.c0
          go_wp2_with fail
          clear k0 k1 hd
          go_loopw [9] (fun c wr => ∃ x : Int, c = .int .i64 x ∧ lx ≤ x ∧ x ≤ 21 ∧ (∀ a : Int, hasI f (a, y, z) = true → lx ≤ a → a ≤ hx → x ≤ a) ∧ SomeW w f lx ly lz hx hy hz wr) (fun c _ => (hx + 1 - intOf c).toNat)
          case atStart => exact ⟨lx, rfl, Int.le_refl _, by omega, fun a _ h _ => h, W1⟩
          case round =>
            clear W1
            obtain ⟨x, rfl, x1, x2, xn, W1⟩ := hrel
            have XN := Lib.hid xn
            clear xn
            by_cases hlx : x ≤ hx
            · have hd : decide (x ≤ hx) = true := decide_eq_true hlx
              have k0 := W1.h.c0
              have wS := W1.s
              have s0 := (wS).cell (k := 0) (by omega); have s1 := (wS).cell (k := 1) (by omega); have s2 := (wS).cell (k := 2) (by omega); have s3 := (wS).cell (k := 3) (by omega); have s4 := (wS).cell (k := 4) (by omega); have s5 := (wS).cell (k := 5) (by omega); have s6 := (wS).cell (k := 6) (by omega); have s7 := (wS).cell (k := 7) (by omega)
              clear wS
              go_wp2_with fail
              have hq := HR.out (x, y, z)
              refine (hq _).mono ?_
              rintro e w2 ⟨rfl, b2⟩
              have W2 := W1.below b2
              clear k0 s0 s1 s2 s3 s4 s5 s6 s7 hd W1 b2 hq
              cases hh : hasI f (x, y, z)
              · go_wp2_with fail
                go_roundw
                case rel => exact ⟨x + 1, rfl, by omega, by omega, fun a ha h1 h2 => (by
                  have := XN.out a ha h1 h2
                  rcases Int.lt_or_eq_of_le this with h | h
                  · omega
                  · rw [← h, hh] at ha; cases ha), W2⟩
                case measure => simp [intOf]; omega
              · go_wp2_with fail
                go_ret
                exact ⟨by rw [HY.out x y z hh x1 hlx y1 hly z1 hlz]; rfl, W2.b⟩
            · have hd : decide (x ≤ hx) = false := decide_eq_false hlx
              have k0 := W1.h.c0
              go_wp2_with fail
              go_roundw
              case rel => exact ⟨y + 1, rfl, by omega, by omega, fun a b ha h1 h2 h3 h4 => (by
                have := YN.out a b ha h1 h2 h3 h4
                rcases Int.lt_or_eq_of_le this with h | h
                · omega
                · subst h
                  have := XN.out a ha h1 h2
                  omega), W1⟩
              case measure => simp [intOf]; omega
        · have hd : decide (y ≤ hy) = false := decide_eq_false hly
          have k1 := W1.h.c1
          go_wp2_with fail
          go_roundw
          case rel => exact ⟨z + 1, rfl, by omega, by omega, fun a b d ha h1 h2 h3 h4 h5 h6 => (by
            have := ZN.out a b d ha h1 h2 h3 h4 h5 h6
            rcases Int.lt_or_eq_of_le this with h | h
            · omega
            · subst h
              have := YN.out a b ha h1 h2 h3 h4
              omega), W1⟩
          case measure => simp [intOf]; omega
    · have hd : decide (z ≤ hz) = false := decide_eq_false hlz
      have k2 := W1.h.c2
      go_wp2_with fail
      go_ret
      exact ⟨by rw [HN.out fun a b d ha h1 h2 h3 h4 h5 h6 => by have := ZN.out a b d ha h1 h2 h3 h4 h5 h6; omega]; rfl, W1.b⟩
end Go.Proofs.YtadkaplafaeebaaGreatDoor
/-
  The reference's Skin.
-/
set_option linter.unusedVariables false
set_option linter.unusedSimpArgs false
namespace Go.Proofs.YtadkaplafaeebaaGreatDoor
open Go Go.RowKit

theorem outN_app (f : Sol) (l m : List I3) : outN f (l ++ m) = outN f l + outN f m := by unfold outN; rw [List.filter_append, List.length_append]
theorem skinN_snoc' (f : Sol) (l : List Cl) (c : Cl) : skinN f (l ++ [c]) = skinN f l + outN f (facingL (toI c)) := by unfold skinN; rw [List.map_append, List.sum_append]; simp
theorem skinN_le' (f : Sol) (l : List Cl) : skinN f l ≤ 6 * l.length := by
  induction l with
  | nil => exact Nat.le_refl _
  | cons c l ih =>
    have h1 : outN f (facingL (toI c)) ≤ 6 := outN_le f (facingL (toI c))
    unfold skinN at *
    rw [List.map_cons, List.sum_cons, List.length_cons]
    omega
theorem rmoved_by (x y z a b c : Int) (x' y' z' : Int) (hx : Sm x) (hy : Sm y) (hz : Sm z) (ha : Sm a) (hb : Sm b) (hc : Sm c) (e1 : x' = x + a) (e2 : y' = y + b) (e3 : z' = z + c) (w : World) :
    Calls Tryz.prog 104 #[.agg #[.int .i64 (x), .int .i64 (y), .int .i64 (z)], .int .i64 a, .int .i64 b, .int .i64 c] w fun e w' => e = .returned (.agg #[.int .i64 (x'), .int .i64 (y'), .int .i64 (z')]) ∧ Below w.heap.size w w' := by
  subst e1 e2 e3
  exact rmoved_ok x y z a b c w hx hy hz ha hb hc
set_option maxRecDepth 100000 in
set_option maxHeartbeats 8000000 in
theorem rskin_ok (f : Sol) (w : World) (hf : Fit f) :
    Calls Tryz.prog 81 #[sol f] w fun e w' => e = .returned (.int .i64 ((skinF f : Nat) : Int)) ∧ Below w.heap.size w w' := by
  have HF := Lib.hid hf
  have HR := Lib.hid (fun (p : I3) (b : Bool) (h : hasI f p = b) (W : World) => (rhas_ok f p W hf).mono fun e w' h' => (show e = .returned (.bool b) ∧ Below W.heap.size W w' from by rw [← h]; exact h'))
  clear hf
  have S0 : BoxS (w.alloc (.cells (solC f) 24)) w.heap.size f := BoxS.new _ _
  have hB0 : Below w.heap.size w (w.alloc (.cells (solC f) 24)) := by repeat' (first | (with_reducible exact Below.refl _ _) | (with_reducible assumption) | (with_reducible refine Below.alloc ?_ ?_ _) | (with_reducible refine Below.drew ?_) | (with_reducible refine below_drewN ?_ _) | (with_reducible refine Below.setCell ?_ ?_ _) | go_size)
  have s0 := (S0).cell (k := 0) (by omega); have s1 := (S0).cell (k := 1) (by omega); have s2 := (S0).cell (k := 2) (by omega); have s3 := (S0).cell (k := 3) (by omega); have s4 := (S0).cell (k := 4) (by omega); have s5 := (S0).cell (k := 5) (by omega); have s6 := (S0).cell (k := 6) (by omega); have s7 := (S0).cell (k := 7) (by omega)
  go_enter Tryz.func81, Tryz.ntmps81
  go_wp2_with fail
  clear s0 s1 s2 s3 s4 s5 s6 s7
  refine (rcells_ok f _ HF.out).mono ?_
  rintro e w1 ⟨v, rfl, hrow, _, hb1⟩
  have S1 := S0.below hb1 S0.lt
  have hB1 : Below w.heap.size w w1 := up hb1 hB0
  obtain ⟨p, cap, g, rfl, hp, hg, hgd, hcs⟩ := rowC_at (d := w.heap.size) hrow S1.lt (by simp; omega)
  have hlen := cellsL_len f
  have HCS := Lib.hid hcs
  clear S0 hB0 hb1 hrow hgd hcs
  go_wp2_with fail
  go_loopw [3, 5] (fun n c wr => ∃ i : Nat, i ≤ (cellsL f).length ∧ c = .int .i64 i ∧ n = .int .i64 ((skinN f ((cellsL f).take i) : Nat) : Int) ∧ Below w1.heap.size w1 wr) (fun _ c _ => (cellsL f).length - (intOf c).toNat)
  case atStart => exact ⟨0, by omega, rfl, rfl, Below.refl _ _⟩
  case round =>
    obtain ⟨i, hi, rfl, rfl, hB⟩ := hrel
    by_cases hlt : i < (cellsL f).length
    · have hd : decide ((i : Int) < ((cellsL f).length : Int)) = true := decide_eq_true (by omega)
      have hci : (cellsL f)[i]? = some (cellsL f)[i] := List.getElem?_eq_getElem hlt
      obtain ⟨c, hc⟩ : ∃ c, c = (cellsL f)[i] := ⟨_, rfl⟩
      rw [← hc] at hci
      clear hc
      have hpp := hp (by omega)
      have HTK := Lib.hid (show skinN f ((cellsL f).take (i + 1)) = skinN f ((cellsL f).take i) + outN f (facingL (toI c)) by rw [List.take_add_one, hci]; exact skinN_snoc' f _ c)
      have hbd : skinN f ((cellsL f).take i) ≤ 4000 := Nat.le_trans (skinN_le' f _) (by rw [List.length_take]; omega)
      obtain ⟨B, hBn⟩ : ∃ B, B = skinN f ((cellsL f).take i) := ⟨_, rfl⟩
      rw [← hBn] at HTK hbd ⊢
      clear hBn
      obtain ⟨q0, q1, q2⟩ := HCS.out i c hci
      have hx := X_le c
      have hy := Y_le c
      have hz := Z_le c
      have HL := Lib.hid (show facingL (toI c) = face3 ((cX c : Int), (cY c : Int), (cZ c : Int)) (-1) ++ face3 ((cX c : Int), (cY c : Int), (cZ c : Int)) 1 from rfl)
      generalize toI c = pc at *
      obtain ⟨x, hxx⟩ : ∃ x : Int, x = ((cX c : Nat) : Int) := ⟨_, rfl⟩
      obtain ⟨y, hyy⟩ : ∃ y : Int, y = ((cY c : Nat) : Int) := ⟨_, rfl⟩
      obtain ⟨z, hzz⟩ : ∃ z : Int, z = ((cZ c : Nat) : Int) := ⟨_, rfl⟩
      rw [← hxx] at q0 HL
      rw [← hyy] at q1 HL
      rw [← hzz] at q2 HL
      have lx : 0 ≤ x ∧ x ≤ 7 := by omega
      have ly : 0 ≤ y ∧ y ≤ 7 := by omega
      have lz : 0 ≤ z ∧ z ≤ 7 := by omega
      clear hx hy hz hxx hyy hzz hci
      subst hpp
      go_wp2_with fail
      go_loopw [3, 6] (fun n k wr => ∃ j : Nat, j ≤ 2 ∧ k = .int .i64 (2 * (j : Int) - 1) ∧ n = .int .i64 ((B + outN f ((facingL pc).take (3 * j)) : Nat) : Int) ∧ Below w1.heap.size w1 wr) (fun _ k _ => (3 - intOf k).toNat)
      case atStart => exact ⟨0, by omega, rfl, rfl, hB⟩
      case round =>
        clear hB hd
        obtain ⟨j, hj, rfl, rfl, hB⟩ := hrel
        by_cases hlj : j < 2
        · obtain ⟨d, hdd⟩ : ∃ d : Int, d = 2 * (j : Int) - 1 := ⟨_, rfl⟩
          have hd1 : d = -1 ∨ d = 1 := by omega
          have hd : decide (d ≤ 1) = true := decide_eq_true (by omega)
          have HO := Lib.hid (show outN f ((facingL pc).take (3 * (j + 1))) = outN f ((facingL pc).take (3 * j)) + outN f (face3 (x, y, z) d) by
            rw [← outN_app]
            congr 1
            rw [HL.out]
            rcases (show j = 0 ∨ j = 1 by omega) with rfl | rfl
            · rw [show d = -1 by omega]; rfl
            · rw [show d = 1 by omega]; rfl)
          have hob : outN f ((facingL pc).take (3 * j)) ≤ 6 := Nat.le_trans (outN_le f _) (by rw [List.length_take]; exact Nat.le_trans (Nat.min_le_right _ _) (by rw [HL.out]; exact Nat.le_refl 6))
          obtain ⟨M, hM⟩ : ∃ M, M = B + outN f ((facingL pc).take (3 * j)) := ⟨_, rfl⟩
          have HM := Lib.hid hM
          have hMb : M ≤ 4006 := by omega
          rw [← hM, ← hdd]
          have HD := Lib.hid hdd
          clear hM hdd hob
          have HM1 := Lib.hid (fun W => rmoved_by x y z d 0 0 (x + d) y z (by unfold Sm; omega) (by unfold Sm; omega) (by unfold Sm; omega) (by unfold Sm; omega) (by unfold Sm; omega) (by unfold Sm; omega) rfl (by omega) (by omega) W)
          have HM2 := Lib.hid (fun W => rmoved_by x y z 0 d 0 x (y + d) z (by unfold Sm; omega) (by unfold Sm; omega) (by unfold Sm; omega) (by unfold Sm; omega) (by unfold Sm; omega) (by unfold Sm; omega) (by omega) rfl (by omega) W)
          have HM3 := Lib.hid (fun W => rmoved_by x y z 0 0 d x y (z + d) (by unfold Sm; omega) (by unfold Sm; omega) (by unfold Sm; omega) (by unfold Sm; omega) (by unfold Sm; omega) (by unfold Sm; omega) (by omega) (by omega) rfl W)
          have lg : g < wr.heap.size := Nat.lt_of_lt_of_le hg hB.size
          obtain ⟨b1, hb1⟩ : ∃ b, hasI f (x + d, y, z) = b := ⟨_, rfl⟩
          obtain ⟨b2, hb2⟩ : ∃ b, hasI f (x, y + d, z) = b := ⟨_, rfl⟩
          obtain ⟨b3, hb3⟩ : ∃ b, hasI f (x, y, z + d) = b := ⟨_, rfl⟩
          have HF3 := Lib.hid (show outN f (face3 (x, y, z) d) = (if b1 = true then 0 else 1) + (if b2 = true then 0 else 1) + (if b3 = true then 0 else 1) by
            unfold outN face3
            simp only [List.filter_cons, List.filter_nil, hb1, hb2, hb3]
            cases b1 <;> cases b2 <;> cases b3 <;> rfl)
          have C1 := Lib.hid (HR.out (x + d, y, z) b1 hb1)
          have C2 := Lib.hid (HR.out (x, y + d, z) b2 hb2)
          have C3 := Lib.hid (HR.out (x, y, z + d) b3 hb3)
          clear hb1 hb2 hb3
          have Sr := S1.below hB S1.lt
          have k0 := (hB.cell (p := ⟨g, i * 3, none⟩) hg).trans q0
          have k1 := (hB.cell (p := ⟨g, i * 3 + 1, none⟩) hg).trans q1
          have k2 := (hB.cell (p := ⟨g, i * 3 + 2, none⟩) hg).trans q2
          have lS := Sr.lt
          have hib : (i : Int) < ((cellsL f).length : Int) := by omega
          have s0 := (Sr).cell (k := 0) (by omega); have s1 := (Sr).cell (k := 1) (by omega); have s2 := (Sr).cell (k := 2) (by omega); have s3 := (Sr).cell (k := 3) (by omega); have s4 := (Sr).cell (k := 4) (by omega); have s5 := (Sr).cell (k := 5) (by omega); have s6 := (Sr).cell (k := 6) (by omega); have s7 := (Sr).cell (k := 7) (by omega)
          go_wp2_with fail
          obtain ⟨W, hW⟩ : ∃ W, W = wr := ⟨_, rfl⟩
          subst hW
          (refine wp_region_quiet (C := fun w' => Below W.heap.size W w') (by kernel_rfl) (by kernel_rfl) (Below.drew (Below.refl _ _)) ?_; (iterate 9 (refine wpQuiet_step (fun K hK => ?_); go_simp; first | (refine hK _ ?_; clear hK K) | (apply Exists.intro; refine ⟨fun W' hW' => ?_, hK _ ?_⟩; (focus (first | (with_reducible exact rfl) | (with_reducible exact ⟨rfl, rfl⟩) | (obtain ⟨hcq, hfq⟩ := bcell hW'; have hzq := hW'.size; (try go_simp); first | (with_reducible exact rfl) | (with_reducible exact ⟨rfl, rfl⟩) | (first | ((with_reducible refine Calls.mono (HM1.out _) ?_); rintro e w9 ⟨rfl, hb9⟩; exact ⟨rfl, hW'.trans (hb9.mono hW'.size)⟩) | ((with_reducible refine Calls.mono (C1.out _) ?_); rintro e w9 ⟨rfl, hb9⟩; exact ⟨rfl, hW'.trans (hb9.mono hW'.size)⟩))))); clear hK K))); refine wpQuiet_nil ?_; intro w1q hb1q)
          obtain ⟨X1, hX1⟩ : ∃ X, X = w1q := ⟨_, rfl⟩
          subst hX1
          have Sr1 := Sr.below hb1q Sr.lt
          have hB1 : Below w1.heap.size w1 X1 := up hb1q hB
          clear k0 k1 k2 s0 s1 s2 s3 s4 s5 s6 s7 hb1q
          have k0 := (hB1.cell (p := ⟨g, i * 3, none⟩) hg).trans q0
          have k1 := (hB1.cell (p := ⟨g, i * 3 + 1, none⟩) hg).trans q1
          have k2 := (hB1.cell (p := ⟨g, i * 3 + 2, none⟩) hg).trans q2
          have lg1 : g < X1.heap.size := Nat.lt_of_lt_of_le hg hB1.size
          have lS1 := Sr1.lt
          have s0 := (Sr1).cell (k := 0) (by omega); have s1 := (Sr1).cell (k := 1) (by omega); have s2 := (Sr1).cell (k := 2) (by omega); have s3 := (Sr1).cell (k := 3) (by omega); have s4 := (Sr1).cell (k := 4) (by omega); have s5 := (Sr1).cell (k := 5) (by omega); have s6 := (Sr1).cell (k := 6) (by omega); have s7 := (Sr1).cell (k := 7) (by omega)
          cases b1
          · go_wp2_with fail
            (refine wp_region_quiet (C := fun w' => Below X1.heap.size X1 w') (by kernel_rfl) (by kernel_rfl) (Below.drew (Below.refl _ _)) ?_; (iterate 9 (refine wpQuiet_step (fun K hK => ?_); go_simp; first | (refine hK _ ?_; clear hK K) | (apply Exists.intro; refine ⟨fun W' hW' => ?_, hK _ ?_⟩; (focus (first | (with_reducible exact rfl) | (with_reducible exact ⟨rfl, rfl⟩) | (obtain ⟨hcq, hfq⟩ := bcell hW'; have hzq := hW'.size; (try go_simp); first | (with_reducible exact rfl) | (with_reducible exact ⟨rfl, rfl⟩) | (first | ((with_reducible refine Calls.mono (HM2.out _) ?_); rintro e w9 ⟨rfl, hb9⟩; exact ⟨rfl, hW'.trans (hb9.mono hW'.size)⟩) | ((with_reducible refine Calls.mono (C2.out _) ?_); rintro e w9 ⟨rfl, hb9⟩; exact ⟨rfl, hW'.trans (hb9.mono hW'.size)⟩))))); clear hK K))); refine wpQuiet_nil ?_; intro w1q hb1q)
            obtain ⟨X2, hX2⟩ : ∃ X, X = w1q := ⟨_, rfl⟩
            subst hX2
            have Sr2 := Sr1.below hb1q Sr1.lt
            have hB2 : Below w1.heap.size w1 X2 := up hb1q hB1
            clear k0 k1 k2 s0 s1 s2 s3 s4 s5 s6 s7 hb1q
            have k0 := (hB2.cell (p := ⟨g, i * 3, none⟩) hg).trans q0
            have k1 := (hB2.cell (p := ⟨g, i * 3 + 1, none⟩) hg).trans q1
            have k2 := (hB2.cell (p := ⟨g, i * 3 + 2, none⟩) hg).trans q2
            have lg2 : g < X2.heap.size := Nat.lt_of_lt_of_le hg hB2.size
            have lS2 := Sr2.lt
            have s0 := (Sr2).cell (k := 0) (by omega); have s1 := (Sr2).cell (k := 1) (by omega); have s2 := (Sr2).cell (k := 2) (by omega); have s3 := (Sr2).cell (k := 3) (by omega); have s4 := (Sr2).cell (k := 4) (by omega); have s5 := (Sr2).cell (k := 5) (by omega); have s6 := (Sr2).cell (k := 6) (by omega); have s7 := (Sr2).cell (k := 7) (by omega)
            cases b2
            · go_wp2_with fail
              (refine wp_region_quiet (C := fun w' => Below X2.heap.size X2 w') (by kernel_rfl) (by kernel_rfl) (Below.drew (Below.refl _ _)) ?_; (iterate 9 (refine wpQuiet_step (fun K hK => ?_); go_simp; first | (refine hK _ ?_; clear hK K) | (apply Exists.intro; refine ⟨fun W' hW' => ?_, hK _ ?_⟩; (focus (first | (with_reducible exact rfl) | (with_reducible exact ⟨rfl, rfl⟩) | (obtain ⟨hcq, hfq⟩ := bcell hW'; have hzq := hW'.size; (try go_simp); first | (with_reducible exact rfl) | (with_reducible exact ⟨rfl, rfl⟩) | (first | ((with_reducible refine Calls.mono (HM3.out _) ?_); rintro e w9 ⟨rfl, hb9⟩; exact ⟨rfl, hW'.trans (hb9.mono hW'.size)⟩) | ((with_reducible refine Calls.mono (C3.out _) ?_); rintro e w9 ⟨rfl, hb9⟩; exact ⟨rfl, hW'.trans (hb9.mono hW'.size)⟩))))); clear hK K))); refine wpQuiet_nil ?_; intro w1q hb1q)
              obtain ⟨X3, hX3⟩ : ∃ X, X = w1q := ⟨_, rfl⟩
              subst hX3
              have Sr3 := Sr2.below hb1q Sr2.lt
              have hB3 : Below w1.heap.size w1 X3 := up hb1q hB2
              clear k0 k1 k2 s0 s1 s2 s3 s4 s5 s6 s7 hb1q
              cases b3
              · go_wp2_with fail
                go_roundw
                case rel => exact ⟨j + 1, by omega, by have h4 := HD.out; go_num, by have h1 := HO.out; have h2 := HF3.out; have h3 := HM.out; simp only [if_true, Bool.false_eq_true, if_false] at h2; go_num, hB3⟩
                case measure => simp [intOf]; omega
              · go_wp2_with fail
                go_roundw
                case rel => exact ⟨j + 1, by omega, by have h4 := HD.out; go_num, by have h1 := HO.out; have h2 := HF3.out; have h3 := HM.out; simp only [if_true, Bool.false_eq_true, if_false] at h2; go_num, hB3⟩
                case measure => simp [intOf]; omega
            · go_wp2_with fail
              (refine wp_region_quiet (C := fun w' => Below X2.heap.size X2 w') (by kernel_rfl) (by kernel_rfl) (Below.drew (Below.refl _ _)) ?_; (iterate 9 (refine wpQuiet_step (fun K hK => ?_); go_simp; first | (refine hK _ ?_; clear hK K) | (apply Exists.intro; refine ⟨fun W' hW' => ?_, hK _ ?_⟩; (focus (first | (with_reducible exact rfl) | (with_reducible exact ⟨rfl, rfl⟩) | (obtain ⟨hcq, hfq⟩ := bcell hW'; have hzq := hW'.size; (try go_simp); first | (with_reducible exact rfl) | (with_reducible exact ⟨rfl, rfl⟩) | (first | ((with_reducible refine Calls.mono (HM3.out _) ?_); rintro e w9 ⟨rfl, hb9⟩; exact ⟨rfl, hW'.trans (hb9.mono hW'.size)⟩) | ((with_reducible refine Calls.mono (C3.out _) ?_); rintro e w9 ⟨rfl, hb9⟩; exact ⟨rfl, hW'.trans (hb9.mono hW'.size)⟩))))); clear hK K))); refine wpQuiet_nil ?_; intro w1q hb1q)
              obtain ⟨X3, hX3⟩ : ∃ X, X = w1q := ⟨_, rfl⟩
              subst hX3
              have Sr3 := Sr2.below hb1q Sr2.lt
              have hB3 : Below w1.heap.size w1 X3 := up hb1q hB2
              clear k0 k1 k2 s0 s1 s2 s3 s4 s5 s6 s7 hb1q
              cases b3
              · go_wp2_with fail
                go_roundw
                case rel => exact ⟨j + 1, by omega, by have h4 := HD.out; go_num, by have h1 := HO.out; have h2 := HF3.out; have h3 := HM.out; simp only [if_true, Bool.false_eq_true, if_false] at h2; go_num, hB3⟩
                case measure => simp [intOf]; omega
              · go_wp2_with fail
                go_roundw
                case rel => exact ⟨j + 1, by omega, by have h4 := HD.out; go_num, by have h1 := HO.out; have h2 := HF3.out; have h3 := HM.out; simp only [if_true, Bool.false_eq_true, if_false] at h2; go_num, hB3⟩
                case measure => simp [intOf]; omega
          · go_wp2_with fail
            (refine wp_region_quiet (C := fun w' => Below X1.heap.size X1 w') (by kernel_rfl) (by kernel_rfl) (Below.drew (Below.refl _ _)) ?_; (iterate 9 (refine wpQuiet_step (fun K hK => ?_); go_simp; first | (refine hK _ ?_; clear hK K) | (apply Exists.intro; refine ⟨fun W' hW' => ?_, hK _ ?_⟩; (focus (first | (with_reducible exact rfl) | (with_reducible exact ⟨rfl, rfl⟩) | (obtain ⟨hcq, hfq⟩ := bcell hW'; have hzq := hW'.size; (try go_simp); first | (with_reducible exact rfl) | (with_reducible exact ⟨rfl, rfl⟩) | (first | ((with_reducible refine Calls.mono (HM2.out _) ?_); rintro e w9 ⟨rfl, hb9⟩; exact ⟨rfl, hW'.trans (hb9.mono hW'.size)⟩) | ((with_reducible refine Calls.mono (C2.out _) ?_); rintro e w9 ⟨rfl, hb9⟩; exact ⟨rfl, hW'.trans (hb9.mono hW'.size)⟩))))); clear hK K))); refine wpQuiet_nil ?_; intro w1q hb1q)
            obtain ⟨X2, hX2⟩ : ∃ X, X = w1q := ⟨_, rfl⟩
            subst hX2
            have Sr2 := Sr1.below hb1q Sr1.lt
            have hB2 : Below w1.heap.size w1 X2 := up hb1q hB1
            clear k0 k1 k2 s0 s1 s2 s3 s4 s5 s6 s7 hb1q
            have k0 := (hB2.cell (p := ⟨g, i * 3, none⟩) hg).trans q0
            have k1 := (hB2.cell (p := ⟨g, i * 3 + 1, none⟩) hg).trans q1
            have k2 := (hB2.cell (p := ⟨g, i * 3 + 2, none⟩) hg).trans q2
            have lg2 : g < X2.heap.size := Nat.lt_of_lt_of_le hg hB2.size
            have lS2 := Sr2.lt
            have s0 := (Sr2).cell (k := 0) (by omega); have s1 := (Sr2).cell (k := 1) (by omega); have s2 := (Sr2).cell (k := 2) (by omega); have s3 := (Sr2).cell (k := 3) (by omega); have s4 := (Sr2).cell (k := 4) (by omega); have s5 := (Sr2).cell (k := 5) (by omega); have s6 := (Sr2).cell (k := 6) (by omega); have s7 := (Sr2).cell (k := 7) (by omega)
            cases b2
            · go_wp2_with fail
              (refine wp_region_quiet (C := fun w' => Below X2.heap.size X2 w') (by kernel_rfl) (by kernel_rfl) (Below.drew (Below.refl _ _)) ?_; (iterate 9 (refine wpQuiet_step (fun K hK => ?_); go_simp; first | (refine hK _ ?_; clear hK K) | (apply Exists.intro; refine ⟨fun W' hW' => ?_, hK _ ?_⟩; (focus (first | (with_reducible exact rfl) | (with_reducible exact ⟨rfl, rfl⟩) | (obtain ⟨hcq, hfq⟩ := bcell hW'; have hzq := hW'.size; (try go_simp); first | (with_reducible exact rfl) | (with_reducible exact ⟨rfl, rfl⟩) | (first | ((with_reducible refine Calls.mono (HM3.out _) ?_); rintro e w9 ⟨rfl, hb9⟩; exact ⟨rfl, hW'.trans (hb9.mono hW'.size)⟩) | ((with_reducible refine Calls.mono (C3.out _) ?_); rintro e w9 ⟨rfl, hb9⟩; exact ⟨rfl, hW'.trans (hb9.mono hW'.size)⟩))))); clear hK K))); refine wpQuiet_nil ?_; intro w1q hb1q)
              obtain ⟨X3, hX3⟩ : ∃ X, X = w1q := ⟨_, rfl⟩
              subst hX3
              have Sr3 := Sr2.below hb1q Sr2.lt
              have hB3 : Below w1.heap.size w1 X3 := up hb1q hB2
              clear k0 k1 k2 s0 s1 s2 s3 s4 s5 s6 s7 hb1q
              cases b3
              · go_wp2_with fail
                go_roundw
                case rel => exact ⟨j + 1, by omega, by have h4 := HD.out; go_num, by have h1 := HO.out; have h2 := HF3.out; have h3 := HM.out; simp only [if_true, Bool.false_eq_true, if_false] at h2; go_num, hB3⟩
                case measure => simp [intOf]; omega
              · go_wp2_with fail
                go_roundw
                case rel => exact ⟨j + 1, by omega, by have h4 := HD.out; go_num, by have h1 := HO.out; have h2 := HF3.out; have h3 := HM.out; simp only [if_true, Bool.false_eq_true, if_false] at h2; go_num, hB3⟩
                case measure => simp [intOf]; omega
            · go_wp2_with fail
              (refine wp_region_quiet (C := fun w' => Below X2.heap.size X2 w') (by kernel_rfl) (by kernel_rfl) (Below.drew (Below.refl _ _)) ?_; (iterate 9 (refine wpQuiet_step (fun K hK => ?_); go_simp; first | (refine hK _ ?_; clear hK K) | (apply Exists.intro; refine ⟨fun W' hW' => ?_, hK _ ?_⟩; (focus (first | (with_reducible exact rfl) | (with_reducible exact ⟨rfl, rfl⟩) | (obtain ⟨hcq, hfq⟩ := bcell hW'; have hzq := hW'.size; (try go_simp); first | (with_reducible exact rfl) | (with_reducible exact ⟨rfl, rfl⟩) | (first | ((with_reducible refine Calls.mono (HM3.out _) ?_); rintro e w9 ⟨rfl, hb9⟩; exact ⟨rfl, hW'.trans (hb9.mono hW'.size)⟩) | ((with_reducible refine Calls.mono (C3.out _) ?_); rintro e w9 ⟨rfl, hb9⟩; exact ⟨rfl, hW'.trans (hb9.mono hW'.size)⟩))))); clear hK K))); refine wpQuiet_nil ?_; intro w1q hb1q)
              obtain ⟨X3, hX3⟩ : ∃ X, X = w1q := ⟨_, rfl⟩
              subst hX3
              have Sr3 := Sr2.below hb1q Sr2.lt
              have hB3 : Below w1.heap.size w1 X3 := up hb1q hB2
              clear k0 k1 k2 s0 s1 s2 s3 s4 s5 s6 s7 hb1q
              cases b3
              · go_wp2_with fail
                go_roundw
                case rel => exact ⟨j + 1, by omega, by have h4 := HD.out; go_num, by have h1 := HO.out; have h2 := HF3.out; have h3 := HM.out; simp only [if_true, Bool.false_eq_true, if_false] at h2; go_num, hB3⟩
                case measure => simp [intOf]; omega
              · go_wp2_with fail
                go_roundw
                case rel => exact ⟨j + 1, by omega, by have h4 := HD.out; go_num, by have h1 := HO.out; have h2 := HF3.out; have h3 := HM.out; simp only [if_true, Bool.false_eq_true, if_false] at h2; go_num, hB3⟩
                case measure => simp [intOf]; omega
        · obtain rfl : j = 2 := by omega
          have hd : decide ((2 * ((2 : Nat) : Int) - 1) ≤ 1) = false := by decide
          have HT2 := Lib.hid (show B + outN f ((facingL pc).take (3 * 2)) = skinN f ((cellsL f).take (i + 1)) by rw [HTK.out, List.take_of_length_le (by rw [HL.out]; exact Nat.le_refl 6)])
          rw [HT2.out]
          go_wp2_with fail
          go_roundw
          case rel => exact ⟨i + 1, by omega, by go_num, rfl, hB⟩
          case measure => simp [intOf]; omega
    · obtain rfl : i = (cellsL f).length := by omega
      have hd : decide (((cellsL f).length : Int) < ((cellsL f).length : Int)) = false := decide_eq_false (by omega)
      rw [List.take_length]
      go_wp2_with fail
      go_ret
      exact ⟨rfl, up hB hB1⟩
end Go.Proofs.YtadkaplafaeebaaGreatDoor
/-
  The reference's Euler.
-/
set_option linter.unusedVariables false
set_option linter.unusedSimpArgs false
namespace Go.Proofs.YtadkaplafaeebaaGreatDoor
open Go Go.RowKit

theorem sumR_le {g : Nat → Int} {b : Int} (h : ∀ i, -b ≤ g i ∧ g i ≤ b) : ∀ n : Nat, -(b * n) ≤ sumR g n ∧ sumR g n ≤ b * n
  | 0 => by simp [sumR]
  | n + 1 => by
    have h1 := sumR_le h n
    have h2 := h n
    rw [sumR, Int.natCast_add, Int.mul_add]
    omega
theorem termR_le (f : Sol) (z y x k : Nat) : -1 ≤ termR f z y x k ∧ termR f z y x k ≤ 1 := by
  unfold termR
  split
  · split <;> omega
  · omega
theorem eulK_le (f : Sol) (z y x k : Nat) : -(k : Int) ≤ eulK f z y x k ∧ eulK f z y x k ≤ k := by
  have := sumR_le (termR_le f z y x) k
  unfold eulK
  omega
theorem eulX_le (f : Sol) (z y x : Nat) : -(8 * (x : Int)) ≤ eulX f z y x ∧ eulX f z y x ≤ 8 * x := sumR_le (fun i => eulK_le f z y i 8) x
theorem eulY_le (f : Sol) (z y : Nat) : -(72 * (y : Int)) ≤ eulY f z y ∧ eulY f z y ≤ 72 * y := sumR_le (fun i => eulX_le f z i 9) y
theorem eulZ_le (f : Sol) (z : Nat) : -(648 * (z : Int)) ≤ eulZ f z ∧ eulZ f z ≤ 648 * z := sumR_le (fun i => eulY_le f i 9) z
structure EulW (w : World) (f : Sol) (W : World) : Prop where
  s : BoxS W w.heap.size f
  b : Below w.heap.size w W
theorem EulW.below {w : World} {f : Sol} {W W' : World} (h : EulW w f W) (k : Below W.heap.size W W') : EulW w f W' := ⟨h.s.below k h.s.lt, up k h.b⟩
theorem termR_yes {f : Sol} {z y x k : Nat} {lo : I3} {b : Bool} (hk : (k % 2 + k / 2 % 2 + k / 4 % 2) % 2 = if b = true then 0 else 1) (e : lo = ((x : Int) - 1 + (k % 2 : Nat), (y : Int) - 1 + (k / 2 % 2 : Nat), (z : Int) - 1 + (k / 4 % 2 : Nat))) (h : boxB f lo (x, y, z) = true) : termR f z y x k = if b = true then 1 else -1 := by
  unfold termR
  rw [← e, if_pos h]
  cases b
  · rw [if_neg (by rw [hk]; decide)]; rfl
  · rw [if_pos (by rw [hk]; rfl)]; rfl
theorem termR_no {f : Sol} {z y x k : Nat} {lo : I3} (e : lo = ((x : Int) - 1 + (k % 2 : Nat), (y : Int) - 1 + (k / 2 % 2 : Nat), (z : Int) - 1 + (k / 4 % 2 : Nat))) (h : boxB f lo (x, y, z) = false) : termR f z y x k = 0 := by
  unfold termR
  rw [← e, if_neg (by rw [h]; decide)]
set_option maxRecDepth 100000 in
set_option maxHeartbeats 8000000 in
theorem reul_ok (f : Sol) (w : World) (hf : Fit f) :
    Calls Tryz.prog 77 #[sol f] w fun e w' => e = .returned (.int .i64 (eulF f)) ∧ Below w.heap.size w w' := by
  rw [← eul_ref]
  have HS := Lib.hid (fun (lx ly lz : Int) (x y z : Nat) (W : World) (h1 : -2 ≤ lx ∧ lx ≤ 20) (h2 : -2 ≤ ly ∧ ly ≤ 20) (h3 : -2 ≤ lz ∧ lz ≤ 20) (h4 : x ≤ 8) (h5 : y ≤ 8) (h6 : z ≤ 8) => rsome_ok f lx ly lz x y z W hf h1 h2 h3 (by omega) (by omega) (by omega))
  clear hf
  have W0 : EulW w f (w.alloc (.cells (solC f) 24)) := ⟨BoxS.new _ _, by repeat' (first | (with_reducible exact Below.refl _ _) | (with_reducible assumption) | (with_reducible refine Below.alloc ?_ ?_ _) | (with_reducible refine Below.drew ?_) | (with_reducible refine below_drewN ?_ _) | (with_reducible refine Below.setCell ?_ ?_ _) | go_size)⟩
  go_enter Tryz.func77, Tryz.ntmps77
  go_wp2_with fail
  go_loopw [3, 4] (fun s c wr => ∃ (z : Nat) (S : Int), z ≤ 9 ∧ c = .int .i64 z ∧ s = .int .i64 S ∧ S = eulZ f z ∧ EulW w f wr) (fun _ c _ => 9 - (intOf c).toNat)
  case atStart => exact ⟨0, 0, by omega, rfl, rfl, rfl, W0⟩
  case round =>
    clear W0
    obtain ⟨z, S, hz, rfl, rfl, hS, W1⟩ := hrel
    have HZ := Lib.hid hS
    clear hS
    by_cases hlz : z ≤ 8
    · have hd : decide ((z : Int) ≤ 8) = true := decide_eq_true (by omega)
      go_wp2_with fail
      go_loopw [3, 5] (fun s c wr => ∃ (y : Nat) (S : Int), y ≤ 9 ∧ c = .int .i64 y ∧ s = .int .i64 S ∧ S = eulZ f z + eulY f z y ∧ EulW w f wr) (fun _ c _ => 9 - (intOf c).toNat)
      case atStart => exact ⟨0, S, by omega, rfl, rfl, by rw [HZ.out]; simp [eulY, sumR], W1⟩
      case round =>
        clear W1 HZ hd
        obtain ⟨y, S, hy, rfl, rfl, hS, W1⟩ := hrel
        have HZ := Lib.hid hS
        clear hS
        by_cases hly : y ≤ 8
        · have hd : decide ((y : Int) ≤ 8) = true := decide_eq_true (by omega)
          go_wp2_with fail
          go_loopw [3, 6] (fun s c wr => ∃ (x : Nat) (S : Int), x ≤ 9 ∧ c = .int .i64 x ∧ s = .int .i64 S ∧ S = eulZ f z + eulY f z y + eulX f z y x ∧ EulW w f wr) (fun _ c _ => 9 - (intOf c).toNat)
          case atStart => exact ⟨0, S, by omega, rfl, rfl, by rw [HZ.out]; simp [eulX, sumR], W1⟩
          case round =>
            clear W1 HZ hd
            obtain ⟨x, S, hx, rfl, rfl, hS, W1⟩ := hrel
            have HZ := Lib.hid hS
            clear hS
            by_cases hlx : x ≤ 8
            · have hd : decide ((x : Int) ≤ 8) = true := decide_eq_true (by omega)
              go_wp2_with fail
              go_loopw [3, 7] (fun s c wr => ∃ (k : Nat) (S : Int), k ≤ 8 ∧ c = .int .i64 k ∧ s = .int .i64 S ∧ S = eulZ f z + eulY f z y + eulX f z y x + eulK f z y x k ∧ EulW w f wr) (fun _ c _ => 8 - (intOf c).toNat)
              case atStart => exact ⟨0, S, by omega, rfl, rfl, by rw [HZ.out]; simp [eulK, sumR], W1⟩
              case round =>
                clear W1 HZ hd
                obtain ⟨k, S, hk, rfl, rfl, hS, W1⟩ := hrel
                have HB : Hid (-6000 ≤ S ∧ S ≤ 6000) := Lib.hid (by
                  have b1 := eulZ_le f z
                  have b2 := eulY_le f z y
                  have b3 := eulX_le f z y x
                  have b4 := eulK_le f z y x k
                  rw [hS]
                  omega)
                have HZ := Lib.hid hS
                clear hS
                by_cases hlk : k < 8
                · have hkk : k = 0 ∨ k = 1 ∨ k = 2 ∨ k = 3 ∨ k = 4 ∨ k = 5 ∨ k = 6 ∨ k = 7 := by omega
                  rcases hkk with rfl | rfl | rfl | rfl | rfl | rfl | rfl | rfl
                  · have bL : BoxC (wr.alloc (.cells #[.int .i64 ((x : Int) - 1), .int .i64 ((y : Int) - 1), .int .i64 ((z : Int) - 1)] 26)) wr.heap.size ((x : Int) - 1) ((y : Int) - 1) ((z : Int) - 1) := BoxC.new rfl
                    have hbY : Below wr.heap.size wr (wr.alloc (.cells #[.int .i64 ((x : Int) - 1), .int .i64 ((y : Int) - 1), .int .i64 ((z : Int) - 1)] 26)) := by repeat' (first | (with_reducible exact Below.refl _ _) | (with_reducible assumption) | (with_reducible refine Below.alloc ?_ ?_ _) | (with_reducible refine Below.drew ?_) | (with_reducible refine below_drewN ?_ _) | (with_reducible refine Below.setCell ?_ ?_ _) | go_size)
                    have W2 := W1.below hbY
                    have HLO : Hid ((((x : Int) - 1, (y : Int) - 1, (z : Int) - 1) : I3) = ((x : Int) - 1 + ((0 % 2 : Nat) : Int), (y : Int) - 1 + ((0 / 2 % 2 : Nat) : Int), (z : Int) - 1 + ((0 / 4 % 2 : Nat) : Int))) := Lib.hid (by simp only [Prod.mk.injEq]; omega)
                    clear W1 hbY
                    go_upto_region 25 with fail
                    obtain ⟨Y, hY⟩ : ∃ Y, Y = (wr.alloc (.cells #[.int .i64 ((x : Int) - 1), .int .i64 ((y : Int) - 1), .int .i64 ((z : Int) - 1)] 26)) := ⟨_, rfl⟩
                    obtain ⟨N, hN⟩ : ∃ N, N = wr.heap.size := ⟨_, rfl⟩
                    rw [← hY, ← hN] at bL
                    rw [← hY] at W2 ⊢
                    rw [← hN]
                    clear hY hN
                    obtain ⟨l0, l1, l2⟩ := BoxC.cells bL
                    have wS := W2.s
                    have s0 := (wS).cell (k := 0) (by omega); have s1 := (wS).cell (k := 1) (by omega); have s2 := (wS).cell (k := 2) (by omega); have s3 := (wS).cell (k := 3) (by omega); have s4 := (wS).cell (k := 4) (by omega); have s5 := (wS).cell (k := 5) (by omega); have s6 := (wS).cell (k := 6) (by omega); have s7 := (wS).cell (k := 7) (by omega)
                    clear wS bL
                    go_wp2_with fail
                    refine (HS.out _ _ _ x y z _ (by omega) (by omega) (by omega) hlx hly hlz).mono ?_
                    rintro e w3 ⟨rfl, b3⟩
                    have W3 := W2.below b3
                    clear W2 b3 l0 l1 l2 s0 s1 s2 s3 s4 s5 s6 s7
                    obtain ⟨is, his⟩ : ∃ is, is = boxB f ((x : Int) - 1, (y : Int) - 1, (z : Int) - 1) (x, y, z) := ⟨_, rfl⟩
                    rw [← his]
                    cases is with
                    | false =>
                      have HT := Lib.hid (termR_no HLO.out his.symm)
                      clear his
                      go_wp2_with fail
                      go_roundw
                      case rel => exact ⟨1, S, by omega, by go_num, rfl, by rw [HZ.out, show eulK f z y x 1 = eulK f z y x 0 + termR f z y x 0 from rfl, HT.out]; omega, W3⟩
                      case measure => simp [intOf]
                    | true =>
                      have HT := Lib.hid (termR_yes (b := true) (by decide) HLO.out his.symm)
                      have hbd := HB.out
                      have hw : IntKind.i64.wrap (S + 1) = S + 1 := wrap_sm (by omega)
                      clear his hbd
                      go_wp2_with fail
                      go_roundw
                      case rel => exact ⟨1, S + 1, by omega, by go_num, rfl, by rw [HZ.out, show eulK f z y x 1 = eulK f z y x 0 + termR f z y x 0 from rfl, HT.out]; simp only [if_true, Bool.false_eq_true, if_false]; omega, W3⟩
                      case measure => simp [intOf]
                  · have bL : BoxC (wr.alloc (.cells #[.int .i64 (((x : Nat) : Int)), .int .i64 ((y : Int) - 1), .int .i64 ((z : Int) - 1)] 26)) wr.heap.size (((x : Nat) : Int)) ((y : Int) - 1) ((z : Int) - 1) := BoxC.new rfl
                    have hbY : Below wr.heap.size wr (wr.alloc (.cells #[.int .i64 (((x : Nat) : Int)), .int .i64 ((y : Int) - 1), .int .i64 ((z : Int) - 1)] 26)) := by repeat' (first | (with_reducible exact Below.refl _ _) | (with_reducible assumption) | (with_reducible refine Below.alloc ?_ ?_ _) | (with_reducible refine Below.drew ?_) | (with_reducible refine below_drewN ?_ _) | (with_reducible refine Below.setCell ?_ ?_ _) | go_size)
                    have W2 := W1.below hbY
                    have HLO : Hid (((((x : Nat) : Int), (y : Int) - 1, (z : Int) - 1) : I3) = ((x : Int) - 1 + ((1 % 2 : Nat) : Int), (y : Int) - 1 + ((1 / 2 % 2 : Nat) : Int), (z : Int) - 1 + ((1 / 4 % 2 : Nat) : Int))) := Lib.hid (by simp only [Prod.mk.injEq]; omega)
                    clear W1 hbY
                    go_upto_region 25 with fail
                    obtain ⟨Y, hY⟩ : ∃ Y, Y = (wr.alloc (.cells #[.int .i64 (((x : Nat) : Int)), .int .i64 ((y : Int) - 1), .int .i64 ((z : Int) - 1)] 26)) := ⟨_, rfl⟩
                    obtain ⟨N, hN⟩ : ∃ N, N = wr.heap.size := ⟨_, rfl⟩
                    rw [← hY, ← hN] at bL
                    rw [← hY] at W2 ⊢
                    rw [← hN]
                    clear hY hN
                    obtain ⟨l0, l1, l2⟩ := BoxC.cells bL
                    have wS := W2.s
                    have s0 := (wS).cell (k := 0) (by omega); have s1 := (wS).cell (k := 1) (by omega); have s2 := (wS).cell (k := 2) (by omega); have s3 := (wS).cell (k := 3) (by omega); have s4 := (wS).cell (k := 4) (by omega); have s5 := (wS).cell (k := 5) (by omega); have s6 := (wS).cell (k := 6) (by omega); have s7 := (wS).cell (k := 7) (by omega)
                    clear wS bL
                    go_wp2_with fail
                    refine (HS.out _ _ _ x y z _ (by omega) (by omega) (by omega) hlx hly hlz).mono ?_
                    rintro e w3 ⟨rfl, b3⟩
                    have W3 := W2.below b3
                    clear W2 b3 l0 l1 l2 s0 s1 s2 s3 s4 s5 s6 s7
                    obtain ⟨is, his⟩ : ∃ is, is = boxB f (((x : Nat) : Int), (y : Int) - 1, (z : Int) - 1) (x, y, z) := ⟨_, rfl⟩
                    rw [← his]
                    cases is with
                    | false =>
                      have HT := Lib.hid (termR_no HLO.out his.symm)
                      clear his
                      go_wp2_with fail
                      go_roundw
                      case rel => exact ⟨2, S, by omega, by go_num, rfl, by rw [HZ.out, show eulK f z y x 2 = eulK f z y x 1 + termR f z y x 1 from rfl, HT.out]; omega, W3⟩
                      case measure => simp [intOf]
                    | true =>
                      have HT := Lib.hid (termR_yes (b := false) (by decide) HLO.out his.symm)
                      have hbd := HB.out
                      have hw : IntKind.i64.wrap (S - 1) = S - 1 := wrap_sm (by omega)
                      clear his hbd
                      go_wp2_with fail
                      go_roundw
                      case rel => exact ⟨2, S - 1, by omega, by go_num, rfl, by rw [HZ.out, show eulK f z y x 2 = eulK f z y x 1 + termR f z y x 1 from rfl, HT.out]; simp only [if_true, Bool.false_eq_true, if_false]; omega, W3⟩
                      case measure => simp [intOf]
                  · have bL : BoxC (wr.alloc (.cells #[.int .i64 ((x : Int) - 1), .int .i64 (((y : Nat) : Int)), .int .i64 ((z : Int) - 1)] 26)) wr.heap.size ((x : Int) - 1) (((y : Nat) : Int)) ((z : Int) - 1) := BoxC.new rfl
                    have hbY : Below wr.heap.size wr (wr.alloc (.cells #[.int .i64 ((x : Int) - 1), .int .i64 (((y : Nat) : Int)), .int .i64 ((z : Int) - 1)] 26)) := by repeat' (first | (with_reducible exact Below.refl _ _) | (with_reducible assumption) | (with_reducible refine Below.alloc ?_ ?_ _) | (with_reducible refine Below.drew ?_) | (with_reducible refine below_drewN ?_ _) | (with_reducible refine Below.setCell ?_ ?_ _) | go_size)
                    have W2 := W1.below hbY
                    have HLO : Hid ((((x : Int) - 1, ((y : Nat) : Int), (z : Int) - 1) : I3) = ((x : Int) - 1 + ((2 % 2 : Nat) : Int), (y : Int) - 1 + ((2 / 2 % 2 : Nat) : Int), (z : Int) - 1 + ((2 / 4 % 2 : Nat) : Int))) := Lib.hid (by simp only [Prod.mk.injEq]; omega)
                    clear W1 hbY
                    go_upto_region 25 with fail
                    obtain ⟨Y, hY⟩ : ∃ Y, Y = (wr.alloc (.cells #[.int .i64 ((x : Int) - 1), .int .i64 (((y : Nat) : Int)), .int .i64 ((z : Int) - 1)] 26)) := ⟨_, rfl⟩
                    obtain ⟨N, hN⟩ : ∃ N, N = wr.heap.size := ⟨_, rfl⟩
                    rw [← hY, ← hN] at bL
                    rw [← hY] at W2 ⊢
                    rw [← hN]
                    clear hY hN
                    obtain ⟨l0, l1, l2⟩ := BoxC.cells bL
                    have wS := W2.s
                    have s0 := (wS).cell (k := 0) (by omega); have s1 := (wS).cell (k := 1) (by omega); have s2 := (wS).cell (k := 2) (by omega); have s3 := (wS).cell (k := 3) (by omega); have s4 := (wS).cell (k := 4) (by omega); have s5 := (wS).cell (k := 5) (by omega); have s6 := (wS).cell (k := 6) (by omega); have s7 := (wS).cell (k := 7) (by omega)
                    clear wS bL
                    go_wp2_with fail
                    refine (HS.out _ _ _ x y z _ (by omega) (by omega) (by omega) hlx hly hlz).mono ?_
                    rintro e w3 ⟨rfl, b3⟩
                    have W3 := W2.below b3
                    clear W2 b3 l0 l1 l2 s0 s1 s2 s3 s4 s5 s6 s7
                    obtain ⟨is, his⟩ : ∃ is, is = boxB f ((x : Int) - 1, ((y : Nat) : Int), (z : Int) - 1) (x, y, z) := ⟨_, rfl⟩
                    rw [← his]
                    cases is with
                    | false =>
                      have HT := Lib.hid (termR_no HLO.out his.symm)
                      clear his
                      go_wp2_with fail
                      go_roundw
                      case rel => exact ⟨3, S, by omega, by go_num, rfl, by rw [HZ.out, show eulK f z y x 3 = eulK f z y x 2 + termR f z y x 2 from rfl, HT.out]; omega, W3⟩
                      case measure => simp [intOf]
                    | true =>
                      have HT := Lib.hid (termR_yes (b := false) (by decide) HLO.out his.symm)
                      have hbd := HB.out
                      have hw : IntKind.i64.wrap (S - 1) = S - 1 := wrap_sm (by omega)
                      clear his hbd
                      go_wp2_with fail
                      go_roundw
                      case rel => exact ⟨3, S - 1, by omega, by go_num, rfl, by rw [HZ.out, show eulK f z y x 3 = eulK f z y x 2 + termR f z y x 2 from rfl, HT.out]; simp only [if_true, Bool.false_eq_true, if_false]; omega, W3⟩
                      case measure => simp [intOf]
                  · have bL : BoxC (wr.alloc (.cells #[.int .i64 (((x : Nat) : Int)), .int .i64 (((y : Nat) : Int)), .int .i64 ((z : Int) - 1)] 26)) wr.heap.size (((x : Nat) : Int)) (((y : Nat) : Int)) ((z : Int) - 1) := BoxC.new rfl
                    have hbY : Below wr.heap.size wr (wr.alloc (.cells #[.int .i64 (((x : Nat) : Int)), .int .i64 (((y : Nat) : Int)), .int .i64 ((z : Int) - 1)] 26)) := by repeat' (first | (with_reducible exact Below.refl _ _) | (with_reducible assumption) | (with_reducible refine Below.alloc ?_ ?_ _) | (with_reducible refine Below.drew ?_) | (with_reducible refine below_drewN ?_ _) | (with_reducible refine Below.setCell ?_ ?_ _) | go_size)
                    have W2 := W1.below hbY
                    have HLO : Hid (((((x : Nat) : Int), ((y : Nat) : Int), (z : Int) - 1) : I3) = ((x : Int) - 1 + ((3 % 2 : Nat) : Int), (y : Int) - 1 + ((3 / 2 % 2 : Nat) : Int), (z : Int) - 1 + ((3 / 4 % 2 : Nat) : Int))) := Lib.hid (by simp only [Prod.mk.injEq]; omega)
                    clear W1 hbY
                    go_upto_region 25 with fail
                    obtain ⟨Y, hY⟩ : ∃ Y, Y = (wr.alloc (.cells #[.int .i64 (((x : Nat) : Int)), .int .i64 (((y : Nat) : Int)), .int .i64 ((z : Int) - 1)] 26)) := ⟨_, rfl⟩
                    obtain ⟨N, hN⟩ : ∃ N, N = wr.heap.size := ⟨_, rfl⟩
                    rw [← hY, ← hN] at bL
                    rw [← hY] at W2 ⊢
                    rw [← hN]
                    clear hY hN
                    obtain ⟨l0, l1, l2⟩ := BoxC.cells bL
                    have wS := W2.s
                    have s0 := (wS).cell (k := 0) (by omega); have s1 := (wS).cell (k := 1) (by omega); have s2 := (wS).cell (k := 2) (by omega); have s3 := (wS).cell (k := 3) (by omega); have s4 := (wS).cell (k := 4) (by omega); have s5 := (wS).cell (k := 5) (by omega); have s6 := (wS).cell (k := 6) (by omega); have s7 := (wS).cell (k := 7) (by omega)
                    clear wS bL
                    go_wp2_with fail
                    refine (HS.out _ _ _ x y z _ (by omega) (by omega) (by omega) hlx hly hlz).mono ?_
                    rintro e w3 ⟨rfl, b3⟩
                    have W3 := W2.below b3
                    clear W2 b3 l0 l1 l2 s0 s1 s2 s3 s4 s5 s6 s7
                    obtain ⟨is, his⟩ : ∃ is, is = boxB f (((x : Nat) : Int), ((y : Nat) : Int), (z : Int) - 1) (x, y, z) := ⟨_, rfl⟩
                    rw [← his]
                    cases is with
                    | false =>
                      have HT := Lib.hid (termR_no HLO.out his.symm)
                      clear his
                      go_wp2_with fail
                      go_roundw
                      case rel => exact ⟨4, S, by omega, by go_num, rfl, by rw [HZ.out, show eulK f z y x 4 = eulK f z y x 3 + termR f z y x 3 from rfl, HT.out]; omega, W3⟩
                      case measure => simp [intOf]
                    | true =>
                      have HT := Lib.hid (termR_yes (b := true) (by decide) HLO.out his.symm)
                      have hbd := HB.out
                      have hw : IntKind.i64.wrap (S + 1) = S + 1 := wrap_sm (by omega)
                      clear his hbd
                      go_wp2_with fail
                      go_roundw
                      case rel => exact ⟨4, S + 1, by omega, by go_num, rfl, by rw [HZ.out, show eulK f z y x 4 = eulK f z y x 3 + termR f z y x 3 from rfl, HT.out]; simp only [if_true, Bool.false_eq_true, if_false]; omega, W3⟩
                      case measure => simp [intOf]
                  · have bL : BoxC (wr.alloc (.cells #[.int .i64 ((x : Int) - 1), .int .i64 ((y : Int) - 1), .int .i64 (((z : Nat) : Int))] 26)) wr.heap.size ((x : Int) - 1) ((y : Int) - 1) (((z : Nat) : Int)) := BoxC.new rfl
                    have hbY : Below wr.heap.size wr (wr.alloc (.cells #[.int .i64 ((x : Int) - 1), .int .i64 ((y : Int) - 1), .int .i64 (((z : Nat) : Int))] 26)) := by repeat' (first | (with_reducible exact Below.refl _ _) | (with_reducible assumption) | (with_reducible refine Below.alloc ?_ ?_ _) | (with_reducible refine Below.drew ?_) | (with_reducible refine below_drewN ?_ _) | (with_reducible refine Below.setCell ?_ ?_ _) | go_size)
                    have W2 := W1.below hbY
                    have HLO : Hid ((((x : Int) - 1, (y : Int) - 1, ((z : Nat) : Int)) : I3) = ((x : Int) - 1 + ((4 % 2 : Nat) : Int), (y : Int) - 1 + ((4 / 2 % 2 : Nat) : Int), (z : Int) - 1 + ((4 / 4 % 2 : Nat) : Int))) := Lib.hid (by simp only [Prod.mk.injEq]; omega)
                    clear W1 hbY
                    go_upto_region 25 with fail
                    obtain ⟨Y, hY⟩ : ∃ Y, Y = (wr.alloc (.cells #[.int .i64 ((x : Int) - 1), .int .i64 ((y : Int) - 1), .int .i64 (((z : Nat) : Int))] 26)) := ⟨_, rfl⟩
                    obtain ⟨N, hN⟩ : ∃ N, N = wr.heap.size := ⟨_, rfl⟩
                    rw [← hY, ← hN] at bL
                    rw [← hY] at W2 ⊢
                    rw [← hN]
                    clear hY hN
                    obtain ⟨l0, l1, l2⟩ := BoxC.cells bL
                    have wS := W2.s
                    have s0 := (wS).cell (k := 0) (by omega); have s1 := (wS).cell (k := 1) (by omega); have s2 := (wS).cell (k := 2) (by omega); have s3 := (wS).cell (k := 3) (by omega); have s4 := (wS).cell (k := 4) (by omega); have s5 := (wS).cell (k := 5) (by omega); have s6 := (wS).cell (k := 6) (by omega); have s7 := (wS).cell (k := 7) (by omega)
                    clear wS bL
                    go_wp2_with fail
                    refine (HS.out _ _ _ x y z _ (by omega) (by omega) (by omega) hlx hly hlz).mono ?_
                    rintro e w3 ⟨rfl, b3⟩
                    have W3 := W2.below b3
                    clear W2 b3 l0 l1 l2 s0 s1 s2 s3 s4 s5 s6 s7
                    obtain ⟨is, his⟩ : ∃ is, is = boxB f ((x : Int) - 1, (y : Int) - 1, ((z : Nat) : Int)) (x, y, z) := ⟨_, rfl⟩
                    rw [← his]
                    cases is with
                    | false =>
                      have HT := Lib.hid (termR_no HLO.out his.symm)
                      clear his
                      go_wp2_with fail
                      go_roundw
                      case rel => exact ⟨5, S, by omega, by go_num, rfl, by rw [HZ.out, show eulK f z y x 5 = eulK f z y x 4 + termR f z y x 4 from rfl, HT.out]; omega, W3⟩
                      case measure => simp [intOf]
                    | true =>
                      have HT := Lib.hid (termR_yes (b := false) (by decide) HLO.out his.symm)
                      have hbd := HB.out
                      have hw : IntKind.i64.wrap (S - 1) = S - 1 := wrap_sm (by omega)
                      clear his hbd
                      go_wp2_with fail
                      go_roundw
                      case rel => exact ⟨5, S - 1, by omega, by go_num, rfl, by rw [HZ.out, show eulK f z y x 5 = eulK f z y x 4 + termR f z y x 4 from rfl, HT.out]; simp only [if_true, Bool.false_eq_true, if_false]; omega, W3⟩
                      case measure => simp [intOf]
                  · have bL : BoxC (wr.alloc (.cells #[.int .i64 (((x : Nat) : Int)), .int .i64 ((y : Int) - 1), .int .i64 (((z : Nat) : Int))] 26)) wr.heap.size (((x : Nat) : Int)) ((y : Int) - 1) (((z : Nat) : Int)) := BoxC.new rfl
                    have hbY : Below wr.heap.size wr (wr.alloc (.cells #[.int .i64 (((x : Nat) : Int)), .int .i64 ((y : Int) - 1), .int .i64 (((z : Nat) : Int))] 26)) := by repeat' (first | (with_reducible exact Below.refl _ _) | (with_reducible assumption) | (with_reducible refine Below.alloc ?_ ?_ _) | (with_reducible refine Below.drew ?_) | (with_reducible refine below_drewN ?_ _) | (with_reducible refine Below.setCell ?_ ?_ _) | go_size)
                    have W2 := W1.below hbY
                    have HLO : Hid (((((x : Nat) : Int), (y : Int) - 1, ((z : Nat) : Int)) : I3) = ((x : Int) - 1 + ((5 % 2 : Nat) : Int), (y : Int) - 1 + ((5 / 2 % 2 : Nat) : Int), (z : Int) - 1 + ((5 / 4 % 2 : Nat) : Int))) := Lib.hid (by simp only [Prod.mk.injEq]; omega)
                    clear W1 hbY
                    go_upto_region 25 with fail
                    obtain ⟨Y, hY⟩ : ∃ Y, Y = (wr.alloc (.cells #[.int .i64 (((x : Nat) : Int)), .int .i64 ((y : Int) - 1), .int .i64 (((z : Nat) : Int))] 26)) := ⟨_, rfl⟩
                    obtain ⟨N, hN⟩ : ∃ N, N = wr.heap.size := ⟨_, rfl⟩
                    rw [← hY, ← hN] at bL
                    rw [← hY] at W2 ⊢
                    rw [← hN]
                    clear hY hN
                    obtain ⟨l0, l1, l2⟩ := BoxC.cells bL
                    have wS := W2.s
                    have s0 := (wS).cell (k := 0) (by omega); have s1 := (wS).cell (k := 1) (by omega); have s2 := (wS).cell (k := 2) (by omega); have s3 := (wS).cell (k := 3) (by omega); have s4 := (wS).cell (k := 4) (by omega); have s5 := (wS).cell (k := 5) (by omega); have s6 := (wS).cell (k := 6) (by omega); have s7 := (wS).cell (k := 7) (by omega)
                    clear wS bL
                    go_wp2_with fail
                    refine (HS.out _ _ _ x y z _ (by omega) (by omega) (by omega) hlx hly hlz).mono ?_
                    rintro e w3 ⟨rfl, b3⟩
                    have W3 := W2.below b3
                    clear W2 b3 l0 l1 l2 s0 s1 s2 s3 s4 s5 s6 s7
                    obtain ⟨is, his⟩ : ∃ is, is = boxB f (((x : Nat) : Int), (y : Int) - 1, ((z : Nat) : Int)) (x, y, z) := ⟨_, rfl⟩
                    rw [← his]
                    cases is with
                    | false =>
                      have HT := Lib.hid (termR_no HLO.out his.symm)
                      clear his
                      go_wp2_with fail
                      go_roundw
                      case rel => exact ⟨6, S, by omega, by go_num, rfl, by rw [HZ.out, show eulK f z y x 6 = eulK f z y x 5 + termR f z y x 5 from rfl, HT.out]; omega, W3⟩
                      case measure => simp [intOf]
                    | true =>
                      have HT := Lib.hid (termR_yes (b := true) (by decide) HLO.out his.symm)
                      have hbd := HB.out
                      have hw : IntKind.i64.wrap (S + 1) = S + 1 := wrap_sm (by omega)
                      clear his hbd
                      go_wp2_with fail
                      go_roundw
                      case rel => exact ⟨6, S + 1, by omega, by go_num, rfl, by rw [HZ.out, show eulK f z y x 6 = eulK f z y x 5 + termR f z y x 5 from rfl, HT.out]; simp only [if_true, Bool.false_eq_true, if_false]; omega, W3⟩
                      case measure => simp [intOf]
                  · have bL : BoxC (wr.alloc (.cells #[.int .i64 ((x : Int) - 1), .int .i64 (((y : Nat) : Int)), .int .i64 (((z : Nat) : Int))] 26)) wr.heap.size ((x : Int) - 1) (((y : Nat) : Int)) (((z : Nat) : Int)) := BoxC.new rfl
                    have hbY : Below wr.heap.size wr (wr.alloc (.cells #[.int .i64 ((x : Int) - 1), .int .i64 (((y : Nat) : Int)), .int .i64 (((z : Nat) : Int))] 26)) := by repeat' (first | (with_reducible exact Below.refl _ _) | (with_reducible assumption) | (with_reducible refine Below.alloc ?_ ?_ _) | (with_reducible refine Below.drew ?_) | (with_reducible refine below_drewN ?_ _) | (with_reducible refine Below.setCell ?_ ?_ _) | go_size)
                    have W2 := W1.below hbY
                    have HLO : Hid ((((x : Int) - 1, ((y : Nat) : Int), ((z : Nat) : Int)) : I3) = ((x : Int) - 1 + ((6 % 2 : Nat) : Int), (y : Int) - 1 + ((6 / 2 % 2 : Nat) : Int), (z : Int) - 1 + ((6 / 4 % 2 : Nat) : Int))) := Lib.hid (by simp only [Prod.mk.injEq]; omega)
                    clear W1 hbY
                    go_upto_region 25 with fail
                    obtain ⟨Y, hY⟩ : ∃ Y, Y = (wr.alloc (.cells #[.int .i64 ((x : Int) - 1), .int .i64 (((y : Nat) : Int)), .int .i64 (((z : Nat) : Int))] 26)) := ⟨_, rfl⟩
                    obtain ⟨N, hN⟩ : ∃ N, N = wr.heap.size := ⟨_, rfl⟩
                    rw [← hY, ← hN] at bL
                    rw [← hY] at W2 ⊢
                    rw [← hN]
                    clear hY hN
                    obtain ⟨l0, l1, l2⟩ := BoxC.cells bL
                    have wS := W2.s
                    have s0 := (wS).cell (k := 0) (by omega); have s1 := (wS).cell (k := 1) (by omega); have s2 := (wS).cell (k := 2) (by omega); have s3 := (wS).cell (k := 3) (by omega); have s4 := (wS).cell (k := 4) (by omega); have s5 := (wS).cell (k := 5) (by omega); have s6 := (wS).cell (k := 6) (by omega); have s7 := (wS).cell (k := 7) (by omega)
                    clear wS bL
                    go_wp2_with fail
                    refine (HS.out _ _ _ x y z _ (by omega) (by omega) (by omega) hlx hly hlz).mono ?_
                    rintro e w3 ⟨rfl, b3⟩
                    have W3 := W2.below b3
                    clear W2 b3 l0 l1 l2 s0 s1 s2 s3 s4 s5 s6 s7
                    obtain ⟨is, his⟩ : ∃ is, is = boxB f ((x : Int) - 1, ((y : Nat) : Int), ((z : Nat) : Int)) (x, y, z) := ⟨_, rfl⟩
                    rw [← his]
                    cases is with
                    | false =>
                      have HT := Lib.hid (termR_no HLO.out his.symm)
                      clear his
                      go_wp2_with fail
                      go_roundw
                      case rel => exact ⟨7, S, by omega, by go_num, rfl, by rw [HZ.out, show eulK f z y x 7 = eulK f z y x 6 + termR f z y x 6 from rfl, HT.out]; omega, W3⟩
                      case measure => simp [intOf]
                    | true =>
                      have HT := Lib.hid (termR_yes (b := true) (by decide) HLO.out his.symm)
                      have hbd := HB.out
                      have hw : IntKind.i64.wrap (S + 1) = S + 1 := wrap_sm (by omega)
                      clear his hbd
                      go_wp2_with fail
                      go_roundw
                      case rel => exact ⟨7, S + 1, by omega, by go_num, rfl, by rw [HZ.out, show eulK f z y x 7 = eulK f z y x 6 + termR f z y x 6 from rfl, HT.out]; simp only [if_true, Bool.false_eq_true, if_false]; omega, W3⟩
                      case measure => simp [intOf]
                  · have bL : BoxC (wr.alloc (.cells #[.int .i64 (((x : Nat) : Int)), .int .i64 (((y : Nat) : Int)), .int .i64 (((z : Nat) : Int))] 26)) wr.heap.size (((x : Nat) : Int)) (((y : Nat) : Int)) (((z : Nat) : Int)) := BoxC.new rfl
                    have hbY : Below wr.heap.size wr (wr.alloc (.cells #[.int .i64 (((x : Nat) : Int)), .int .i64 (((y : Nat) : Int)), .int .i64 (((z : Nat) : Int))] 26)) := by repeat' (first | (with_reducible exact Below.refl _ _) | (with_reducible assumption) | (with_reducible refine Below.alloc ?_ ?_ _) | (with_reducible refine Below.drew ?_) | (with_reducible refine below_drewN ?_ _) | (with_reducible refine Below.setCell ?_ ?_ _) | go_size)
                    have W2 := W1.below hbY
                    have HLO : Hid (((((x : Nat) : Int), ((y : Nat) : Int), ((z : Nat) : Int)) : I3) = ((x : Int) - 1 + ((7 % 2 : Nat) : Int), (y : Int) - 1 + ((7 / 2 % 2 : Nat) : Int), (z : Int) - 1 + ((7 / 4 % 2 : Nat) : Int))) := Lib.hid (by simp only [Prod.mk.injEq]; omega)
                    clear W1 hbY
                    go_upto_region 25 with fail
                    obtain ⟨Y, hY⟩ : ∃ Y, Y = (wr.alloc (.cells #[.int .i64 (((x : Nat) : Int)), .int .i64 (((y : Nat) : Int)), .int .i64 (((z : Nat) : Int))] 26)) := ⟨_, rfl⟩
                    obtain ⟨N, hN⟩ : ∃ N, N = wr.heap.size := ⟨_, rfl⟩
                    rw [← hY, ← hN] at bL
                    rw [← hY] at W2 ⊢
                    rw [← hN]
                    clear hY hN
                    obtain ⟨l0, l1, l2⟩ := BoxC.cells bL
                    have wS := W2.s
                    have s0 := (wS).cell (k := 0) (by omega); have s1 := (wS).cell (k := 1) (by omega); have s2 := (wS).cell (k := 2) (by omega); have s3 := (wS).cell (k := 3) (by omega); have s4 := (wS).cell (k := 4) (by omega); have s5 := (wS).cell (k := 5) (by omega); have s6 := (wS).cell (k := 6) (by omega); have s7 := (wS).cell (k := 7) (by omega)
                    clear wS bL
                    go_wp2_with fail
                    refine (HS.out _ _ _ x y z _ (by omega) (by omega) (by omega) hlx hly hlz).mono ?_
                    rintro e w3 ⟨rfl, b3⟩
                    have W3 := W2.below b3
                    clear W2 b3 l0 l1 l2 s0 s1 s2 s3 s4 s5 s6 s7
                    obtain ⟨is, his⟩ : ∃ is, is = boxB f (((x : Nat) : Int), ((y : Nat) : Int), ((z : Nat) : Int)) (x, y, z) := ⟨_, rfl⟩
                    rw [← his]
                    cases is with
                    | false =>
                      have HT := Lib.hid (termR_no HLO.out his.symm)
                      clear his
                      go_wp2_with fail
                      go_roundw
                      case rel => exact ⟨8, S, by omega, by go_num, rfl, by rw [HZ.out, show eulK f z y x 8 = eulK f z y x 7 + termR f z y x 7 from rfl, HT.out]; omega, W3⟩
                      case measure => simp [intOf]
                    | true =>
                      have HT := Lib.hid (termR_yes (b := false) (by decide) HLO.out his.symm)
                      have hbd := HB.out
                      have hw : IntKind.i64.wrap (S - 1) = S - 1 := wrap_sm (by omega)
                      clear his hbd
                      go_wp2_with fail
                      go_roundw
                      case rel => exact ⟨8, S - 1, by omega, by go_num, rfl, by rw [HZ.out, show eulK f z y x 8 = eulK f z y x 7 + termR f z y x 7 from rfl, HT.out]; simp only [if_true, Bool.false_eq_true, if_false]; omega, W3⟩
                      case measure => simp [intOf]
                · obtain rfl : k = 8 := by omega
                  have hd : decide (((8 : Nat) : Int) < 8) = false := by decide
                  go_wp2_with fail
                  go_roundw
                  case rel => exact ⟨x + 1, S, by omega, by go_num, rfl, by rw [HZ.out, show eulX f z y (x + 1) = eulX f z y x + eulK f z y x 8 from rfl]; omega, W1⟩
                  case measure => simp [intOf]; omega
            · obtain rfl : x = 9 := by omega
              have hd : decide (((9 : Nat) : Int) ≤ 8) = false := by decide
              go_wp2_with fail
              go_roundw
              case rel => exact ⟨y + 1, S, by omega, by go_num, rfl, by rw [HZ.out, show eulY f z (y + 1) = eulY f z y + eulX f z y 9 from rfl]; omega, W1⟩
              case measure => simp [intOf]; omega
        · obtain rfl : y = 9 := by omega
          have hd : decide (((9 : Nat) : Int) ≤ 8) = false := by decide
          go_wp2_with fail
          go_roundw
          case rel => exact ⟨z + 1, S, by omega, by go_num, rfl, by rw [HZ.out, show eulZ f (z + 1) = eulZ f z + eulY f z 9 from rfl], W1⟩
          case measure => simp [intOf]; omega
    · obtain rfl : z = 9 := by omega
      have hd : decide (((9 : Nat) : Int) ≤ 8) = false := by decide
      go_wp2_with fail
      go_ret
      exact ⟨by rw [← HZ.out]; rfl, W1.b⟩
end Go.Proofs.YtadkaplafaeebaaGreatDoor
