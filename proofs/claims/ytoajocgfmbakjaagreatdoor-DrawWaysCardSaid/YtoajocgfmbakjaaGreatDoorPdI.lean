/-
  The least cell of a body; whether it has a cell; whose a cell is.
-/
import Derived.Test.YtoajocgfmbakjaaGreatDoorPaH
import Derived.Test.YtoajocgfmbakjaaGreatDoorPdA
import Derived.Test.YtoajocgfmbakjaaGreatDoorPdB
import Derived.Test.YtoajocgfmbakjaaGreatDoorPaE
import Derived.Test.YtoajocgfmbakjaaGreatDoorPdE
import Derived.Test.YtoajocgfmbakjaaGreatDoorPdF
import Derived.Test.YtoajocgfmbakjaaGreatDoorRows
import Derived.Test.YtoajocgfmbakjaaGreatDoorTie
import Derived.Lay
import Derived.WalkKit
import Derived.ProofKit
import Derived.LaidMore
import Derived.OpenShut
import Derived.Stop.Joined
import Derived.Stop.LaidErr
import Derived.Lib.LaidTab
import Derived.Lib.SmallJoins
import Derived.Below
import Derived.Carry
import Derived.ChangeOld
import Derived.SevenTiedAt
import Derived.ChangeSlices
set_option linter.unusedVariables false
set_option linter.unusedSimpArgs false
namespace Go.Proofs.YtoajocgfmbakjaaGreatDoor
open Go Go.RowKit Go.Shelf

/-- The table of math/bits lies as its text lays it. -/
def Tab64 (w : World) : Prop := ∀ j, j < 64 → w.cell? ⟨1, j, none⟩ = some (.int .u8 (Lib.deBruijn64tab.getD j 0 : Nat))
theorem cell_lt' {w : World} {a : Addr} {v : Value} (h : w.cell? a = some v) : a.block < w.heap.size := by
  unfold World.cell? at h
  rcases Nat.lt_or_ge a.block w.heap.size with h1 | h1
  · exact h1
  · rw [Array.getElem?_eq_none h1] at h; cases h
theorem Tab64.below {n : Nat} {w w' : World} (h : Tab64 w) (hb : Below n w w') (hn : w.heap.size ≤ n) : Tab64 w' := fun j hj => (hb.cell (p := ⟨_, j, none⟩) (Nat.lt_of_lt_of_le (cell_lt' (h j hj)) hn)).trans (h j hj)
theorem tz_key64 (x a : Nat) (hx : x < 18446744073709551616) (hx0 : x ≠ 0) (hlow : x &&& (18446744073709551616 - x) = a) :
    IntKind.u64.wrap (bits BinOp.and IntKind.u64 (x : Int) (IntKind.u64.wrap (-(x : Int))) * 285870213051353865) / 288230376151711744 = ((a * 285870213051353865 % 18446744073709551616 / 288230376151711744 : Nat) : Int) := by
  have e1 : IntKind.u64.wrap (-(x : Int)) = ((18446744073709551616 - x : Nat) : Int) := by rw [IntKind.wrap_u64]; omega
  rw [e1, bits_and_u64_nat x _ hx (by omega), hlow, IntKind.wrap_u64]
  omega
theorem tz_core64 (x k idx : Nat) (w : World) (hx0 : ((x : Int) == 0) = false)
    (key : IntKind.u64.wrap (bits BinOp.and IntKind.u64 (x : Int) (IntKind.u64.wrap (-(x : Int))) * 285870213051353865) / 288230376151711744 = (idx : Int))
    (hi : idx < 64) (hk : k < 64) (hcell : w.cell? ⟨1, idx, none⟩ = some (.int .u8 k)) :
    Calls Tryz.prog 152 #[.int .u64 x] w (RetB (.int .i64 k) w) := by
  go_enter Tryz.func152, Tryz.ntmps152
  go_wp2_with (simp only [key])
  go_ret
  exact ⟨rfl, Below.refl _ _⟩
/-- The lowest bit of a plane: its place. -/
def lowB (x : Nat) : Nat := Lib.ctz 64 x
theorem tz64_ok (x : Nat) (w : World) (hx : x < 18446744073709551616) (hx0 : x ≠ 0) (hT : Tab64 w) :
    Calls Tryz.prog 152 #[.int .u64 x] w (RetB (.int .i64 (lowB x : Nat)) w) := by
  obtain ⟨hlow, hk⟩ := Lib.lowest_bit 64 x hx0 hx
  obtain ⟨hi, htab⟩ := Lib.deBruijn64_at _ hk
  have hc := hT _ hi
  rw [htab] at hc
  exact tz_core64 x (lowB x) _ w (by simpa using hx0) (tz_key64 x _ hx hx0 hlow) hi hk hc
/-- The least cell's number. -/
def leastK (f : Sol) : Nat → Nat → Nat
  | 0, z => z
  | n + 1, z => if f z = 0 then leastK f n (z + 1) else z
def leastZ (f : Sol) : Nat := leastK f 8 0
def leastN (f : Sol) : Nat := 64 * leastZ f + lowB (f (leastZ f))
theorem leastK_spec (f : Sol) : ∀ (n z : Nat), (∃ y, z ≤ y ∧ y < z + n ∧ f y ≠ 0) → z ≤ leastK f n z ∧ leastK f n z < z + n ∧ f (leastK f n z) ≠ 0 ∧ ∀ y, z ≤ y → y < leastK f n z → f y = 0
  | 0, z, ⟨y, h1, h2, _⟩ => by omega
  | n + 1, z, ⟨y, h1, h2, h3⟩ => by
    unfold leastK
    by_cases h : f z = 0
    · rw [if_pos h]
      have hy : y ≠ z := fun e => h3 (by rw [e]; exact h)
      obtain ⟨k1, k2, k3, k4⟩ := leastK_spec f n (z + 1) ⟨y, by omega, by omega, h3⟩
      refine ⟨by omega, by omega, k3, fun x hx1 hx2 => ?_⟩
      by_cases e : x = z
      · rw [e]; exact h
      · exact k4 x (by omega) hx2
    · rw [if_neg h]
      exact ⟨by omega, by omega, h, fun x hx1 hx2 => by omega⟩
theorem leastZ_spec {f : Sol} (h : emptyS f = false) : leastZ f < 8 ∧ f (leastZ f) ≠ 0 ∧ ∀ y, y < leastZ f → f y = 0 := by
  have : ∃ y, 0 ≤ y ∧ y < 0 + 8 ∧ f y ≠ 0 := Classical.byContradiction fun hc => by
    have hz : ∀ y, y < 8 → f y = 0 := fun y hy => Classical.byContradiction fun h0 => hc ⟨y, by omega, by omega, h0⟩
    have : emptyS f = true := by
      unfold emptyS eqS
      exact decide_eq_true ⟨hz 0 (by omega), hz 1 (by omega), hz 2 (by omega), hz 3 (by omega), hz 4 (by omega), hz 5 (by omega), hz 6 (by omega), hz 7 (by omega)⟩
    rw [this] at h
    cases h
  obtain ⟨_, k2, k3, k4⟩ := leastK_spec f 8 0 this
  exact ⟨by unfold leastZ; omega, k3, fun y hy => k4 y (by omega) hy⟩
set_option maxRecDepth 100000 in
set_option maxHeartbeats 1000000 in
theorem bleast_ok (f : Sol) (w : World) (hf : Fit f) (hne : emptyS f = false) (hT : Tab64 w) : Calls Tryz.prog 101 #[sol f] w (RetB (.int .i64 (leastN f : Nat)) w) := by
  obtain ⟨hz8, hz0, hzz⟩ := leastZ_spec hne
  obtain ⟨Z, hZ⟩ : ∃ Z, Z = leastZ f := ⟨_, rfl⟩
  have HLN := Lib.hid (show leastN f = 64 * Z + lowB (f Z) by rw [hZ]; rfl)
  rw [← hZ] at hz8 hz0 hzz
  have HZZ := Lib.hid hzz
  have HZ0 := Lib.hid hz0
  have HT := Lib.hid hT
  have bD : BoxD (w.alloc (.cells (solC f) 88)) w.heap.size f := BoxK.new _ w f
  have hB : Below w.heap.size w (w.alloc (.cells (solC f) 88)) := (Below.refl _ w).alloc (Nat.le_refl _) _
  obtain ⟨W1, hW1⟩ : ∃ W1, W1 = w.alloc (.cells (solC f) 88) := ⟨_, rfl⟩
  rw [← hW1] at bD hB
  clear hz0 hzz hT hZ
  go_enter Tryz.func101, Tryz.ntmps101
  go_wp2_with fail
  rw [show w.alloc (.cells #[.int .u64 ((f 0 : Nat) : Int), .int .u64 ((f 1 : Nat) : Int), .int .u64 ((f 2 : Nat) : Int), .int .u64 ((f 3 : Nat) : Int), .int .u64 ((f 4 : Nat) : Int), .int .u64 ((f 5 : Nat) : Int), .int .u64 ((f 6 : Nat) : Int), .int .u64 ((f 7 : Nat) : Int)] 88) = W1 from hW1.symm]
  have HB := Lib.hid hB
  clear hW1 hB
  go_loopw [3] (fun z wr => ∃ k : Nat, k ≤ Z ∧ z = .int .i64 k ∧ wr = W1) (fun z _ => 8 - (intOf z).toNat)
  case atStart => exact ⟨0, by omega, rfl, rfl⟩
  case round =>
    obtain ⟨k, hk, rfl, rfl⟩ := hrel
    have ck := bD.cell (k := k) (by omega)
    have hk8 : (k : Int) < 8 := by omega
    by_cases e : k = Z
    · subst e
      have hz : ((f k : Int) == 0) = false := by have := HZ0.out; rw [beq_eq_false_iff_ne]; omega
      have hl := HZ0.out
      have HTZ := Lib.hid (tz64_ok (f k) wr (hf k) hl (HT.out.below HB.out (Nat.le_refl _)))
      have hlow : lowB (f k) < 64 := (Lib.lowest_bit 64 (f k) hl (hf k)).2
      have hw1 : IntKind.i64.wrap (64 * (k : Int)) = 64 * (k : Int) := by rw [IntWalk.i64_in] <;> omega
      have hw2 : IntKind.i64.wrap (64 * (k : Int) + (lowB (f k) : Int)) = 64 * (k : Int) + (lowB (f k) : Int) := by rw [IntWalk.i64_in] <;> omega
      clear hl
      go_wp2_with fail
      refine HTZ.out.mono ?_
      rintro e w2 ⟨rfl, hb2⟩
      go_wp2
      go_ret
      exact ⟨by rw [HLN.out]; push_cast; rfl, up hb2 HB.out⟩
    · have hz : ((f k : Int) == 0) = true := by rw [HZZ.out k (by omega)]; rfl
      go_wp2_with fail
      case roundEnd => exact ⟨⟨k + 1, by omega, by go_num, by trivial⟩, by simp [intOf]; omega⟩
theorem and_bit (x r : Nat) (hx : x < 18446744073709551616) : (bits .and .u64 ((x : Int) / 2 ^ r) 1 == 1) = x.testBit r := by
  have h3 : ((x : Int) / 2 ^ r) = ((x / 2 ^ r : Nat) : Int) := by push_cast; rfl
  have h2 : (x / 2 ^ r) &&& 1 = (x / 2 ^ r) % 2 := Nat.and_two_pow_sub_one_eq_mod _ 1
  have h : bits .and .u64 ((x / 2 ^ r : Nat) : Int) ((1 : Nat) : Int) = (((x / 2 ^ r) &&& 1 : Nat) : Int) := bits_and_u64_nat (x / 2 ^ r) 1 (Nat.lt_of_le_of_lt (Nat.div_le_self _ _) hx) (by decide)
  rw [h2] at h
  rw [Nat.testBit_eq_decide_div_mod_eq, h3]
  generalize x / 2 ^ r = y at *
  have h4 : bits .and .u64 (y : Int) 1 = ((y % 2 : Nat) : Int) := h
  rw [h4, Bool.eq_iff_iff, beq_iff_eq, decide_eq_true_eq]
  omega
/-- Where the cell lies: its plane, its place there. -/
theorem hasCell_ok (f : Sol) (z r : Nat) (w : World) (hf : Fit f) (hz : z < 8) (hr : r < 64) : Calls Tryz.prog 153 #[sol f, .int .i64 ((64 * z + r : Nat) : Int)] w (RetB (.bool ((f z).testBit r)) w) := by
  obtain ⟨c, hc⟩ : ∃ c : Int, c = ((64 * z + r : Nat) : Int) := ⟨_, rfl⟩
  have e1 : c.tdiv 64 = (z : Int) := by rw [hc, Int.tdiv_eq_ediv_of_nonneg (by omega)]; omega
  have e2 : c.tmod 64 = (r : Int) := by rw [hc, Int.tmod_eq_emod_of_nonneg (by omega)]; omega
  rw [← hc]
  have HB := Lib.hid (and_bit (f z) r (hf z))
  have hAl : ∀ o, Below w.heap.size w (w.alloc o) := fun o => (Below.refl _ w).alloc (Nat.le_refl _) o
  clear hc hf
  rcases lt8 hz with rfl | rfl | rfl | rfl | rfl | rfl | rfl | rfl
  all_goals
    go_enter Tryz.func153, Tryz.ntmps153
    go_wp2
    go_ret
    exact ⟨retB HB.out, hAl _⟩
end Go.Proofs.YtoajocgfmbakjaaGreatDoor
/-
  Whose a cell is.
-/
set_option linter.unusedVariables false
set_option linter.unusedSimpArgs false
namespace Go.Proofs.YtoajocgfmbakjaaGreatDoor
open Go Go.RowKit Go.Shelf

/-- Whose a cell is: the first piece that has it. -/
def ownK (ms : List Sol) (z r : Nat) : Nat → Nat → Int
  | 0, _ => -1
  | n + 1, i => match ms[i]? with
    | some f => if (f z).testBit r = true then (i : Int) else ownK ms z r n (i + 1)
    | none => -1
def ownP (ms : List Sol) (z r : Nat) : Int := ownK ms z r ms.length 0
set_option maxRecDepth 100000 in
set_option maxHeartbeats 400000 in
theorem owner_ok (ms : List Sol) (v : Value) (z r : Nat) (w : World) (hv : SolsAt w v ms) (hm : ∀ m ∈ ms, Fit m) (hz : z < 8) (hr : r < 64) : Calls Tryz.prog 102 #[v, .int .i64 ((64 * z + r : Nat) : Int)] w (RetB (.int .i64 (ownP ms z r)) w) := by
  have HV := Lib.hid hv
  have HM := Lib.hid hm
  obtain ⟨pa, cap, rfl, hmx, _⟩ := hv
  obtain ⟨c, hc⟩ : ∃ c : Int, c = ((64 * z + r : Nat) : Int) := ⟨_, rfl⟩
  have HC := Lib.hid (fun f W (hf : Fit f) => hasCell_ok f z r W hf hz hr)
  rw [← hc] at HC ⊢
  clear hm hc
  go_enter Tryz.func102, Tryz.ntmps102
  go_wp2_with fail
  go_loopw [9] (fun y wr => ∃ i : Nat, i ≤ ms.length ∧ y = .int .i64 i ∧ Hid (ownP ms z r = ownK ms z r (ms.length - i) i) ∧ Hid (Below w.heap.size w wr)) (fun y _ => ms.length - (intOf y).toNat)
  case atStart => exact ⟨0, by omega, rfl, Lib.hid rfl, Lib.hid (Below.refl _ _)⟩
  case round =>
    obtain ⟨i, hi, rfl, HT, HB⟩ := hrel
    by_cases hlt : i < ms.length
    · have di : decide ((i : Int) < (ms.length : Int)) = true := decide_eq_true (by omega)
      have hii : (i : Int) < (ms.length : Int) := by omega
      obtain ⟨f, hf⟩ : ∃ f, ms[i]? = some f := ⟨_, List.getElem?_eq_getElem hlt⟩
      obtain ⟨b0, o0, cap', he, hb0, hcs⟩ := (HV.out.below HB.out (Nat.le_refl _)).at hf
      obtain ⟨rfl, rfl⟩ : pa = some ⟨b0, o0, none⟩ ∧ cap = cap' := by injection he with e1 e2 e3; exact ⟨e1, e3⟩
      have y0 := hcs 0 (by omega); have y1 := hcs 1 (by omega); have y2 := hcs 2 (by omega); have y3 := hcs 3 (by omega); have y4 := hcs 4 (by omega); have y5 := hcs 5 (by omega); have y6 := hcs 6 (by omega); have y7 := hcs 7 (by omega)
      rw [Nat.add_zero] at y0
      have HE := Lib.hid (show ownK ms z r (ms.length - i) i = if (f z).testBit r = true then (i : Int) else ownK ms z r (ms.length - (i + 1)) (i + 1) by
        rw [show ms.length - i = (ms.length - (i + 1)) + 1 by omega, ownK, hf])
      have HCF := Lib.hid (fun W => HC.out f W (HM.out f (List.mem_of_getElem? hf)))
      have hBa : Below w.heap.size w (wr.alloc (.cells (solC f) 25)) := HB.out.alloc HB.out.size _
      have HBA := Lib.hid hBa
      have hw1 : IntKind.i64.wrap ((i : Int) + 1) = (i : Int) + 1 := by simp only [maxLen] at hmx; rw [IntWalk.i64_in] <;> omega
      clear hcs he hf hBa
      go_wp2_with fail
      refine (HCF.out _).mono ?_
      rintro e w2 ⟨rfl, hb2⟩
      have HB2 := Lib.hid (up hb2 HBA.out)
      clear y0 y1 y2 y3 y4 y5 y6 y7 hb2
      cases hbit : (f z).testBit r with
      | true =>
        have HR := Lib.hid (show ownP ms z r = (i : Int) by rw [HT.out, HE.out, if_pos hbit])
        go_wp2
        go_ret
        exact ⟨by rw [HR.out]; rfl, HB2.out⟩
      | false =>
        have HR := Lib.hid (show ownP ms z r = ownK ms z r (ms.length - (i + 1)) (i + 1) by rw [HT.out, HE.out, if_neg (by rw [hbit]; exact Bool.false_ne_true)])
        go_wp2_with fail
        case roundEnd => exact ⟨⟨i + 1, by omega, by go_num, HR, HB2⟩, by simp [intOf]; omega⟩
    · obtain rfl : i = ms.length := by omega
      have di : decide ((ms.length : Int) < (ms.length : Int)) = false := decide_eq_false (by omega)
      have HR := Lib.hid (show ownP ms z r = -1 by rw [HT.out, Nat.sub_self]; rfl)
      go_wp2
      go_ret
      exact ⟨by rw [HR.out]; rfl, HB.out⟩
end Go.Proofs.YtoajocgfmbakjaaGreatDoor
/-
  The law of Rel with a tail (stores, assignments) behind a head that draws its order, and with relations that also speak of the world (a block that has been laid).
-/
set_option linter.unusedVariables false
set_option linter.unusedSimpArgs false
namespace Go.Proofs.YtoajocgfmbakjaaGreatDoor
open Go Go.RowKit

section
variable {P : Program} {ops : Array Oper}
def tailB (ops : Array Oper) (n : Nat) : Bool := (List.range ops.size).all fun t => decide (t < n) || (List.range n).all fun j => preB ops t j
theorem wp_region_relT {id : Nat} {Q : Exit → Act → World → Prop} {a : Act} {w : World} (n : Nat) (V : Nat → Value → World → Prop) (C : World → Prop) (hm : P.follows .mixedOrders = true) (hD : dstB ops = true) (hB : backB ops = true)
    (hS : szB ops a.tmps.size = true) (hG : freeB ops = true) (hn : decide (n ≤ ops.size) = true) (hTl : tailB ops n = true) (hseq : Region.seqB .any ops (ops.size - n) n (Array.replicate n true ++ Array.replicate (ops.size - n) false) = true) (hC : C w.drew)
    (hst : ∀ j v w w', Below w.heap.size w w' → V j v w → V j v w')
    (hop : ∀ i o, i < n → ops[i]? = some o → ∀ (a' : Act) (w' : World), C w' → (∀ j t, preB ops i j = true → dstR ops j = some t → ∃ v, V j v w' ∧ a'.tmps[t]? = some v) → (∀ t, fixB ops t = true → a'.tmps[t]? = a.tmps[t]?) →
      ∀ K : Act → World → Prop, (∀ v w'', V i v w'' → C w'' → Below w'.heap.size w' w'' → K (a'.put o.dst v) w'') → o.wp P a' w' K Q)
    (hend : ∀ (vals : Nat → Value) (w' : World), C w' → (∀ i, i < n → V i (vals i) w') → wpList P ops Q (ops.toList.drop n) (putA ops vals (List.range n) a) w') : (Code.region id ops true).wp P Q a w := by
  have hsz : ∀ i t, dstR ops i = some t → t < a.tmps.size := fun i t hd => by
    have hi : i < ops.size := by
      rcases Nat.lt_or_ge i ops.size with h' | h'
      · exact h'
      · simp [dstR, Array.getElem?_eq_none h'] at hd
    have h1 := List.all_eq_true.1 hS i (List.mem_range.2 hi)
    rw [hd] at h1
    simpa using h1
  have hn : n ≤ ops.size := of_decide_eq_true hn
  refine wp_region_any hm ?_
  have gd : ∀ (l : Array Bool) (j : Nat), l.size = ops.size → j < ops.size → l.getD j true = l.getD j false := fun l j hs hj => by
    have : j < l.size := by omega
    simp [Array.getD, this]
  -- the list of those that are through, parted in head and tail
  have parts : ∀ l : Array Bool, l.size = ops.size → (∀ t, n ≤ t → l.getD t false = false) → (∀ j, j < n → l.getD j false = true) → l = Array.replicate n true ++ Array.replicate (ops.size - n) false := fun l hs ht hh => by
    apply Array.ext
    · simp; omega
    · intro j h1 h2
      have e : l.getD j false = l[j] := by simp [Array.getD, h1]
      by_cases hj : j < n
      · rw [← e, hh j hj, Array.getElem_append_left (by simpa using hj)]; simp
      · rw [← e, ht j (by omega), Array.getElem_append_right (by simp; omega)]; simp
  have key : ∀ (fuel : Nat) (l : Array Bool) (vals : Nat → Value) (w' : World), l.size = ops.size → (∀ t, n ≤ t → l.getD t false = false) → C w' → (∀ j, l.getD j false = true → V j (vals j) w') → l.toList.count false = fuel + (ops.size - n) →
      wpAny P .any ops Q (fuel + (ops.size - n)) l (putL ops l vals (List.range n) a) w' := by
    have cnt : ∀ l : Array Bool, l = Array.replicate n true ++ Array.replicate (ops.size - n) false → l.toList.count false = ops.size - n := fun l e => by
      rw [e]
      simp [List.count_replicate]
    intro fuel
    induction fuel with
    | zero =>
      intro l vals w' hs ht hC hV hc
      rw [Nat.zero_add] at hc ⊢
      have hl : ∀ j, j < n → l.getD j false = true := fun j hj => Classical.byContradiction fun hne => by
        have hne : l.getD j false = false := by simpa using hne
        have hjl : j < l.toList.length := by simp; omega
        have hdrop : (l.toList.drop n).count false = ops.size - n := by
          rw [List.count_eq_length.2, List.length_drop]
          · simp; omega
          · intro b hb
            obtain ⟨k, hk, rfl⟩ := List.getElem_of_mem hb
            rw [List.getElem_drop]
            have h1 := ht (n + k) (by omega)
            rw [List.length_drop] at hk
            have hk' : n + k < l.size := by simpa using (by omega : n + k < l.toList.length)
            simpa [Array.getD, hk'] using h1.symm
        have htake : 0 < (l.toList.take n).count false := List.count_pos_iff.2 (by
          have hjl' : j < l.size := by simpa using hjl
          have e : l.getD j false = l[j] := by simp [Array.getD, hjl']
          refine List.mem_iff_getElem.2 ⟨j, by simp; omega, ?_⟩
          rw [List.getElem_take, Array.getElem_toList, ← e, hne])
        have hsum : l.toList.count false = (l.toList.take n).count false + (l.toList.drop n).count false := by rw [← List.count_append, List.take_append_drop]
        omega
      have e := parts l hs ht hl
      rw [putL_all l vals _ _ fun j hj => hl j (List.mem_range.1 hj)]
      have h := wpAny_of_seq (md := .any) (Q' := Q) (ops.toList.drop n) n l (putA ops vals (List.range n) a) w' (fun j => by rw [List.getElem?_drop, Array.getElem?_toList]) (by rw [List.length_drop, Array.length_toList, e]; exact hseq) (hend vals w' hC fun i hi => hV i (hl i hi))
      rwa [List.length_drop, Array.length_toList] at h
    | succ fuel ih =>
      intro l vals w' hs ht hC hV hc
      -- a head operation that is not through
      have hex : ∃ j, j < n ∧ l.getD j false = false := Classical.byContradiction fun hne => by
        have hl : ∀ j, j < n → l.getD j false = true := fun j hj => Classical.byContradiction fun h1 => hne ⟨j, hj, by simpa using h1⟩
        have := cnt l (parts l hs ht hl)
        omega
      have hrd : Region.ready .any ops l ≠ [] := by
        obtain ⟨j, hj, h0⟩ := hex
        induction j using Nat.strongRecOn with
        | ind j ihj =>
          by_cases hp : ∃ k, k < j ∧ l.getD k false = false
          · obtain ⟨k, hk, hk0⟩ := hp
            exact ihj k hk (by omega) hk0
          · have hj' : j < ops.size := by omega
            have hmr : j ∈ Region.ready .any ops l := mem_ready.2 ⟨by rw [gd l j hs hj']; exact h0, ops[j], Array.getElem?_eq_getElem hj', fun e he hb => by
              have h1 := List.all_eq_true.1 hB j (List.mem_range.2 hj')
              rw [Array.getElem?_eq_getElem hj'] at h1
              have h2 := Array.all_eq_true_iff_forall_mem.1 h1 e he
              have h3 : e.on < j := by simpa [hb] using h2
              exact Classical.byContradiction fun h4 => hp ⟨e.on, h3, by simpa using h4⟩⟩
            exact List.ne_nil_of_mem hmr
      rw [show fuel + 1 + (ops.size - n) = fuel + (ops.size - n) + 1 by omega]
      refine ⟨fun hr => absurd hr hrd, fun i hi => ?_⟩
      obtain ⟨h1, o, ho, hall⟩ := mem_ready.1 hi
      have hi' : i < ops.size := (Array.getElem?_eq_some_iff.1 ho).1
      rw [gd l i hs hi'] at h1
      have hin : i < n := Classical.byContradiction fun hge => by
        obtain ⟨j, hj, h0⟩ := hex
        have h2 := List.all_eq_true.1 hTl i (List.mem_range.2 hi')
        have h3 : (List.range n).all (fun j => preB ops i j) = true := by simpa [hge] using h2
        have h4 := List.all_eq_true.1 h3 j (List.mem_range.2 hj)
        unfold preB at h4
        rw [ho] at h4
        obtain ⟨k, hk, hbe⟩ := Array.any_eq_true.1 (show (o.after.any fun e => Region.binds .any e && decide (e.on = j)) = true from h4)
        have he : o.after[k] ∈ o.after := Array.getElem_mem hk
        generalize o.after[k] = e at hbe he
        simp only [Bool.and_eq_true, decide_eq_true_eq] at hbe
        have h5 := hall e he hbe.1
        rw [hbe.2, h0] at h5
        cases h5
      have hg : o.guard = none := by
        have h := Array.all_eq_true_iff_forall_mem.1 hG o (Array.mem_of_getElem? ho)
        simpa using h
      have hwt : Region.wanted o (yielded ops (putL ops l vals (List.range n) a).tmps) = true := by unfold Region.wanted; rw [hg]
      unfold wpOp
      rw [ho]
      simp only [hwt, if_true]
      refine .inl (hop i o hin ho _ w' hC ?_ (fun t ht => putL_other l vals _ _ fun j hj => by simpa using List.all_eq_true.1 ht j (List.mem_range.2 (Nat.lt_of_lt_of_le (List.mem_range.1 hj) hn))) _ ?_)
      · intro j t hp hd
        unfold preB at hp
        rw [ho] at hp
        obtain ⟨k, hk, hbe⟩ := Array.any_eq_true.1 (show (o.after.any fun e => Region.binds .any e && decide (e.on = j)) = true from hp)
        have he : o.after[k] ∈ o.after := Array.getElem_mem hk
        generalize o.after[k] = e at hbe he
        simp only [Bool.and_eq_true, decide_eq_true_eq] at hbe
        obtain ⟨hb, rfl⟩ := hbe
        have hl := hall e he hb
        have hj' : e.on < n := Classical.byContradiction fun hge => by rw [ht e.on (by omega)] at hl; cases hl
        exact ⟨vals e.on, hV _ hl, putL_slot hD l vals hd hl a (hsz _ _ hd) _ hj'⟩
      · intro v w'' hv hC' hbl
        have hdo : o.dst = dstR ops i := by simp [dstR, ho]
        rw [hdo, ← putL_step hD l vals i v a (by omega) h1 _ hin]
        refine ih _ _ w'' (by simpa using hs) (fun t htn => by rw [getD_other l (by omega)]; exact ht t htn) hC' (fun j hj => ?_) ?_
        · by_cases e : j = i
          · subst e; simp [upd, hv]
          · rw [getD_other l e] at hj
            simpa [upd, e] using hst j _ w' w'' hbl (hV j hj)
        · have hil : i < l.toList.length := by simpa using (by omega : i < l.size)
          have h2 : l.toList[i] = false := by
            have hil' : i < l.size := by omega
            simpa [Array.getD, hil'] using h1
          have h3 : l.toList.count false = (l.toList.set i true).count false + 1 := by
            have h4 : 0 < l.toList.count false := List.count_pos_iff.2 (by rw [← h2]; exact List.getElem_mem hil)
            rw [List.count_set hil, h2, if_pos (by decide), if_neg (by decide)]
            omega
          rw [Array.toList_setIfInBounds]
          omega
  have h0 : ∀ j, (Array.replicate ops.size false).getD j false = false := by
    intro j
    rw [Array.getD_eq_getD_getElem?, Array.getElem?_replicate]
    split <;> rfl
  have h := key n (Array.replicate ops.size false) (fun _ => undef) w.drew (by simp) (fun t _ => h0 t) hC (fun j hj => by rw [h0] at hj; cases hj) (by rw [Array.toList_replicate, List.count_replicate_self]; omega)
  rw [putL_none _ _ _ _ fun j _ => h0 j, show n + (ops.size - n) = ops.size by omega] at h
  exact h
end
end Go.Proofs.YtoajocgfmbakjaaGreatDoor
/-
  Holds: what stands on the way of a move (where no error is found).
-/
set_option linter.unusedVariables false
set_option linter.unusedSimpArgs false
namespace Go.Proofs.YtoajocgfmbakjaaGreatDoor
open Go Go.RowKit Go.Shelf
attribute [local go_sem] Oper.semAt_some

/-- Whether the way ends where a solid stands. -/
def stopB (there : Sol) (x : SB) : Bool := !x.2 || touchB x.1 there
/-- What is answered there. -/
def holdV (ms : List Sol) (there : Sol) (x : SB) : Int × Int × Bool :=
  if x.2 = true then ((leastN (meetF x.1 there) : Nat), ownP ms (leastZ (meetF x.1 there)) (lowB (meetF x.1 there (leastZ (meetF x.1 there)))), true) else (-1, -1, true)
def holdL (ms : List Sol) (there : Sol) (L : List SB) : Int × Int × Bool := ((L.find? (stopB there)).map (holdV ms there)).getD (0, 0, false)
theorem res_iibe {fn : Func} {t s r q : Tmp} {tmps : Array Value} {W : World} {B C D E : Nat} {x y z u : Value} (h : fn.results = #[.cell t 3, .cell s 3, .cell r 4, .cell q 28]) (ht : tmps[t]?.getD undef = .pointer (some ⟨B, 0, none⟩)) (hs : tmps[s]?.getD undef = .pointer (some ⟨C, 0, none⟩)) (hr : tmps[r]?.getD undef = .pointer (some ⟨D, 0, none⟩)) (hq : tmps[q]?.getD undef = .pointer (some ⟨E, 0, none⟩))
    (h0 : W.cell? ⟨B, 0, none⟩ = some x) (h1 : W.cell? ⟨C, 0, none⟩ = some y) (h2 : W.cell? ⟨D, 0, none⟩ = some z) (h3 : W.cell? ⟨E, 0, none⟩ = some u) :
    (results fn tmps).run Tryz.prog W = .ok (.tuple #[x, y, z, u]) W := by
  simp [results, h, ht, hs, hr, hq, go_sem, h0, h1, h2, h3]
/-- The world behind a store of four results. -/
abbrev putR (W : World) (R : Nat) (x y z u : Value) : World := (((W.setCell ⟨R, 0, none⟩ x).setCell ⟨R + 1, 0, none⟩ y).setCell ⟨R + 1 + 1, 0, none⟩ z).setCell ⟨R + 1 + 1 + 1, 0, none⟩ u
/-- The four results in their cells. -/
structure Res4 (W : World) (R : Nat) (a b c d : Value) : Prop where
  ha : W.heap[R]? = some (.cells #[a] 3 (0, 0))
  hb : W.heap[R + 1]? = some (.cells #[b] 3 (0, 0))
  hc : W.heap[R + 1 + 1]? = some (.cells #[c] 4 (0, 0))
  hd : W.heap[R + 1 + 1 + 1]? = some (.cells #[d] 28 (0, 0))
theorem Res4.lt {W : World} {R : Nat} {a b c d : Value} (h : Res4 W R a b c d) : R + 1 + 1 + 1 < W.heap.size := (Array.getElem?_eq_some_iff.1 h.hd).1
theorem Res4.below {W W' : World} {R n : Nat} {a b c d : Value} (h : Res4 W R a b c d) (hb : Below n W W') (hn : R + 1 + 1 + 1 < n) : Res4 W' R a b c d :=
  ⟨heap_below h.ha hb (by omega), heap_below h.hb hb (by omega), heap_below h.hc hb (by omega), heap_below h.hd hb hn⟩
theorem Res4.keep {W W' : World} {R : Nat} {a b c d : Value} (h : Res4 W R a b c d) (hk : ∀ (k : Nat) (o : Obj), k ≤ R + 1 + 1 + 1 → W.heap[k]? = some o → W'.heap[k]? = some o) : Res4 W' R a b c d :=
  ⟨hk _ _ (by omega) h.ha, hk _ _ (by omega) h.hb, hk _ _ (by omega) h.hc, hk _ _ (by omega) h.hd⟩
theorem Res4.put {W : World} {R : Nat} {a b c d : Value} (h : Res4 W R a b c d) (x y z u : Value) : Res4 (putR W R x y z u) R x y z u :=
  ⟨heap_set (heap_set (heap_set (blk1_set h.ha x) (by omega) y) (by omega) z) (by omega) u, heap_set (heap_set (blk1_set (heap_set h.hb (by omega) x) y) (by omega) z) (by omega) u,
   heap_set (blk1_set (heap_set (heap_set h.hc (by omega) x) (by omega) y) z) (by omega) u, blk1_set (heap_set (heap_set (heap_set h.hd (by omega) x) (by omega) y) (by omega) z) u⟩
theorem Res4.setA {W : World} {R : Nat} {a b c d : Value} (h : Res4 W R a b c d) (x : Value) : Res4 (W.setCell ⟨R, 0, none⟩ x) R x b c d := ⟨blk1_set h.ha x, heap_set h.hb (by omega) x, heap_set h.hc (by omega) x, heap_set h.hd (by omega) x⟩
theorem Res4.setD {W : World} {R : Nat} {a b c d : Value} (h : Res4 W R a b c d) (x : Value) : Res4 (W.setCell ⟨R + 1 + 1 + 1, 0, none⟩ x) R a b c x := ⟨heap_set h.ha (by omega) x, heap_set h.hb (by omega) x, heap_set h.hc (by omega) x, blk1_set h.hd x⟩
theorem putR_below {W w : World} {n R : Nat} (h : Below n w W) (hn : n ≤ R) (x y z u : Value) : Below n w (putR W R x y z u) :=
  (((h.setCell (p := ⟨R, 0, none⟩) hn x).setCell (p := ⟨R + 1, 0, none⟩) (by show n ≤ R + 1; omega) y).setCell (p := ⟨R + 1 + 1, 0, none⟩) (by show n ≤ R + 1 + 1; omega) z).setCell (p := ⟨R + 1 + 1 + 1, 0, none⟩) (by show n ≤ R + 1 + 1 + 1; omega) u
theorem putR_keeps (W : World) (R B : Nat) (x y z u : Value) : KeepsFrom B W (putR W R x y z u) := ((((KeepsOthers.setCell _ _ _).trans (KeepsOthers.setCell _ _ _)).trans (KeepsOthers.setCell _ _ _)).trans (KeepsOthers.setCell _ _ _)).from B
theorem putR_other {W : World} {R k : Nat} {o : Obj} (h : W.heap[k]? = some o) (h1 : k < R ∨ R + 1 + 1 + 1 < k) (x y z u : Value) : (putR W R x y z u).heap[k]? = some o :=
  heap_set (heap_set (heap_set (heap_set h (by omega) x) (by omega) y) (by omega) z) (by omega) u
set_option maxRecDepth 100000 in
set_option maxHeartbeats 2000000 in
theorem holds_yes (ms : List Sol) (l : List Int) (g p s far : Nat) (f : Sol) (v lv : Value) (w : World) (hv : SolsAt w v ms) (hl : IntsAt w lv l) (hm : ∀ m ∈ ms, Fit m) (h100 : l.length ≤ 100) (hc : chkM ms = 0) (hs : setF ms.length l = some g)
    (hf : ms[p]? = some f) (hbit : g.testBit p = false) (hs4 : s ≤ 4) (hf7 : far ≤ 7) (hmv : moveB ms.length p s far = true) (hT : Tab64 w) :
    Calls Tryz.prog 34 #[v, lv, .agg #[.int .i64 (p), .int .i64 (s), .int .i64 (far)]] w (RetB (.tuple #[.int .i64 (holdL ms (restF ms (g ||| 2 ^ p)) (standsL f s far)).1, .int .i64 (holdL ms (restF ms (g ||| 2 ^ p)) (standsL f s far)).2.1, .bool (holdL ms (restF ms (g ||| 2 ^ p)) (standsL f s far)).2.2, .int .i64 0]) w) := by
  obtain ⟨B, hBB⟩ : ∃ B, B = w.heap.size := ⟨_, rfl⟩
  obtain ⟨R, hR⟩ : ∃ R, R = w.heap.size + 1 := ⟨_, rfl⟩
  obtain ⟨W0, hW0⟩ : ∃ W0, W0 = ((((w.alloc (.cells #[.int .i64 (p), .int .i64 (s), .int .i64 (far)] 40)).alloc (.cells #[.int .i64 0] 3)).alloc (.cells #[.int .i64 0] 3)).alloc (.cells #[.bool false] 4)).alloc (.cells #[.int .i64 0] 28) := ⟨_, rfl⟩
  have hB0 : Below w.heap.size w W0 := by rw [hW0]; exact (((((Below.refl _ w).alloc (Nat.le_refl _) _).alloc (by simp) _).alloc (by simp; omega) _).alloc (by simp; omega) _).alloc (by simp; omega) _
  have m0 : BoxM W0 B p s far := by
    rw [hW0, hBB]; exact (Below.heap_alloc _ _ _ (by simp; omega)).trans ((Below.heap_alloc _ _ _ (by simp; omega)).trans ((Below.heap_alloc _ _ _ (by simp; omega)).trans ((Below.heap_alloc _ _ _ (by simp)).trans (World.alloc_heap_new w _))))
  have r0 : Res4 W0 R (.int .i64 0) (.int .i64 0) (.bool false) (.int .i64 0) := by
    rw [hW0, hR]
    obtain ⟨X, hX⟩ : ∃ X, X = w.alloc (.cells #[.int .i64 (p), .int .i64 (s), .int .i64 (far)] 40) := ⟨_, rfl⟩
    have hsz : w.heap.size + 1 = X.heap.size := by rw [hX, World.size_alloc]
    rw [← hX, hsz]
    refine ⟨?_, ?_, ?_, ?_⟩
    · exact (Below.heap_alloc _ _ _ (by simp; omega)).trans ((Below.heap_alloc _ _ _ (by simp; omega)).trans ((Below.heap_alloc _ _ _ (by simp)).trans (World.alloc_heap_new X _)))
    · refine (Below.heap_alloc _ _ _ (by simp)).trans ((Below.heap_alloc _ _ _ (by simp)).trans ?_)
      have := World.alloc_heap_new (X.alloc (.cells #[.int .i64 0] 3)) (.cells #[.int .i64 0] 3); rwa [World.size_alloc] at this
    · refine (Below.heap_alloc _ _ _ (by simp)).trans ?_
      have := World.alloc_heap_new ((X.alloc (.cells #[.int .i64 0] 3)).alloc (.cells #[.int .i64 0] 3)) (.cells #[.bool false] 4); rwa [World.size_alloc, World.size_alloc] at this
    · have := World.alloc_heap_new (((X.alloc (.cells #[.int .i64 0] 3)).alloc (.cells #[.int .i64 0] 3)).alloc (.cells #[.bool false] 4)) (.cells #[.int .i64 0] 28); rwa [World.size_alloc, World.size_alloc, World.size_alloc] at this
  have HY := lookW_yes ms l g v lv W0 (hv.below hB0 (Nat.le_refl _)) (hl.below hB0 (Nat.le_refl _)) hm hc h100 hs
  rw [hW0] at HY
  have HYH := Lib.hid HY
  have h12 := chkM_len hc
  have hp : p < ms.length := (List.getElem?_eq_some_iff.1 hf).1
  have hg := setF_lt h12 hs
  have hg2 : g ||| 2 ^ p < 65536 := or16 hg (pow16_lt (by omega))
  have HV := Lib.hid hv
  have HM := Lib.hid hm
  have HT := Lib.hid hT
  have HF := Lib.hid hf
  obtain ⟨th, hth⟩ : ∃ th, th = restF ms (g ||| 2 ^ p) := ⟨_, rfl⟩
  have FTH := Lib.hid (show Fit th by rw [hth]; exact notF_fit _)
  have HTH := Lib.hid hth
  obtain ⟨LL, hLL⟩ : ∃ LL, LL = standsL f s far := ⟨_, rfl⟩
  rw [← hth, ← hLL]
  obtain ⟨ans, hans⟩ : ∃ ans, ans = holdL ms th LL := ⟨_, rfl⟩
  rw [← hans]
  obtain ⟨pa, cap, rfl, _, _⟩ := hv
  have HR := Lib.hid hR
  have HBE := Lib.hid hBB
  have HAN := Lib.hid hans
  have HLL := Lib.hid hLL
  have HIM := Lib.hid (fun W => isMove_ok pa ms.length cap p s far W)
  have HH := Lib.hid (fun W => has_ok g p hg (by omega) W)
  have HWI := Lib.hid (fun W => with_ok g p hg (by omega) W)
  have HRE := Lib.hid (fun W h => (show Calls Tryz.prog 97 #[.slice pa ms.length cap, setV (g ||| 2 ^ p)] W (RetB (sol th) W) by rw [HTH.out]; exact rest_ok ms (g ||| 2 ^ p) (.slice pa ms.length cap) W hg2 h HM.out h12))
  have HMV := Lib.hid hmv
  have HBT := Lib.hid hbit
  obtain ⟨b0, o0, cap', he, hb0, hcs⟩ := HV.out.at HF.out
  obtain ⟨rfl, rfl⟩ : pa = some ⟨b0, o0, none⟩ ∧ cap = cap' := by injection he with e1 e2 e3; exact ⟨e1, e3⟩
  have HCS := Lib.hid hcs
  clear hm hc hT hf hs hl hbit hmv HY hR hBB hans hLL hth he hcs
  refine (callsIn_wide (n := 9)).1 ?_
  refine callsIn_of_wp_marks Tryz.func34 rfl trivial ?_ rfl
  simp only [Tryz.ntmps34, List.size_toArray, List.length_cons, List.length_nil, Nat.reduceAdd, Nat.reduceSub, Array.replicate_succ, Array.replicate_zero, List.push_toArray, List.append_toArray, List.nil_append, List.cons_append]
  refine wpIn_wide.2 ?_
  go_wp2_with fail
  refine HYH.out.mono ?_
  rw [← hW0, ← HBE.out]
  rintro e w1 ⟨b, rfl, hb, hM1, hB1⟩
  have hm1 := heap_below m0 hB1 (Array.getElem?_eq_some_iff.1 m0).1
  have hr1 := r0.below hB1 r0.lt
  have hBw := up hB1 hB0
  obtain ⟨A, hAA⟩ : ∃ A, A = w1.heap.size := ⟨_, rfl⟩
  obtain ⟨W2, hW2⟩ : ∃ W2, W2 = w1.alloc (.cells #[.slice (some ⟨b0, o0, none⟩) ms.length cap, .map (some b)] 101) := ⟨_, rfl⟩
  have q2 : W2.heap[A]? = some (.cells #[.slice (some ⟨b0, o0, none⟩) ms.length cap, .map (some b)] 101 (0, 0)) := by rw [hW2, hAA]; exact World.alloc_heap_new w1 _
  have hA : Below w1.heap.size w1 W2 := by rw [hW2]; exact (Below.refl _ w1).alloc (Nat.le_refl _) _
  have hm2 := heap_below hm1 hA (Array.getElem?_eq_some_iff.1 hm1).1
  have hr2 := hr1.below hA hr1.lt
  have hB2 := hBw.trans (hA.mono hBw.size)
  obtain ⟨W3, hW3⟩ : ∃ W3, W3 = W2.setCell ⟨R + 1 + 1 + 1, 0, none⟩ (.int .i64 0) := ⟨_, rfl⟩
  have hr3 := hr2.setD (.int .i64 0)
  have hB3 : Below w.heap.size w W3 := by rw [hW3]; exact hB2.setCell (p := ⟨R + 1 + 1 + 1, 0, none⟩) (by have := HR.out; show w.heap.size ≤ R + 1 + 1 + 1; omega) _
  have hRA : R + 1 + 1 + 1 < A := by have := hr1.lt; omega
  have hm3 : BoxM W3 B p s far := by rw [hW3]; exact heap_set hm2 (by have := HR.out; have := HBE.out; omega) _
  have q3 : W3.heap[A]? = some (.cells #[.slice (some ⟨b0, o0, none⟩) ms.length cap, .map (some b)] 101 (0, 0)) := by rw [hW3]; exact heap_set q2 (by omega) _
  rw [← hW3] at hr3
  have d2 := cells4 hr2.hd 0 _ rfl
  have fd2 := free3 hr2.hd 0
  have HB3 := Lib.hid hB3
  have HR3 := Lib.hid hr3
  have HRA := Lib.hid hRA
  have d3 := cells4 hr3.hd 0 _ rfl
  obtain ⟨x0, x1, x2⟩ := cells3 hm3
  have c0 := cells4 q3 0 _ rfl
  rw [hW2] at hW3
  have lR : R + 1 + 1 + 1 < w1.heap.size := by have := hr1.lt; omega
  have eR : (⟨w.heap.size + 1 + 1 + 1 + 1, 0, none⟩ : Addr) = ⟨R + 1 + 1 + 1, 0, none⟩ := by rw [HR.out]
  have d1 := cells4 hr1.hd 0 _ rfl
  have fd1 := free3 hr1.hd 0
  have dX : (w1.alloc (.cells #[.slice (some ⟨b0, o0, none⟩) ms.length cap, .map (some b)] 101)).cell? ⟨R + 1 + 1 + 1, 0, none⟩ = some (.int .i64 0) := by rw [← hW2]; exact d2
  clear m0 r0 hB0 hM1 hB1 hBw hA hm1 hr1 hb hW0 HYH hB2 hm2 q2 d2 d1 hr2 fd1 hr3 hB3 hRA lR
  rw [hW2] at fd2
  rw [hW3] at d3 x0 x1 x2
  rw [hW3, hAA] at c0
  rw [← (show R = B + 1 by rw [HR.out, HBE.out])]
  go_wp2_with fail
  refine (HIM.out _).mono ?_
  rw [← hW3, ← hAA]
  rintro e w4 ⟨rfl, hb4⟩
  have HM4 := Lib.hid (heap_below hm3 hb4 (Array.getElem?_eq_some_iff.1 hm3).1)
  have HQ4 := Lib.hid (heap_below q3 hb4 (Array.getElem?_eq_some_iff.1 q3).1)
  have HR4 := Lib.hid (HR3.out.below hb4 HR3.out.lt)
  have HB4 := Lib.hid (up hb4 HB3.out)
  clear c0 x0 x1 x2 d3 dX fd2 hW3 hAA hW2 hm3 q3 hb4 HR3 HB3
  rw [HMV.out]
  obtain ⟨x0, x1, x2⟩ := cells3 HM4.out
  go_wp2_with fail
  refine (HH.out _).mono ?_
  rw [HBT.out]
  rintro e w5 ⟨rfl, hb5⟩
  have hm5 := heap_below HM4.out hb5 (Array.getElem?_eq_some_iff.1 HM4.out).1
  have q5 := heap_below HQ4.out hb5 (Array.getElem?_eq_some_iff.1 HQ4.out).1
  have HR5 := Lib.hid (HR4.out.below hb5 HR4.out.lt)
  have HB5 := Lib.hid (up hb5 HB4.out)
  clear x0 x1 x2 hb5 HM4 HQ4 HR4 HB4
  obtain ⟨x0, x1, x2⟩ := cells3 hm5
  have c0 := cells4 q5 0 _ rfl
  go_wp2_with fail
  have HV5 := Lib.hid (HV.out.below HB5.out (Nat.le_refl _))
  have lA5 := (Array.getElem?_eq_some_iff.1 q5).1
  have lB5 := (Array.getElem?_eq_some_iff.1 hm5).1
  have hCd : Below w5.heap.size w5 w5.drew := Below.drew (Below.refl _ _)
  refine wp_region_relT 8 (fun (iR : Nat) (v : Value) (W : World) => match iR with | 0 => v = .pointer (some ⟨A, 0, none⟩) | 1 => v = .slice (some ⟨b0, o0, none⟩) ms.length cap | 2 => v = setV g | 3 => v = .pointer (some ⟨B, 0, none⟩) | 4 => v = .int .i64 p | 5 => v = setV (g ||| 2 ^ p) | 6 => v = sol th | _ => ∃ h, v = .pointer (some ⟨h, 0, none⟩) ∧ w5.heap.size ≤ h ∧ BoxD W h (fun _ => 0)) (fun W => Below w5.heap.size w5 W) (by kernel_rfl) (by kernel_rfl) (by kernel_rfl) (by kernel_rfl) (by kernel_rfl) (by kernel_rfl) (by kernel_rfl) (by kernel_rfl) hCd ?hst ?hop ?hend
  case hst =>
    intro jR v W W' hb hv
    rcases jR with _ | _ | _ | _ | _ | _ | _ | jR
    all_goals first | exact hv | (obtain ⟨h, e, h1, h2⟩ := hv; exact ⟨h, e, h1, h2.below hb h2.lt⟩)
  case hop =>
    intro iR o hi ho a' W hC hin hfix K hK
    have c0 := (hC.cell (p := ⟨A, 0, none⟩) lA5).trans c0
    have x0 := (hC.cell (p := ⟨B, 0, none⟩) lB5).trans x0
    have s5 : a'.tmps[5]? = some (.pointer (some ⟨B, 0, none⟩)) := hfix 5 (by kernel_rfl)
    have s10 : a'.tmps[10]? = some (.pointer (some ⟨A, 0, none⟩)) := hfix 10 (by kernel_rfl)
    have s11 : a'.tmps[11]? = some (setV g) := hfix 11 (by kernel_rfl)
    rcases (show iR = 0 ∨ iR = 1 ∨ iR = 2 ∨ iR = 3 ∨ iR = 4 ∨ iR = 5 ∨ iR = 6 ∨ iR = 7 by omega) with rfl | rfl | rfl | rfl | rfl | rfl | rfl | rfl
    · obtain rfl := Option.some.inj ho
      clear hin hfix ho
      go_simp
      exact hK _ _ rfl hC (Below.refl _ _)
    · obtain ⟨v0, rfl, h0⟩ := hin 0 36 (by kernel_rfl) (by kernel_rfl)
      obtain rfl := Option.some.inj ho
      clear hin hfix ho
      go_simp
      exact hK _ _ rfl hC (Below.refl _ _)
    · obtain rfl := Option.some.inj ho
      clear hin hfix ho
      go_simp
      exact hK _ _ rfl hC (Below.refl _ _)
    · obtain rfl := Option.some.inj ho
      clear hin hfix ho
      go_simp
      exact hK _ _ rfl hC (Below.refl _ _)
    · obtain ⟨v3, rfl, h3⟩ := hin 3 39 (by kernel_rfl) (by kernel_rfl)
      obtain rfl := Option.some.inj ho
      clear hin hfix ho
      go_simp
      exact hK _ _ rfl hC (Below.refl _ _)
    · obtain ⟨v2, rfl, h2⟩ := hin 2 38 (by kernel_rfl) (by kernel_rfl)
      obtain ⟨v4, rfl, h4⟩ := hin 4 40 (by kernel_rfl) (by kernel_rfl)
      obtain rfl := Option.some.inj ho
      clear hin hfix ho
      go_simp
      refine (HWI.out _).mono ?_
      rintro e W3 ⟨rfl, hb3⟩
      exact hK _ _ rfl (hC.trans (hb3.mono hC.size)) hb3
    · obtain ⟨v1, rfl, h1⟩ := hin 1 37 (by kernel_rfl) (by kernel_rfl)
      obtain ⟨v5, rfl, h5⟩ := hin 5 41 (by kernel_rfl) (by kernel_rfl)
      obtain rfl := Option.some.inj ho
      clear hin hfix ho
      go_simp
      refine (HRE.out _ (HV5.out.below hC (Nat.le_refl _))).mono ?_
      rintro e W3 ⟨rfl, hb3⟩
      exact hK _ _ rfl (hC.trans (hb3.mono hC.size)) hb3
    · obtain rfl := Option.some.inj ho
      clear hin hfix ho
      go_simp
      exact hK _ _ ⟨_, rfl, hC.size, BoxK.zero rfl⟩ (hC.alloc hC.size _) ((Below.refl _ _).alloc (Nat.le_refl _) _)
  case hend =>
  intro vals W hC hV
  have z0 := hV 0 (by decide); have z1 := hV 1 (by decide); have z2 := hV 2 (by decide); have z3 := hV 3 (by decide); have z4 := hV 4 (by decide); have z5 := hV 5 (by decide); have z6 := hV 6 (by decide)
  obtain ⟨T, z7, hT5, hTB⟩ := hV 7 (by decide)
  clear hV
  simp only at z0 z1 z2 z3 z4 z5 z6
  have hr : List.range 8 = [0, 1, 2, 3, 4, 5, 6, 7] := rfl
  simp only [List.size_toArray, List.length_cons, List.length_nil, Nat.reduceAdd, List.drop_succ_cons, List.drop_zero, putA, hr, List.foldl_cons, List.foldl_nil, dstR, List.getElem?_toArray, List.getElem?_cons_succ, List.getElem?_cons_zero, Option.bind_some, Act.put, List.setIfInBounds_toArray, List.set_cons_succ, List.set_cons_zero, z0, z1, z2, z3, z4, z5, z6, z7]
  clear hr z0 z1 z2 z3 z4 z5 z6 z7
  have d0 := (hTB).cell (k := 0) (by omega); have d1 := (hTB).cell (k := 1) (by omega); have d2 := (hTB).cell (k := 2) (by omega); have d3 := (hTB).cell (k := 3) (by omega); have d4 := (hTB).cell (k := 4) (by omega); have d5 := (hTB).cell (k := 5) (by omega); have d6 := (hTB).cell (k := 6) (by omega); have d7 := (hTB).cell (k := 7) (by omega)
  have k0 := (hTB).free 0; have k1 := (hTB).free 1; have k2 := (hTB).free 2; have k3 := (hTB).free 3; have k4 := (hTB).free 4; have k5 := (hTB).free 5; have k6 := (hTB).free 6; have k7 := (hTB).free 7
  go_wp2_with fail
  obtain ⟨W7, hW7⟩ : ∃ W7, W7 = (World.setCell (World.setCell (World.setCell (World.setCell (World.setCell (World.setCell (World.setCell (World.setCell W ⟨T, 0, none⟩ (.int .u64 ((th 0 : Nat) : Int))) ⟨T, 1, none⟩ (.int .u64 ((th 1 : Nat) : Int))) ⟨T, 2, none⟩ (.int .u64 ((th 2 : Nat) : Int))) ⟨T, 3, none⟩ (.int .u64 ((th 3 : Nat) : Int))) ⟨T, 4, none⟩ (.int .u64 ((th 4 : Nat) : Int))) ⟨T, 5, none⟩ (.int .u64 ((th 5 : Nat) : Int))) ⟨T, 6, none⟩ (.int .u64 ((th 6 : Nat) : Int))) ⟨T, 7, none⟩ (.int .u64 ((th 7 : Nat) : Int))) := ⟨_, rfl⟩
  rw [← hW7]
  have HT7 := Lib.hid (show BoxD W7 T th by rw [hW7]; exact hTB.put th)
  have b7 : Below w5.heap.size w5 W7 := by rw [hW7]; exact below_put8 hC hT5 _
  have hm7 := heap_below hm5 b7 (Array.getElem?_eq_some_iff.1 hm5).1
  have HQ7 := Lib.hid (heap_below q5 b7 (Array.getElem?_eq_some_iff.1 q5).1)
  have HR7 := Lib.hid (HR5.out.below b7 HR5.out.lt)
  have HB7 := Lib.hid (up b7 HB5.out)
  have HZT := Lib.hid (show R + 1 + 1 + 1 < T by have := HR5.out.lt; omega)
  clear x0 x1 x2 c0 hm5 q5 HR5 HB5 HV5 b7 lA5 lB5 hCd hC hW7 hTB hT5 d0 d1 d2 d3 d4 d5 d6 d7 k0 k1 k2 k3 k4 k5 k6 k7
  obtain ⟨x0, x1, x2⟩ := cells3 hm7
  have y := fun j hj => (HB7.out.cell (p := ⟨b0, o0 + p * 8 + j, none⟩) hb0).trans (HCS.out j hj)
  have y0 := y 0 (by omega); have y1 := y 1 (by omega); have y2 := y 2 (by omega); have y3 := y 3 (by omega); have y4 := y 4 (by omega); have y5 := y 5 (by omega); have y6 := y 6 (by omega); have y7 := y 7 (by omega)
  rw [Nat.add_zero] at y0
  clear y
  have hii : (p : Int) < (ms.length : Int) := by omega
  have lB7 := (Array.getElem?_eq_some_iff.1 hm7).1
  have lb7 : b0 < W7.heap.size := by have := HB7.out.size; omega
  (refine wp_region_quiet_tail 6 (fun w' => Below W7.heap.size W7 w') (by kernel_rfl) (by kernel_rfl) (Below.drew (Below.refl _ _)) ?_; simp only [List.take_succ_cons, List.take_zero, List.drop_succ_cons, List.drop_zero]; (iterate 6 (refine wpQuiet_step (fun K hK => ?_); go_simp; first | (refine hK _ ?_; clear hK K) | (apply Exists.intro; refine ⟨fun W' hW' => ?_, hK _ ?_⟩; (focus (first | (with_reducible exact rfl) | (with_reducible exact ⟨rfl, rfl⟩) | (obtain ⟨hcq, hfq⟩ := bcell hW'; have hzq := hW'.size; (try go_simp); first | (with_reducible exact rfl) | (with_reducible exact ⟨rfl, rfl⟩) | (fail)))); clear hK K))); refine wpQuiet_nil ?_; intro w1q hb1q)
  clear x0 x1 x2 y0 y1 y2 y3 y4 y5 y6 y7
  have q8 := heap_below HQ7.out hb1q (Array.getElem?_eq_some_iff.1 HQ7.out).1
  have HR8 := Lib.hid (HR7.out.below hb1q HR7.out.lt)
  have HB8 := Lib.hid (up hb1q HB7.out)
  have HT8 := Lib.hid (HT7.out.below hb1q HT7.out.lt)
  clear hb1q HR7 HB7 HT7 HQ7 hm7
  go_wp2_with fail
  refine ((callsIn_wide (n := 9)).1 (stands_in 9 f p s far _)).mono ?_
  rintro e w9 ⟨rfl, rfl⟩
  obtain ⟨B1, hB1⟩ : ∃ B1, B1 = w1q.heap.size := ⟨_, rfl⟩
  obtain ⟨U, hU⟩ : ∃ U, U = (w1q.alloc (.cells (solC f) 25)).alloc (.cells #[.int .i64 (p), .int .i64 (s), .int .i64 (far)] 40) := ⟨_, rfl⟩
  have hbU : Below w1q.heap.size w1q U := by rw [hU]; exact ((Below.refl _ _).alloc (Nat.le_refl _) _).alloc (by simp) _
  have bS : BoxS U B1 f := by rw [hU, hB1]; exact (BoxK.new _ w1q f).alloc _
  have bM : BoxM U (B1 + 1) p s far := by
    rw [hU, hB1]; have := World.alloc_heap_new (w1q.alloc (.cells (solC f) 25)) (.cells #[.int .i64 (p), .int .i64 (s), .int .i64 (far)] 40); rwa [World.size_alloc] at this
  have HQU := Lib.hid (heap_below q8 hbU (Array.getElem?_eq_some_iff.1 q8).1)
  have HRU := Lib.hid (HR8.out.below hbU HR8.out.lt)
  have HBU := Lib.hid (up hbU HB8.out)
  have HTU := Lib.hid (HT8.out.below hbU HT8.out.lt)
  rw [← hU, ← hB1]
  have lRU := HRU.out.lt
  have lTU := HTU.out.lt
  have lAU := (Array.getElem?_eq_some_iff.1 HQU.out).1
  have HFF := Lib.hid (HM.out f (List.mem_of_getElem? HF.out))
  clear hU hB1 hbU q8 HR8 HB8 HT8
  go_wp2_with fail
  refine (wpIn_wide (n := 9)).1 ?_
  refine range_b rfl (by omega) (gf := 146) (lb := #[.pointer (some ⟨B1, 0, none⟩), .pointer (some ⟨B1 + 1, 0, none⟩)]) rfl trivial (enters_of Tryz.func146 (by kernel_rfl) rfl)
    (stands_stops _ (by omega) B1 (B1 + 1) 0 B1 f p s far HFF.out hs4 hf7 U bS bM (by omega)) keepA_t (keepA_b (by omega)) (Below.refl _ _) (fun _ => rfl)
    (fun (pr : List SF) W' => Below U.heap.size U W' ∧ ∀ x ∈ pr, stopB th x.1 = false)
    (fun c (pr : List SF) W' => c = .ret ∧ ∃ (p0 : List SF) (x : SF), pr = p0 ++ [x] ∧ (∀ y ∈ p0, stopB th y.1 = false) ∧ stopB th x.1 = true ∧ Res4 W' R (.int .i64 (holdV ms th x.1).1) (.int .i64 (holdV ms th x.1).2.1) (.bool (holdV ms th x.1).2.2) (.int .i64 0) ∧ Below w.heap.size w W')
    (fun pr X C hx hb => ⟨hx.1.trans (hb.mono (Nat.le_refl _)), hx.2⟩)
    (fun c pr X C hx hb => by
      obtain ⟨h1, p0, x, h2, h3, h4, h5, h6⟩ := hx
      exact ⟨h1, p0, x, h2, h3, h4, h5.below hb (by omega), h6.trans (hb.mono HBU.out.size)⟩)
    ⟨Below.refl _ _, by simp⟩
    (fun (z : SF) a' W' => ∃ h, U.heap.size ≤ h ∧ BoxD W' h z.1.1 ∧ a' = { tmps := #[.slice (some ⟨b0, o0, none⟩) ms.length cap, lv, .agg #[.int .i64 (p), .int .i64 (s), .int .i64 (far)], undef, undef, .pointer (some ⟨B, 0, none⟩), .pointer (some ⟨R, 0, none⟩), .pointer (some ⟨R + 1, 0, none⟩), .pointer (some ⟨R + 1 + 1, 0, none⟩), .pointer (some ⟨R + 1 + 1 + 1, 0, none⟩), .pointer (some ⟨A, 0, none⟩), setV g, .pointer (some ⟨T, 0, none⟩), .pointer (some ⟨h, 0, none⟩), .bool z.1.2, .tuple #[mldV (.slice (some ⟨b0, o0, none⟩) ms.length cap) b, setV g, .int .i64 0], .slice (some ⟨b0, o0, none⟩) ms.length cap, lv, .tuple #[mldV (.slice (some ⟨b0, o0, none⟩) ms.length cap) b, setV g, .int .i64 0], mldV (.slice (some ⟨b0, o0, none⟩) ms.length cap) b, setV g, .int .i64 0, .int .i64 0, .bool false, undef, .pointer (some ⟨A, 0, none⟩), .slice (some ⟨b0, o0, none⟩) ms.length cap, .agg #[.int .i64 (p), .int .i64 (s), .int .i64 (far)], .bool true, .bool false, .bool false, setV g, .pointer (some ⟨B, 0, none⟩), .int .i64 p, .bool false, .bool false, .pointer (some ⟨A, 0, none⟩), .slice (some ⟨b0, o0, none⟩) ms.length cap, setV g, .pointer (some ⟨B, 0, none⟩), .int .i64 p, setV (g ||| 2 ^ p), sol th, .slice (some ⟨b0, o0, none⟩) ms.length cap, .pointer (some ⟨B, 0, none⟩), .int .i64 p, .pointer (some ⟨b0, o0 + p * 8, none⟩), sol f, .agg #[.int .i64 (p), .int .i64 (s), .int .i64 (far)], .func (.func 146) #[] #[.pointer (some ⟨B1, 0, none⟩), .pointer (some ⟨B1 + 1, 0, none⟩)], sol z.1.1, .bool z.1.2, undef, undef, undef, undef, undef, undef, undef, undef, undef, undef, undef, undef, undef, undef], defers := [] })
    (fun z a' X l' o o' ⟨h, h1, h2, h3⟩ hl hc => ⟨h, h1, (World.putObj_heap_other (fun e => by rw [e] at h2; rw [h2] at hl; cases hl; cases hc)).trans h2, h3⟩) ?assign ?body ?done ?stop
  case assign =>
    rintro l' pr z X K ⟨q1, q2⟩ hK
    have zX := q1.size
    have hbX : Below U.heap.size X (X.alloc (.cells (solC z.1.1) 88)) := (Below.refl _ X).alloc zX _
    gi_wp2
    exact hK _ _ ((KeepsOthers.alloc _ _).from _) (keepA_below ((Below.refl _ X).alloc (Nat.le_refl _) _) (Nat.zero_le _)) ⟨q1.trans hbX, q2⟩ ⟨X.heap.size, zX, BoxK.new _ X _, rfl⟩
  case body =>
    rintro l' pr ⟨⟨t, c⟩, htf⟩ a' X hl' ⟨rc', hrc'⟩ ⟨q1, q2⟩ ⟨h, hh, bD, rfl⟩ hlt'
    dsimp only at bD htf
    have Q1 := Lib.hid q1
    have Q2 := Lib.hid q2
    have HRX := Lib.hid (HRU.out.below q1 lRU)
    have tX := HTU.out.below q1 lTU
    have HQX := Lib.hid (heap_below HQU.out q1 lAU)
    have HBX := Lib.hid (HBU.out.trans (q1.mono HBU.out.size))
    have ld := bD.lt
    have lt := tX.lt
    have HTF := Lib.hid htf
    clear q1 q2 hrc'
    cases c with
    | false =>
      have fa := free3 HRX.out.ha 0
      have fb := free3 HRX.out.hb 0
      have fc := free3 HRX.out.hc 0
      have fd := free3 HRX.out.hd 0
      have ya := cells4 HRX.out.ha 0 _ rfl
      have yb := cells4 HRX.out.hb 0 _ rfl
      have yc := cells4 HRX.out.hc 0 _ rfl
      have yd := cells4 HRX.out.hd 0 _ rfl
      have HP := Lib.hid (HRX.out.put (.int .i64 (-1)) (.int .i64 (-1)) (.bool true) (.int .i64 0))
      have HBP := Lib.hid (putR_below (R := R) HBX.out (by have := HR.out; omega) (.int .i64 (-1)) (.int .i64 (-1)) (.bool true) (.int .i64 0))
      clear bD tX
      gi_wp2
      exact ⟨putR_keeps _ _ _ _ _ _ _, rfl, pr, ⟨(t, false), HTF.out⟩, rfl, Q2.out, rfl, HP.out, HBP.out⟩
    | true =>
      have HTO := Lib.hid (fun W => touches_ok t th W HTF.out FTH.out)
      have d0 := (bD).cell (k := 0) (by omega); have d1 := (bD).cell (k := 1) (by omega); have d2 := (bD).cell (k := 2) (by omega); have d3 := (bD).cell (k := 3) (by omega); have d4 := (bD).cell (k := 4) (by omega); have d5 := (bD).cell (k := 5) (by omega); have d6 := (bD).cell (k := 6) (by omega); have d7 := (bD).cell (k := 7) (by omega)
      have e0 := (tX).cell (k := 0) (by omega); have e1 := (tX).cell (k := 1) (by omega); have e2 := (tX).cell (k := 2) (by omega); have e3 := (tX).cell (k := 3) (by omega); have e4 := (tX).cell (k := 4) (by omega); have e5 := (tX).cell (k := 5) (by omega); have e6 := (tX).cell (k := 6) (by omega); have e7 := (tX).cell (k := 7) (by omega)
      gi_wp2_with fail
      refine ⟨trivial, ?_⟩
      gi_at_call 99
      (with_reducible refine CallsIn.mono (CallsIn.inRound l' (callsIn_wide.2 (HTO.out _))) ?_)
      rintro e w8 ⟨rfl, hb8⟩
      clear d0 d1 d2 d3 d4 d5 d6 d7 e0 e1 e2 e3 e4 e5 e6 e7 HTO
      cases hto : touchB t th with
      | false =>
        gi_wp2
        exact ⟨keeps_below hb8 _, keepA_below hb8 (Nat.zero_le _), Q1.out.trans (hb8.mono Q1.out.size), fun y hy => by
          rcases List.mem_append.1 hy with hy | hy
          · exact Q2.out y hy
          · simp at hy; subst hy; show (!true || touchB t th) = false; rw [hto]; rfl⟩
      | true =>
        obtain ⟨mm, hmm⟩ : ∃ mm, mm = meetF t th := ⟨_, rfl⟩
        have HFM := Lib.hid (show Fit mm by rw [hmm]; exact fun i => Nat.lt_of_le_of_lt Nat.and_le_left (HTF.out i))
        have hne : emptyS mm = false := by rw [hmm]; unfold touchB at hto; simpa using hto
        have HHV := Lib.hid (show holdV ms th (t, true) = (((leastN mm : Nat) : Int), ownP ms (leastZ mm) (lowB (mm (leastZ mm))), true) by rw [hmm]; rfl)
        have HST := Lib.hid (show stopB th (t, true) = true by show (!true || touchB t th) = true; rw [hto]; rfl)
        have HME := Lib.hid (fun W => (show Calls Tryz.prog 100 #[sol t, sol th] W (RetB (sol mm) W) by rw [hmm]; exact meet_ok t th W HTF.out FTH.out))
        have HLE := Lib.hid (fun W (h : Tab64 W) => bleast_ok mm W HFM.out hne h)
        obtain ⟨hz8, hz0, _⟩ := leastZ_spec hne
        have hlow : lowB (mm (leastZ mm)) < 64 := (Lib.lowest_bit 64 (mm (leastZ mm)) hz0 (HFM.out _)).2
        have HOW := Lib.hid (fun W (h : SolsAt W (.slice (some ⟨b0, o0, none⟩) ms.length cap) ms) => owner_ok ms (.slice (some ⟨b0, o0, none⟩) ms.length cap) (leastZ mm) (lowB (mm (leastZ mm))) W h HM.out hz8 hlow)
        rw [show 64 * leastZ mm + lowB (mm (leastZ mm)) = leastN mm from rfl] at HOW
        obtain ⟨N, hN⟩ : ∃ N, N = leastN mm := ⟨_, rfl⟩
        obtain ⟨O, hO⟩ : ∃ O, O = ownP ms (leastZ mm) (lowB (mm (leastZ mm))) := ⟨_, rfl⟩
        rw [← hN] at HOW HHV HLE
        rw [← hO] at HOW HHV
        have HR8 := Lib.hid (HRX.out.below hb8 HRX.out.lt)
        have HQ8 := Lib.hid (heap_below HQX.out hb8 (Array.getElem?_eq_some_iff.1 HQX.out).1)
        have HB8 := Lib.hid (HBX.out.trans (hb8.mono HBX.out.size))
        have bD8 := bD.below hb8 ld
        have tX8 := tX.below hb8 lt
        have HKF := Lib.hid (keeps_below hb8 U.heap.size)
        clear hmm hne hz8 hz0 hlow hN hO hto hb8 bD tX HRX HQX HBX
        have d0 := (bD8).cell (k := 0) (by omega); have d1 := (bD8).cell (k := 1) (by omega); have d2 := (bD8).cell (k := 2) (by omega); have d3 := (bD8).cell (k := 3) (by omega); have d4 := (bD8).cell (k := 4) (by omega); have d5 := (bD8).cell (k := 5) (by omega); have d6 := (bD8).cell (k := 6) (by omega); have d7 := (bD8).cell (k := 7) (by omega)
        have e0 := (tX8).cell (k := 0) (by omega); have e1 := (tX8).cell (k := 1) (by omega); have e2 := (tX8).cell (k := 2) (by omega); have e3 := (tX8).cell (k := 3) (by omega); have e4 := (tX8).cell (k := 4) (by omega); have e5 := (tX8).cell (k := 5) (by omega); have e6 := (tX8).cell (k := 6) (by omega); have e7 := (tX8).cell (k := 7) (by omega)
        gi_wp2_with fail
        refine ⟨trivial, ?_⟩
        gi_at_call 100
        (with_reducible refine CallsIn.mono (CallsIn.inRound l' (callsIn_wide.2 (HME.out _))) ?_)
        rintro e w9 ⟨rfl, hb9⟩
        clear d0 d1 d2 d3 d4 d5 d6 d7 e0 e1 e2 e3 e4 e5 e6 e7 HME bD8 tX8
        have HR9 := Lib.hid (HR8.out.below hb9 HR8.out.lt)
        have HQ9 := Lib.hid (heap_below HQ8.out hb9 (Array.getElem?_eq_some_iff.1 HQ8.out).1)
        have HB9 := Lib.hid (HB8.out.trans (hb9.mono HB8.out.size))
        have HK9 := Lib.hid (HKF.out.trans (keeps_below hb9 U.heap.size))
        clear hb9 HR8 HQ8 HB8 HKF
        gi_wp2_with fail
        refine ⟨trivial, ?_⟩
        gi_at_call 101
        (with_reducible refine CallsIn.mono (CallsIn.inRound l' (callsIn_wide.2 (HLE.out _ (HT.out.below HB9.out (Nat.le_refl _))))) ?_)
        rintro e w10 ⟨rfl, hb10⟩
        have hr10 := HR9.out.below hb10 HR9.out.lt
        have q10 := heap_below HQ9.out hb10 (Array.getElem?_eq_some_iff.1 HQ9.out).1
        have b10 := HB9.out.trans (hb10.mono HB9.out.size)
        have HK10 := Lib.hid (HK9.out.trans (keeps_below hb10 U.heap.size))
        obtain ⟨W11, hW11⟩ : ∃ W11, W11 = w10.setCell ⟨R, 0, none⟩ (.int .i64 (N : Nat)) := ⟨_, rfl⟩
        have hr11 := hr10.setA (.int .i64 (N : Nat))
        rw [← hW11] at hr11
        have q11 : W11.heap[A]? = some (.cells #[.slice (some ⟨b0, o0, none⟩) ms.length cap, .map (some b)] 101 (0, 0)) := by rw [hW11]; exact heap_set q10 (by have := HRA.out; omega) _
        have b11 : Below w.heap.size w W11 := by rw [hW11]; exact b10.setCell (p := ⟨R, 0, none⟩) (by have := HR.out; show w.heap.size ≤ R; omega) _
        have HK11 := Lib.hid (show KeepsFrom U.heap.size X W11 by rw [hW11]; exact HK10.out.trans ((KeepsOthers.setCell _ _ _).from _))
        have fa := free3 hr10.ha 0
        have ya := cells4 hr10.ha 0 _ rfl
        have HR11 := Lib.hid hr11
        have HB11 := Lib.hid b11
        have HV11 := Lib.hid (HV.out.below b11 (Nat.le_refl _))
        clear hb10 HR9 HQ9 HB9 HK9 HLE hr10 q10 b10 HK10 b11
        gi_wp2_with fail
        rw [← hW11]
        clear hW11 fa ya
        have lA := (Array.getElem?_eq_some_iff.1 q11).1
        have lR := (Array.getElem?_eq_some_iff.1 hr11.ha).1
        have c0 := cells4 q11 0 _ rfl
        have r0 := cells4 hr11.ha 0 _ rfl
        (refine region_tailIn 5 (fun w' => Below W11.heap.size W11 w') (by kernel_rfl) (by kernel_rfl) (by kernel_rfl) (Below.drew (Below.refl _ _)) ?_; simp only [List.take_succ_cons, List.take_zero, List.drop_succ_cons, List.drop_zero]; (iterate 5 (refine wpQuietIn_step (fun _ _ _ _ => trivial) (fun K hK => ?_); go_simp; first | (refine hK _ ?_; clear hK K) | (apply Exists.intro; refine ⟨fun W' hW' => ?_, hK _ ?_⟩; (focus (first | (with_reducible exact rfl) | (with_reducible exact ⟨rfl, rfl⟩) | (obtain ⟨hcq, hfq⟩ := bcell hW'; have hzq := hW'.size; (try go_simp); first | (with_reducible exact rfl) | (with_reducible exact ⟨rfl, rfl⟩) | (first | ((with_reducible refine CallsIn.mono (CallsIn.inRound l' (callsIn_wide.2 (HOW.out _ (HV11.out.below hW' (Nat.le_refl _))))) ?_); rintro e w9 ⟨rfl, hb9⟩; exact ⟨rfl, hW'.trans (hb9.mono hW'.size)⟩))))); clear hK K))); refine wpQuietIn_nil ?_; intro w1q hb1q)
        have HR12 := Lib.hid (HR11.out.below hb1q HR11.out.lt)
        have HB12 := Lib.hid (HB11.out.trans (hb1q.mono HB11.out.size))
        have HK12 := Lib.hid (HK11.out.trans (keeps_below hb1q U.heap.size))
        clear hb1q hr11 q11 c0 r0 lA lR HOW HV11
        have fa := free3 HR12.out.ha 0
        have fb := free3 HR12.out.hb 0
        have fc := free3 HR12.out.hc 0
        have fd := free3 HR12.out.hd 0
        have ya := cells4 HR12.out.ha 0 _ rfl
        have yb := cells4 HR12.out.hb 0 _ rfl
        have yc := cells4 HR12.out.hc 0 _ rfl
        have yd := cells4 HR12.out.hd 0 _ rfl
        have HP := Lib.hid (HR12.out.put (.int .i64 (N : Nat)) (.int .i64 O) (.bool true) (.int .i64 0))
        have HBP := Lib.hid (putR_below (R := R) HB12.out (by have := HR.out; omega) (.int .i64 (N : Nat)) (.int .i64 O) (.bool true) (.int .i64 0))
        gi_wp2
        exact ⟨HK12.out.trans (putR_keeps _ _ _ _ _ _ _), rfl, pr, ⟨(t, true), htf⟩, rfl, Q2.out, HST.out, by rw [HHV.out]; exact HP.out, HBP.out⟩
  case done =>
    rintro D xs X hD hxs ⟨hk, hno⟩ hK
    have hAN : ans = (0, 0, false) := by
      rw [HAN.out, HLL.out]
      unfold holdL
      rw [List.find?_eq_none.2 (fun x hx => by rw [← (show xs.map Subtype.val = _ from hxs)] at hx; obtain ⟨y, hy, rfl⟩ := List.mem_map.1 hx; rw [hno y hy]; simp)]
      rfl
    have hRX := HRU.out.below hk lRU
    have HBX := Lib.hid (HBU.out.trans (hk.mono HBU.out.size))
    have fa := free3 hRX.ha 0
    have fb := free3 hRX.hb 0
    have fc := free3 hRX.hc 0
    have fd := free3 hRX.hd 0
    have ya := cells4 hRX.ha 0 _ rfl
    have yb := cells4 hRX.hb 0 _ rfl
    have yc := cells4 hRX.hc 0 _ rfl
    have yd := cells4 hRX.hd 0 _ rfl
    have HP := Lib.hid (hRX.put (.int .i64 0) (.int .i64 0) (.bool false) (.int .i64 0))
    have HBP := Lib.hid (putR_below (R := R) HBX.out (by have := HR.out; omega) (.int .i64 0) (.int .i64 0) (.bool false) (.int .i64 0))
    have HK6 := Lib.hid (putR_other hK (R := R) (.inr (by omega)) (.int .i64 0) (.int .i64 0) (.bool false) (.int .i64 0))
    have HDR := Lib.hid (show R + 1 + 1 + 1 < D by omega)
    have HAN2 := Lib.hid hAN
    clear hk hno hRX hK hAN hxs
    gi_wp2
    go_wp2_with fail
    rw [HAN2.out]
    refine leaves_marks w.heap.size [D] _ (by simp) (fun D' h => by simp at h; subst h; exact ⟨by have := HDR.out; have := HR.out; omega, HK6.out⟩) fun W3 hb hk => ?_
    have HPP := HP.out.keep (W' := W3) (fun k o hko ho => hk k o (fun D' h => by simp at h; have := HDR.out; omega) ho)
    exact ⟨_, res_iibe Tryz.results34 rfl rfl rfl rfl (cells4 HPP.ha 0 _ rfl) (cells4 HPP.hb 0 _ rfl) (cells4 HPP.hc 0 _ rfl) (cells4 HPP.hd 0 _ rfl), rfl, HBP.out.trans hb⟩
  case stop =>
    rintro D c pr X hD hpre ⟨rfl, p0, x, hpx, hno, hst, hRX, hbx⟩ hK
    have hAN : ans = holdV ms th x.1 := by
      rw [HAN.out, HLL.out]
      obtain ⟨r, hr⟩ := (show pr.map Subtype.val <+: _ from hpre)
      unfold holdL
      rw [← hr, hpx, List.map_append, List.find?_append, List.find?_append, List.find?_eq_none.2 (fun y hy => by obtain ⟨z, hz, rfl⟩ := List.mem_map.1 hy; rw [hno z hz]; simp)]
      simp [hst]
    have HDR := Lib.hid (show R + 1 + 1 + 1 < D by omega)
    have HAN2 := Lib.hid hAN
    clear hAN
    gi_wp2
    rw [HAN2.out]
    refine leaves_marks w.heap.size [D] _ (by simp) (fun D' h => by simp at h; subst h; exact ⟨by have := HDR.out; have := HR.out; omega, hK⟩) fun W3 hb hk => ?_
    have HPP := hRX.keep (W' := W3) (fun k o hko ho => hk k o (fun D' h => by simp at h; have := HDR.out; omega) ho)
    exact ⟨_, res_iibe Tryz.results34 rfl rfl rfl rfl (cells4 HPP.ha 0 _ rfl) (cells4 HPP.hb 0 _ rfl) (cells4 HPP.hc 0 _ rfl) (cells4 HPP.hd 0 _ rfl), rfl, hbx.trans hb⟩
end Go.Proofs.YtoajocgfmbakjaaGreatDoor
/-
  From a walk of a statement's function to its row: the table that lies as laid, solids and numbers among the arguments.
-/
set_option linter.unusedVariables false
set_option linter.unusedSimpArgs false
namespace Go.Proofs.YtoajocgfmbakjaaGreatDoor
set_option maxRecDepth 100000
open Go Go.ChangeShapes Go.WideShapes Go.ChangeAt Go.RowKit

theorem own : ownKnob Tryz.prog.godebug = none := by kernel_rfl
theorem laidOut : laidOutB Tryz.prog = true := by kernel_rfl
theorem gTab : Tryz.prog.globalNamed "math/bits.deBruijn64tab" = some 1 := by kernel_rfl
theorem tTab : (Tryz.prog.globals[1]?).map (·.type) = some 197 := by kernel_rfl
theorem cTab : Tryz.prog.cellsOf 197 = 64 := by kernel_rfl
theorem gTab32 : Tryz.prog.globalNamed "math/bits.deBruijn32tab" = some 2 := by kernel_rfl
theorem tTab32 : (Tryz.prog.globals[2]?).map (·.type) = some 209 := by kernel_rfl
theorem cTab32 : Tryz.prog.cellsOf 209 = 32 := by kernel_rfl
theorem cU8 : Tryz.prog.cellsOf 5 = 1 := by kernel_rfl
theorem cU64 : Tryz.prog.cellsOf 23 = 1 := by kernel_rfl
abbrev N64 (n : Int) : Prop := -9223372036854775808 ≤ n ∧ n ≤ 9223372036854775807
theorem cSol : Tryz.prog.cellsOf 25 = 8 := by kernel_rfl
theorem dTab : (Rows.laid_math_bits_deBruijn64tab : DataW Unit) = Lib.tabData .u8 (Lib.deBruijn64tab.map Int.ofNat) := by kernel_rfl
theorem dTab32 : (Rows.laid_math_bits_deBruijn32tab : DataW Unit) = Lib.tabData .u8 (Lib.deBruijn32tab.map Int.ofNat) := by kernel_rfl
theorem tab_int : ∀ j, j < 64 → (Lib.deBruijn64tab.map Int.ofNat).getD j 0 = ((Lib.deBruijn64tab.getD j 0 : Nat) : Int) := by decide +kernel
theorem tab_int32 : ∀ j, j < 32 → (Lib.deBruijn32tab.map Int.ofNat).getD j 0 = ((Lib.deBruijn32tab.getD j 0 : Nat) : Int) := by decide +kernel
abbrev laid2 : List (String × DataW Unit) := [("math/bits.deBruijn32tab", Rows.laid_math_bits_deBruijn32tab), ("math/bits.deBruijn64tab", Rows.laid_math_bits_deBruijn64tab)]
theorem tab_of_laid {W : World} (h : laidMetH Tryz.prog laid2 W) : Tab64 W := by
  rw [MakeChecks.laidMetH_plain _ _ _ (by kernel_rfl)] at h
  have h2 := h.tail
  rw [dTab] at h2
  have h3 := Lib.tabIs_of_head gTab tTab Tryz.underlying197 Tryz.underlying5 cU8 cTab h2
  intro j hj
  have h4 := h3.cell gTab j (Nat.lt_of_lt_of_eq hj (by rfl))
  rw [h4, tab_int j hj]
theorem tab32_of_laid {W : World} (h : laidMetH Tryz.prog laid2 W) : Tab32 W := by
  rw [MakeChecks.laidMetH_plain _ _ _ (by kernel_rfl)] at h
  have h2 := h
  unfold laid2 at h2
  rw [dTab32] at h2
  have h3 := Lib.tabIs_of_head gTab32 tTab32 Tryz.underlying209 Tryz.underlying5 cU8 cTab32 h2
  intro j hj
  have h4 := h3.cell gTab32 j (Nat.lt_of_lt_of_eq hj (by rfl))
  rw [h4, tab_int32 j hj]
section
variable {H : Type} {enc : TypeId × Value → H} {W : World} {base : Nat} {v : Value} {d : DataW H} {p : List MemPlace}
theorem open_num (hv : Value.okWide Tryz.prog W .any base 3 v) (h : DataW.Trod enc Tryz.prog W 0 (fun _ => true) true 3 v d p) : ∃ n : Int, v = .int .i64 n ∧ N64 n := by
  obtain ⟨n, rfl, _, _, hw⟩ := open_int Tryz.underlying3 hv h
  exact ⟨n, rfl, bounds_i64 hw⟩
theorem open_text (hv : Value.okWide Tryz.prog W .any base 9 v) (h : DataW.Trod enc Tryz.prog W 0 (fun _ => true) true 9 v d p) : ∃ s : ByteArray, v = .string s := by
  obtain ⟨s, rfl, _⟩ := ChangeMaps.open_string Tryz.underlying9 hv h
  exact ⟨s, rfl⟩
theorem int_of {x : DataW H × List MemPlace} {c : Value} {m : Nat} (h : DataW.trod enc Tryz.prog W 0 (fun _ => true) true m 3 [c] = some x) : ∃ n : Int, c = .int .i64 n ∧ N64 n := by
  obtain ⟨a, ea, _, wa⟩ := DataW.trod_int Tryz.underlying3 h
  have hb := bounds_i64 wa
  simp at ea
  subst ea
  exact ⟨a, rfl, hb⟩
theorem word_of {x : DataW H × List MemPlace} {c : Value} {m : Nat} (h : DataW.trod enc Tryz.prog W 0 (fun _ => true) true m 23 [c] = some x) : ∃ n : Nat, c = .int .u64 n ∧ n < 18446744073709551616 := by
  obtain ⟨a, ea, _, wa⟩ := DataW.trod_int Tryz.underlying23 h
  have hb := bounds_u64 wa
  simp at ea
  subst ea
  exact ⟨a.toNat, by rw [Int.toNat_of_nonneg hb.1], by omega⟩
theorem open_sol (hv : Value.okWide Tryz.prog W .any base 25 v) (h : DataW.Trod enc Tryz.prog W 0 (fun _ => true) true 25 v d p) : ∃ f : Sol, v = sol f ∧ Fit f := by
  have hv' := hv
  simp only [Value.okWide, Tryz.underlying25] at hv'
  obtain ⟨cs, rfl, hsz, _⟩ := hv'
  rw [cSol] at hsz
  obtain ⟨l⟩ := cs
  match l, hsz with
  | [c0, c1, c2, c3, c4, c5, c6, c7], _ =>
    obtain ⟨fuel, hf⟩ := h
    obtain ⟨xs, m, _, _, _, hl, hg⟩ := DataW.trod_array Tryz.underlying25 hf
    have hl' : xs.length = 8 := hl
    match xs, hl' with
    | [z0, z1, z2, z3, z4, z5, z6, z7], _ =>
      rw [cU64] at hg
      obtain ⟨n0, rfl, b0⟩ := word_of (show DataW.trod enc Tryz.prog W 0 (fun _ => true) true m 23 [c0] = some z0 from hg 0 (by omega))
      obtain ⟨n1, rfl, b1⟩ := word_of (show DataW.trod enc Tryz.prog W 0 (fun _ => true) true m 23 [c1] = some z1 from hg 1 (by omega))
      obtain ⟨n2, rfl, b2⟩ := word_of (show DataW.trod enc Tryz.prog W 0 (fun _ => true) true m 23 [c2] = some z2 from hg 2 (by omega))
      obtain ⟨n3, rfl, b3⟩ := word_of (show DataW.trod enc Tryz.prog W 0 (fun _ => true) true m 23 [c3] = some z3 from hg 3 (by omega))
      obtain ⟨n4, rfl, b4⟩ := word_of (show DataW.trod enc Tryz.prog W 0 (fun _ => true) true m 23 [c4] = some z4 from hg 4 (by omega))
      obtain ⟨n5, rfl, b5⟩ := word_of (show DataW.trod enc Tryz.prog W 0 (fun _ => true) true m 23 [c5] = some z5 from hg 5 (by omega))
      obtain ⟨n6, rfl, b6⟩ := word_of (show DataW.trod enc Tryz.prog W 0 (fun _ => true) true m 23 [c6] = some z6 from hg 6 (by omega))
      obtain ⟨n7, rfl, b7⟩ := word_of (show DataW.trod enc Tryz.prog W 0 (fun _ => true) true m 23 [c7] = some z7 from hg 7 (by omega))
      refine ⟨fun k => match k with | 0 => n0 | 1 => n1 | 2 => n2 | 3 => n3 | 4 => n4 | 5 => n5 | 6 => n6 | 7 => n7 | _ => 0, rfl, fun k => ?_⟩
      match k with
      | 0 => exact b0 | 1 => exact b1 | 2 => exact b2 | 3 => exact b3 | 4 => exact b4 | 5 => exact b5 | 6 => exact b6 | 7 => exact b7
      | _ + 8 => show 0 < 18446744073709551616; omega
end
end Go.Proofs.YtoajocgfmbakjaaGreatDoor
/-
  Lists of numbers, of solids and of moves among the arguments, opened.
-/
set_option linter.unusedVariables false
set_option linter.unusedSimpArgs false
namespace Go.Proofs.YtoajocgfmbakjaaGreatDoor
open Go Go.ChangeShapes Go.WideShapes Go.ChangeAt Go.RowKit

theorem cInt : Tryz.prog.cellsOf 3 = 1 := by kernel_rfl
theorem cMov : Tryz.prog.cellsOf 40 = 3 := by kernel_rfl
theorem list_of {α : Type} {P : Nat → α → Prop} : ∀ (n : Nat), (∀ i, i < n → ∃ a, P i a) → ∃ l : List α, l.length = n ∧ ∀ i a, l[i]? = some a → P i a
  | 0, _ => ⟨[], rfl, fun i a h => by simp at h⟩
  | n + 1, h => by
    obtain ⟨l, h1, h2⟩ := list_of n fun i hi => h i (by omega)
    obtain ⟨a, ha⟩ := h n (by omega)
    refine ⟨l ++ [a], by simp [h1], fun i x hx => ?_⟩
    by_cases hi : i < l.length
    · rw [List.getElem?_append_left hi] at hx
      exact h2 i x hx
    · rw [List.getElem?_append_right (by omega)] at hx
      have : i = n := by
        have := (List.getElem?_eq_some_iff.1 hx).1
        simp at this
        omega
      subst this
      rw [h1, Nat.sub_self] at hx
      cases hx
      exact ha
section
variable {H : Type} {enc : TypeId × Value → H} {W : World} {base : Nat} {v : Value} {d : DataW H} {p : List MemPlace}
set_option maxRecDepth 100000 in
theorem open_intl (hv : Value.okWide Tryz.prog W .any base 38 v) (h : DataW.Trod enc Tryz.prog W 0 (fun _ => true) true 38 v d p) :
    ∃ l : List Int, IntsAt W v l ∧ ∀ n ∈ l, N64 n := by
  obtain ⟨a0, n0, c0, rfl⟩ := okWide_slice Tryz.underlying38 hv
  obtain ⟨fuel, hf⟩ := h
  rcases DataW.trod_slice Tryz.underlying38 hf with ⟨h1, _⟩ | ⟨a, len, cap, elems, rest, n, _, h1, _, hb, hl, hm, hlen, hel, _⟩
  · simp only [Value.cells, List.cons.injEq, and_true] at h1
    obtain ⟨rfl, rfl, rfl⟩ := by simpa using h1
    exact ⟨[], ⟨none, 0, rfl, by simp, .inl rfl⟩, by simp⟩
  · simp only [Value.cells, List.cons.injEq, and_true] at h1
    obtain ⟨rfl, rfl, rfl⟩ := by simpa using h1
    obtain ⟨l, hl1, hl2⟩ := list_of (P := fun i (x : Int) => W.cell? (a.add i) = some (.int .i64 x) ∧ N64 x) n0 fun i hi => by
      have h2 := hel i hi
      rw [cInt, Nat.mul_one, List.getElem?_eq_getElem (by omega), Option.bind_eq_some_iff] at h2
      obtain ⟨cs, hcs, hy⟩ := h2
      obtain ⟨x, rfl, _, hw⟩ := DataW.trod_int Tryz.underlying3 hy
      exact ⟨x, cell_of_cells?_one hcs, bounds_i64 hw⟩
    refine ⟨l, ⟨some a, c0, by rw [hl1], by omega, ?_⟩, fun x hx => ?_⟩
    · by_cases h0 : l = []
      · exact .inl h0
      · obtain ⟨x, hx⟩ : ∃ x, l[0]? = some x := ⟨_, List.getElem?_eq_getElem (by cases l with | nil => exact absurd rfl h0 | cons => simp)⟩
        have hc := (hl2 0 x hx).1
        have hs : a.spot = none := by simpa [Addr.add] using World.cell?_spot hc
        obtain ⟨b, o, sp⟩ := a
        simp only at hs
        subst hs
        have hbl := World.block_lt_of_cell? W _ hc
        refine .inr ⟨b, o, rfl, by simpa [Addr.add] using hbl, fun i y hy => ?_⟩
        have := (hl2 i y hy).1
        rwa [show (⟨b, o, none⟩ : Addr).add i = ⟨b, o + i, none⟩ by simp [Addr.add]; try omega] at this
    · obtain ⟨i, hi⟩ := List.getElem?_of_mem hx
      exact (hl2 i x hi).2
set_option maxRecDepth 100000 in
theorem sol_cells {x : DataW H × List MemPlace} {cs : List Value} {m : Nat} (h : DataW.trod enc Tryz.prog W 0 (fun _ => true) true m 25 cs = some x) : ∃ f : Sol, Fit f ∧ ∀ j, j < 8 → cs[j]? = some (.int .u64 (f j)) := by
  obtain ⟨xs, m', _, _, hsz, hl, hg⟩ := DataW.trod_array Tryz.underlying25 h
  rw [cSol] at hsz
  rw [cU64] at hg
  obtain ⟨l, hl1, hl2⟩ := list_of (P := fun j (n : Nat) => cs[j]? = some (.int .u64 (n : Int)) ∧ n < 18446744073709551616) 8 fun j hj => by
    have h1 := hg j hj
    have hjx : j < xs.length := by omega
    rw [Nat.mul_one, List.getElem?_eq_getElem hjx] at h1
    have hjc : j < cs.length := by omega
    have e : (cs.drop j).take 1 = [cs[j]] := by rw [List.drop_eq_getElem_cons hjc]; rfl
    rw [e] at h1
    obtain ⟨n, hn, hb⟩ := word_of h1
    exact ⟨n, by rw [List.getElem?_eq_getElem hjc, hn], hb⟩
  refine ⟨fun k => l.getD k 0, fun k => ?_, fun j hj => ?_⟩
  · show l.getD k 0 < 18446744073709551616
    rw [List.getD_eq_getElem?_getD]
    cases hk : l[k]? with
    | none => decide
    | some n => exact (hl2 k n hk).2
  · obtain ⟨n, hn⟩ : ∃ n, l[j]? = some n := ⟨_, List.getElem?_eq_getElem (by omega)⟩
    rw [(hl2 j n hn).1]
    show _ = some (Value.int .u64 ((l.getD j 0 : Nat) : Int))
    rw [List.getD_eq_getElem?_getD, hn]
    rfl
set_option maxRecDepth 100000 in
theorem open_sols (hv : Value.okWide Tryz.prog W .any base 22 v) (h : DataW.Trod enc Tryz.prog W 0 (fun _ => true) true 22 v d p) :
    ∃ ms : List Sol, SolsAt W v ms ∧ ∀ m ∈ ms, Fit m := by
  obtain ⟨a0, n0, c0, rfl⟩ := okWide_slice Tryz.underlying22 hv
  obtain ⟨fuel, hf⟩ := h
  rcases DataW.trod_slice Tryz.underlying22 hf with ⟨h1, _⟩ | ⟨a, len, cap, elems, rest, n, _, h1, _, hb, hl, hm, hlen, hel, _⟩
  · simp only [Value.cells, List.cons.injEq, and_true] at h1
    obtain ⟨rfl, rfl, rfl⟩ := by simpa using h1
    exact ⟨[], ⟨none, 0, rfl, by simp, .inl rfl⟩, by simp⟩
  · simp only [Value.cells, List.cons.injEq, and_true] at h1
    obtain ⟨rfl, rfl, rfl⟩ := by simpa using h1
    obtain ⟨l, hl1, hl2⟩ := list_of (P := fun i (f : Sol) => Fit f ∧ ∀ j, j < 8 → W.cell? ((a.add (i * 8)).add j) = some (.int .u64 (f j))) n0 fun i hi => by
      have h2 := hel i hi
      rw [cSol, List.getElem?_eq_getElem (by omega), Option.bind_eq_some_iff] at h2
      obtain ⟨cs, hcs, hy⟩ := h2
      obtain ⟨f, hff, hfc⟩ := sol_cells hy
      exact ⟨f, hff, fun j hj => ((World.cells?_some hcs).2.2 j hj).trans (hfc j hj)⟩
    refine ⟨l, ⟨some a, c0, by rw [hl1], by omega, ?_⟩, fun x hx => ?_⟩
    · by_cases h0 : l = []
      · exact .inl h0
      · obtain ⟨x, hx⟩ : ∃ x, l[0]? = some x := ⟨_, List.getElem?_eq_getElem (by cases l with | nil => exact absurd rfl h0 | cons => simp)⟩
        have hc := (hl2 0 x hx).2 0 (by omega)
        have hs : a.spot = none := by simpa [Addr.add] using World.cell?_spot hc
        obtain ⟨b, o, sp⟩ := a
        simp only at hs
        subst hs
        have hbl := World.block_lt_of_cell? W _ hc
        refine .inr ⟨b, o, rfl, by simpa [Addr.add] using hbl, fun i y hy j hj => ?_⟩
        have := (hl2 i y hy).2 j hj
        have e2 : ((⟨b, o, none⟩ : Addr).add (i * 8)) = ⟨b, o + i * 8, none⟩ := by unfold Addr.add; split <;> simp_all
        have e3 : ((⟨b, o + i * 8, none⟩ : Addr).add j) = ⟨b, o + i * 8 + j, none⟩ := by unfold Addr.add; split <;> simp_all
        rwa [e2, e3] at this
    · obtain ⟨i, hi⟩ := List.getElem?_of_mem hx
      exact (hl2 i x hi).1
set_option maxRecDepth 100000 in
theorem mov_cells {x : DataW H × List MemPlace} {cs : List Value} {m : Nat} (h : DataW.trod enc Tryz.prog W 0 (fun _ => true) true m 40 cs = some x) : ∃ y : Mo, (N64 y.1 ∧ N64 y.2.1 ∧ N64 y.2.2) ∧ cs = [.int .i64 y.1, .int .i64 y.2.1, .int .i64 y.2.2] := by
  obtain ⟨xs, m', _, _, hsz, hl, hg⟩ := DataW.trod_struct Tryz.underlying40 h
  rw [cMov] at hsz
  match cs, hsz with
  | [c0, c1, c2], _ =>
    have g0 := hg 0 _ rfl
    have g1 := hg 1 _ rfl
    have g2 := hg 2 _ rfl
    have hl' : xs.length = 3 := hl
    match xs, hl' with
    | [z0, z1, z2], _ =>
      obtain ⟨n0, rfl, b0⟩ := int_of (show DataW.trod enc Tryz.prog W 0 (fun _ => true) true m' 3 [c0] = some z0 from g0)
      obtain ⟨n1, rfl, b1⟩ := int_of (show DataW.trod enc Tryz.prog W 0 (fun _ => true) true m' 3 [c1] = some z1 from g1)
      obtain ⟨n2, rfl, b2⟩ := int_of (show DataW.trod enc Tryz.prog W 0 (fun _ => true) true m' 3 [c2] = some z2 from g2)
      exact ⟨(n0, n1, n2), ⟨b0, b1, b2⟩, rfl⟩
set_option maxRecDepth 100000 in
theorem open_movs (hv : Value.okWide Tryz.prog W .any base 55 v) (h : DataW.Trod enc Tryz.prog W 0 (fun _ => true) true 55 v d p) :
    ∃ l : List Mo, MovsAt W v l ∧ ∀ y ∈ l, N64 y.1 ∧ N64 y.2.1 ∧ N64 y.2.2 := by
  obtain ⟨a0, n0, c0, rfl⟩ := okWide_slice Tryz.underlying55 hv
  obtain ⟨fuel, hf⟩ := h
  rcases DataW.trod_slice Tryz.underlying55 hf with ⟨h1, _⟩ | ⟨a, len, cap, elems, rest, n, _, h1, _, hb, hl, hm, hlen, hel, _⟩
  · simp only [Value.cells, List.cons.injEq, and_true] at h1
    obtain ⟨rfl, rfl, rfl⟩ := by simpa using h1
    exact ⟨[], ⟨none, 0, rfl, by simp, .inl rfl⟩, by simp⟩
  · simp only [Value.cells, List.cons.injEq, and_true] at h1
    obtain ⟨rfl, rfl, rfl⟩ := by simpa using h1
    obtain ⟨l, hl1, hl2⟩ := list_of (P := fun i (y : Mo) => (N64 y.1 ∧ N64 y.2.1 ∧ N64 y.2.2) ∧ W.cell? ((a.add (i * 3)).add 0) = some (.int .i64 y.1) ∧ W.cell? ((a.add (i * 3)).add 1) = some (.int .i64 y.2.1) ∧ W.cell? ((a.add (i * 3)).add 2) = some (.int .i64 y.2.2)) n0 fun i hi => by
      have h2 := hel i hi
      rw [cMov, List.getElem?_eq_getElem (by omega), Option.bind_eq_some_iff] at h2
      obtain ⟨cs, hcs, hy⟩ := h2
      obtain ⟨y, hyb, rfl⟩ := mov_cells hy
      have := (World.cells?_some hcs).2.2
      exact ⟨y, hyb, this 0 (by omega), this 1 (by omega), this 2 (by omega)⟩
    refine ⟨l, ⟨some a, c0, by rw [hl1], by omega, ?_⟩, fun x hx => ?_⟩
    · by_cases h0 : l = []
      · exact .inl h0
      · obtain ⟨x, hx⟩ : ∃ x, l[0]? = some x := ⟨_, List.getElem?_eq_getElem (by cases l with | nil => exact absurd rfl h0 | cons => simp)⟩
        have hc := (hl2 0 x hx).2.1
        have hs : a.spot = none := by simpa [Addr.add] using World.cell?_spot hc
        obtain ⟨b, o, sp⟩ := a
        simp only at hs
        subst hs
        have hbl := World.block_lt_of_cell? W _ hc
        refine .inr ⟨b, o, rfl, by simpa [Addr.add] using hbl, fun i y hy => ?_⟩
        have := (hl2 i y hy).2
        have e2 : ((⟨b, o, none⟩ : Addr).add (i * 3)) = ⟨b, o + i * 3, none⟩ := by unfold Addr.add; split <;> simp_all
        have e3 : ∀ j, ((⟨b, o + i * 3, none⟩ : Addr).add j) = ⟨b, o + i * 3 + j, none⟩ := fun j => by unfold Addr.add; split <;> simp_all
        rwa [e2, e3, e3, e3] at this
    · obtain ⟨i, hi⟩ := List.getElem?_of_mem hx
      exact (hl2 i x hi).1
end
end Go.Proofs.YtoajocgfmbakjaaGreatDoor
