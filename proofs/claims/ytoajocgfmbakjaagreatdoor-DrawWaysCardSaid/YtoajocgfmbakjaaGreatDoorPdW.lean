/-
  Holds is the reference's Stand: mathematics.
-/
import Derived.Test.YtoajocgfmbakjaaGreatDoorPdU
import Derived.Test.YtoajocgfmbakjaaGreatDoorPdN
import Derived.Test.YtoajocgfmbakjaaGreatDoorPdA
import Derived.Deep.QuietTactic
import Derived.BigQuiet
import Derived.Test.YtoajocgfmbakjaaGreatDoorPdS
import Derived.Test.YtoajocgfmbakjaaGreatDoorGoT
import Derived.Test.YtoajocgfmbakjaaGreatDoorPdV
set_option linter.unusedVariables false
set_option linter.unusedSimpArgs false
namespace Go.Proofs.YtoajocgfmbakjaaGreatDoor
open Go Go.RowKit

theorem offK_iff (f : Sol) (dx dy : Int) : ∀ (k n : Nat), offK f dx dy k n = true ↔ ∃ m, n ≤ m ∧ m < n + k ∧ offAt f dx dy m = true
  | 0, n => by
    constructor
    · intro h; cases h
    · rintro ⟨m, h1, h2, _⟩; omega
  | k + 1, n => by
    rw [offK]
    by_cases h : offAt f dx dy n = true
    · rw [if_pos h]
      exact ⟨fun _ => ⟨n, Nat.le_refl _, by omega, h⟩, fun _ => rfl⟩
    · rw [if_neg h, offK_iff f dx dy k (n + 1)]
      constructor
      · rintro ⟨m, h1, h2, h3⟩; exact ⟨m, by omega, by omega, h3⟩
      · rintro ⟨m, h1, h2, h3⟩
        refine ⟨m, ?_, by omega, h3⟩
        have : m ≠ n := fun e => h (by rw [← e]; exact h3)
        omega
theorem off_stays (f : Sol) (dx dy : Int) : offK f dx dy 512 0 = false ↔ stays f dx dy := by
  rw [← Bool.not_eq_true, offK_iff]
  constructor
  · intro h x y z hb
    obtain ⟨j1, j2, j3, j4, j5, j6⟩ := hasR_in hb
    refine Classical.byContradiction fun hn => h ?_
    obtain ⟨n, hn1⟩ : ∃ n : Nat, (n : Int) = 64 * z + 8 * y + x := ⟨(64 * z + 8 * y + x).toNat, by omega⟩
    have e1 : (n : Int) % 8 = x := by omega
    have e2 : (n : Int) / 8 % 8 = y := by omega
    have e3 : (n : Int) / 64 = z := by omega
    refine ⟨n, Nat.zero_le _, by omega, ?_⟩
    unfold offAt
    rw [e1, e2, e3, hb, Bool.true_and]
    simp only [Bool.or_eq_true, decide_eq_true_eq]
    omega
  · rintro h ⟨m, _, _, hm⟩
    unfold offAt at hm
    rw [Bool.and_eq_true] at hm
    have := h _ _ _ hm.1
    have h2 := hm.2
    simp only [Bool.or_eq_true, decide_eq_true_eq] at h2
    omega
/-- What is answered. -/
def asT : Option (Int × Int) → Int × Int × Bool
  | some r => (r.1, r.2, true)
  | none => (0, 0, false)
theorem hold_nil (ms : List Sol) (t : Sol) : holdL ms t [] = (0, 0, false) := rfl
theorem hold_cons (ms : List Sol) (t : Sol) (x : SB) (L : List SB) : holdL ms t (x :: L) = if stopB t x = true then holdV ms t x else holdL ms t L := by
  unfold holdL
  rw [List.find?_cons]
  cases stopB t x <;> rfl
theorem upsL_none {b : Sol} (h : emptyS b = true) : ∀ k, upsL k b = []
  | 0 => rfl
  | k + 1 => by rw [upsL, if_pos h]
theorem up_empty {b : Sol} (h : emptyS b = true) : emptyS (upF b) = true := by
  rw [empty_iff] at h ⊢
  intro z hz i
  unfold upF
  split
  · simp
  · exact h (z - 1) (by omega) i
theorem ups_gone {b : Sol} : emptyS (upsI b 9) = true := by
  have key : ∀ (k z : Nat), z < k → upsI b k z = 0 := by
    intro k
    induction k with
    | zero => intro z hz; omega
    | succ k ih =>
      intro z hz
      show upF (upsI b k) z = 0
      unfold upF
      split
      · rfl
      · exact ih (z - 1) (by omega)
  rw [empty_iff]
  intro z hz i
  rw [key 9 z (by omega)]
  simp
section
variable {ms : List Sol} (hm : ∀ m ∈ ms, Fit m) (ha : Apart ms) {g p : Nat} (hg : g < 65536) {f : Sol} (hf : Fit f) {s far : Nat}
abbrev listG (g : Nat) : List Int := (listS g).map fun x : Nat => (x : Int)
include hm ha hg in
/-- Straight up. -/
theorem stand_up (h7 : far ≤ 7) {b : Sol} (hbf : Fit b) {dx dy : Int} (hdx : ∀ k, far ≤ k → dxR s far k = dx) (hdy : ∀ k, far ≤ k → dyR s far k = dy) (hst : stays f dx dy)
    (hb : ∀ x y z : Int, inG x y z → (hasR b x y z = true ↔ hasR f (x - dx) (y - dy) z = true)) :
    ∀ (d j : Nat), j + d = 8 → asT (standK ms (listG g) p f s far (16 - far - j) (far + j + 1)) = holdL ms (restF ms (g ||| 2 ^ p)) (upsL (36 - j) (upsI b (j + 1)))
  | 0, j, hj => by
    obtain rfl : j = 8 := by omega
    rw [upsL_none ups_gone, hold_nil]
    obtain ⟨n, hn⟩ : ∃ n, 16 - far - 8 = n + 1 := ⟨7 - far, by omega⟩
    rw [hn, standK, if_neg]
    · rfl
    · unfold upR sdR
      rw [if_neg (by omega)]
      omega
  | d + 1, j, hj => by
    have ih := stand_up h7 hbf hdx hdy hst hb d (j + 1) (by omega)
    obtain ⟨n, hn⟩ : ∃ n, 16 - far - j = n + 1 := ⟨15 - far - j, by omega⟩
    have hu : upR far (far + j + 1) = j + 1 := by
      unfold upR sdR
      rw [if_neg (by omega)]
      omega
    have hbody : ∀ x y z : Int, inG x y z → (hasR (upsI b (j + 1)) x y z = true ↔ hasR f (x - dx) (y - dy) (z - ((j + 1 : Nat) : Int)) = true) := fun x y z hin => by
      rw [ups_has]
      constructor
      · rintro ⟨_, h⟩
        exact (hb x y _ (hasR_in h)).1 h
      · intro h
        refine ⟨hin, (hb x y _ ?_).2 h⟩
        obtain ⟨i1, i2, i3, i4, i5, i6⟩ := hin
        obtain ⟨k1, k2, k3, k4, k5, k6⟩ := hasR_in h
        exact ⟨i1, i2, i3, i4, k5, k6⟩
    have hstep : stepR ms (listG g) p f s far (far + j + 1) = if touchB (upsI b (j + 1)) (restF ms (g ||| 2 ^ p)) = true then some (((leastN (meetF (upsI b (j + 1)) (restF ms (g ||| 2 ^ p))) : Nat) : Int), ownP ms (leastZ (meetF (upsI b (j + 1)) (restF ms (g ||| 2 ^ p)))) (lowB (meetF (upsI b (j + 1)) (restF ms (g ||| 2 ^ p)) (leastZ (meetF (upsI b (j + 1)) (restF ms (g ||| 2 ^ p))))))) else none := by
      unfold stepR
      rw [hdx _ (by omega), hdy _ (by omega), hu, (off_stays f dx dy).2 hst, if_neg Bool.false_ne_true]
      exact hit_first hm ha hg (upsI_fit hbf _) hbody
    rw [hn, standK, hu, if_pos (by omega), hstep]
    have e2 : 16 - far - (j + 1) = n := by omega
    rw [e2, show far + (j + 1) + 1 = far + j + 1 + 1 by omega] at ih
    obtain ⟨m, hmm⟩ : ∃ m, 36 - j = m + 1 := ⟨35 - j, by omega⟩
    rw [show 36 - (j + 1) = m by omega] at ih
    rw [hmm, upsL]
    by_cases he : emptyS (upsI b (j + 1)) = true
    · have ht : touchB (upsI b (j + 1)) (restF ms (g ||| 2 ^ p)) = false := by
        cases hh : touchB (upsI b (j + 1)) (restF ms (g ||| 2 ^ p)) with
        | false => rfl
        | true =>
          obtain ⟨z, i, k1, k2, _⟩ := touch_iff.1 hh
          rw [empty_iff.1 he z k1 i] at k2
          cases k2
      rw [ht, if_neg Bool.false_ne_true, if_pos he, hold_nil]
      show asT (standK ms (listG g) p f s far n (far + j + 1 + 1)) = _
      rw [ih, show upsI b (j + 1 + 1) = upF (upsI b (j + 1)) from rfl, upsL_none (up_empty he), hold_nil]
    · rw [if_neg he, hold_cons]
      unfold stopB
      rw [Bool.not_true, Bool.false_or]
      by_cases ht : touchB (upsI b (j + 1)) (restF ms (g ||| 2 ^ p)) = true
      · rw [if_pos ht, if_pos ht]
        rfl
      · rw [if_neg ht, if_neg ht]
        exact ih
include hm ha hg hf in
/-- Sideways. -/
theorem stand_side (hs1 : 1 ≤ s) (hs : s ≤ 4) (h1 : 1 ≤ far) (h7 : far ≤ 7) :
    ∀ (d j : Nat), j + d = far → (∀ i : Nat, i ≤ j → stays f (i * sx s) (i * sy s)) →
      asT (standK ms (listG g) p f s far (16 - j) (j + 1)) = holdL ms (restF ms (g ||| 2 ^ p)) (sideL s (cntF f) d (sideI s f j))
  | 0, j, hj, hst => by
    obtain rfl : j = far := by omega
    have hd : ∀ k, j ≤ k → sdR j k = j := fun k hk => by
      unfold sdR
      split <;> omega
    have hx : ∀ k, j ≤ k → dxR s j k = (j : Int) * sx s := fun k hk => by
      unfold dxR sx
      rw [hd k hk]
      split
      · simp
      · split
        · simp
        · simp
    have hy : ∀ k, j ≤ k → dyR s j k = (j : Int) * sy s := fun k hk => by
      unfold dyR sy
      rw [hd k hk]
      split
      · simp
      · split
        · simp
        · simp
    have := stand_up hm ha hg (p := p) (f := f) (s := s) h7 (sideI_fit hf s j) hx hy (hst j (Nat.le_refl _)) (fun x y z hin => by
      rw [side_has hf hs1 hs]
      exact ⟨fun h => h.2, fun h => ⟨hin, h⟩⟩) 8 0 rfl
    rw [Nat.sub_zero, Nat.add_zero] at this
    exact this
  | d + 1, j, hj, hst => by
    have hdk : sdR far (j + 1) = j + 1 := by unfold sdR; rw [if_pos (by omega)]
    have hu : upR far (j + 1) = 0 := by unfold upR; rw [hdk]; omega
    have hx : dxR s far (j + 1) = ((j + 1 : Nat) : Int) * sx s := by
      unfold dxR sx
      rw [hdk]
      split
      · simp
      · split
        · simp
        · simp
    have hy : dyR s far (j + 1) = ((j + 1 : Nat) : Int) * sy s := by
      unfold dyR sy
      rw [hdk]
      split
      · simp
      · split
        · simp
        · simp
    obtain ⟨n, hn⟩ : ∃ n, 16 - j = n + 1 := ⟨15 - j, by omega⟩
    have hc := side_cnt hf hs1 hs (hst j (Nat.le_refl _))
    rw [side_all hf hs1 hs hst] at hc
    rw [hn, standK, hu, if_pos (by omega), sideL]
    show asT (match stepR ms (listG g) p f s far (j + 1) with
      | some r => some r
      | none => standK ms (listG g) p f s far n (j + 1 + 1)) = holdL ms (restF ms (g ||| 2 ^ p)) (if cntF (sideI s f (j + 1)) = cntF f then (sideI s f (j + 1), true) :: sideL s (cntF f) d (sideI s f (j + 1)) else [(sideI s f (j + 1), false)])
    by_cases hk : cntF (sideI s f (j + 1)) = cntF f
    · have hst2 := hc.1 hk
      have hst3 : ∀ i : Nat, i ≤ j + 1 → stays f (i * sx s) (i * sy s) := fun i hi => by
        by_cases e : i = j + 1
        · rw [e]; exact hst2
        · exact hst i (by omega)
      have ih := stand_side hs1 hs h1 h7 d (j + 1) (by omega) hst3
      rw [show 16 - (j + 1) = n by omega] at ih
      have hstep : stepR ms (listG g) p f s far (j + 1) = if touchB (sideI s f (j + 1)) (restF ms (g ||| 2 ^ p)) = true then some (((leastN (meetF (sideI s f (j + 1)) (restF ms (g ||| 2 ^ p))) : Nat) : Int), ownP ms (leastZ (meetF (sideI s f (j + 1)) (restF ms (g ||| 2 ^ p)))) (lowB (meetF (sideI s f (j + 1)) (restF ms (g ||| 2 ^ p)) (leastZ (meetF (sideI s f (j + 1)) (restF ms (g ||| 2 ^ p))))))) else none := by
        unfold stepR
        rw [hx, hy, hu, (off_stays f _ _).2 hst2, if_neg Bool.false_ne_true]
        refine hit_first hm ha hg (sideI_fit hf s _) fun x y z hin => ?_
        rw [side_has hf hs1 hs, show z - ((0 : Nat) : Int) = z by simp]
        exact ⟨fun h => h.2, fun h => ⟨hin, h⟩⟩
      rw [hstep, if_pos hk, hold_cons]
      unfold stopB
      rw [Bool.not_true, Bool.false_or]
      by_cases ht : touchB (sideI s f (j + 1)) (restF ms (g ||| 2 ^ p)) = true
      · rw [if_pos ht, if_pos ht]
        rfl
      · rw [if_neg ht, if_neg ht]
        exact ih
    · have hoff : offK f (((j + 1 : Nat) : Int) * sx s) (((j + 1 : Nat) : Int) * sy s) 512 0 = true := by
        cases hh : offK f (((j + 1 : Nat) : Int) * sx s) (((j + 1 : Nat) : Int) * sy s) 512 0 with
        | true => rfl
        | false => exact absurd (hc.2 ((off_stays f _ _).1 hh)) hk
      have hstep : stepR ms (listG g) p f s far (j + 1) = some (-1, -1) := by
        unfold stepR
        rw [hx, hy, if_pos hoff]
      rw [hstep, if_neg hk, hold_cons]
      rfl
include hm ha hg hf in
/-- Holds is the reference's Stand. -/
theorem stand_eq (hw : s = 0 ∧ far = 0 ∨ 1 ≤ s ∧ s ≤ 4 ∧ 1 ≤ far ∧ far ≤ 7) :
    asT (standR ms (listG g) p f s far) = holdL ms (restF ms (g ||| 2 ^ p)) (standsL f s far) := by
  rcases hw with ⟨rfl, rfl⟩ | ⟨h1, h2, h3, h4⟩
  · have hx : ∀ k, 0 ≤ k → dxR 0 0 k = 0 := fun k _ => rfl
    have hy : ∀ k, 0 ≤ k → dyR 0 0 k = 0 := fun k _ => rfl
    have := stand_up hm ha hg (p := p) (f := f) (s := 0) (far := 0) (by omega) hf hx hy (fun x y z h => by
      obtain ⟨j1, j2, j3, j4, j5, j6⟩ := hasR_in h
      omega) (fun x y z hin => by rw [Int.sub_zero, Int.sub_zero]) 8 0 rfl
    exact this
  · have := stand_side hm ha hg hf (p := p) h1 h2 h3 h4 far 0 (by omega) (fun i hi => by
      obtain rfl : i = 0 := by omega
      intro x y z h
      obtain ⟨j1, j2, j3, j4, j5, j6⟩ := hasR_in h
      simp
      omega)
    exact this
end
end Go.Proofs.YtoajocgfmbakjaaGreatDoor
/-
  The reference's IsSet.
-/
set_option linter.unusedVariables false
set_option linter.unusedSimpArgs false
namespace Go.Proofs.YtoajocgfmbakjaaGreatDoor
open Go Go.RowKit Go.Shelf

theorem undrewN {W w : World} {n : Nat} (h : Below W.heap.size W w) (k : Nat) : Below W.heap.size W (w.drewN k) := ⟨h.os, h.tape, h.output, h.size, h.block⟩
theorem setK_some_eq {n : Nat} {s s' : Nat} : ∀ (l : List Int) (bf : Int) (s s' : Nat), (setK n s bf l).isSome = (setK n s' bf l).isSome
  | [], _, _, _ => rfl
  | p :: l, bf, s, s' => by
    unfold setK
    split
    · exact setK_some_eq (s := 0) (s' := 0) l p _ _
    · rfl
set_option maxRecDepth 100000 in
set_option maxHeartbeats 4000000 in
theorem isSetR_ok (n : Nat) (l : List Int) (v : Value) (w : World) (h : IntsAt w v l) : Calls Tryz.prog 109 #[.int .i64 n, v] w (RetB (.bool (setF n l).isSome) w) := by
  have H := Lib.hid h
  obtain ⟨pl, cl, rfl, hlx, _⟩ := h
  simp only [maxLen] at hlx
  obtain ⟨ans, hans⟩ : ∃ ans, ans = (setF n l).isSome := ⟨_, rfl⟩
  rw [← hans]
  have HA := Lib.hid hans
  clear hans
  go_enter Tryz.func109, Tryz.ntmps109
  go_wp2_with fail
  go_loopw [5] (fun c wr => ∃ (i : Nat) (bf : Int), i ≤ l.length ∧ c = .int .i64 i ∧ Hid (ans = (setK n 0 bf (l.drop i)).isSome) ∧ (i = 0 ∧ bf = -1 ∨ 0 < i ∧ l[i - 1]? = some bf ∧ 0 ≤ bf) ∧ Below w.heap.size w wr) (fun c _ => l.length - (intOf c).toNat)
  case atStart => exact ⟨0, -1, by omega, rfl, Lib.hid HA.out, .inl ⟨rfl, rfl⟩, Below.refl _ _⟩
  case round =>
    obtain ⟨i, bf, hi, rfl, HT, hbf, hB⟩ := hrel
    by_cases hlt : i < l.length
    · have hd : decide ((i : Int) < (l.length : Int)) = true := decide_eq_true (by omega)
      have hw1 : IntKind.i64.wrap ((i : Int) + 1) = (i : Int) + 1 := by rw [IntWalk.i64_in] <;> omega
      have hw2 : IntKind.i64.wrap ((i : Int) - 1) = (i : Int) - 1 := by rw [IntWalk.i64_in] <;> omega
      obtain ⟨y, ga⟩ : ∃ y, l[i]? = some y := ⟨_, List.getElem?_eq_getElem hlt⟩
      obtain ⟨g1, o1, c1', e1, hg1, ca⟩ := (H.out.below hB (Nat.le_refl _)).at ga
      obtain ⟨rfl, rfl⟩ : pl = some ⟨g1, o1, none⟩ ∧ cl = c1' := by injection e1 with e1 e2 e3; exact ⟨e1, e3⟩
      have HE := Lib.hid (show (setK n 0 bf (l.drop i)).isSome = if bf < y ∧ 0 ≤ y ∧ y < n then (setK n 0 y (l.drop (i + 1))).isSome else false by
        rw [List.drop_eq_getElem_cons hlt]
        have : l[i] = y := by rw [List.getElem?_eq_getElem hlt] at ga; exact Option.some.inj ga
        rw [this, setK]
        split
        · exact setK_some_eq (s := 0) (s' := 0) _ _ _ _
        · rfl)
      have hla2 : (i : Int) < (l.length : Int) := by omega
      clear e1
      by_cases h1 : y < 0
      · have HR := Lib.hid (show ans = false by rw [HT.out, HE.out, if_neg (by omega)])
        have d1 : decide (y < 0) = true := decide_eq_true h1
        go_wp2_with fail
        go_quiet (fail)
        go_wp2_with fail
        go_ret
        exact ⟨by rw [HR.out]; rfl, by repeat' (first | (with_reducible exact Below.refl _ _) | (with_reducible assumption) | (with_reducible refine Below.alloc ?_ ?_ _) | (with_reducible refine Below.drew ?_) | (with_reducible refine below_drewN ?_ _) | (with_reducible refine Below.setCell ?_ ?_ _) | go_size)⟩
      · have d1 : decide (y < 0) = false := decide_eq_false h1
        by_cases h2 : (n : Int) ≤ y
        · have HR := Lib.hid (show ans = false by rw [HT.out, HE.out, if_neg (by omega)])
          have d2 : decide ((n : Int) ≤ y) = true := decide_eq_true h2
          go_wp2_with fail
          go_quiet (fail)
          go_wp2_with fail
          go_ret
          exact ⟨by rw [HR.out]; rfl, by repeat' (first | (with_reducible exact Below.refl _ _) | (with_reducible assumption) | (with_reducible refine Below.alloc ?_ ?_ _) | (with_reducible refine Below.drew ?_) | (with_reducible refine below_drewN ?_ _) | (with_reducible refine Below.setCell ?_ ?_ _) | go_size)⟩
        · have d2 : decide ((n : Int) ≤ y) = false := decide_eq_false h2
          rcases hbf with ⟨rfl, rfl⟩ | ⟨h3, h4, h5⟩
          · have HR := Lib.hid (show ans = (setK n 0 y (l.drop (0 + 1))).isSome by rw [HT.out, HE.out, if_pos (by omega)])
            have d3 : decide ((0 : Int) < ((0 : Nat) : Int)) = false := rfl
            rw [Nat.add_zero] at ca
            go_wp2_with fail
            go_quiet (fail)
            go_wp2_with fail
            case roundEnd => exact ⟨⟨1, y, by omega, rfl, HR, .inr ⟨by omega, ga, by omega⟩, by repeat' (first | (with_reducible exact Below.refl _ _) | (with_reducible assumption) | (with_reducible refine Below.alloc ?_ ?_ _) | (with_reducible refine Below.drew ?_) | (with_reducible refine below_drewN ?_ _) | (with_reducible refine Below.setCell ?_ ?_ _) | go_size)⟩, by simp [intOf]; omega⟩
          · have d3 : decide ((0 : Int) < (i : Int)) = true := decide_eq_true (by omega)
            obtain ⟨j, hj⟩ : ∃ j, i = j + 1 := ⟨i - 1, by omega⟩
            rw [show i - 1 = j by omega] at h4
            have hwj : IntKind.i64.wrap ((i : Int) - 1) = (j : Int) := by rw [hw2]; omega
            have hjl : (j : Int) < (l.length : Int) := by omega
            have hi0 : 0 < i := h3
            have HJ := Lib.hid hj
            obtain ⟨g2, o2, c2', e2, hg2, cb⟩ := (H.out.below hB (Nat.le_refl _)).at h4
            obtain ⟨rfl, rfl, rfl⟩ : g1 = g2 ∧ o1 = o2 ∧ cl = c2' := by injection e2 with e1 e2 e3; injection e1 with e1; injection e1 with e4 e5; exact ⟨e4, e5, e3⟩
            clear e2 hw2 hj
            by_cases h6 : y ≤ bf
            · have HR := Lib.hid (show ans = false by rw [HT.out, HE.out, if_neg (by omega)])
              have d4 : decide (y ≤ bf) = true := decide_eq_true h6
              go_wp2_with fail
              go_quiet (fail)
              go_wp2_with fail
              go_ret
              exact ⟨by rw [HR.out]; rfl, by repeat' (first | (with_reducible exact Below.refl _ _) | (with_reducible assumption) | (with_reducible refine Below.alloc ?_ ?_ _) | (with_reducible refine Below.drew ?_) | (with_reducible refine below_drewN ?_ _) | (with_reducible refine Below.setCell ?_ ?_ _) | go_size)⟩
            · have HR := Lib.hid (show ans = (setK n 0 y (l.drop (i + 1))).isSome by rw [HT.out, HE.out, if_pos (by omega)])
              have d4 : decide (y ≤ bf) = false := decide_eq_false h6
              go_wp2_with fail
              go_quiet (fail)
              go_wp2_with fail
              case roundEnd => exact ⟨⟨i + 1, y, by omega, by go_num, HR, .inr ⟨by omega, ga, by omega⟩, by repeat' (first | (with_reducible exact Below.refl _ _) | (with_reducible assumption) | (with_reducible refine Below.alloc ?_ ?_ _) | (with_reducible refine Below.drew ?_) | (with_reducible refine below_drewN ?_ _) | (with_reducible refine Below.setCell ?_ ?_ _) | go_size)⟩, by simp [intOf]; omega⟩
    · obtain rfl : i = l.length := by omega
      have hd : decide ((l.length : Int) < (l.length : Int)) = false := decide_eq_false (by omega)
      have HR := Lib.hid (show ans = true by rw [HT.out, List.drop_length]; rfl)
      go_wp2
      go_ret
      exact ⟨by rw [HR.out]; rfl, hB⟩
end Go.Proofs.YtoajocgfmbakjaaGreatDoor
/-
  The reference's asked.
-/
set_option linter.unusedVariables false
set_option linter.unusedSimpArgs false
namespace Go.Proofs.YtoajocgfmbakjaaGreatDoor
open Go Go.RowKit Go.Shelf

theorem mem_set {n : Nat} (hn : n ≤ 12) {l : List Int} {s : Nat} (h : setF n l = some s) {p : Int} (h0 : 0 ≤ p) : p ∈ l ↔ s.testBit p.toNat = true := by
  obtain ⟨h1, h2, _⟩ := setF_spec hn h
  rw [h1, List.mem_map]
  constructor
  · rintro ⟨x, hx, e⟩
    rw [← e, Int.toNat_natCast]
    exact (mem_listS h2).1 hx
  · intro hb
    exact ⟨p.toNat, (mem_listS h2).2 hb, by omega⟩
set_option maxRecDepth 100000 in
set_option maxHeartbeats 4000000 in
theorem askedR_ok (ms : List Sol) (l : List Int) (v lv : Value) (p : Int) (w : World) (hv : SolsAt w v ms) (hl : IntsAt w lv l) (hm : ∀ m ∈ ms, Fit m) :
    Calls Tryz.prog 83 #[v, lv, .int .i64 p] w (RetB (.int .i64 (goErrP ms l p)) w) := by
  have HC := Lib.hid (refCheck_ok ms v w hv hm)
  have HS := Lib.hid (fun W (h : Below w.heap.size w W) => isSetR_ok ms.length l lv W (hl.below h (Nat.le_refl _)))
  have HI := Lib.hid (fun W (h : Below w.heap.size w W) => inR_ok l lv p W (hl.below h (Nat.le_refl _)))
  obtain ⟨pa, cap, rfl, _, _⟩ := hv
  by_cases hc : chkM ms = 0
  · rw [hc] at HC
    have h12 := chkM_len hc
    cases hs : setF ms.length l with
    | none =>
      have HE := Lib.hid (show goErrP ms l p = 1 by unfold goErrP errW; rw [if_pos hc, hs]; rfl)
      rw [hs] at HS
      rw [HE.out]
      clear hc hm hs HI HE
      go_enter Tryz.func83, Tryz.ntmps83
      go_wp2_with fail
      refine HC.out.mono ?_
      rintro e w1 ⟨rfl, hb1⟩
      go_wp2_with fail
      refine (HS.out _ hb1).mono ?_
      rintro e w2 ⟨rfl, hb2⟩
      go_wp2_with fail
      go_ret
      exact ⟨rfl, up hb2 hb1⟩
    | some s =>
      have HE := Lib.hid (show goErrP ms l p = if (decide (0 ≤ p ∧ p < (ms.length : Int)) && !s.testBit p.toNat) = true then 0 else 1 by
        have e0 : errW ms l = 0 := by unfold errW; rw [if_pos hc, hs]; rfl
        unfold goErrP
        rw [if_pos e0, hs]
        rfl)
      have HM := Lib.hid (fun (h0 : 0 ≤ p) => mem_set h12 hs h0)
      rw [hs] at HS
      rw [HE.out]
      clear hc hm hs HE
      by_cases h0 : p < 0
      · rw [if_neg (by rw [decide_eq_false (by omega)]; simp)]
        have d0 : decide (p < 0) = true := decide_eq_true h0
        go_enter Tryz.func83, Tryz.ntmps83
        go_wp2_with fail
        refine HC.out.mono ?_
        rintro e w1 ⟨rfl, hb1⟩
        go_wp2_with fail
        refine (HS.out _ hb1).mono ?_
        rintro e w2 ⟨rfl, hb2⟩
        go_wp2_with fail
        go_ret
        exact ⟨rfl, up hb2 hb1⟩
      · have d0 : decide (p < 0) = false := decide_eq_false h0
        by_cases h1 : (ms.length : Int) ≤ p
        · rw [if_neg (by rw [decide_eq_false (by omega)]; simp)]
          have d1 : decide ((ms.length : Int) ≤ p) = true := decide_eq_true h1
          go_enter Tryz.func83, Tryz.ntmps83
          go_wp2_with fail
          refine HC.out.mono ?_
          rintro e w1 ⟨rfl, hb1⟩
          go_wp2_with fail
          refine (HS.out _ hb1).mono ?_
          rintro e w2 ⟨rfl, hb2⟩
          go_wp2_with fail
          go_ret
          exact ⟨rfl, up hb2 hb1⟩
        · have d1 : decide ((ms.length : Int) ≤ p) = false := decide_eq_false h1
          by_cases h2 : p ∈ l
          · have hb := (HM.out (by omega)).1 h2
            rw [if_neg (by rw [hb]; simp)]
            rw [decide_eq_true h2] at HI
            clear h2 hb HM
            go_enter Tryz.func83, Tryz.ntmps83
            go_wp2_with fail
            refine HC.out.mono ?_
            rintro e w1 ⟨rfl, hb1⟩
            go_wp2_with fail
            refine (HS.out _ hb1).mono ?_
            rintro e w2 ⟨rfl, hb2⟩
            have hb3 := up hb2 hb1
            go_wp2_with fail
            refine (HI.out _ hb3).mono ?_
            rintro e w3 ⟨rfl, hb4⟩
            go_wp2_with fail
            go_ret
            exact ⟨rfl, up hb4 hb3⟩
          · have hb : s.testBit p.toNat = false := by
              cases hh : s.testBit p.toNat with
              | false => rfl
              | true => exact absurd ((HM.out (by omega)).2 hh) h2
            rw [if_pos (by rw [hb, decide_eq_true ⟨by omega, by omega⟩]; rfl)]
            rw [decide_eq_false h2] at HI
            clear h2 hb HM
            go_enter Tryz.func83, Tryz.ntmps83
            go_wp2_with fail
            refine HC.out.mono ?_
            rintro e w1 ⟨rfl, hb1⟩
            go_wp2_with fail
            refine (HS.out _ hb1).mono ?_
            rintro e w2 ⟨rfl, hb2⟩
            have hb3 := up hb2 hb1
            go_wp2_with fail
            refine (HI.out _ hb3).mono ?_
            rintro e w3 ⟨rfl, hb4⟩
            go_wp2_with fail
            go_ret
            exact ⟨rfl, up hb4 hb3⟩
  · have HE := Lib.hid (show goErrP ms l p = chkM ms by unfold goErrP errW; rw [if_neg hc, if_neg hc])
    rw [HE.out]
    obtain ⟨c, hcc⟩ : ∃ c, c = chkM ms := ⟨_, rfl⟩
    rw [← hcc] at HC hc ⊢
    have hne : (c != 0) = true := by simpa using hc
    clear hcc hm HE hc
    go_enter Tryz.func83, Tryz.ntmps83
    go_wp2_with fail
    refine HC.out.mono ?_
    rintro e w1 ⟨rfl, hb1⟩
    go_wp2_with fail
    go_ret
    exact ⟨rfl, hb1⟩
end Go.Proofs.YtoajocgfmbakjaaGreatDoor
/-
  The reference's Holds and CheckGo.
-/
set_option linter.unusedVariables false
set_option linter.unusedSimpArgs false
namespace Go.Proofs.YtoajocgfmbakjaaGreatDoor
open Go Go.RowKit Go.Shelf

/-- Holds at every mould, list and move. -/
def holT (ms : List Sol) (l : List Int) (m : Mo) : Int × Int × Bool := if goErr ms l m = 0 then (match ms[m.1.toNat]? with
  | some f => holdL ms (restF ms ((setF ms.length l).getD 0 ||| 2 ^ m.1.toNat)) (standsL f m.2.1.toNat m.2.2.toNat)
  | none => (0, 0, false)) else (0, 0, false)
theorem goErr_ways (ms : List Sol) (l : List Int) (p s far : Int) : (goErrP ms l p ≠ 0 ∧ goErr ms l (p, s, far) = goErrP ms l p) ∨ (goErrP ms l p = 0 ∧ moveB ms.length p s far = false ∧ goErr ms l (p, s, far) = 1) ∨
    (goErrP ms l p = 0 ∧ moveB ms.length p s far = true ∧ goErr ms l (p, s, far) = 0 ∧ chkM ms = 0 ∧ ∃ g, setF ms.length l = some g ∧ g.testBit p.toNat = false) := by
  rcases errW_ways ms l with ⟨h1, h2⟩ | ⟨h1, h2, h3⟩ | ⟨h1, ⟨g, h2⟩, h3⟩
  · have e1 : goErrP ms l p = chkM ms := by unfold goErrP; rw [if_neg (by rw [h2]; exact h1), h2]
    have e2 : goErr ms l (p, s, far) = chkM ms := by unfold goErr; rw [if_neg (by rw [h2]; exact h1), h2]
    exact .inl ⟨by rw [e1]; exact h1, by rw [e1, e2]⟩
  · have e1 : goErrP ms l p = 1 := by unfold goErrP; rw [if_neg (by rw [h3]; decide), h3]
    have e2 : goErr ms l (p, s, far) = 1 := by unfold goErr; rw [if_neg (by rw [h3]; decide), h3]
    exact .inl ⟨by rw [e1]; decide, by rw [e1, e2]⟩
  · have e1 : goErrP ms l p = if (decide (0 ≤ p ∧ p < (ms.length : Int)) && !g.testBit p.toNat) = true then 0 else 1 := by unfold goErrP; rw [if_pos h3, h2]; rfl
    have e2 : goErr ms l (p, s, far) = if (moveB ms.length p s far && !g.testBit p.toNat) = true then 0 else 1 := by unfold goErr; rw [if_pos h3, h2]; rfl
    have hmv : moveB ms.length p s far = true → (0 ≤ p ∧ p < (ms.length : Int)) := fun h => by
      unfold moveB at h
      rw [Bool.and_eq_true] at h
      exact of_decide_eq_true h.1
    by_cases hp : 0 ≤ p ∧ p < (ms.length : Int)
    · rw [decide_eq_true hp, Bool.true_and] at e1
      cases hb : g.testBit p.toNat with
      | true =>
        rw [hb] at e1 e2
        refine .inl ⟨by rw [e1]; simp, by rw [e1, e2]; simp⟩
      | false =>
        rw [hb] at e1 e2
        cases hv : moveB ms.length p s far with
        | false => rw [hv] at e2; exact .inr (.inl ⟨by rw [e1]; rfl, rfl, by rw [e2]; rfl⟩)
        | true => rw [hv] at e2; exact .inr (.inr ⟨by rw [e1]; rfl, rfl, by rw [e2]; rfl, h1, g, h2, hb⟩)
    · rw [decide_eq_false hp, Bool.false_and] at e1
      have hv : moveB ms.length p s far = false := by
        cases hv : moveB ms.length p s far with
        | false => rfl
        | true => exact absurd (hmv hv) hp
      rw [hv, Bool.false_and] at e2
      exact .inl ⟨by rw [e1]; decide, by rw [e1, e2]⟩
set_option maxRecDepth 100000 in
set_option maxHeartbeats 4000000 in
theorem refHolds_ok (ms : List Sol) (l : List Int) (p s far : Int) (v lv : Value) (w : World) (hv : SolsAt w v ms) (hl : IntsAt w lv l) (hm : ∀ m ∈ ms, Fit m) :
    Calls Tryz.prog 35 #[v, lv, .agg #[.int .i64 (p), .int .i64 (s), .int .i64 (far)]] w (RetB (.tuple #[.int .i64 (holT ms l (p, s, far)).1, .int .i64 (holT ms l (p, s, far)).2.1, .bool (holT ms l (p, s, far)).2.2, .int .i64 (goErr ms l (p, s, far))]) w) := by
  have HV := Lib.hid hv
  have HLV := Lib.hid hl
  have HM := Lib.hid hm
  have HA := Lib.hid (fun W (h : Below w.heap.size w W) => askedR_ok ms l v lv p W (hv.below h (Nat.le_refl _)) (hl.below h (Nat.le_refl _)) hm)
  have q0 : BoxM (w.alloc (.cells #[.int .i64 (p), .int .i64 (s), .int .i64 (far)] 40)) w.heap.size p s far := World.alloc_heap_new w _
  have hB0 : Below w.heap.size w (w.alloc (.cells #[.int .i64 (p), .int .i64 (s), .int .i64 (far)] 40)) := (Below.refl _ w).alloc (Nat.le_refl _) _
  obtain ⟨B, hBB⟩ : ∃ B, B = w.heap.size := ⟨_, rfl⟩
  obtain ⟨W0, hW0⟩ : ∃ W0, W0 = w.alloc (.cells #[.int .i64 (p), .int .i64 (s), .int .i64 (far)] 40) := ⟨_, rfl⟩
  rw [← hW0] at q0 hB0
  rw [← hBB] at q0
  have HBE := Lib.hid hBB
  have HB0 := Lib.hid hB0
  have lq := (Array.getElem?_eq_some_iff.1 q0).1
  have HIM := Lib.hid (fun W => isMoveR_ok ms.length p s far W)
  have hno : goErr ms l (p, s, far) ≠ 0 → holT ms l (p, s, far) = (0, 0, false) := fun h => if_neg h
  obtain ⟨pa, cap, rfl, _, _⟩ := hv
  obtain ⟨c0, c1, c2⟩ := BoxM.cells q0
  rcases goErr_ways ms l p s far with ⟨h1, h2⟩ | ⟨h1, h2, h3⟩ | ⟨h1, h2, h3, h4, g, h5, h6⟩
  · rw [hno (by rw [h2]; exact h1), h2]
    obtain ⟨c, hcc⟩ : ∃ c, c = goErrP ms l p := ⟨_, rfl⟩
    rw [← hcc] at HA h1 ⊢
    have hne : (c != 0) = true := by simpa using h1
    clear hno h1 h2 hcc hm hl hB0 hBB
    go_enter Tryz.func35, Tryz.ntmps35
    go_upto_region 1 with fail
    rw [← hW0, ← HBE.out]
    clear hW0
    go_wp2_with fail
    refine (HA.out _ HB0.out).mono ?_
    rintro e w1 ⟨rfl, hb1⟩
    go_wp2_with fail
    go_returns
    exact ⟨rfl, up hb1 HB0.out⟩
  · rw [hno (by rw [h3]; decide), h3]
    rw [h1] at HA
    rw [h2] at HIM
    clear hno h1 h2 h3 hm hl hB0 hBB
    go_enter Tryz.func35, Tryz.ntmps35
    go_upto_region 1 with fail
    rw [← hW0, ← HBE.out]
    clear hW0
    go_wp2_with fail
    refine (HA.out _ HB0.out).mono ?_
    rintro e w1 ⟨rfl, hb1⟩
    have q1 := heap_below q0 hb1 lq
    have HB1 := Lib.hid (up hb1 HB0.out)
    clear c0 c1 c2 q0 hb1
    obtain ⟨c0, c1, c2⟩ := BoxM.cells q1
    go_wp2_with fail
    refine (HIM.out _).mono ?_
    rintro e w2 ⟨rfl, hb2⟩
    go_wp2_with fail
    go_returns
    exact ⟨rfl, up hb2 HB1.out⟩
  · obtain ⟨r, x, rfl, rfl, rfl, hr, hrt, hx⟩ := moveB_ok h2
    obtain ⟨f, hf⟩ : ∃ f, ms[r]? = some f := ⟨_, List.getElem?_eq_getElem hr⟩
    have hw : x.1 = 0 ∧ x.2 = 0 ∨ 1 ≤ x.1 ∧ x.1 ≤ 4 ∧ 1 ≤ x.2 ∧ x.2 ≤ 7 := by
      unfold moveB wayB at h2
      rw [Bool.and_eq_true] at h2
      have := of_decide_eq_true h2.2
      omega
    obtain ⟨hl1, hg16, _⟩ := setF_spec (chkM_len h4) h5
    have hs := stand_eq hm (chkM_apart h4) hg16 (p := r) (hm f (List.mem_of_getElem? hf)) hw
    have hT : holT ms l ((r : Int), (x.1 : Int), (x.2 : Int)) = asT (standR ms l r f x.1 x.2) := by
      unfold holT
      rw [if_pos h3]
      dsimp only
      rw [Int.toNat_natCast, Int.toNat_natCast, Int.toNat_natCast, hf, h5, hl1]
      exact hs.symm
    have HST := Lib.hid (fun W (h : Below w.heap.size w W) => standR_ok ms l r f x.1 x.2 (.slice pa ms.length cap) lv W (HV.out.below h (Nat.le_refl _)) HM.out (HLV.out.below h (Nat.le_refl _)) hf (by omega) (by omega))
    rw [hT, h3]
    rw [h1] at HA
    rw [h2] at HIM
    clear hno h1 h2 h3 hm hl hB0 hBB hT hs hl1
    obtain ⟨a, b, c, hV, hAT⟩ : ∃ a b c, standV (standR ms l r f x.1 x.2) = .tuple #[.int .i64 a, .int .i64 b, .bool c] ∧ asT (standR ms l r f x.1 x.2) = (a, b, c) := by
      cases standR ms l r f x.1 x.2 with
      | none => exact ⟨_, _, _, rfl, rfl⟩
      | some z => exact ⟨_, _, _, rfl, rfl⟩
    rw [hV] at HST
    rw [hAT]
    clear hV hAT
    go_enter Tryz.func35, Tryz.ntmps35
    go_upto_region 1 with fail
    rw [← hW0, ← HBE.out]
    clear hW0
    go_wp2_with fail
    refine (HA.out _ HB0.out).mono ?_
    rintro e w1 ⟨rfl, hb1⟩
    have q1 := heap_below q0 hb1 lq
    have HB1 := Lib.hid (up hb1 HB0.out)
    clear c0 c1 c2 q0 hb1
    obtain ⟨c0, c1, c2⟩ := BoxM.cells q1
    have lq1 := (Array.getElem?_eq_some_iff.1 q1).1
    go_wp2_with fail
    refine (HIM.out _).mono ?_
    rintro e w2 ⟨rfl, hb2⟩
    have q2 := heap_below q1 hb2 lq1
    have HB2 := Lib.hid (up hb2 HB1.out)
    clear c0 c1 c2 q1 hb2
    obtain ⟨c0, c1, c2⟩ := BoxM.cells q2
    go_wp2_with fail
    refine (HST.out _ HB2.out).mono ?_
    rintro e w3 ⟨rfl, hb3⟩
    go_wp2_with fail
    go_returns
    exact ⟨rfl, up hb3 HB2.out⟩
set_option maxRecDepth 100000 in
set_option maxHeartbeats 4000000 in
theorem refCheckGo_ok (ms : List Sol) (l : List Int) (p s far : Int) (v lv : Value) (w : World) (hv : SolsAt w v ms) (hl : IntsAt w lv l) (hm : ∀ m ∈ ms, Fit m) :
    Calls Tryz.prog 37 #[v, lv, .agg #[.int .i64 (p), .int .i64 (s), .int .i64 (far)]] w (RetB (.tuple #[.bool (decide (goErr ms l (p, s, far) = 0) && !(holT ms l (p, s, far)).2.2), .int .i64 (goErr ms l (p, s, far))]) w) := by
  have HH := Lib.hid (fun W (h : Below w.heap.size w W) => refHolds_ok ms l p s far v lv W (hv.below h (Nat.le_refl _)) (hl.below h (Nat.le_refl _)) hm)
  have q0 : BoxM (w.alloc (.cells #[.int .i64 (p), .int .i64 (s), .int .i64 (far)] 40)) w.heap.size p s far := World.alloc_heap_new w _
  have hB0 : Below w.heap.size w (w.alloc (.cells #[.int .i64 (p), .int .i64 (s), .int .i64 (far)] 40)) := (Below.refl _ w).alloc (Nat.le_refl _) _
  obtain ⟨c0, c1, c2⟩ := BoxM.cells q0
  generalize holT ms l (p, s, far) = h at *
  generalize goErr ms l (p, s, far) = c at *
  obtain ⟨a, b, d⟩ := h
  clear hv hl hm q0
  by_cases hc : c = 0
  · subst hc
    go_enter Tryz.func37, Tryz.ntmps37
    cases d with
    | true =>
      go_wp2_with fail
      refine (HH.out _ hB0).mono ?_
      rintro e w1 ⟨rfl, hb1⟩
      go_wp2_with fail
      go_returns
      exact ⟨rfl, up hb1 hB0⟩
    | false =>
      go_wp2_with fail
      refine (HH.out _ hB0).mono ?_
      rintro e w1 ⟨rfl, hb1⟩
      go_wp2_with fail
      go_returns
      exact ⟨rfl, up hb1 hB0⟩
  · have hne : (c == 0) = false := by simpa using hc
    rw [decide_eq_false hc]
    go_enter Tryz.func37, Tryz.ntmps37
    go_wp2_with fail
    refine (HH.out _ hB0).mono ?_
    rintro e w1 ⟨rfl, hb1⟩
    go_wp2_with fail
    go_returns
    exact ⟨rfl, up hb1 hB0⟩
end Go.Proofs.YtoajocgfmbakjaaGreatDoor
