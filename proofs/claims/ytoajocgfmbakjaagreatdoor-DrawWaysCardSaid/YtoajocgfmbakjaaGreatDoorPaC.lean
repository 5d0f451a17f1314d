/-
  The pieces of a mould: a list of solids that lies somewhere; isPiece, all.
-/
import Derived.Test.YtoajocgfmbakjaaGreatDoorPaB
import Derived.Test.YtoajocgfmbakjaaGreatDoorPaA
set_option linter.unusedVariables false
set_option linter.unusedSimpArgs false
namespace Go.Proofs.YtoajocgfmbakjaaGreatDoor
open Go Go.RowKit

/-- A slice that holds some solids. -/
def SolsAt (W : World) (v : Value) (ms : List Sol) : Prop := ∃ pa cap, v = .slice pa ms.length cap ∧ ms.length ≤ maxLen ∧
  (ms = [] ∨ ∃ b o, pa = some ⟨b, o, none⟩ ∧ b < W.heap.size ∧ ∀ i m, ms[i]? = some m → ∀ j, j < 8 → W.cell? ⟨b, o + i * 8 + j, none⟩ = some (.int .u64 (m j)))
theorem SolsAt.below {n : Nat} {W W' : World} {v : Value} {ms : List Sol} (h : SolsAt W v ms) (hb : Below n W W') (hn : W.heap.size ≤ n) : SolsAt W' v ms := by
  obtain ⟨pa, cap, h1, h2, h3⟩ := h
  refine ⟨pa, cap, h1, h2, h3.imp id ?_⟩
  rintro ⟨b, o, e1, e2, e3⟩
  exact ⟨b, o, e1, Nat.lt_of_lt_of_le e2 hb.size, fun i m hm j hj => (hb.cell (p := ⟨b, o + i * 8 + j, none⟩) (Nat.lt_of_lt_of_le e2 hn)).trans (e3 i m hm j hj)⟩
theorem SolsAt.at {W : World} {v : Value} {ms : List Sol} (h : SolsAt W v ms) {i : Nat} {m : Sol} (hm : ms[i]? = some m) :
    ∃ b o cap, v = .slice (some ⟨b, o, none⟩) ms.length cap ∧ b < W.heap.size ∧ ∀ j, j < 8 → W.cell? ⟨b, o + i * 8 + j, none⟩ = some (.int .u64 (m j)) := by
  obtain ⟨pa, cap, h1, h2, h3⟩ := h
  rcases h3 with rfl | ⟨b, o, rfl, e2, e3⟩
  · cases hm
  · exact ⟨b, o, cap, h1, e2, e3 i m hm⟩
theorem isPiece_ok (pa : Option Addr) (n c : Nat) (p : Int) (w : World) : Calls Tryz.prog 81 #[.slice pa n c, .int .i64 p] w (RetB (.bool (decide (0 ≤ p ∧ p < (n : Int)))) w) := by
  go_enter Tryz.func81, Tryz.ntmps81
  go_wp2
  all_goals
    go_ret
    exact ⟨retB (by rw [Bool.eq_iff_iff]; simp; omega), by go_grown⟩
/-- All of n pieces. -/
def allN (n : Nat) : Nat := 2 ^ n - 1
theorem allN_lt {n : Nat} (h : n < 16) : allN n < 65536 := by have := pow16_lt h; unfold allN; omega
theorem all_ok (pa : Option Addr) (n c : Nat) (h : n < 16) (w : World) : Calls Tryz.prog 113 #[.slice pa n c] w (RetB (setV (allN n)) w) := by
  have h1 := pow16_lt h
  have h2 : ((2 ^ n : Nat) : Int) = 2 ^ n := by norm_cast
  have h3 := wrap_pow16 h
  have h0 : 0 < 2 ^ n := Nat.pow_pos (by decide)
  go_enter Tryz.func113, Tryz.ntmps113
  go_wp2
  go_ret
  refine ⟨retI ?_, by go_grown⟩
  unfold allN
  omega
theorem below_put8 {n₀ b : Nat} {w W : World} (h : Below n₀ w W) (hb : n₀ ≤ b) (g : Sol) : Below n₀ w (put8 W b g) := by repeat' (first | (with_reducible exact Below.refl _ _) | (with_reducible assumption) | (with_reducible refine Below.alloc ?_ ?_ _) | (with_reducible refine Below.drew ?_) | (with_reducible refine below_drewN ?_ _) | (with_reducible refine Below.setCell ?_ ?_ _) | go_size)
/-- Whether pieces stand apart, some cells being taken. -/
def goodF : Sol → List Sol → Bool
  | _, [] => true
  | t, m :: r => !(emptyS m || touchB t m) && goodF (joinF t m) r
def takenF (ms : List Sol) (i : Nat) : Sol := (ms.take i).foldl joinF fun _ => 0
theorem joinF_fit {f g : Sol} (hf : Fit f) (hg : Fit g) : Fit (joinF f g) := fun i => Nat.or_lt_two_pow (n := 64) (hf i) (hg i)
theorem takenF_succ {ms : List Sol} {i : Nat} {m : Sol} (h : ms[i]? = some m) : takenF ms (i + 1) = joinF (takenF ms i) m := by
  unfold takenF
  rw [List.take_add_one, h, List.foldl_append]
  rfl
theorem takenF_fit {ms : List Sol} (h : ∀ m ∈ ms, Fit m) : ∀ i, Fit (takenF ms i) := by
  intro i
  unfold takenF
  have key : ∀ (l : List Sol) (t : Sol), Fit t → (∀ m ∈ l, Fit m) → Fit (l.foldl joinF t) := by
    intro l
    induction l with
    | nil => intro t ht _; exact ht
    | cons m r ih => intro t ht hl; exact ih _ (joinF_fit ht (hl m List.mem_cons_self)) fun x hx => hl x (List.mem_cons_of_mem _ hx)
  exact key _ _ (fun _ => by decide) fun m hm => h m (List.mem_of_mem_take hm)
def chkM (ms : List Sol) : Int := if 12 < ms.length then 2 else if goodF (fun _ => 0) ms then 0 else 1
theorem goodF_drop {ms : List Sol} {i : Nat} {m : Sol} (h : ms[i]? = some m) (t : Sol) : goodF t (ms.drop i) = (!(emptyS m || touchB t m) && goodF (joinF t m) (ms.drop (i + 1))) := by
  obtain ⟨h1, h2⟩ := List.getElem?_eq_some_iff.1 h
  rw [List.drop_eq_getElem_cons h1, h2]
  rfl
set_option maxRecDepth 100000 in
set_option maxHeartbeats 2000000 in
theorem check_ok (ms : List Sol) (v : Value) (w : World) (hv : SolsAt w v ms) (hm : ∀ m ∈ ms, Fit m) : Calls Tryz.prog 88 #[v] w (RetB (.int .i64 (chkM ms)) w) := by
  have HV := Lib.hid hv
  have HM := Lib.hid hm
  obtain ⟨pa, cap, rfl, hmx, _⟩ := hv
  have HC := Lib.hid (rfl : chkM ms = chkM ms)
  by_cases h12 : 12 < ms.length
  · have hc : chkM ms = 2 := by unfold chkM; rw [if_pos h12]
    have d : decide ((12 : Int) < (ms.length : Int)) = true := decide_eq_true (by omega)
    rw [hc]
    go_enter Tryz.func88, Tryz.ntmps88
    go_wp2
    go_ret
    exact ⟨rfl, Below.refl _ _⟩
  · have d : decide ((12 : Int) < (ms.length : Int)) = false := decide_eq_false (by omega)
    obtain ⟨c, hc⟩ : ∃ c, c = chkM ms := ⟨_, rfl⟩
    have hc2 : c = if goodF (fun _ => 0) ms then 0 else 1 := by rw [hc]; unfold chkM; rw [if_neg h12]
    have HCC := Lib.hid hc2
    rw [← hc]
    clear hc hc2 hm HC
    have T0 : BoxD (w.alloc (.cells (solC fun _ => 0) 88)) w.heap.size (fun _ => 0) := BoxK.zero rfl
    have hB0 : Below w.heap.size w (w.alloc (.cells (solC fun _ => 0) 88)) := by repeat' (first | (with_reducible exact Below.refl _ _) | (with_reducible assumption) | (with_reducible refine Below.alloc ?_ ?_ _) | (with_reducible refine Below.drew ?_) | (with_reducible refine below_drewN ?_ _) | (with_reducible refine Below.setCell ?_ ?_ _) | go_size)
    go_enter Tryz.func88, Tryz.ntmps88
    go_wp2
    go_loopw [11] (fun z wr => ∃ i : Nat, i ≤ ms.length ∧ z = .int .i64 i ∧ Hid (goodF (fun _ => 0) ms = goodF (takenF ms i) (ms.drop i)) ∧ BoxD wr w.heap.size (takenF ms i) ∧ Below w.heap.size w wr) (fun z _ => ms.length - (intOf z).toNat)
    case atStart => exact ⟨0, by omega, rfl, Lib.hid rfl, T0, hB0⟩
    case round =>
      clear T0 hB0
      obtain ⟨i, hi, rfl, HG, T, hB⟩ := hrel
      have lT := T.lt
      by_cases hlt : i < ms.length
      · have di : decide ((i : Int) < (ms.length : Int)) = true := decide_eq_true (by omega)
        have hii : (i : Int) < (ms.length : Int) := by omega
        obtain ⟨m, hmi⟩ : ∃ m, ms[i]? = some m := ⟨_, List.getElem?_eq_getElem hlt⟩
        obtain ⟨b, o, cap', he, hb, hcs⟩ := HV.out.at hmi
        obtain ⟨rfl, rfl⟩ : pa = some ⟨b, o, none⟩ ∧ cap = cap' := by injection he with e1 e2 e3; exact ⟨e1, e3⟩
        have hmf := HM.out m (List.mem_of_getElem? hmi)
        have htf := takenF_fit HM.out i
        have HX := Lib.hid (goodF_drop hmi (takenF ms i))
        have HT := Lib.hid (takenF_succ hmi)
        obtain ⟨t, ht⟩ : ∃ t, t = takenF ms i := ⟨_, rfl⟩
        rw [← ht] at HG HX HT T htf
        have H1 := Lib.hid (fun W : World => isEmpty_ok m W)
        have H2 := Lib.hid (fun W : World => touches_ok t m W htf hmf)
        have H3 := Lib.hid (fun W : World => join_ok t m W htf hmf)
        have x := fun j hj => (hB.cell (p := ⟨b, o + i * 8 + j, none⟩) hb).trans (hcs j hj)
        have x0 := x 0 (by omega); have x1 := x 1 (by omega); have x2 := x 2 (by omega); have x3 := x 3 (by omega); have x4 := x 4 (by omega); have x5 := x 5 (by omega); have x6 := x 6 (by omega); have x7 := x 7 (by omega)
        rw [Nat.add_zero] at x0
        have S1 : BoxS (wr.alloc (.cells (solC m) 25)) wr.heap.size m := BoxK.new _ wr m
        have T1 := T.alloc (.cells (solC m) 25)
        have hB1 := hB.alloc hB.size (.cells (solC m) 25)
        clear x hcs ht he
        go_wp2_with fail
        refine (H1.out _).mono ?_
        rintro e w2 ⟨rfl, hb2⟩
        have S2 := S1.below hb2 S1.lt
        have T2 := T1.below hb2 T1.lt
        have hB2 := up hb2 hB1
        clear S1 T1 hB1 hb2 x0 x1 x2 x3 x4 x5 x6 x7
        have bad : (emptyS m || touchB t m) = true → c = 1 := fun h => by rw [HCC.out, HG.out, HX.out, h]; rfl
        have BAD := Lib.hid bad
        clear bad
        cases hem : emptyS m with
        | true =>
          have HE := Lib.hid (BAD.out (by rw [hem]; rfl))
          go_wp2
          go_ret
          exact ⟨by rw [HE.out]; rfl, hB2⟩
        | false =>
          have x0 := (S2).cell (k := 0) (by omega); have x1 := (S2).cell (k := 1) (by omega); have x2 := (S2).cell (k := 2) (by omega); have x3 := (S2).cell (k := 3) (by omega); have x4 := (S2).cell (k := 4) (by omega); have x5 := (S2).cell (k := 5) (by omega); have x6 := (S2).cell (k := 6) (by omega); have x7 := (S2).cell (k := 7) (by omega)
          have y0 := (T2).cell (k := 0) (by omega); have y1 := (T2).cell (k := 1) (by omega); have y2 := (T2).cell (k := 2) (by omega); have y3 := (T2).cell (k := 3) (by omega); have y4 := (T2).cell (k := 4) (by omega); have y5 := (T2).cell (k := 5) (by omega); have y6 := (T2).cell (k := 6) (by omega); have y7 := (T2).cell (k := 7) (by omega)
          go_wp2_with fail
          clear x0 x1 x2 x3 x4 x5 x6 x7 y0 y1 y2 y3 y4 y5 y6 y7
          refine (H2.out _).mono ?_
          rintro e w3 ⟨rfl, hb3⟩
          have S3 := S2.below hb3 S2.lt
          have T3 := T2.below hb3 T2.lt
          have hB3 := up hb3 hB2
          clear S2 T2 hB2 hb3
          cases hto : touchB t m with
          | true =>
            have HE := Lib.hid (BAD.out (by rw [hem, hto]; rfl))
            go_wp2
            go_ret
            exact ⟨by rw [HE.out]; rfl, hB3⟩
          | false =>
            have HN := Lib.hid (show goodF (fun _ => 0) ms = goodF (takenF ms (i + 1)) (ms.drop (i + 1)) by rw [HG.out, HX.out, hem, hto, HT.out]; rfl)
            have x0 := (S3).cell (k := 0) (by omega); have x1 := (S3).cell (k := 1) (by omega); have x2 := (S3).cell (k := 2) (by omega); have x3 := (S3).cell (k := 3) (by omega); have x4 := (S3).cell (k := 4) (by omega); have x5 := (S3).cell (k := 5) (by omega); have x6 := (S3).cell (k := 6) (by omega); have x7 := (S3).cell (k := 7) (by omega)
            have y0 := (T3).cell (k := 0) (by omega); have y1 := (T3).cell (k := 1) (by omega); have y2 := (T3).cell (k := 2) (by omega); have y3 := (T3).cell (k := 3) (by omega); have y4 := (T3).cell (k := 4) (by omega); have y5 := (T3).cell (k := 5) (by omega); have y6 := (T3).cell (k := 6) (by omega); have y7 := (T3).cell (k := 7) (by omega)
            go_wp2_with fail
            clear x0 x1 x2 x3 x4 x5 x6 x7 y0 y1 y2 y3 y4 y5 y6 y7
            refine (H3.out _).mono ?_
            rintro e w4 ⟨rfl, hb4⟩
            have T4 := T3.below hb4 T3.lt
            have hB4 := up hb4 hB3
            have y0 := (T4).cell (k := 0) (by omega); have y1 := (T4).cell (k := 1) (by omega); have y2 := (T4).cell (k := 2) (by omega); have y3 := (T4).cell (k := 3) (by omega); have y4 := (T4).cell (k := 4) (by omega); have y5 := (T4).cell (k := 5) (by omega); have y6 := (T4).cell (k := 6) (by omega); have y7 := (T4).cell (k := 7) (by omega)
            have q0 := (T4).free 0; have q1 := (T4).free 1; have q2 := (T4).free 2; have q3 := (T4).free 3; have q4 := (T4).free 4; have q5 := (T4).free 5; have q6 := (T4).free 6; have q7 := (T4).free 7
            go_wp2_with fail
            case roundEnd => exact ⟨⟨i + 1, by omega, by go_num, HN, by rw [HT.out]; exact T4.put _, below_put8 hB4 (Nat.le_refl _) _⟩, by simp [intOf]; omega⟩
      · obtain rfl : i = ms.length := by omega
        have di : decide ((ms.length : Int) < (ms.length : Int)) = false := decide_eq_false (by omega)
        have HE := Lib.hid (show c = 0 by rw [HCC.out, HG.out, List.drop_eq_nil_of_le (Nat.le_refl _)]; rfl)
        go_wp2
        go_ret
        exact ⟨by rw [HE.out]; rfl, hB⟩
end Go.Proofs.YtoajocgfmbakjaaGreatDoor
/-
  What is of none of some pieces; the sand.
-/
set_option linter.unusedVariables false
set_option linter.unusedSimpArgs false
namespace Go.Proofs.YtoajocgfmbakjaaGreatDoor
open Go Go.RowKit

/-- The cells of the pieces below i that are in a set. -/
def unionK (ms : List Sol) (s : Nat) : Nat → Sol
  | 0 => fun _ => 0
  | i + 1 => match ms[i]? with
    | some m => if s.testBit i then joinF (unionK ms s i) m else unionK ms s i
    | none => unionK ms s i
def notF (f : Sol) : Sol := fun i => 18446744073709551615 - f i
def restF (ms : List Sol) (s : Nat) : Sol := notF (unionK ms s ms.length)
theorem unionK_fit {ms : List Sol} (h : ∀ m ∈ ms, Fit m) (s : Nat) : ∀ i, Fit (unionK ms s i)
  | 0 => fun _ => Nat.zero_lt_succ _
  | i + 1 => by
    unfold unionK
    split
    · rename_i m hm
      split
      · exact joinF_fit (unionK_fit h s i) (h m (List.mem_of_getElem? hm))
      · exact unionK_fit h s i
    · exact unionK_fit h s i
theorem notF_fit (f : Sol) : Fit (notF f) := fun i => by unfold notF; omega
theorem not_bits {x : Nat} (h : x < 18446744073709551616) : bits .xor .u64 (if IntKind.u64.signed = true then -1 else IntKind.u64.max) (x : Int) = ((18446744073709551615 - x : Nat) : Int) := by
  have e : (if IntKind.u64.signed = true then (-1 : Int) else IntKind.u64.max) = ((18446744073709551615 : Nat) : Int) := by rfl
  rw [e, bits_xor_u64_nat _ _ (by decide) h]
  congr 1
  apply Nat.eq_of_testBit_eq
  intro i
  have h2 := Nat.testBit_two_pow_sub_succ (x := x) (n := 64) h i
  have h3 : (18446744073709551615 : Nat).testBit i = decide (i < 64) := Nat.testBit_two_pow_sub_one 64 i
  rw [Nat.testBit_xor, show 18446744073709551615 - x = 2 ^ 64 - (x + 1) by omega, h2, h3]
  by_cases hi : i < 64
  · simp [hi]
  · have : x.testBit i = false := Nat.testBit_lt_two_pow (Nat.lt_of_lt_of_le h (Nat.pow_le_pow_right (n := 2) (by decide) (Nat.le_of_not_lt hi)))
    simp [hi, this]
set_option maxRecDepth 100000 in
set_option maxHeartbeats 2000000 in
theorem rest_ok (ms : List Sol) (s : Nat) (v : Value) (w : World) (hs : s < 65536) (hv : SolsAt w v ms) (hm : ∀ m ∈ ms, Fit m) (h12 : ms.length ≤ 12) : Calls Tryz.prog 97 #[v, setV s] w (RetB (sol (restF ms s)) w) := by
  have HV := Lib.hid hv
  have HM := Lib.hid hm
  obtain ⟨pa, cap, rfl, hmx, _⟩ := hv
  have HH := Lib.hid (fun (p : Nat) (hp : p < 16) (W : World) => has_ok s p hs hp W)
  have R0 : BoxD ((w.alloc (.cells (solC fun _ => 0) 88)).alloc (.cells (solC fun _ => 0) 88)) w.heap.size (fun _ => 0) := (BoxK.zero rfl).alloc _
  have T0 : BoxD ((w.alloc (.cells (solC fun _ => 0) 88)).alloc (.cells (solC fun _ => 0) 88)) (w.heap.size + 1) (fun _ => 0) := BoxK.zero (by simp)
  have hB0 : Below w.heap.size w ((w.alloc (.cells (solC fun _ => 0) 88)).alloc (.cells (solC fun _ => 0) 88)) := by repeat' (first | (with_reducible exact Below.refl _ _) | (with_reducible assumption) | (with_reducible refine Below.alloc ?_ ?_ _) | (with_reducible refine Below.drew ?_) | (with_reducible refine below_drewN ?_ _) | (with_reducible refine Below.setCell ?_ ?_ _) | go_size)
  clear hm
  go_enter Tryz.func97, Tryz.ntmps97
  go_wp2
  go_loopw [11] (fun z wr => ∃ i : Nat, i ≤ ms.length ∧ z = .int .i64 i ∧ BoxD wr w.heap.size (fun _ => 0) ∧ BoxD wr (w.heap.size + 1) (unionK ms s i) ∧ Below w.heap.size w wr) (fun z _ => ms.length - (intOf z).toNat)
  case atStart => exact ⟨0, by omega, rfl, R0, T0, hB0⟩
  case round =>
    clear R0 T0 hB0
    obtain ⟨i, hi, rfl, R, T, hB⟩ := hrel
    have lT := T.lt
    by_cases hlt : i < ms.length
    · have di : decide ((i : Int) < (ms.length : Int)) = true := decide_eq_true (by omega)
      have hii : (i : Int) < (ms.length : Int) := by omega
      obtain ⟨m, hmi⟩ : ∃ m, ms[i]? = some m := ⟨_, List.getElem?_eq_getElem hlt⟩
      obtain ⟨b, o, cap', he, hb, hcs⟩ := HV.out.at hmi
      obtain ⟨rfl, rfl⟩ : pa = some ⟨b, o, none⟩ ∧ cap = cap' := by injection he with e1 e2 e3; exact ⟨e1, e3⟩
      have hmf := HM.out m (List.mem_of_getElem? hmi)
      have htf := unionK_fit HM.out s i
      have HS := Lib.hid (show unionK ms s (i + 1) = if s.testBit i then joinF (unionK ms s i) m else unionK ms s i by rw [unionK, hmi])
      have HHi := Lib.hid (HH.out i (by omega))
      obtain ⟨t, ht⟩ : ∃ t, t = unionK ms s i := ⟨_, rfl⟩
      rw [← ht] at HS T htf
      have H3 := Lib.hid (fun W : World => join_ok t m W htf hmf)
      have x := fun j hj => (hB.cell (p := ⟨b, o + i * 8 + j, none⟩) hb).trans (hcs j hj)
      have x0 := x 0 (by omega); have x1 := x 1 (by omega); have x2 := x 2 (by omega); have x3 := x 3 (by omega); have x4 := x 4 (by omega); have x5 := x 5 (by omega); have x6 := x 6 (by omega); have x7 := x 7 (by omega)
      rw [Nat.add_zero] at x0
      have S1 : BoxS (wr.alloc (.cells (solC m) 25)) wr.heap.size m := BoxK.new _ wr m
      have T1 := T.alloc (.cells (solC m) 25)
      have R1 := R.alloc (.cells (solC m) 25)
      have hB1 := hB.alloc hB.size (.cells (solC m) 25)
      clear x hcs ht he T R hB
      go_wp2_with fail
      refine (HHi.out _).mono ?_
      rintro e w2 ⟨rfl, hb2⟩
      have S2 := S1.below hb2 S1.lt
      have T2 := T1.below hb2 T1.lt
      have R2 := R1.below hb2 R1.lt
      have hB2 := up hb2 hB1
      clear S1 T1 R1 hB1 hb2 x0 x1 x2 x3 x4 x5 x6 x7
      cases hbit : s.testBit i with
      | true =>
        rw [hbit] at HS
        have x0 := (S2).cell (k := 0) (by omega); have x1 := (S2).cell (k := 1) (by omega); have x2 := (S2).cell (k := 2) (by omega); have x3 := (S2).cell (k := 3) (by omega); have x4 := (S2).cell (k := 4) (by omega); have x5 := (S2).cell (k := 5) (by omega); have x6 := (S2).cell (k := 6) (by omega); have x7 := (S2).cell (k := 7) (by omega)
        have y0 := (T2).cell (k := 0) (by omega); have y1 := (T2).cell (k := 1) (by omega); have y2 := (T2).cell (k := 2) (by omega); have y3 := (T2).cell (k := 3) (by omega); have y4 := (T2).cell (k := 4) (by omega); have y5 := (T2).cell (k := 5) (by omega); have y6 := (T2).cell (k := 6) (by omega); have y7 := (T2).cell (k := 7) (by omega)
        go_wp2_with fail
        clear x0 x1 x2 x3 x4 x5 x6 x7 y0 y1 y2 y3 y4 y5 y6 y7
        refine (H3.out _).mono ?_
        rintro e w4 ⟨rfl, hb4⟩
        have T4 := T2.below hb4 T2.lt
        have R4 := R2.below hb4 R2.lt
        have hB4 := up hb4 hB2
        have y0 := (T4).cell (k := 0) (by omega); have y1 := (T4).cell (k := 1) (by omega); have y2 := (T4).cell (k := 2) (by omega); have y3 := (T4).cell (k := 3) (by omega); have y4 := (T4).cell (k := 4) (by omega); have y5 := (T4).cell (k := 5) (by omega); have y6 := (T4).cell (k := 6) (by omega); have y7 := (T4).cell (k := 7) (by omega)
        have q0 := (T4).free 0; have q1 := (T4).free 1; have q2 := (T4).free 2; have q3 := (T4).free 3; have q4 := (T4).free 4; have q5 := (T4).free 5; have q6 := (T4).free 6; have q7 := (T4).free 7
        go_wp2_with fail
        case roundEnd => exact ⟨⟨i + 1, by omega, by go_num, R4.putOther (by omega) _, by rw [HS.out]; exact T4.put _, below_put8 hB4 (by omega) _⟩, by simp [intOf]; omega⟩
      | false =>
        rw [hbit] at HS
        go_wp2_with fail
        case roundEnd => exact ⟨⟨i + 1, by omega, by go_num, R2, by rw [HS.out]; exact T2, hB2⟩, by simp [intOf]; omega⟩
    · obtain rfl : i = ms.length := by omega
      have di : decide ((ms.length : Int) < (ms.length : Int)) = false := decide_eq_false (by omega)
      have HF := Lib.hid (unionK_fit HM.out s ms.length)
      have HR := Lib.hid (show restF ms s = notF (unionK ms s ms.length) from rfl)
      generalize unionK ms s ms.length = t at *
      go_wp2_with fail
      go_loopw [8, 23] (fun z c wr2 => ∃ k : Nat, k ≤ 8 ∧ c = .int .i64 k ∧ BoxD wr2 w.heap.size (fun _ => 0) ∧ BoxD wr2 (w.heap.size + 1) (mix k (notF t) t) ∧ Below w.heap.size w wr2) (fun _ c _ => 8 - (intOf c).toNat)
      case atStart => exact ⟨0, by omega, rfl, R, T, hB⟩
      case round =>
        clear R T hB lT
        obtain ⟨k, hk, rfl, R, T, hB⟩ := hrel
        by_cases hlt : k < 8
        · have cA := T.cell hlt
          have fA := T.free k
          have b1 : t k < 18446744073709551616 := HF.out k
          have e1 : mix k (notF t) t k = t k := by unfold mix; rw [if_neg (by omega)]
          have e2 := not_bits b1
          rw [e1] at cA
          have hA' : BoxD (wr.setCell ⟨w.heap.size + 1, k, none⟩ (.int .u64 ((notF t k : Nat) : Int))) (w.heap.size + 1) (mix (k + 1) (notF t) t) := by rw [← mix_succ]; exact T.set hlt _
          have hR' : BoxD (wr.setCell ⟨w.heap.size + 1, k, none⟩ (.int .u64 ((notF t k : Nat) : Int))) w.heap.size (fun _ => 0) := R.other (by omega) _
          have hw' : Below w.heap.size w (wr.setCell ⟨w.heap.size + 1, k, none⟩ (.int .u64 ((notF t k : Nat) : Int))) := hB.setCell (by simp) _
          clear e1
          go_wp2
          exact ⟨⟨k + 1, by omega, by go_num, hR', hA', hw'⟩, by simp [intOf]; omega⟩
        · obtain rfl : k = 8 := by omega
          have c0 := (T).cell (k := 0) (by omega); have c1 := (T).cell (k := 1) (by omega); have c2 := (T).cell (k := 2) (by omega); have c3 := (T).cell (k := 3) (by omega); have c4 := (T).cell (k := 4) (by omega); have c5 := (T).cell (k := 5) (by omega); have c6 := (T).cell (k := 6) (by omega); have c7 := (T).cell (k := 7) (by omega)
          have r0 := (R).cell (k := 0) (by omega); have r1 := (R).cell (k := 1) (by omega); have r2 := (R).cell (k := 2) (by omega); have r3 := (R).cell (k := 3) (by omega); have r4 := (R).cell (k := 4) (by omega); have r5 := (R).cell (k := 5) (by omega); have r6 := (R).cell (k := 6) (by omega); have r7 := (R).cell (k := 7) (by omega)
          have q0 := (R).free 0; have q1 := (R).free 1; have q2 := (R).free 2; have q3 := (R).free 3; have q4 := (R).free 4; have q5 := (R).free 5; have q6 := (R).free 6; have q7 := (R).free 7
          go_wp2
          rw [HR.out]
          refine bodyPost_ret (res_d ((R.put (mix 8 (notF t) t)).congr fun i hi => ?_) Tryz.results97 rfl) rfl ⟨rfl, ?_⟩
          · unfold mix; rw [if_pos hi]
          · repeat' (first | (with_reducible exact Below.refl _ _) | (with_reducible assumption) | (with_reducible refine Below.alloc ?_ ?_ _) | (with_reducible refine Below.drew ?_) | (with_reducible refine below_drewN ?_ _) | (with_reducible refine Below.setCell ?_ ?_ _) | go_size)
theorem sand_ok (ms : List Sol) (v : Value) (w : World) (hv : SolsAt w v ms) (hm : ∀ m ∈ ms, Fit m) (h12 : ms.length ≤ 12) : Calls Tryz.prog 80 #[v] w (RetB (sol (restF ms (allN ms.length))) w) := by
  have H1 : Hid (∀ W : World, Calls Tryz.prog 113 #[v] W (RetB (setV (allN ms.length)) W)) := Lib.hid fun W => by
    obtain ⟨pa, cap, rfl, _, _⟩ := hv
    exact all_ok pa ms.length cap (by omega) W
  have H2 : Hid (∀ W : World, Below w.heap.size w W → Calls Tryz.prog 97 #[v, setV (allN ms.length)] W (RetB (sol (restF ms (allN ms.length))) W)) := Lib.hid fun W hb =>
    rest_ok ms _ v W (allN_lt (by omega)) (hv.below hb (Nat.le_refl _)) hm h12
  generalize restF ms (allN ms.length) = r at *
  generalize allN ms.length = s at *
  have R0 : BoxD (w.alloc (.cells (solC fun _ => 0) 88)) w.heap.size (fun _ => 0) := BoxK.zero rfl
  have hB0 : Below w.heap.size w (w.alloc (.cells (solC fun _ => 0) 88)) := by repeat' (first | (with_reducible exact Below.refl _ _) | (with_reducible assumption) | (with_reducible refine Below.alloc ?_ ?_ _) | (with_reducible refine Below.drew ?_) | (with_reducible refine below_drewN ?_ _) | (with_reducible refine Below.setCell ?_ ?_ _) | go_size)
  clear hv hm h12
  go_enter Tryz.func80, Tryz.ntmps80
  go_wp2_with fail
  refine (H1.out _).mono ?_
  rintro e w1 ⟨rfl, hb1⟩
  have R1 := R0.below hb1 R0.lt
  have hB1 := up hb1 hB0
  go_wp2_with fail
  refine (H2.out _ hB1).mono ?_
  rintro e w2 ⟨rfl, hb2⟩
  have R2 := R1.below hb2 R1.lt
  have hB2 := up hb2 hB1
  have y0 := (R2).cell (k := 0) (by omega); have y1 := (R2).cell (k := 1) (by omega); have y2 := (R2).cell (k := 2) (by omega); have y3 := (R2).cell (k := 3) (by omega); have y4 := (R2).cell (k := 4) (by omega); have y5 := (R2).cell (k := 5) (by omega); have y6 := (R2).cell (k := 6) (by omega); have y7 := (R2).cell (k := 7) (by omega)
  have q0 := (R2).free 0; have q1 := (R2).free 1; have q2 := (R2).free 2; have q3 := (R2).free 3; have q4 := (R2).free 4; have q5 := (R2).free 5; have q6 := (R2).free 6; have q7 := (R2).free 7
  go_wp2
  refine bodyPost_ret (res_d (R2.put r) Tryz.results80 rfl) rfl ⟨rfl, ?_⟩
  exact below_put8 hB2 (Nat.le_refl _) _
end Go.Proofs.YtoajocgfmbakjaaGreatDoor
/-
  How many cells a body has.
-/
set_option linter.unusedVariables false
set_option linter.unusedSimpArgs false
namespace Go.Proofs.YtoajocgfmbakjaaGreatDoor
open Go Go.RowKit

/-- The bits of the planes below k. -/
def cntK (f : Sol) : Nat → Nat
  | 0 => 0
  | k + 1 => cntK f k + (bitsOf 64 (f k)).length
def cntF (f : Sol) : Nat := cntK f 8
theorem cntK_le (f : Sol) : ∀ k, cntK f k ≤ 64 * k
  | 0 => Nat.le_refl _
  | k + 1 => by
    have h1 := cntK_le f k
    have h2 : (bitsOf 64 (f k)).length ≤ 64 := by
      unfold bitsOf
      have := List.length_filter_le (fun i => (f k).testBit i) (List.range 64)
      simpa using this
    unfold cntK
    omega
set_option maxHeartbeats 1000000 in
theorem count_ok (f : Sol) (w : World) (hf : Fit f) : Calls Tryz.prog 147 #[sol f] w (RetB (.int .i64 (cntF f : Nat)) w) := by
  have HO := Lib.hid (fun (k : Nat) (W : World) => ones_ok (f k) W (hf k))
  have A0 : BoxD (w.alloc (.cells (solC f) 88)) w.heap.size f := BoxK.new _ w f
  have hB0 : Below w.heap.size w (w.alloc (.cells (solC f) 88)) := by repeat' (first | (with_reducible exact Below.refl _ _) | (with_reducible assumption) | (with_reducible refine Below.alloc ?_ ?_ _) | (with_reducible refine Below.drew ?_) | (with_reducible refine below_drewN ?_ _) | (with_reducible refine Below.setCell ?_ ?_ _) | go_size)
  have a0 := (A0).cell (k := 0) (by omega); have a1 := (A0).cell (k := 1) (by omega); have a2 := (A0).cell (k := 2) (by omega); have a3 := (A0).cell (k := 3) (by omega); have a4 := (A0).cell (k := 4) (by omega); have a5 := (A0).cell (k := 5) (by omega); have a6 := (A0).cell (k := 6) (by omega); have a7 := (A0).cell (k := 7) (by omega)
  go_enter Tryz.func147, Tryz.ntmps147
  go_wp2
  go_loopw [3, 7] (fun n c wr => ∃ k : Nat, k ≤ 8 ∧ c = .int .i64 k ∧ n = .int .i64 (cntK f k : Nat) ∧ Below w.heap.size w wr) (fun _ c _ => 8 - (intOf c).toNat)
  case atStart => exact ⟨0, by omega, rfl, rfl, hB0⟩
  case round =>
    obtain ⟨k, hk, rfl, rfl, hw⟩ := hrel
    by_cases hlt : k < 8
    · have hlti : (k : Int) < 8 := by omega
      have HS := Lib.hid (show cntK f (k + 1) = cntK f k + (bitsOf 64 (f k)).length from rfl)
      have hle := cntK_le f (k + 1)
      have hle2 := cntK_le f k
      rw [HS.out] at hle
      have hix : ∀ W : World, (Instr.index 88 (sol f) (.int .i64 (k : Int))).run Tryz.prog W = .ok (.int .u64 (f k)) W := by
        intro W
        rcases lt8 hlt with rfl | rfl | rfl | rfl | rfl | rfl | rfl | rfl <;> kernel_rfl
      generalize cntK f k = q at *

      go_wp2_with fail
      refine (HO.out k _).mono ?_
      rintro e w1 ⟨rfl, hb1⟩
      go_wp2
      exact ⟨⟨k + 1, by omega, by go_num, by rw [HS.out, Int.natCast_add], up hb1 hw⟩, by simp [intOf]; omega⟩
    · obtain rfl : k = 8 := by omega
      go_wp2
      go_ret
      exact ⟨rfl, hw⟩
end Go.Proofs.YtoajocgfmbakjaaGreatDoor
/-
  The pieces that have a cell of a body; moves as the chapter says; a body's step.
-/
set_option linter.unusedVariables false
set_option linter.unusedSimpArgs false
namespace Go.Proofs.YtoajocgfmbakjaaGreatDoor
open Go Go.RowKit

/-- The pieces below i, but one, that have a cell of a body. -/
def touchK (ms : List Sol) (f : Sol) (but : Int) : Nat → Nat
  | 0 => 0
  | i + 1 => match ms[i]? with
    | some m => if (i : Int) ≠ but ∧ touchB f m = true then touchK ms f but i ||| 2 ^ i else touchK ms f but i
    | none => touchK ms f but i
theorem touchK_lt (ms : List Sol) (f : Sol) (but : Int) : ∀ i, i ≤ 16 → touchK ms f but i < 65536
  | 0, _ => Nat.zero_lt_succ _
  | i + 1, h => by
    have ih := touchK_lt ms f but i (by omega)
    unfold touchK
    split
    · split
      · exact or16 ih (pow16_lt (by omega))
      · exact ih
    · exact ih
set_option maxRecDepth 100000 in
set_option maxHeartbeats 2000000 in
theorem touched_ok (ms : List Sol) (f : Sol) (but : Int) (v : Value) (w : World) (hf : Fit f) (hv : SolsAt w v ms) (hm : ∀ m ∈ ms, Fit m) (h12 : ms.length ≤ 12) :
    Calls Tryz.prog 173 #[v, sol f, .int .i64 but] w (RetB (setV (touchK ms f but ms.length)) w) := by
  have HV := Lib.hid hv
  have HM := Lib.hid hm
  obtain ⟨pa, cap, rfl, hmx, _⟩ := hv
  have F0 : BoxD (w.alloc (.cells (solC f) 88)) w.heap.size f := BoxK.new _ w f
  have hB0 : Below w.heap.size w (w.alloc (.cells (solC f) 88)) := by repeat' (first | (with_reducible exact Below.refl _ _) | (with_reducible assumption) | (with_reducible refine Below.alloc ?_ ?_ _) | (with_reducible refine Below.drew ?_) | (with_reducible refine below_drewN ?_ _) | (with_reducible refine Below.setCell ?_ ?_ _) | go_size)
  clear hm
  go_enter Tryz.func173, Tryz.ntmps173
  go_wp2
  go_loopw [7, 12] (fun s z wr => ∃ i : Nat, i ≤ ms.length ∧ z = .int .i64 i ∧ s = setV (touchK ms f but i) ∧ BoxD wr w.heap.size f ∧ Below w.heap.size w wr) (fun _ z _ => ms.length - (intOf z).toNat)
  case atStart => exact ⟨0, by omega, rfl, rfl, F0, hB0⟩
  case round =>
    clear F0 hB0
    obtain ⟨i, hi, rfl, rfl, F, hB⟩ := hrel
    have lF := F.lt
    by_cases hlt : i < ms.length
    · have di : decide ((i : Int) < (ms.length : Int)) = true := decide_eq_true (by omega)
      have hii : (i : Int) < (ms.length : Int) := by omega
      obtain ⟨m, hmi⟩ : ∃ m, ms[i]? = some m := ⟨_, List.getElem?_eq_getElem hlt⟩
      obtain ⟨b, o, cap', he, hb, hcs⟩ := HV.out.at hmi
      obtain ⟨rfl, rfl⟩ : pa = some ⟨b, o, none⟩ ∧ cap = cap' := by injection he with e1 e2 e3; exact ⟨e1, e3⟩
      have hmf := HM.out m (List.mem_of_getElem? hmi)
      have HS := Lib.hid (show touchK ms f but (i + 1) = if (i : Int) ≠ but ∧ touchB f m = true then touchK ms f but i ||| 2 ^ i else touchK ms f but i by rw [touchK, hmi])
      have H2 := Lib.hid (fun W : World => touches_ok f m W hf hmf)
      have hql := touchK_lt ms f but i (by omega)
      have H3 := Lib.hid (fun W : World => with_ok (touchK ms f but i) i hql (by omega) W)
      obtain ⟨q, hq⟩ : ∃ q, q = touchK ms f but i := ⟨_, rfl⟩
      rw [← hq] at HS H3 hql ⊢
      have x := fun j hj => (hB.cell (p := ⟨b, o + i * 8 + j, none⟩) hb).trans (hcs j hj)
      have x0 := x 0 (by omega); have x1 := x 1 (by omega); have x2 := x 2 (by omega); have x3 := x 3 (by omega); have x4 := x 4 (by omega); have x5 := x 5 (by omega); have x6 := x 6 (by omega); have x7 := x 7 (by omega)
      rw [Nat.add_zero] at x0
      have S1 : BoxS (wr.alloc (.cells (solC m) 25)) wr.heap.size m := BoxK.new _ wr m
      have F1 := F.alloc (.cells (solC m) 25)
      have hB1 := hB.alloc hB.size (.cells (solC m) 25)
      clear x hcs he F hB hq
      by_cases hbut : (i : Int) = but
      · have hne : ((i : Int) != but) = false := by simpa using hbut
        have hne2 : ((i : Int) == but) = true := by simpa using hbut
        have HN := Lib.hid (show touchK ms f but (i + 1) = q by rw [HS.out, if_neg (fun h => h.1 hbut)])
        have HBU := Lib.hid hbut
        clear hbut
        go_wp2_with fail
        case roundEnd => exact ⟨⟨i + 1, by omega, by go_num, by rw [HN.out], F1, hB1⟩, by simp [intOf]; omega⟩
      · have hne : ((i : Int) != but) = true := by simpa using hbut
        have hne2 : ((i : Int) == but) = false := by simpa using hbut
        have HBU := Lib.hid hbut
        clear hbut
        have y0 := (F1).cell (k := 0) (by omega); have y1 := (F1).cell (k := 1) (by omega); have y2 := (F1).cell (k := 2) (by omega); have y3 := (F1).cell (k := 3) (by omega); have y4 := (F1).cell (k := 4) (by omega); have y5 := (F1).cell (k := 5) (by omega); have y6 := (F1).cell (k := 6) (by omega); have y7 := (F1).cell (k := 7) (by omega)
        have z0 := (S1).cell (k := 0) (by omega); have z1 := (S1).cell (k := 1) (by omega); have z2 := (S1).cell (k := 2) (by omega); have z3 := (S1).cell (k := 3) (by omega); have z4 := (S1).cell (k := 4) (by omega); have z5 := (S1).cell (k := 5) (by omega); have z6 := (S1).cell (k := 6) (by omega); have z7 := (S1).cell (k := 7) (by omega)
        go_wp2_with fail
        clear x0 x1 x2 x3 x4 x5 x6 x7 y0 y1 y2 y3 y4 y5 y6 y7 z0 z1 z2 z3 z4 z5 z6 z7
        refine (H2.out _).mono ?_
        rintro e w2 ⟨rfl, hb2⟩
        have F2 := F1.below hb2 F1.lt
        have hB2 := up hb2 hB1
        clear F1 S1 hB1 hb2
        cases hto : touchB f m with
        | true =>
          have HN := Lib.hid (show touchK ms f but (i + 1) = q ||| 2 ^ i by rw [HS.out, if_pos ⟨HBU.out, hto⟩])
          go_wp2_with fail
          refine (H3.out _).mono ?_
          rintro e w3 ⟨rfl, hb3⟩
          go_wp2_with fail
          case roundEnd => exact ⟨⟨i + 1, by omega, by go_num, by rw [HN.out], F2.below hb3 F2.lt, up hb3 hB2⟩, by simp [intOf]; omega⟩
        | false =>
          have HN := Lib.hid (show touchK ms f but (i + 1) = q by rw [HS.out, if_neg (fun h => by rw [hto] at h; cases h.2)])
          go_wp2_with fail
          case roundEnd => exact ⟨⟨i + 1, by omega, by go_num, by rw [HN.out], F2, hB2⟩, by simp [intOf]; omega⟩
    · obtain rfl : i = ms.length := by omega
      have di : decide ((ms.length : Int) < (ms.length : Int)) = false := decide_eq_false (by omega)
      go_wp2
      go_ret
      exact ⟨rfl, hB⟩
def wayB (side far : Int) : Bool := decide (side = 0 ∧ far = 0 ∨ 1 ≤ side ∧ side ≤ 4 ∧ 1 ≤ far ∧ far ≤ 7)
set_option maxHeartbeats 1000000 in
theorem isWay_ok (p side far : Int) (w : World) : Calls Tryz.prog 137 #[.agg #[.int .i64 (p), .int .i64 (side), .int .i64 (far)]] w (RetB (.bool (wayB side far)) w) := by
  go_enter Tryz.func137, Tryz.ntmps137
  go_wp2
  all_goals
    go_ret
    exact ⟨retB (by simp only [wayB]; grind), by go_grown⟩
end Go.Proofs.YtoajocgfmbakjaaGreatDoor
