/-
  The reference's CheckMould.
-/
import Derived.Test.YtoajocgfmbakjaaGreatDoorPdB
import Derived.Test.YtoajocgfmbakjaaGreatDoorPdL
import Derived.Test.YtoajocgfmbakjaaGreatDoorPdN
import Derived.Test.YtoajocgfmbakjaaGreatDoorPdR
import Derived.Deep.RegionLaw
import Derived.Test.YtoajocgfmbakjaaGreatDoorPdK
set_option linter.unusedVariables false
set_option linter.unusedSimpArgs false
namespace Go.Proofs.YtoajocgfmbakjaaGreatDoor
open Go Go.RowKit Go.Shelf

theorem touch_join {t f m : Sol} (h1 : touchB t m = false) (h2 : touchB f m = false) : touchB (joinF t f) m = false := by
  cases ht : touchB (joinF t f) m with
  | false => rfl
  | true =>
    obtain ⟨z, i, k1, k2, k3⟩ := touch_iff.1 ht
    unfold joinF at k2
    rw [Nat.testBit_or, Bool.or_eq_true] at k2
    rcases k2 with k2 | k2
    · rw [touch_iff.2 ⟨z, i, k1, k2, k3⟩] at h1; cases h1
    · rw [touch_iff.2 ⟨z, i, k1, k2, k3⟩] at h2; cases h2
theorem good_of : ∀ (l : List Sol) (t : Sol), (∀ m ∈ l, emptyS m = false ∧ touchB t m = false) → (∀ (a k : Nat) (m f : Sol), k < a → l[a]? = some m → l[k]? = some f → touchB f m = false) → goodF t l = true
  | [], t, _, _ => rfl
  | m :: r, t, h1, h2 => by
    unfold goodF
    rw [Bool.and_eq_true]
    obtain ⟨k1, k2⟩ := h1 m (by simp)
    refine ⟨by rw [k1, k2]; rfl, good_of r _ (fun x hx => ?_) fun a k x f hk ha hf => h2 (a + 1) (k + 1) x f (by omega) (by simpa using ha) (by simpa using hf)⟩
    obtain ⟨j1, j2⟩ := h1 x (by simp [hx])
    obtain ⟨a, ha⟩ := List.mem_iff_getElem?.1 hx
    exact ⟨j1, touch_join j2 (h2 (a + 1) 0 x m (by omega) (by simpa using ha) rfl)⟩
/-- The pieces before a place are no fault. -/
def goodTo (ms : List Sol) (i : Nat) : Prop := ∀ (a : Nat) (m : Sol), a < i → ms[a]? = some m → emptyS m = false ∧ ∀ (k : Nat) (f : Sol), k < a → ms[k]? = some f → touchB f m = false
theorem zero_touch (m : Sol) : touchB (fun _ => 0) m = false := by
  cases ht : touchB (fun _ => 0) m with
  | false => rfl
  | true =>
    obtain ⟨z, i, k1, k2, k3⟩ := touch_iff.1 ht
    simp at k2
theorem good_all {ms : List Sol} (h : goodTo ms ms.length) : goodF (fun _ => 0) ms = true := by
  refine good_of ms _ (fun m hm => ?_) fun a k m f hk ha hf => (h a m (List.getElem?_eq_some_iff.1 ha).1 ha).2 k f hk hf
  obtain ⟨a, ha⟩ := List.mem_iff_getElem?.1 hm
  exact ⟨(h a m (List.getElem?_eq_some_iff.1 ha).1 ha).1, zero_touch m⟩
theorem bad_empty {ms : List Sol} {m : Sol} (hm : m ∈ ms) (h : emptyS m = true) : goodF (fun _ => 0) ms = false := by
  cases hg : goodF (fun _ => 0) ms with
  | false => rfl
  | true => rw [((good_apart hg).2 m hm).1] at h; cases h
theorem bad_touch {ms : List Sol} {a k : Nat} {m f : Sol} (hk : k ≠ a) (ha : ms[a]? = some m) (hf : ms[k]? = some f) (h : touchB f m = true) : goodF (fun _ => 0) ms = false := by
  cases hg : goodF (fun _ => 0) ms with
  | false => rfl
  | true => rw [(good_apart hg).1 k a f m hk hf ha] at h; cases h
/-- Two solids have no cell in common in the planes below one. -/
def apartTo (f m : Sol) (z : Nat) : Prop := ∀ y, y < z → m y &&& f y = 0
theorem apart_no {f m : Sol} (h : apartTo f m 8) : touchB f m = false := by
  cases ht : touchB f m with
  | false => rfl
  | true =>
    obtain ⟨z, i, k1, k2, k3⟩ := touch_iff.1 ht
    have : (m z &&& f z).testBit i = true := by rw [Nat.testBit_and, k2, k3]; rfl
    rw [h z k1] at this
    simp at this
theorem apart_yes {f m : Sol} {z : Nat} (hz : z < 8) (h : m z &&& f z ≠ 0) : touchB f m = true := by
  obtain ⟨i, hi⟩ := Nat.exists_testBit_of_ne_zero h
  rw [Nat.testBit_and, Bool.and_eq_true] at hi
  exact touch_iff.2 ⟨z, i, hz, hi.2, hi.1⟩
set_option maxRecDepth 100000 in
set_option maxHeartbeats 4000000 in
theorem refCheck_ok (ms : List Sol) (v : Value) (w : World) (hv : SolsAt w v ms) (hm : ∀ m ∈ ms, Fit m) : Calls Tryz.prog 29 #[v] w (RetB (.int .i64 (chkM ms)) w) := by
  have HV := Lib.hid hv
  have HM := Lib.hid hm
  obtain ⟨pa, cap, rfl, hmx, _⟩ := hv
  simp only [maxLen] at hmx
  by_cases h12 : 12 < ms.length
  · have hc : chkM ms = 2 := by unfold chkM; rw [if_pos h12]
    have d : decide ((12 : Int) < (ms.length : Int)) = true := decide_eq_true (by omega)
    rw [hc]
    go_enter Tryz.func29, Tryz.ntmps29
    go_wp2
    go_ret
    exact ⟨rfl, Below.refl _ _⟩
  · have d : decide ((12 : Int) < (ms.length : Int)) = false := decide_eq_false (by omega)
    obtain ⟨c, hc⟩ : ∃ c, c = chkM ms := ⟨_, rfl⟩
    have hc2 : c = if goodF (fun _ => 0) ms then 0 else 1 := by rw [hc]; unfold chkM; rw [if_neg h12]
    have HCC := Lib.hid hc2
    rw [← hc]
    clear hc hc2 hm
    go_enter Tryz.func29, Tryz.ntmps29
    go_wp2
    go_loopw [3] (fun z wr => ∃ i : Nat, i ≤ ms.length ∧ z = .int .i64 i ∧ Hid (goodTo ms i) ∧ Below w.heap.size w wr) (fun z _ => ms.length - (intOf z).toNat)
    case atStart => exact ⟨0, by omega, rfl, Lib.hid (fun a m h => by omega), Below.refl _ _⟩
    case round =>
      obtain ⟨i, hi, rfl, HG, hB⟩ := hrel
      by_cases hlt : i < ms.length
      · have di : decide ((i : Int) < (ms.length : Int)) = true := decide_eq_true (by omega)
        have hii : (i : Int) < (ms.length : Int) := by omega
        have hw1 : IntKind.i64.wrap ((i : Int) + 1) = (i : Int) + 1 := by rw [IntWalk.i64_in] <;> omega
        obtain ⟨m, hmi⟩ : ∃ m, ms[i]? = some m := ⟨_, List.getElem?_eq_getElem hlt⟩
        obtain ⟨b, o, cap', he, hb, hcs⟩ := (HV.out.below hB (Nat.le_refl _)).at hmi
        obtain ⟨rfl, rfl⟩ : pa = some ⟨b, o, none⟩ ∧ cap = cap' := by injection he with e1 e2 e3; exact ⟨e1, e3⟩
        have x := hcs
        have x0 := x 0 (by omega); have x1 := x 1 (by omega); have x2 := x 2 (by omega); have x3 := x 3 (by omega); have x4 := x 4 (by omega); have x5 := x 5 (by omega); have x6 := x 6 (by omega); have x7 := x 7 (by omega)
        rw [Nat.add_zero] at x0
        have HCS := Lib.hid hcs
        clear x hcs he
        cases hem : emptyS m with
        | true =>
          have HR := Lib.hid (show c = 1 by rw [HCC.out, bad_empty (List.mem_of_getElem? hmi) hem]; rfl)
          go_wp2_with fail
          go_ret
          exact ⟨by rw [HR.out]; rfl, hB⟩
        | false =>
          have HEM := Lib.hid hem
          have HMI := Lib.hid hmi
          have HBI := Lib.hid hb
          clear hmi
          go_wp2_with fail
          clear x0 x1 x2 x3 x4 x5 x6 x7
          go_loopw [4] (fun z wk => ∃ k : Nat, k ≤ i ∧ z = .int .i64 k ∧ Hid (∀ (a : Nat) (f : Sol), a < k → ms[a]? = some f → touchB f m = false) ∧ Below w.heap.size w wk) (fun z _ => i - (intOf z).toNat)
          case atStart => exact ⟨0, by omega, rfl, Lib.hid (fun a f h => by omega), hB⟩
          case round =>
            clear hB
            obtain ⟨k, hk, rfl, HK, hB2⟩ := hrel
            by_cases hlt2 : k < i
            · have di2 : decide ((k : Int) < (i : Int)) = true := decide_eq_true (by omega)
              have hkk : (k : Int) < (ms.length : Int) := by omega
              have hw2 : IntKind.i64.wrap ((k : Int) + 1) = (k : Int) + 1 := by rw [IntWalk.i64_in] <;> omega
              obtain ⟨f, hfk⟩ : ∃ f, ms[k]? = some f := ⟨_, List.getElem?_eq_getElem (by omega)⟩
              have HFK := Lib.hid hfk
              go_wp2_with fail
              go_loopw [5] (fun z wz => ∃ y : Nat, y ≤ 8 ∧ z = .int .i64 y ∧ Hid (apartTo f m y) ∧ Below w.heap.size w wz) (fun z _ => 8 - (intOf z).toNat)
              case atStart => exact ⟨0, by omega, rfl, Lib.hid (fun y h => by omega), hB2⟩
              case round =>
                clear hB2 hfk
                obtain ⟨y, hy, rfl, HY, hB3⟩ := hrel
                by_cases hlt3 : y < 8
                · have di3 : decide ((y : Int) < 8) = true := decide_eq_true (by omega)
                  have hyy : (y : Int) < 8 := by omega
                  have hw3 : IntKind.i64.wrap ((y : Int) + 1) = (y : Int) + 1 := by rw [IntWalk.i64_in] <;> omega
                  have hB4 := hB3
                  have hv4 := HV.out.below hB4 (Nat.le_refl _)
                  obtain ⟨b5, o5, cap5, he5, hb5, hc5⟩ := hv4.at HMI.out
                  obtain ⟨b6, o6, cap6, he6, hb6, hc6⟩ := hv4.at HFK.out
                  obtain ⟨rfl, rfl, rfl⟩ : b = b5 ∧ o = o5 ∧ cap = cap5 := by injection he5 with e1 e2 e3; injection e1 with e1; injection e1 with e4 e5; exact ⟨e4, e5, e3⟩
                  obtain ⟨rfl, rfl, rfl⟩ : b = b6 ∧ o = o6 ∧ cap = cap6 := by injection he6 with e1 e2 e3; injection e1 with e1; injection e1 with e4 e5; exact ⟨e4, e5, e3⟩
                  have x5 := hc5 y hlt3
                  have x6 := hc6 y hlt3
                  have hA := bits_and (HM.out m (List.mem_of_getElem? HMI.out) y) (HM.out f (List.mem_of_getElem? HFK.out) y)
                  clear hc5 hc6 he5 he6 hv4
                  by_cases h0 : m y &&& f y = 0
                  · have hq : (((m y &&& f y : Nat) : Int) != 0) = false := by rw [h0]; rfl
                    have HY2 : Hid (apartTo f m (y + 1)) := Lib.hid fun x hx => by
                      by_cases e : x = y
                      · rw [e]; exact h0
                      · exact HY.out x (by omega)
                    go_wp2_with fail
                    (refine wp_region_quiet (C := fun w' => Below wr.heap.size wr w') (by kernel_rfl) (by kernel_rfl) (Below.drew (Below.refl _ _)) ?_; (iterate 14 (refine wpQuiet_step (fun K hK => ?_); go_simp; first | (refine hK _ ?_; clear hK K) | (apply Exists.intro; refine ⟨fun W' hW' => ?_, hK _ ?_⟩; (focus (first | (with_reducible exact rfl) | (with_reducible exact ⟨rfl, rfl⟩) | (obtain ⟨hcq, hfq⟩ := bcell hW'; have hzq := hW'.size; (try go_simp); first | (with_reducible exact rfl) | (with_reducible exact ⟨rfl, rfl⟩) | (fail)))); clear hK K))); refine wpQuiet_nil ?_; intro w1q hb1q)
                    have hB5 := up hb1q hB3
                    go_wp2_with fail
                    case roundEnd => exact ⟨⟨y + 1, by omega, by go_num, HY2, hB5⟩, by simp [intOf]; omega⟩
                  · have hq : (((m y &&& f y : Nat) : Int) != 0) = true := by simpa using h0
                    have HR := Lib.hid (show c = 1 by rw [HCC.out, bad_touch (show k ≠ i by omega) HMI.out HFK.out (apart_yes hlt3 h0)]; rfl)
                    go_wp2_with fail
                    (refine wp_region_quiet (C := fun w' => Below wr.heap.size wr w') (by kernel_rfl) (by kernel_rfl) (Below.drew (Below.refl _ _)) ?_; (iterate 14 (refine wpQuiet_step (fun K hK => ?_); go_simp; first | (refine hK _ ?_; clear hK K) | (apply Exists.intro; refine ⟨fun W' hW' => ?_, hK _ ?_⟩; (focus (first | (with_reducible exact rfl) | (with_reducible exact ⟨rfl, rfl⟩) | (obtain ⟨hcq, hfq⟩ := bcell hW'; have hzq := hW'.size; (try go_simp); first | (with_reducible exact rfl) | (with_reducible exact ⟨rfl, rfl⟩) | (fail)))); clear hK K))); refine wpQuiet_nil ?_; intro w1q hb1q)
                    have hB5 := up hb1q hB3
                    go_wp2_with fail
                    go_ret
                    exact ⟨by rw [HR.out]; rfl, hB5⟩
                · obtain rfl : y = 8 := by omega
                  have di3 : decide (((8 : Nat) : Int) < 8) = false := decide_eq_false (by omega)
                  have HK2 : Hid (∀ (a : Nat) (g : Sol), a < k + 1 → ms[a]? = some g → touchB g m = false) := Lib.hid fun a g ha hg => by
                    by_cases e : a = k
                    · subst e
                      rw [HFK.out] at hg
                      cases hg
                      exact apart_no HY.out
                    · exact HK.out a g (by omega) hg
                  go_wp2_with fail
                  case roundEnd => exact ⟨⟨k + 1, by omega, by go_num, HK2, hB3⟩, by simp [intOf]; omega⟩
            · obtain rfl : k = i := by omega
              have di2 : decide ((k : Int) < (k : Int)) = false := decide_eq_false (by omega)
              have HG2 : Hid (goodTo ms (k + 1)) := Lib.hid fun a g ha hg => by
                by_cases e : a = k
                · subst e
                  rw [HMI.out] at hg
                  cases hg
                  exact ⟨HEM.out, HK.out⟩
                · exact HG.out a g (by omega) hg
              go_wp2_with fail
              case roundEnd => exact ⟨⟨k + 1, by omega, by go_num, HG2, hB2⟩, by simp [intOf]; omega⟩
      · obtain rfl : i = ms.length := by omega
        have di : decide ((ms.length : Int) < (ms.length : Int)) = false := decide_eq_false (by omega)
        have HR := Lib.hid (show c = 0 by rw [HCC.out, good_all HG.out]; rfl)
        go_wp2
        go_ret
        exact ⟨by rw [HR.out]; rfl, hB⟩
end Go.Proofs.YtoajocgfmbakjaaGreatDoor
/-
  Sand, and the reference's.
-/
set_option linter.unusedVariables false
set_option linter.unusedSimpArgs false
namespace Go.Proofs.YtoajocgfmbakjaaGreatDoor
open Go Go.RowKit Go.Shelf

def sandD (ms : List Sol) : Sol := if chkM ms = 0 then sandF ms else fun _ => 0
set_option maxRecDepth 100000 in
set_option maxHeartbeats 2000000 in
theorem sandD_ok (ms : List Sol) (v : Value) (w : World) (hv : SolsAt w v ms) (hm : ∀ m ∈ ms, Fit m) : Calls Tryz.prog 20 #[v] w (RetB (.tuple #[sol (sandD ms), .int .i64 (chkM ms)]) w) := by
  have HV := Lib.hid hv
  obtain ⟨B, hBB⟩ : ∃ B, B = w.heap.size := ⟨_, rfl⟩
  obtain ⟨W0, hW0⟩ : ∃ W0, W0 = w.alloc (.cells #[.int .u64 0, .int .u64 0, .int .u64 0, .int .u64 0, .int .u64 0, .int .u64 0, .int .u64 0, .int .u64 0] 25) := ⟨_, rfl⟩
  have hB0 : Below w.heap.size w W0 := by rw [hW0]; exact (Below.refl _ w).alloc (Nat.le_refl _) _
  have r0 : BoxS W0 B (fun _ => 0) := by rw [hW0, hBB]; exact BoxK.zero rfl
  have HC := Lib.hid (fun (W : World) (h : Below w.heap.size w W) => checkMould_ok ms v W (HV.out.below h (Nat.le_refl _)) hm)
  have HS := Lib.hid (fun (h12 : ms.length ≤ 12) (W : World) (h : Below w.heap.size w W) => sand_ok ms v W (HV.out.below h (Nat.le_refl _)) hm h12)
  have HBE := Lib.hid hBB
  have HB0 := Lib.hid hB0
  obtain ⟨pa, cap, rfl, _, _⟩ := hv
  by_cases hc : chkM ms = 0
  · have HD := Lib.hid (show sandD ms = sandF ms from if_pos hc)
    have HS2 := Lib.hid (HS.out (chkM_len hc))
    rw [hc] at HC ⊢
    clear hBB hB0 hc hm HS
    go_enter Tryz.func20, Tryz.ntmps20
    go_wp2_with fail
    rw [← hW0]
    refine (HC.out _ HB0.out).mono ?_
    rintro e w1 ⟨rfl, hb1⟩
    have HB1 := Lib.hid (up hb1 HB0.out)
    have r1 := r0.below hb1 r0.lt
    clear hW0 hb1 r0
    go_wp2_with fail
    refine (HS2.out _ HB1.out).mono ?_
    rintro e w2 ⟨rfl, hb2⟩
    have HB2 := Lib.hid (up hb2 HB1.out)
    have r2 := r1.below hb2 r1.lt
    have r2' := r2
    rw [HBE.out] at r2'
    clear hb2 r1
    have d0 := (r2').cell (k := 0) (by omega); have d1 := (r2').cell (k := 1) (by omega); have d2 := (r2').cell (k := 2) (by omega); have d3 := (r2').cell (k := 3) (by omega); have d4 := (r2').cell (k := 4) (by omega); have d5 := (r2').cell (k := 5) (by omega); have d6 := (r2').cell (k := 6) (by omega); have d7 := (r2').cell (k := 7) (by omega)
    have q0 := (r2').free 0; have q1 := (r2').free 1; have q2 := (r2').free 2; have q3 := (r2').free 3; have q4 := (r2').free 4; have q5 := (r2').free 5; have q6 := (r2').free 6; have q7 := (r2').free 7
    go_wp2_with fail
    have r3 := r2'.put (restF ms (allN ms.length))
    have HB3 := Lib.hid (below_put8 (b := w.heap.size) HB2.out (Nat.le_refl _) (restF ms (allN ms.length)))
    rw [HD.out]
    exact bodyPost_ret (res_se r3 Tryz.results20 rfl) rfl ⟨rfl, HB3.out⟩
  · have HD := Lib.hid (show sandD ms = fun _ => 0 from if_neg hc)
    obtain ⟨c, hcc⟩ : ∃ c, c = chkM ms := ⟨_, rfl⟩
    rw [← hcc] at HC hc ⊢
    have hne : (c != 0) = true := by simpa using hc
    clear hBB hB0 hc hm HS hcc
    go_enter Tryz.func20, Tryz.ntmps20
    go_wp2_with fail
    rw [← hW0]
    refine (HC.out _ HB0.out).mono ?_
    rintro e w1 ⟨rfl, hb1⟩
    have HB1 := Lib.hid (up hb1 HB0.out)
    have r1 := r0.below hb1 r0.lt
    rw [HBE.out] at r1
    clear hW0 hb1 r0
    have d0 := (r1).cell (k := 0) (by omega); have d1 := (r1).cell (k := 1) (by omega); have d2 := (r1).cell (k := 2) (by omega); have d3 := (r1).cell (k := 3) (by omega); have d4 := (r1).cell (k := 4) (by omega); have d5 := (r1).cell (k := 5) (by omega); have d6 := (r1).cell (k := 6) (by omega); have d7 := (r1).cell (k := 7) (by omega)
    have q0 := (r1).free 0; have q1 := (r1).free 1; have q2 := (r1).free 2; have q3 := (r1).free 3; have q4 := (r1).free 4; have q5 := (r1).free 5; have q6 := (r1).free 6; have q7 := (r1).free 7
    go_wp2_with fail
    have r3 := r1.put (fun _ => 0)
    have HB3 := Lib.hid (below_put8 (b := w.heap.size) HB1.out (Nat.le_refl _) (fun _ => 0))
    rw [HD.out]
    exact bodyPost_ret (res_se r3 Tryz.results20 rfl) rfl ⟨rfl, HB3.out⟩
/-- What no piece of some has, plane by plane. -/
def leftK (l : List Sol) (z : Nat) : Nat := l.foldl (fun x m => andN x (m z)) 18446744073709551615
theorem andN_lt64 {x y : Nat} (h : x < 18446744073709551616) : andN x y < 18446744073709551616 := by
  have hle : andN x y ≤ x := by
    have e : andN x y = x &&& andN x y := by
      apply Nat.eq_of_testBit_eq
      intro i
      rw [Nat.testBit_and, andN_bit]
      cases x.testBit i <;> simp
    rw [e]
    exact Nat.and_le_left
  omega
theorem leftK_snoc (l : List Sol) (m : Sol) (z : Nat) : leftK (l ++ [m]) z = andN (leftK l z) (m z) := by unfold leftK; rw [List.foldl_append]; rfl
theorem leftK_spec (z : Nat) : ∀ (l : List Sol) (x : Nat), x < 18446744073709551616 → l.foldl (fun x m => andN x (m z)) x < 18446744073709551616 ∧ ∀ i, (l.foldl (fun x m => andN x (m z)) x).testBit i = true ↔ x.testBit i = true ∧ ∀ m ∈ l, (m z).testBit i = false
  | [], x, h => ⟨h, fun i => by simp⟩
  | m :: l, x, h => by
    obtain ⟨h1, h2⟩ := leftK_spec z l (andN x (m z)) (andN_lt64 h)
    refine ⟨h1, fun i => ?_⟩
    rw [List.foldl_cons, h2, andN_bit, Bool.and_eq_true, Bool.not_eq_true']
    constructor
    · rintro ⟨⟨k1, k2⟩, k3⟩
      refine ⟨k1, fun y hy => ?_⟩
      rcases List.mem_cons.1 hy with rfl | hy
      · exact k2
      · exact k3 y hy
    · rintro ⟨k1, k2⟩
      exact ⟨⟨k1, k2 m (by simp)⟩, fun y hy => k2 y (by simp [hy])⟩
theorem leftK_lt (l : List Sol) (z : Nat) : leftK l z < 18446744073709551616 := (leftK_spec z l _ (by decide)).1
theorem ones_bit (i : Nat) : (18446744073709551615 : Nat).testBit i = decide (i < 64) := Nat.testBit_two_pow_sub_one 64 i
theorem leftK_sand {ms : List Sol} (hm : ∀ m ∈ ms, Fit m) (z : Nat) : leftK ms z = sandF ms z := by
  apply Nat.eq_of_testBit_eq
  intro i
  rw [Bool.eq_iff_iff, sandF_bit hm]
  unfold leftK
  rw [(leftK_spec z ms _ (by decide)).2, ones_bit, decide_eq_true_eq]
def mixS (ms : List Sol) (z : Nat) : Sol := fun k => if k < z then leftK ms k else 0
theorem up8_up8 (f : Sol) (z a b : Nat) : up8 (up8 f z a) z b = up8 f z b := by
  funext k
  unfold up8
  split <;> rfl
theorem mixS_succ (ms : List Sol) (z : Nat) : up8 (mixS ms z) z (leftK ms z) = mixS ms (z + 1) := by
  funext k
  unfold up8 mixS
  by_cases h : k = z
  · subst h; rw [if_pos rfl, if_pos (by omega)]
  · rw [if_neg h]
    by_cases h2 : k < z
    · rw [if_pos h2, if_pos (by omega)]
    · rw [if_neg h2, if_neg (by omega)]
set_option maxRecDepth 100000 in
set_option maxHeartbeats 4000000 in
theorem refSand_ok (ms : List Sol) (v : Value) (w : World) (hv : SolsAt w v ms) (hm : ∀ m ∈ ms, Fit m) : Calls Tryz.prog 21 #[v] w (RetB (.tuple #[sol (sandD ms), .int .i64 (chkM ms)]) w) := by
  have HV := Lib.hid hv
  have HM := Lib.hid hm
  obtain ⟨B, hBB⟩ : ∃ B, B = w.heap.size := ⟨_, rfl⟩
  obtain ⟨W0, hW0⟩ : ∃ W0, W0 = w.alloc (.cells #[.int .u64 0, .int .u64 0, .int .u64 0, .int .u64 0, .int .u64 0, .int .u64 0, .int .u64 0, .int .u64 0] 25) := ⟨_, rfl⟩
  have hB0 : Below w.heap.size w W0 := by rw [hW0]; exact (Below.refl _ w).alloc (Nat.le_refl _) _
  have r0 : BoxS W0 B (fun _ => 0) := by rw [hW0, hBB]; exact BoxK.zero rfl
  have HC := Lib.hid (fun (W : World) (h : Below w.heap.size w W) => refCheck_ok ms v W (HV.out.below h (Nat.le_refl _)) hm)
  have HBE := Lib.hid hBB
  have HB0 := Lib.hid hB0
  obtain ⟨pa, cap, rfl, hmx, _⟩ := hv
  simp only [maxLen] at hmx
  by_cases hc : chkM ms = 0
  · have HD := Lib.hid (show sandD ms = sandF ms from if_pos hc)
    rw [hc] at HC ⊢
    clear hBB hB0 hc hm
    go_enter Tryz.func21, Tryz.ntmps21
    go_wp2_with fail
    rw [← hW0]
    refine (HC.out _ HB0.out).mono ?_
    rintro e w1 ⟨rfl, hb1⟩
    have HB1 := Lib.hid (up hb1 HB0.out)
    have r1 := r0.below hb1 r0.lt
    rw [HBE.out] at r1
    have l1 := r1.lt
    clear hW0 hb1 r0
    obtain ⟨G, hG⟩ : ∃ G, G = w1.heap.size := ⟨_, rfl⟩
    have g2 : BoxS (w1.alloc (.cells #[.int .u64 0, .int .u64 0, .int .u64 0, .int .u64 0, .int .u64 0, .int .u64 0, .int .u64 0, .int .u64 0] 25)) G (fun _ => 0) := by rw [hG]; exact BoxK.zero rfl
    have r2 := r1.alloc (.cells #[.int .u64 0, .int .u64 0, .int .u64 0, .int .u64 0, .int .u64 0, .int .u64 0, .int .u64 0, .int .u64 0] 25)
    have hb2 := HB1.out.alloc HB1.out.size (.cells #[.int .u64 0, .int .u64 0, .int .u64 0, .int .u64 0, .int .u64 0, .int .u64 0, .int .u64 0, .int .u64 0] 25)
    have HGE := Lib.hid hG
    have hGl : w.heap.size < G := by rw [hG]; exact l1
    clear hG r1 l1
    go_wp2_with fail
    rw [← HGE.out]
    go_loopw [6] (fun z wr => ∃ k : Nat, k ≤ 8 ∧ z = .int .i64 k ∧ BoxS wr G (mixS ms k) ∧ BoxS wr w.heap.size (fun _ => 0) ∧ Below w.heap.size w wr) (fun z _ => 8 - (intOf z).toNat)
    case atStart => exact ⟨0, by omega, rfl, g2, r2, hb2⟩
    case round =>
      clear g2 r2 hb2
      obtain ⟨k, hk, rfl, g, r, hB⟩ := hrel
      by_cases hlt : k < 8
      · have hd : decide ((k : Int) < 8) = true := decide_eq_true (by omega)
        have hk8 : (k : Int) < 8 := by omega
        have hw1 : IntKind.i64.wrap ((k : Int) + 1) = (k : Int) + 1 := by rw [IntWalk.i64_in] <;> omega
        have fA := g.free k
        have cA := g.cell hlt
        have lg := g.lt
        have g1 : BoxS (wr.setCell ⟨G, k, none⟩ (.int .u64 18446744073709551615)) G (up8 (mixS ms k) k (leftK [] k)) := g.set hlt _
        have r1 : BoxS (wr.setCell ⟨G, k, none⟩ (.int .u64 18446744073709551615)) w.heap.size (fun _ => 0) := r.other (by omega) _
        have hB1 : Below w.heap.size w (wr.setCell ⟨G, k, none⟩ (.int .u64 18446744073709551615)) := hB.setCell (Nat.le_of_lt hGl) _
        clear g r hB
        go_wp2_with fail
        go_loopw [7] (fun z wr => ∃ i : Nat, i ≤ ms.length ∧ z = .int .i64 i ∧ BoxS wr G (up8 (mixS ms k) k (leftK (ms.take i) k)) ∧ BoxS wr w.heap.size (fun _ => 0) ∧ Below w.heap.size w wr) (fun z _ => ms.length - (intOf z).toNat)
        case atStart => exact ⟨0, by omega, rfl, g1, r1, hB1⟩
        case round =>
          clear g1 r1 hB1 fA lg cA
          obtain ⟨i, hi, rfl, g, r, hB⟩ := hrel
          by_cases hlt2 : i < ms.length
          · have hd2 : decide ((i : Int) < (ms.length : Int)) = true := decide_eq_true (by omega)
            have hii : (i : Int) < (ms.length : Int) := by omega
            have hw2 : IntKind.i64.wrap ((i : Int) + 1) = (i : Int) + 1 := by rw [IntWalk.i64_in] <;> omega
            obtain ⟨m, hmi⟩ : ∃ m, ms[i]? = some m := ⟨_, List.getElem?_eq_getElem hlt2⟩
            obtain ⟨b, o, cap', he, hb, hcs⟩ := (HV.out.below hB (Nat.le_refl _)).at hmi
            obtain ⟨rfl, rfl⟩ : pa = some ⟨b, o, none⟩ ∧ cap = cap' := by injection he with e1 e2 e3; exact ⟨e1, e3⟩
            have x0 := hcs k hlt
            have cA := g.cell hlt
            have fA := g.free k
            rw [show up8 (mixS ms k) k (leftK (ms.take i) k) k = leftK (ms.take i) k from if_pos rfl] at cA
            have E2 := Lib.hid (bits_andNot (leftK_lt (ms.take i) k) (HM.out m (List.mem_of_getElem? hmi) k))
            have HL := Lib.hid (show andN (leftK (ms.take i) k) (m k) = leftK (ms.take (i + 1)) k by rw [List.take_add_one, hmi]; exact (leftK_snoc _ _ _).symm)
            clear hcs he hmi
            go_wp2
            go_region
            rw [E2.out, HL.out]
            have g1 : BoxS (wr.setCell ⟨G, k, none⟩ (.int .u64 ((leftK (ms.take (i + 1)) k : Nat) : Int))).drew G (up8 (mixS ms k) k (leftK (ms.take (i + 1)) k)) := by rw [← up8_up8 _ k (leftK (ms.take i) k)]; exact g.set hlt _
            have r1 : BoxS (wr.setCell ⟨G, k, none⟩ (.int .u64 ((leftK (ms.take (i + 1)) k : Nat) : Int))).drew w.heap.size (fun _ => 0) := r.other (by omega) _
            have hB1 : Below w.heap.size w (wr.setCell ⟨G, k, none⟩ (.int .u64 ((leftK (ms.take (i + 1)) k : Nat) : Int))).drew := (hB.setCell (Nat.le_of_lt hGl) _).drew
            go_wp2
            go_roundw
            case rel => exact ⟨i + 1, by omega, by go_num, g1, r1, hB1⟩
            case measure => simp [intOf]; omega
          · obtain rfl : i = ms.length := by omega
            have hd2 : decide ((ms.length : Int) < (ms.length : Int)) = false := decide_eq_false (by omega)
            rw [List.take_length, mixS_succ] at g
            go_wp2_with fail
            case roundEnd => exact ⟨⟨k + 1, by omega, by go_num, g, r, hB⟩, by simp [intOf]; omega⟩
      · obtain rfl : k = 8 := by omega
        have hd : decide (((8 : Nat) : Int) < 8) = false := decide_eq_false (by omega)
        have hgr : Below w.heap.size w wr := hB
        have c0 := (g).cell (k := 0) (by omega); have c1 := (g).cell (k := 1) (by omega); have c2 := (g).cell (k := 2) (by omega); have c3 := (g).cell (k := 3) (by omega); have c4 := (g).cell (k := 4) (by omega); have c5 := (g).cell (k := 5) (by omega); have c6 := (g).cell (k := 6) (by omega); have c7 := (g).cell (k := 7) (by omega)
        have d0 := (r).cell (k := 0) (by omega); have d1 := (r).cell (k := 1) (by omega); have d2 := (r).cell (k := 2) (by omega); have d3 := (r).cell (k := 3) (by omega); have d4 := (r).cell (k := 4) (by omega); have d5 := (r).cell (k := 5) (by omega); have d6 := (r).cell (k := 6) (by omega); have d7 := (r).cell (k := 7) (by omega)
        have q0 := (r).free 0; have q1 := (r).free 1; have q2 := (r).free 2; have q3 := (r).free 3; have q4 := (r).free 4; have q5 := (r).free 5; have q6 := (r).free 6; have q7 := (r).free 7
        go_wp2_with fail
        have r3 := (r.put (mixS ms 8)).congr (g := sandF ms) fun j hj => by unfold mixS; rw [if_pos hj, leftK_sand HM.out]
        have HB3 := Lib.hid (below_put8 (b := w.heap.size) hB (Nat.le_refl _) (mixS ms 8))
        rw [HD.out]
        exact bodyPost_ret (res_se r3 Tryz.results21 rfl) rfl ⟨rfl, HB3.out⟩
  · have HD := Lib.hid (show sandD ms = fun _ => 0 from if_neg hc)
    obtain ⟨c, hcc⟩ : ∃ c, c = chkM ms := ⟨_, rfl⟩
    rw [← hcc] at HC hc ⊢
    have hne : (c != 0) = true := by simpa using hc
    clear hBB hB0 hc hm hcc
    go_enter Tryz.func21, Tryz.ntmps21
    go_wp2_with fail
    rw [← hW0]
    refine (HC.out _ HB0.out).mono ?_
    rintro e w1 ⟨rfl, hb1⟩
    have HB1 := Lib.hid (up hb1 HB0.out)
    have r1 := r0.below hb1 r0.lt
    rw [HBE.out] at r1
    clear hW0 hb1 r0
    have d0 := (r1).cell (k := 0) (by omega); have d1 := (r1).cell (k := 1) (by omega); have d2 := (r1).cell (k := 2) (by omega); have d3 := (r1).cell (k := 3) (by omega); have d4 := (r1).cell (k := 4) (by omega); have d5 := (r1).cell (k := 5) (by omega); have d6 := (r1).cell (k := 6) (by omega); have d7 := (r1).cell (k := 7) (by omega)
    have q0 := (r1).free 0; have q1 := (r1).free 1; have q2 := (r1).free 2; have q3 := (r1).free 3; have q4 := (r1).free 4; have q5 := (r1).free 5; have q6 := (r1).free 6; have q7 := (r1).free 7
    go_wp2_with fail
    have r3 := r1.put (fun _ => 0)
    have HB3 := Lib.hid (below_put8 (b := w.heap.size) HB1.out (Nat.le_refl _) (fun _ => 0))
    rw [HD.out]
    exact bodyPost_ret (res_se r3 Tryz.results21 rfl) rfl ⟨rfl, HB3.out⟩
end Go.Proofs.YtoajocgfmbakjaaGreatDoor
/-
  The reference's Undercut.
-/
set_option linter.unusedVariables false
set_option linter.unusedSimpArgs false
namespace Go.Proofs.YtoajocgfmbakjaaGreatDoor
open Go Go.RowKit Go.Shelf

/-- Some planes up. -/
def upI (j : Nat) (f : Sol) : Sol := fun z => if z < j then 0 else f (z - j)
theorem upI_zero (f : Sol) : upI 0 f = f := by funext z; unfold upI; simp
theorem upF_upI (j : Nat) (f : Sol) : upF (upI j f) = upI (j + 1) f := by
  funext z
  unfold upF upI
  by_cases h : z = 0
  · subst h; simp
  · rw [if_neg h]
    by_cases h2 : z - 1 < j
    · rw [if_pos h2, if_pos (by omega)]
    · rw [if_neg h2, if_neg (by omega)]
      congr 1
      omega
theorem ups_bit {z i : Nat} (hz : z < 8) : ∀ (k j : Nat) (f : Sol), (∃ s ∈ upsL k (upI j f), (s.1 z).testBit i = true) ↔ ∃ y, j ≤ y ∧ y < j + k ∧ y ≤ z ∧ (f (z - y)).testBit i = true
  | 0, j, f => by
    constructor
    · rintro ⟨s, hs, _⟩; simp [upsL] at hs
    · rintro ⟨y, h1, h2, _⟩; omega
  | k + 1, j, f => by
    unfold upsL
    by_cases he : emptyS (upI j f) = true
    · rw [if_pos he]
      constructor
      · rintro ⟨s, hs, _⟩; simp at hs
      · rintro ⟨y, h1, h2, h3, h4⟩
        have := empty_iff.1 he (z - y + j) (by omega) i
        unfold upI at this
        rw [if_neg (by omega), Nat.add_sub_cancel, h4] at this
        cases this
    · rw [if_neg he, upF_upI]
      have ih := ups_bit (i := i) hz k (j + 1) f
      constructor
      · rintro ⟨s, hs, h⟩
        rcases List.mem_cons.1 hs with rfl | hs
        · unfold upI at h
          dsimp only at h
          by_cases hj : z < j
          · rw [if_pos hj] at h; simp at h
          · rw [if_neg hj] at h
            exact ⟨j, by omega, by omega, by omega, h⟩
        · obtain ⟨y, h1, h2, h3, h4⟩ := ih.1 ⟨s, hs, h⟩
          exact ⟨y, by omega, by omega, h3, h4⟩
      · rintro ⟨y, h1, h2, h3, h4⟩
        by_cases e : y = j
        · subst e
          refine ⟨_, List.mem_cons_self, ?_⟩
          unfold upI
          dsimp only
          rw [if_neg (by omega)]
          exact h4
        · obtain ⟨s, hs, h⟩ := ih.2 ⟨y, by omega, by omega, h3, h4⟩
          exact ⟨s, by simp [hs], h⟩
def belowK (f : Sol) : Nat → Nat
  | 0 => 0
  | z + 1 => belowK f z ||| f z
theorem belowK_bit (f : Sol) (i : Nat) : ∀ z, (belowK f z).testBit i = true ↔ ∃ y, y < z ∧ (f y).testBit i = true
  | 0 => by simp [belowK]
  | z + 1 => by
    unfold belowK
    rw [Nat.testBit_or, Bool.or_eq_true, belowK_bit f i z]
    constructor
    · rintro (⟨y, h1, h2⟩ | h)
      · exact ⟨y, by omega, h2⟩
      · exact ⟨z, by omega, h⟩
    · rintro ⟨y, h1, h2⟩
      by_cases e : y = z
      · subst e; exact .inr h2
      · exact .inl ⟨y, by omega, h2⟩
theorem belowK_lt {f : Sol} (hf : Fit f) : ∀ z, belowK f z < 18446744073709551616
  | 0 => by show 0 < _; decide
  | z + 1 => Nat.or_lt_two_pow (n := 64) (belowK_lt hf z) (hf z)
theorem stands0 (f : Sol) : standsL f 0 0 = upsL 36 (upF f) := by unfold standsL sideL; rfl
theorem below_over (f : Sol) {z : Nat} (hz : z < 8) : overF (standsL f 0 0) (fun _ => 0) z = belowK f z := by
  apply Nat.eq_of_testBit_eq
  intro i
  rw [Bool.eq_iff_iff, over_bit, belowK_bit]
  have h1 : standsL f 0 0 = upsL 36 (upI 1 f) := by rw [stands0, ← upF_upI, upI_zero]
  rw [h1, ups_bit hz]
  constructor
  · rintro (h | ⟨y, k1, k2, k3, k4⟩)
    · simp at h
    · exact ⟨z - y, by omega, k4⟩
  · rintro ⟨y, k1, k2⟩
    exact .inr ⟨z - y, by omega, by omega, by omega, by rw [show z - (z - y) = y by omega]; exact k2⟩
def mixU (f : Sol) (z : Nat) : Sol := fun k => if k < z then andN (belowK f k) (f k) else 0
theorem mixU_succ (f : Sol) (z : Nat) : up8 (mixU f z) z (andN (belowK f z) (f z)) = mixU f (z + 1) := by
  funext k
  unfold up8 mixU
  by_cases h : k = z
  · subst h; rw [if_pos rfl, if_pos (by omega)]
  · rw [if_neg h]
    by_cases h2 : k < z
    · rw [if_pos h2, if_pos (by omega)]
    · rw [if_neg h2, if_neg (by omega)]
set_option maxRecDepth 100000 in
set_option maxHeartbeats 4000000 in
theorem refUnder_ok (f : Sol) (w : World) (hf : Fit f) : Calls Tryz.prog 27 #[sol f] w (RetB (.tuple #[sol (undL f), .int .i64 (undE f)]) w) := by
  have HF := Lib.hid hf
  obtain ⟨B, hBB⟩ : ∃ B, B = w.heap.size := ⟨_, rfl⟩
  obtain ⟨W0, hW0⟩ : ∃ W0, W0 = (w.alloc (.cells #[.int .u64 ((f 0 : Nat) : Int), .int .u64 ((f 1 : Nat) : Int), .int .u64 ((f 2 : Nat) : Int), .int .u64 ((f 3 : Nat) : Int), .int .u64 ((f 4 : Nat) : Int), .int .u64 ((f 5 : Nat) : Int), .int .u64 ((f 6 : Nat) : Int), .int .u64 ((f 7 : Nat) : Int)] 25)).alloc (.cells #[.int .u64 0, .int .u64 0, .int .u64 0, .int .u64 0, .int .u64 0, .int .u64 0, .int .u64 0, .int .u64 0] 25) := ⟨_, rfl⟩
  have hB0 : Below w.heap.size w W0 := by rw [hW0]; exact ((Below.refl _ w).alloc (Nat.le_refl _) _).alloc (by simp) _
  have k0 : BoxS W0 B f := by rw [hW0, hBB]; exact (BoxK.new _ w f).alloc _
  have r0 : BoxS W0 (B + 1) (fun _ => 0) := by rw [hW0, hBB]; exact BoxK.zero (by simp)
  have hs0 : W0.heap.size = w.heap.size + 1 + 1 := by rw [hW0]; simp
  subst hBB
  have HB0 := Lib.hid hB0
  have HS0 := Lib.hid hs0
  have lr := r0.lt
  clear hf hB0 hs0
  go_enter Tryz.func27, Tryz.ntmps27
  go_upto_region 1 with fail
  rw [← hW0]
  clear hW0
  have d0 := (k0).cell (k := 0) (by omega); have d1 := (k0).cell (k := 1) (by omega); have d2 := (k0).cell (k := 2) (by omega); have d3 := (k0).cell (k := 3) (by omega); have d4 := (k0).cell (k := 4) (by omega); have d5 := (k0).cell (k := 5) (by omega); have d6 := (k0).cell (k := 6) (by omega); have d7 := (k0).cell (k := 7) (by omega)
  cases hem : emptyS f with
  | true =>
    have HU := Lib.hid (show undL f = fun _ => 0 from if_pos hem)
    have HUE := Lib.hid (show undE f = 1 from if_pos hem)
    have e0 := (r0).cell (k := 0) (by omega); have e1 := (r0).cell (k := 1) (by omega); have e2 := (r0).cell (k := 2) (by omega); have e3 := (r0).cell (k := 3) (by omega); have e4 := (r0).cell (k := 4) (by omega); have e5 := (r0).cell (k := 5) (by omega); have e6 := (r0).cell (k := 6) (by omega); have e7 := (r0).cell (k := 7) (by omega)
    have q0 := (r0).free 0; have q1 := (r0).free 1; have q2 := (r0).free 2; have q3 := (r0).free 3; have q4 := (r0).free 4; have q5 := (r0).free 5; have q6 := (r0).free 6; have q7 := (r0).free 7
    go_wp2_with fail
    have r3 := r0.put (fun _ => 0)
    have HB3 := Lib.hid (below_put8 (b := w.heap.size + 1) HB0.out (by omega) (fun _ => 0))
    rw [HU.out, HUE.out]
    exact bodyPost_ret (res_se r3 Tryz.results27 rfl) rfl ⟨rfl, HB3.out⟩
  | false =>
    have HU := Lib.hid (show undL f = underF f from if_neg (by rw [hem]; exact Bool.false_ne_true))
    have HUE := Lib.hid (show undE f = 0 from if_neg (by rw [hem]; exact Bool.false_ne_true))
    obtain ⟨G, hG⟩ : ∃ G, G = W0.heap.size := ⟨_, rfl⟩
    obtain ⟨W1, hW1⟩ : ∃ W1, W1 = W0.alloc (.cells #[.int .u64 0, .int .u64 0, .int .u64 0, .int .u64 0, .int .u64 0, .int .u64 0, .int .u64 0, .int .u64 0] 25) := ⟨_, rfl⟩
    have g1 : BoxS W1 G (fun _ => 0) := by rw [hW1, hG]; exact BoxK.zero rfl
    have k1 : BoxS W1 w.heap.size f := by rw [hW1]; exact k0.alloc _
    have r1 : BoxS W1 (w.heap.size + 1) (fun _ => 0) := by rw [hW1]; exact r0.alloc _
    have hB1 : Below w.heap.size w W1 := by rw [hW1]; exact HB0.out.alloc HB0.out.size _
    have hlG : w.heap.size + 1 < G := by rw [hG]; exact lr
    have HGE := Lib.hid hG
    have HW1 := Lib.hid hW1
    clear k0 r0 hG hW1 lr
    go_wp2_with fail
    rw [← HW1.out, ← HGE.out]
    clear d0 d1 d2 d3 d4 d5 d6 d7
    go_loopw [5, 6] (fun b z wr => ∃ k : Nat, k ≤ 8 ∧ z = .int .i64 k ∧ b = .int .u64 ((belowK f k : Nat) : Int) ∧ BoxS wr (G) (mixU f k) ∧ BoxS wr w.heap.size f ∧ BoxS wr (w.heap.size + 1) (fun _ => 0) ∧ Below w.heap.size w wr) (fun _ z _ => 8 - (intOf z).toNat)
    case atStart => exact ⟨0, by omega, rfl, rfl, g1, k1, r1, hB1⟩
    case round =>
      clear g1 k1 r1 hB1
      obtain ⟨k, hk, rfl, rfl, g, kk, r, hB⟩ := hrel
      by_cases hlt : k < 8
      · have hd : decide ((k : Int) < 8) = true := decide_eq_true (by omega)
        have hk8 : (k : Int) < 8 := by omega
        have hw1 : IntKind.i64.wrap ((k : Int) + 1) = (k : Int) + 1 := by rw [IntWalk.i64_in] <;> omega
        have cF := kk.cell hlt
        have cG := g.cell hlt
        have fG := g.free k
        have E2 := bits_andNot (belowK_lt HF.out k) (HF.out k)
        have E3 := bits_or (belowK_lt HF.out k) (HF.out k)
        have g1 : BoxS (wr.setCell ⟨G, k, none⟩ (.int .u64 ((andN (belowK f k) (f k) : Nat) : Int))) (G) (mixU f (k + 1)) := by rw [← mixU_succ]; exact g.set hlt _
        have k1 : BoxS (wr.setCell ⟨G, k, none⟩ (.int .u64 ((andN (belowK f k) (f k) : Nat) : Int))) w.heap.size f := kk.other (by omega) _
        have r1 : BoxS (wr.setCell ⟨G, k, none⟩ (.int .u64 ((andN (belowK f k) (f k) : Nat) : Int))) (w.heap.size + 1) (fun _ => 0) := r.other (by omega) _
        have hB1 : Below w.heap.size w (wr.setCell ⟨G, k, none⟩ (.int .u64 ((andN (belowK f k) (f k) : Nat) : Int))) := hB.setCell (by show w.heap.size ≤ G; omega) _
        have cF2 := k1.cell hlt
        clear g kk r hB
        go_wp2_with fail
        case roundEnd => exact ⟨⟨k + 1, by omega, by go_num, by first | rfl | (rw [E3]; rfl), g1, k1, r1, hB1⟩, by simp [intOf]; omega⟩
      · obtain rfl : k = 8 := by omega
        have hd : decide (((8 : Nat) : Int) < 8) = false := decide_eq_false (by omega)
        have c0 := (g).cell (k := 0) (by omega); have c1 := (g).cell (k := 1) (by omega); have c2 := (g).cell (k := 2) (by omega); have c3 := (g).cell (k := 3) (by omega); have c4 := (g).cell (k := 4) (by omega); have c5 := (g).cell (k := 5) (by omega); have c6 := (g).cell (k := 6) (by omega); have c7 := (g).cell (k := 7) (by omega)
        have d0 := (r).cell (k := 0) (by omega); have d1 := (r).cell (k := 1) (by omega); have d2 := (r).cell (k := 2) (by omega); have d3 := (r).cell (k := 3) (by omega); have d4 := (r).cell (k := 4) (by omega); have d5 := (r).cell (k := 5) (by omega); have d6 := (r).cell (k := 6) (by omega); have d7 := (r).cell (k := 7) (by omega)
        have q0 := (r).free 0; have q1 := (r).free 1; have q2 := (r).free 2; have q3 := (r).free 3; have q4 := (r).free 4; have q5 := (r).free 5; have q6 := (r).free 6; have q7 := (r).free 7
        go_wp2_with fail
        have r3 := (r.put (mixU f 8)).congr (g := underF f) fun j hj => by
          unfold mixU underF lessF
          rw [if_pos hj, below_over f hj]
        have HB3 := Lib.hid (below_put8 (b := w.heap.size + 1) hB (by omega) (mixU f 8))
        rw [HU.out, HUE.out]
        exact bodyPost_ret (res_se r3 Tryz.results27 rfl) rfl ⟨rfl, HB3.out⟩
end Go.Proofs.YtoajocgfmbakjaaGreatDoor
/-
  The reference's SameSolids of the same solids; asked with nothing gone.
-/
set_option linter.unusedVariables false
set_option linter.unusedSimpArgs false
namespace Go.Proofs.YtoajocgfmbakjaaGreatDoor
open Go Go.RowKit Go.Shelf

theorem eqS_self (f : Sol) : eqS f f = true := by simp [eqS]
set_option maxRecDepth 100000 in
set_option maxHeartbeats 4000000 in
theorem sameSols_ok (l : List Sol) (va vb : Value) (w : World) (h1 : SolsAt w va l) (h2 : SolsAt w vb l) :
    Calls Tryz.prog 30 #[va, vb] w (RetB (.bool true) w) := by
  have H1 := Lib.hid h1
  have H2 := Lib.hid h2
  obtain ⟨p1, c1, rfl, hm1, _⟩ := h1
  obtain ⟨p2, c2, rfl, hm2, _⟩ := h2
  simp only [maxLen] at hm1 hm2
  go_enter Tryz.func30, Tryz.ntmps30
  go_wp2
  go_loopw [5] (fun c wr => ∃ i : Nat, i ≤ l.length ∧ c = .int .i64 i ∧ Below w.heap.size w wr) (fun c _ => l.length - (intOf c).toNat)
  case atStart => exact ⟨0, by omega, rfl, Below.refl _ _⟩
  case round =>
    obtain ⟨i, hi, rfl, hB⟩ := hrel
    by_cases hlt : i < l.length
    · have hd : decide ((i : Int) < (l.length : Int)) = true := decide_eq_true (by omega)
      have hw1 : IntKind.i64.wrap ((i : Int) + 1) = (i : Int) + 1 := by rw [IntWalk.i64_in] <;> omega
      obtain ⟨f, ga⟩ : ∃ f, l[i]? = some f := ⟨_, List.getElem?_eq_getElem hlt⟩
      obtain ⟨g1, o1, c1', e1, hg1, ca⟩ := (H1.out.below hB (Nat.le_refl _)).at ga
      obtain ⟨g2, o2, c2', e2, hg2, cb⟩ := (H2.out.below hB (Nat.le_refl _)).at ga
      obtain ⟨rfl, rfl⟩ : p1 = some ⟨g1, o1, none⟩ ∧ c1 = c1' := by injection e1 with e1 e2 e3; exact ⟨e1, e3⟩
      obtain ⟨rfl, rfl⟩ : p2 = some ⟨g2, o2, none⟩ ∧ c2 = c2' := by injection e2 with e1 e2 e3; exact ⟨e1, e3⟩
      have hla2 : (i : Int) < (l.length : Int) := by omega
      have HE := Lib.hid (eqS_self f)
      have hE := HE.out
      have x0 := ca 0 (by omega); have x1 := ca 1 (by omega); have x2 := ca 2 (by omega); have x3 := ca 3 (by omega); have x4 := ca 4 (by omega); have x5 := ca 5 (by omega); have x6 := ca 6 (by omega); have x7 := ca 7 (by omega)
      have y0 := cb 0 (by omega); have y1 := cb 1 (by omega); have y2 := cb 2 (by omega); have y3 := cb 3 (by omega); have y4 := cb 4 (by omega); have y5 := cb 5 (by omega); have y6 := cb 6 (by omega); have y7 := cb 7 (by omega)
      rw [Nat.add_zero] at x0 y0
      clear e1 e2 ca cb ga
      go_wp2_with fail
      (refine wp_region_quiet (C := fun w' => Below wr.heap.size wr w') (by kernel_rfl) (by kernel_rfl) (Below.drew (Below.refl _ _)) ?_; (iterate 9 (refine wpQuiet_step (fun K hK => ?_); go_simp; first | (refine hK _ ?_; clear hK K) | (apply Exists.intro; refine ⟨fun W' hW' => ?_, hK _ ?_⟩; (focus (first | (with_reducible exact rfl) | (with_reducible exact ⟨rfl, rfl⟩) | (obtain ⟨hcq, hfq⟩ := bcell hW'; have hzq := hW'.size; (try go_simp); first | (with_reducible exact rfl) | (with_reducible exact ⟨rfl, rfl⟩) | (fail)))); clear hK K))); refine wpQuiet_nil ?_; intro w1q hb1q)
      have hB2 := up hb1q hB
      go_wp2_with fail
      case roundEnd => exact ⟨⟨i + 1, by omega, by go_num, hB2⟩, by simp [intOf]; omega⟩
    · obtain rfl : i = l.length := by omega
      have hd : decide ((l.length : Int) < (l.length : Int)) = false := decide_eq_false (by omega)
      go_wp2
      go_ret
      exact ⟨rfl, hB⟩
/-- IsSet of nothing. -/
theorem isSet_nil (n : Int) (w : World) : Calls Tryz.prog 109 #[.int .i64 n, .slice none 0 0] w (RetB (.bool true) w) := by
  go_enter Tryz.func109, Tryz.ntmps109
  go_wp2_with fail
  go_loopw [5] (fun c wr => c = .int .i64 0 ∧ Below w.heap.size w wr) (fun c _ => 0)
  case atStart => exact ⟨rfl, Below.refl _ _⟩
  case round =>
    obtain ⟨rfl, hB⟩ := hrel
    go_wp2
    go_ret
    exact ⟨rfl, hB⟩
def askE (ms : List Sol) (p : Int) : Int := if chkM ms = 0 then (if 0 ≤ p ∧ p < ms.length then 0 else 1) else chkM ms
set_option maxRecDepth 100000 in
set_option maxHeartbeats 4000000 in
theorem asked_nil (ms : List Sol) (v : Value) (p : Int) (w : World) (hv : SolsAt w v ms) (hm : ∀ m ∈ ms, Fit m) :
    Calls Tryz.prog 83 #[v, .slice none 0 0, .int .i64 p] w (RetB (.int .i64 (askE ms p)) w) := by
  have HC := Lib.hid (refCheck_ok ms v w hv hm)
  have HS := Lib.hid (fun W => isSet_nil (ms.length : Int) W)
  have HI := Lib.hid (fun W => inR_ok [] (.slice none 0 0) p W ⟨none, 0, rfl, by simp, .inl rfl⟩)
  obtain ⟨pa, cap, rfl, _, _⟩ := hv
  by_cases hc : chkM ms = 0
  · have HA := Lib.hid (show askE ms p = if 0 ≤ p ∧ p < ms.length then 0 else 1 from if_pos hc)
    rw [hc] at HC
    rw [HA.out]
    clear hc hm HA
    by_cases h0 : p < 0
    · rw [if_neg (by omega)]
      have d0 : decide (p < 0) = true := decide_eq_true h0
      go_enter Tryz.func83, Tryz.ntmps83
      go_wp2_with fail
      refine HC.out.mono ?_
      rintro e w1 ⟨rfl, hb1⟩
      go_wp2_with fail
      refine (HS.out _).mono ?_
      rintro e w2 ⟨rfl, hb2⟩
      go_wp2_with fail
      go_ret
      exact ⟨rfl, up hb2 hb1⟩
    · have d0 : decide (p < 0) = false := decide_eq_false h0
      by_cases h1 : p < ms.length
      · rw [if_pos ⟨by omega, h1⟩]
        have d1 : decide ((ms.length : Int) ≤ p) = false := decide_eq_false (by omega)
        go_enter Tryz.func83, Tryz.ntmps83
        go_wp2_with fail
        refine HC.out.mono ?_
        rintro e w1 ⟨rfl, hb1⟩
        go_wp2_with fail
        refine (HS.out _).mono ?_
        rintro e w2 ⟨rfl, hb2⟩
        go_wp2_with fail
        refine (HI.out _).mono ?_
        rintro e w3 ⟨rfl, hb3⟩
        go_wp2_with fail
        go_ret
        exact ⟨rfl, up hb3 (up hb2 hb1)⟩
      · rw [if_neg (by omega)]
        have d1 : decide ((ms.length : Int) ≤ p) = true := decide_eq_true (by omega)
        go_enter Tryz.func83, Tryz.ntmps83
        go_wp2_with fail
        refine HC.out.mono ?_
        rintro e w1 ⟨rfl, hb1⟩
        go_wp2_with fail
        refine (HS.out _).mono ?_
        rintro e w2 ⟨rfl, hb2⟩
        go_wp2_with fail
        go_ret
        exact ⟨rfl, up hb2 hb1⟩
  · have HA := Lib.hid (show askE ms p = chkM ms from if_neg hc)
    rw [HA.out]
    obtain ⟨c, hcc⟩ : ∃ c, c = chkM ms := ⟨_, rfl⟩
    rw [← hcc] at HC hc ⊢
    have hne : (c != 0) = true := by simpa using hc
    clear hcc hm HA hc
    go_enter Tryz.func83, Tryz.ntmps83
    go_wp2_with fail
    refine HC.out.mono ?_
    rintro e w1 ⟨rfl, hb1⟩
    go_wp2_with fail
    go_ret
    exact ⟨rfl, hb1⟩
end Go.Proofs.YtoajocgfmbakjaaGreatDoor
/-
  The reference's Without.
-/
set_option linter.unusedVariables false
set_option linter.unusedSimpArgs false
namespace Go.Proofs.YtoajocgfmbakjaaGreatDoor
open Go Go.RowKit Go.Shelf

/-- append to a row of one's own, as one step of a drawn region. -/
theorem step_append_own {P : Program} {ops : Array Oper} {o : Oper} {a : Act} {w : World} {K : Act → World → Prop} {Q : Exit → Act → World → Prop} {E : Prop}
    (hg : o.guard = none) (s x : Operand) (t : TypeId) (hop : o.op = Op.call { callee := Callee.builtin Builtin.append, args := #[s, x], argTypes := #[t, t] })
    (base : Nat) (e : TypeId) (i : TypeInfo) (z : Value) (size bytes : Nat) (ht : P.underlying t = some (.slice e)) (hi : P.info? e = some i) (hz : i.zero = some z)
    (hsize : i.size = size) (hby : i.bytes = bytes) (hzs : z.cells.size = size) (hsz : 0 < size)
    (v : Value) (n : Nat) (xs : List Value) (hs : a.eval s = v) (hown : w.ownsRow base e size v n xs)
    (ad : Addr) (m c : Nat) (news : List Value) (hx : a.eval x = .slice (some ad) m c) (hl : news.length = m * size) (hnews : ∀ j u, news[j]? = some u → w.cell? (ad.add j) = some u) (h1 : ∀ u ∈ news, u.oneCell' = true)
    (h63 : n + m ≤ maxLen) (hbytes : (n + m) * bytes ≤ 140737488355328) (hbase : base ≤ w.heap.size)
    (hK : ∀ v' w', w'.ownsRow base e size v' (n + m) (xs ++ news) → w.grownBy w' v.ownBlock → K (a.put o.dst v') w') :
    if Region.wanted o (yielded ops a.tmps) = true then Oper.wp P o a w K Q else E := by
  have hw : Region.wanted o (yielded ops a.tmps) = true := by simp [Region.wanted, hg]
  rw [if_pos hw]
  obtain ⟨v', w', hrun, h2, h3, _⟩ := run_append_own (P := P) w base t o.type e i z size bytes ht hi hz hsize hby hzs hsz v n xs hown ad m c news hl hnews h1 h63 hbytes hbase
  unfold Oper.wp
  simp [execOp, hop, resolve, invoke, builtin, hs, hx, hrun, Result.andThen]
  exact hK v' w' h2 h3
set_option maxRecDepth 100000 in
set_option maxHeartbeats 2000000 in
theorem refWithout_yes (ms : List Sol) (p : Nat) (pa : Option Addr) (cap : Nat) (w : World) (hv : SolsAt w (.slice pa ms.length cap) ms) (hm : ∀ m ∈ ms, Fit m) (hc : chkM ms = 0) (hp : p < ms.length) (hcap : ms.length ≤ cap) (hcm : cap ≤ maxLen) :
    Calls Tryz.prog 23 #[.slice pa ms.length cap, .int .i64 p] w fun e w' => (∃ u, e = .returned (.tuple #[u, .int .i64 0]) ∧ w'.ownsRow w.heap.size 25 8 u (ms.eraseIdx p).length (flatS (ms.eraseIdx p))) ∧ Below w.heap.size w w' := by
  have HV := Lib.hid hv
  have HC := Lib.hid (asked_nil ms (.slice pa ms.length cap) p w hv hm)
  rw [show askE ms (p : Int) = 0 by unfold askE; rw [if_pos hc, if_pos ⟨by omega, by omega⟩]] at HC
  have h12 := chkM_len hc
  obtain ⟨m0, hm0⟩ : ∃ m, ms[p]? = some m := ⟨_, List.getElem?_eq_getElem hp⟩
  obtain ⟨b, o, cap', he, hb, _⟩ := hv.at hm0
  obtain ⟨rfl, rfl⟩ : pa = some ⟨b, o, none⟩ ∧ cap = cap' := by injection he with e1 e2 e3; exact ⟨e1, e3⟩
  have hw1 : IntKind.i64.wrap ((p : Int) + 1) = (p : Int) + 1 := by rw [IntWalk.i64_in] <;> omega
  have hpc : p ≤ cap := by omega
  have hp1 : p + 1 ≤ ms.length := by omega
  have hp2 : p + 1 ≤ cap := by omega
  have hp3 : (p : Int) + 1 ≤ (ms.length : Int) := by omega
  have hp4 : (0 : Int) ≤ (p : Int) + 1 := by omega
  obtain ⟨i0, hi', hz0, hz1, hz2⟩ := info_parts info_sol
  obtain ⟨o2, ho2, ho3⟩ : ∃ o2, (if cap = p + 1 then (some ⟨b, o, none⟩ : Option Addr) else some ⟨b, o + (p + 1) * 8, none⟩) = some ⟨b, o2, none⟩ ∧ (ms.length - (p + 1) = 0 ∨ o2 = o + (p + 1) * 8) := by
    by_cases hz : cap = p + 1
    · exact ⟨o, if_pos hz, .inl (by omega)⟩
    · exact ⟨_, if_neg hz, .inr rfl⟩
  have HO2 := Lib.hid ho2
  have HN1 : Hid (∀ W, Below w.heap.size w W → ∀ j u, (flatS (ms.take p))[j]? = some u → W.cell? ((⟨b, o, none⟩ : Addr).add j) = some u) := Lib.hid fun W h j u hu => by
    obtain ⟨b', o', c', e, _, hc⟩ := part_take (p := p) (HV.out.below h (Nat.le_refl _)) (Nat.lt_of_lt_of_le hb h.size) (by omega)
    obtain ⟨rfl, rfl⟩ : b = b' ∧ o = o' := by injection e with e1 e2 e3; injection e1 with e1; injection e1 with e4 e5; exact ⟨e4, e5⟩
    exact part_cells hc j u hu
  have HN2 : Hid (∀ W, Below w.heap.size w W → ∀ j u, (flatS (ms.drop (p + 1)))[j]? = some u → W.cell? ((⟨b, o2, none⟩ : Addr).add j) = some u) := Lib.hid fun W h j u hu => by
    obtain ⟨b', o', c', e, _, hc⟩ := part_drop (p := p + 1) (c2 := 0) (HV.out.below h (Nat.le_refl _)) (Nat.lt_of_lt_of_le hb h.size) ho3
    obtain ⟨rfl, rfl⟩ : b = b' ∧ o2 = o' := by injection e with e1 e2 e3; injection e1 with e1; injection e1 with e4 e5; exact ⟨e4, e5⟩
    exact part_cells hc j u hu
  have HL1 := Lib.hid (show (flatS (ms.take p)).length = p * 8 by rw [flatS_len, List.length_take, Nat.min_eq_left (by omega)])
  have HL2 := Lib.hid (show (flatS (ms.drop (p + 1))).length = (ms.length - (p + 1)) * 8 by rw [flatS_len, List.length_drop])
  have HFE := Lib.hid (show flatS (ms.eraseIdx p) = flatS (ms.take p) ++ flatS (ms.drop (p + 1)) by rw [List.eraseIdx_eq_take_drop_succ, flatS_append])
  have HLE := Lib.hid (show (ms.eraseIdx p).length = p + (ms.length - (p + 1)) by rw [List.length_eraseIdx, if_pos hp]; omega)
  clear ho2 ho3
  unfold maxLen at hcm
  clear he hm0 hc hm hv
  go_enter Tryz.func23, Tryz.ntmps23
  go_wp2_with fail
  refine HC.out.mono ?_
  rintro e w1 ⟨rfl, hb1⟩
  have HB1 := Lib.hid hb1
  have hsz := hb1.size
  clear hb1
  go_wp2_with fail
  have HOW : Hid ((w1.drew.alloc (.cells #[] 25)).ownsRow w.heap.size 25 8 (.slice (some ⟨w1.heap.size, 0, none⟩) 0 0) 0 []) := Lib.hid ⟨rfl, .inr ⟨w1.heap.size, 0, #[], rfl, hsz, World.alloc_heap_new _ _, Nat.le_refl _, Nat.zero_le _, rfl, rfl⟩⟩
  have HBA := Lib.hid (show Below w.heap.size w (w1.drew.alloc (.cells #[] 25)) from HB1.out.drew.alloc hsz _)
  go_region_law (first
    | (refine step_append_own rfl (.tmp 13) (.tmp 16) 22 rfl w.heap.size 25 i0 _ 8 64 under_sols hi' hz0 hz1 hz2 rfl (by decide) _ 0 [] (by simp [Act.eval, Act.put]) HOW.out ⟨b, o, none⟩ p cap (flatS (ms.take p)) (by simp [Act.eval, Act.put]) HL1.out (HN1.out _ HBA.out) (flatS_one _) (by simp only [maxLen]; omega) (by omega) HBA.out.size ?_; intro v1 w9 hown1 hgrow1; have HB9 := Lib.hid (HBA.out.grown hgrow1 HBA.out.size fun j ej => by cases ej; exact hsz))
    | (refine step_append_own rfl (.tmp 17) (.tmp 21) 22 rfl w.heap.size 25 i0 _ 8 64 under_sols hi' hz0 hz1 hz2 rfl (by decide) _ _ _ (by simp [Act.eval, Act.put]) hown1 ⟨b, o2, none⟩ (ms.length - (p + 1)) (cap - (p + 1)) (flatS (ms.drop (p + 1))) (by simp [Act.eval, Act.put, HO2.out]) HL2.out (HN2.out _ HB9.out) (flatS_one _) (by simp only [maxLen]; omega) (by omega) HB9.out.size ?_; intro v2 w10 hown2 hgrow2))
  all_goals go_wp2_with fail
  all_goals
    go_returns
    rw [HFE.out, HLE.out]
    refine ⟨⟨v2, rfl, ?_⟩, HB9.out.grown hgrow2 HB9.out.size fun j ej => (hown1.lt j ej).1⟩
    simpa using hown2
set_option maxRecDepth 100000 in
set_option maxHeartbeats 2000000 in
theorem refWithout_no (ms : List Sol) (p : Int) (v : Value) (w : World) (hv : SolsAt w v ms) (hm : ∀ m ∈ ms, Fit m) (hn : askE ms p ≠ 0) :
    Calls Tryz.prog 23 #[v, .int .i64 p] w (RetB (.tuple #[.slice none 0 0, .int .i64 (askE ms p)]) w) := by
  have HC := Lib.hid (asked_nil ms v p w hv hm)
  obtain ⟨pa, cap, rfl, _, _⟩ := hv
  obtain ⟨c, hcc⟩ : ∃ c, c = askE ms p := ⟨_, rfl⟩
  rw [← hcc] at HC hn ⊢
  have hne : (c != 0) = true := by simpa using hn
  clear hn hm hcc
  go_enter Tryz.func23, Tryz.ntmps23
  go_wp2_with fail
  refine HC.out.mono ?_
  rintro e w1 ⟨rfl, hb1⟩
  go_wp2_with fail
  go_returns
  exact ⟨rfl, hb1⟩
end Go.Proofs.YtoajocgfmbakjaaGreatDoor
/-
  Joined.
-/
set_option linter.unusedVariables false
set_option linter.unusedSimpArgs false
namespace Go.Proofs.YtoajocgfmbakjaaGreatDoor
open Go Go.RowKit Go.Shelf

/-- Cells stored into a list of cells. -/
def set8 (xs : List Value) (k : Nat) (f : Sol) : List Value := (((((((xs.set k (.int .u64 (f 0))).set (k + 1) (.int .u64 (f 1))).set (k + 2) (.int .u64 (f 2))).set (k + 3) (.int .u64 (f 3))).set (k + 4) (.int .u64 (f 4))).set (k + 5) (.int .u64 (f 5))).set (k + 6) (.int .u64 (f 6))).set (k + 7) (.int .u64 (f 7))
theorem set8_right (a b : List Value) (k : Nat) (f : Sol) (h : a.length = 8) : set8 (a ++ b) (k + 8) f = a ++ set8 b k f := by
  unfold set8
  have e : ∀ (xs : List Value) (j : Nat) (v : Value), (a ++ xs).set (k + 8 + j) v = a ++ xs.set (k + j) v := fun xs j v => by
    rw [List.set_append_right _ _ (by omega)]
    congr 2
    omega
  have e0 : ∀ (xs : List Value) (v : Value), (a ++ xs).set (k + 8) v = a ++ xs.set k v := fun xs v => by have := e xs 0 v; simpa using this
  rw [e0, e, e, e, e, e, e, e]
theorem flatS_set (f : Sol) : ∀ (l : List Sol) (i : Nat), i < l.length → flatS (l.set i f) = set8 (flatS l) (i * 8) f
  | [], i, h => by simp at h
  | m :: l, 0, _ => by
    show flatS (f :: l) = set8 (flatS (m :: l)) 0 f
    rw [show flatS (f :: l) = (solC f).toList ++ flatS l by simp [flatS], show flatS (m :: l) = (solC m).toList ++ flatS l by simp [flatS]]
    rfl
  | m :: l, i + 1, h => by
    rw [List.set_cons_succ, show flatS (m :: l.set i f) = (solC m).toList ++ flatS (l.set i f) by simp [flatS], flatS_set f l i (by simpa using h), show flatS (m :: l) = (solC m).toList ++ flatS l by simp [flatS], show (i + 1) * 8 = i * 8 + 8 by omega, set8_right _ _ _ _ rfl]
/-- The world behind a solid stored into a row. -/
abbrev putAt (W : World) (g k : Nat) (f : Sol) : World := (((((((W.setCell ⟨g, k, none⟩ (.int .u64 (f 0))).setCell ⟨g, k + 1, none⟩ (.int .u64 (f 1))).setCell ⟨g, k + 2, none⟩ (.int .u64 (f 2))).setCell ⟨g, k + 3, none⟩ (.int .u64 (f 3))).setCell ⟨g, k + 4, none⟩ (.int .u64 (f 4))).setCell ⟨g, k + 5, none⟩ (.int .u64 (f 5))).setCell ⟨g, k + 6, none⟩ (.int .u64 (f 6))).setCell ⟨g, k + 7, none⟩ (.int .u64 (f 7))
theorem putAt_row {W : World} {base g n cap k : Nat} {xs : List Value} (h : W.ownsRow base 25 8 (.slice (some ⟨g, 0, none⟩) n cap) n xs) (f : Sol) : (putAt W g k f).ownsRow base 25 8 (.slice (some ⟨g, 0, none⟩) n cap) n (set8 xs k f) :=
  (((((((((h.stored k (.int .u64 (f 0))).1).stored (k + 1) (.int .u64 (f 1))).1.stored (k + 2) (.int .u64 (f 2))).1.stored (k + 3) (.int .u64 (f 3))).1.stored (k + 4) (.int .u64 (f 4))).1.stored (k + 5) (.int .u64 (f 5))).1.stored (k + 6) (.int .u64 (f 6))).1.stored (k + 7) (.int .u64 (f 7))).1
theorem putAt_below {W w : World} {n g k : Nat} (h : Below n w W) (hg : n ≤ g) (f : Sol) : Below n w (putAt W g k f) := (((((((h.setCell hg _).setCell hg _).setCell hg _).setCell hg _).setCell hg _).setCell hg _).setCell hg _).setCell hg _
set_option maxRecDepth 100000 in
set_option maxHeartbeats 2000000 in
theorem joined_core (ms : List Sol) (p q lo hi : Nat) (fl fh : Sol) (pa : Option Addr) (cap : Nat) (w : World) (hv : SolsAt w (.slice pa ms.length cap) ms) (hm : ∀ m ∈ ms, Fit m) (hc : chkM ms = 0) (hlo : ms[lo]? = some fl) (hhi : ms[hi]? = some fh) (hlt : lo < hi) (hpq : lo = p ∧ hi = q ∨ hi = p ∧ lo = q) (hcap : ms.length ≤ cap) (hcm : cap ≤ maxLen) :
    Calls Tryz.prog 24 #[.slice pa ms.length cap, .int .i64 p, .int .i64 q] w fun e w' => (∃ u, e = .returned (.tuple #[u, .int .i64 0]) ∧ SolsAt w' u ((ms.eraseIdx hi).set lo (joinF fl fh))) ∧ Below w.heap.size w w' := by
  have HV := Lib.hid hv
  have HC := Lib.hid (fun W h => checkMould_ok ms (.slice pa ms.length cap) W h hm)
  rw [hc] at HC
  have h12 := chkM_len hc
  have hh := (List.getElem?_eq_some_iff.1 hhi).1
  obtain ⟨b, o, cap', he, hb, _⟩ := hv.at hhi
  obtain ⟨rfl, rfl⟩ : pa = some ⟨b, o, none⟩ ∧ cap = cap' := by injection he with e1 e2 e3; exact ⟨e1, e3⟩
  have HIP := Lib.hid (fun (r : Nat) (hr : r < ms.length) W => (show Calls Tryz.prog 81 #[.slice (some ⟨b, o, none⟩) ms.length cap, .int .i64 r] W (RetB (.bool true) W) by
    have := isPiece_ok (some ⟨b, o, none⟩) ms.length cap r W
    rwa [show decide ((0 : Int) ≤ (r : Int) ∧ (r : Int) < (ms.length : Int)) = true from decide_eq_true ⟨by omega, by omega⟩] at this))
  have hle : lo ≤ hi := by omega
  have hnle : ¬ hi ≤ lo := by omega
  have hle2 : (lo : Int) ≤ (hi : Int) := by omega
  have hnle2 : ¬ (hi : Int) ≤ (lo : Int) := by omega
  have hne1 : ((lo : Int) == (hi : Int)) = false := by rw [beq_eq_false_iff_ne]; omega
  have hne2 : ((hi : Int) == (lo : Int)) = false := by rw [beq_eq_false_iff_ne]; omega
  have hl2 : lo < ms.length := by omega
  have hw1 : IntKind.i64.wrap ((hi : Int) + 1) = (hi : Int) + 1 := by rw [IntWalk.i64_in] <;> omega
  have hpc : hi ≤ cap := by omega
  have hp1 : hi + 1 ≤ ms.length := by omega
  have hp2 : hi + 1 ≤ cap := by omega
  have hp3 : (hi : Int) + 1 ≤ (ms.length : Int) := by omega
  have hp4 : (0 : Int) ≤ (hi : Int) + 1 := by omega
  obtain ⟨o2, ho2, ho3⟩ : ∃ o2, (if cap = hi + 1 then (some ⟨b, o, none⟩ : Option Addr) else some ⟨b, o + (hi + 1) * 8, none⟩) = some ⟨b, o2, none⟩ ∧ (ms.length - (hi + 1) = 0 ∨ o2 = o + (hi + 1) * 8) := by
    by_cases hz : cap = hi + 1
    · exact ⟨o, if_pos hz, .inl (by omega)⟩
    · exact ⟨_, if_neg hz, .inr rfl⟩
  have HO2 := Lib.hid ho2
  have HO3 := Lib.hid ho3
  have HLO := Lib.hid hlo
  have HHI := Lib.hid hhi
  have HJ := Lib.hid (fun W => join_ok fl fh W (hm fl (List.mem_of_getElem? hlo)) (hm fh (List.mem_of_getElem? hhi)))
  have HFL := Lib.hid (erase_flat ms hi)
  have HLE := Lib.hid (show (ms.eraseIdx hi).length = ms.length - 1 by rw [List.length_eraseIdx, if_pos hh])
  obtain ⟨k, hk⟩ : ∃ k, ms.length - 1 = k + 1 := ⟨ms.length - 2, by omega⟩
  have hlk : (lo : Int) < (k : Int) + 1 := by omega
  have hlk' : lo < k + 1 := by omega
  rw [hk] at HLE
  have hl3 : (lo : Int) < (ms.length : Int) := by omega
  have hh3 : (hi : Int) < (ms.length : Int) := by omega
  have hk13 : k ≤ 12 := by omega
  unfold maxLen at hcm
  clear he hc hv hlo hhi ho2 ho3 hk hm
  rcases hpq with ⟨rfl, rfl⟩ | ⟨rfl, rfl⟩
  · go_enter Tryz.func24, Tryz.ntmps24
    go_wp2_with fail
    refine (HC.out _ HV.out).mono ?_
    rintro e w1 ⟨rfl, hb1⟩
    have HB1 := Lib.hid hb1
    go_wp2_with fail
    refine (HIP.out _ (by assumption) _).mono ?_
    rintro e w2 ⟨rfl, hb2⟩
    have HB2 := Lib.hid (up hb2 HB1.out)
    clear hb1 hb2
    go_wp2_with fail
    refine (HIP.out _ (by assumption) _).mono ?_
    rintro e w3 ⟨rfl, hb3⟩
    have HB3 := Lib.hid (up hb3 HB2.out)
    clear hb3
    go_wp2_with fail
    (refine wp_region_quiet_tail 7 (fun w' => Below w3.heap.size w3 w') (by kernel_rfl) (by kernel_rfl) (Below.drew (Below.refl _ _)) ?_; simp only [List.take_succ_cons, List.take_zero, List.drop_succ_cons, List.drop_zero]; (iterate 7 (refine wpQuiet_step (fun K hK => ?_); go_simp; first | (refine hK _ ?_; clear hK K) | (apply Exists.intro; refine ⟨fun W' hW' => ?_, hK _ ?_⟩; (focus (first | (with_reducible exact rfl) | (with_reducible exact ⟨rfl, rfl⟩) | (obtain ⟨hcq, hfq⟩ := bcell hW'; have hzq := hW'.size; (try go_simp); first | (with_reducible exact rfl) | (with_reducible exact ⟨rfl, rfl⟩) | (fail)))); clear hK K))); refine wpQuiet_nil ?_; intro w1q hb1q)
    rw [HO2.out]
    have HBQ := Lib.hid (up hb1q HB3.out)
    have HVQ := HV.out.below HBQ.out (Nat.le_refl _)
    have hbq := Nat.lt_of_lt_of_le hb HBQ.out.size
    have HP1 := Lib.hid (part_take (p := hi) HVQ hbq (by omega))
    have HP2 := Lib.hid (part_drop (p := hi + 1) (c2 := cap - (hi + 1)) HVQ hbq HO3.out)
    clear hb1q HVQ
    go_wp2_with fail
    refine (concat_ok [ms.take hi, ms.drop (hi + 1)] _ _ (parts_two rfl HP1.out HP2.out) (by simp) (by rw [HFL.out, HLE.out]; omega)).mono ?_
    rw [HFL.out, HLE.out]
    rintro e w4 ⟨⟨u, rfl, hrow⟩, hb4⟩
    have hszA : w.heap.size ≤ (w1q.alloc (.cells #[.slice (some ⟨b, o, none⟩) hi cap, .slice (some ⟨b, o2, none⟩) (ms.length - (hi + 1)) (cap - (hi + 1))] 22)).heap.size := by
      have := HBQ.out.size
      simp
      omega
    have hrow4 := row_base hrow hszA
    have HB4 := Lib.hid (up (up hb4 ((Below.refl _ _).alloc (Nat.le_refl _) _)) HBQ.out)
    obtain ⟨g, cu, rfl⟩ := ownsRow_succ hrow4
    have HR4 := Lib.hid hrow4
    have hgw : w.heap.size ≤ g := (hrow4.lt g rfl).1
    have hgs : g < w4.heap.size := (hrow4.lt g rfl).2
    have hv4 := HV.out.below HB4.out (Nat.le_refl _)
    have hbw := Nat.lt_of_lt_of_le hb HB4.out.size
    have cl := (sols_cells hv4 HLO.out).2
    have ch := (sols_cells hv4 HHI.out).2
    clear hrow hb4 hrow4 hv4 hszA
    have x0 := cl 0 (by omega); have x1 := cl 1 (by omega); have x2 := cl 2 (by omega); have x3 := cl 3 (by omega); have x4 := cl 4 (by omega); have x5 := cl 5 (by omega); have x6 := cl 6 (by omega); have x7 := cl 7 (by omega)
    have y0 := ch 0 (by omega); have y1 := ch 1 (by omega); have y2 := ch 2 (by omega); have y3 := ch 3 (by omega); have y4 := ch 4 (by omega); have y5 := ch 5 (by omega); have y6 := ch 6 (by omega); have y7 := ch 7 (by omega)
    rw [Nat.add_zero] at x0 y0
    clear cl ch
    go_wp2_with fail
    (refine wp_region_quiet_tail 12 (fun w' => Below w4.heap.size w4 w') (by kernel_rfl) (by kernel_rfl) (Below.drew (Below.refl _ _)) ?_; simp only [List.take_succ_cons, List.take_zero, List.drop_succ_cons, List.drop_zero]; (iterate 12 (refine wpQuiet_step (fun K hK => ?_); go_simp; first | (refine hK _ ?_; clear hK K) | (apply Exists.intro; refine ⟨fun W' hW' => ?_, hK _ ?_⟩; (focus (first | (with_reducible exact rfl) | (with_reducible exact ⟨rfl, rfl⟩) | (obtain ⟨hcq, hfq⟩ := bcell hW'; have hzq := hW'.size; (try go_simp); first | (with_reducible exact rfl) | (with_reducible exact ⟨rfl, rfl⟩) | (first | ((with_reducible refine Calls.mono (HJ.out _) ?_); rintro e w9 ⟨rfl, hb9⟩; exact ⟨rfl, hW'.trans (hb9.mono hW'.size)⟩))))); clear hK K))); refine wpQuiet_nil ?_; intro w1q hb1q)
    have HRQ := row_below HR4.out hb1q
    have HB5 := Lib.hid (up hb1q HB4.out)
    have hgq := Nat.lt_of_lt_of_le hgs hb1q.size
    obtain ⟨fo, hfo⟩ : ∃ fo, (ms.eraseIdx hi)[lo]? = some fo := ⟨_, List.getElem?_eq_getElem (by rw [HLE.out]; exact hlk')⟩
    have hcl := fun (j : Nat) (hj : j < 8) => HRQ.cells (g := g) rfl (lo * 8 + j) _ (flatS_at _ lo j fo hfo hj)
    have hfr := fun (j : Nat) => HRQ.frozenAt (lo * 8 + j)
    have ead : ∀ j, (⟨g, 0, none⟩ : Addr).add j = ⟨g, j, none⟩ := fun j => by simp [Addr.add]; try omega
    simp only [ead] at hcl
    have c0 := hcl 0 (by omega); have c1 := hcl 1 (by omega); have c2 := hcl 2 (by omega); have c3 := hcl 3 (by omega); have c4 := hcl 4 (by omega); have c5 := hcl 5 (by omega); have c6 := hcl 6 (by omega); have c7 := hcl 7 (by omega)
    have f0 := hfr 0; have f1 := hfr 1; have f2 := hfr 2; have f3 := hfr 3; have f4 := hfr 4; have f5 := hfr 5; have f6 := hfr 6; have f7 := hfr 7
    rw [Nat.add_zero] at c0 f0
    have HR5 := Lib.hid (putAt_row (k := lo * 8) HRQ (joinF fl fh))
    have HB6 := Lib.hid (putAt_below (k := lo * 8) HB5.out hgw (joinF fl fh))
    have HFS := Lib.hid (flatS_set (joinF fl fh) (ms.eraseIdx hi) lo (by rw [HLE.out]; exact hlk'))
    have HLS := Lib.hid (show ((ms.eraseIdx hi).set lo (joinF fl fh)).length = k + 1 by rw [List.length_set]; exact HLE.out)
    clear HRQ hb1q hfo hcl hfr ead x0 x1 x2 x3 x4 x5 x6 x7 y0 y1 y2 y3 y4 y5 y6 y7
    go_wp2_with fail
    go_returns
    refine ⟨⟨_, rfl, solsAt_own (base := w.heap.size) ?_ ?_⟩, HB6.out⟩
    · rw [HFS.out, HLS.out]; exact HR5.out
    · rw [HLS.out]; unfold maxLen; omega
  · go_enter Tryz.func24, Tryz.ntmps24
    go_wp2_with fail
    refine (HC.out _ HV.out).mono ?_
    rintro e w1 ⟨rfl, hb1⟩
    have HB1 := Lib.hid hb1
    go_wp2_with fail
    refine (HIP.out _ (by assumption) _).mono ?_
    rintro e w2 ⟨rfl, hb2⟩
    have HB2 := Lib.hid (up hb2 HB1.out)
    clear hb1 hb2
    go_wp2_with fail
    refine (HIP.out _ (by assumption) _).mono ?_
    rintro e w3 ⟨rfl, hb3⟩
    have HB3 := Lib.hid (up hb3 HB2.out)
    clear hb3
    go_wp2_with fail
    (refine wp_region_quiet_tail 7 (fun w' => Below w3.heap.size w3 w') (by kernel_rfl) (by kernel_rfl) (Below.drew (Below.refl _ _)) ?_; simp only [List.take_succ_cons, List.take_zero, List.drop_succ_cons, List.drop_zero]; (iterate 7 (refine wpQuiet_step (fun K hK => ?_); go_simp; first | (refine hK _ ?_; clear hK K) | (apply Exists.intro; refine ⟨fun W' hW' => ?_, hK _ ?_⟩; (focus (first | (with_reducible exact rfl) | (with_reducible exact ⟨rfl, rfl⟩) | (obtain ⟨hcq, hfq⟩ := bcell hW'; have hzq := hW'.size; (try go_simp); first | (with_reducible exact rfl) | (with_reducible exact ⟨rfl, rfl⟩) | (fail)))); clear hK K))); refine wpQuiet_nil ?_; intro w1q hb1q)
    rw [HO2.out]
    have HBQ := Lib.hid (up hb1q HB3.out)
    have HVQ := HV.out.below HBQ.out (Nat.le_refl _)
    have hbq := Nat.lt_of_lt_of_le hb HBQ.out.size
    have HP1 := Lib.hid (part_take (p := hi) HVQ hbq (by omega))
    have HP2 := Lib.hid (part_drop (p := hi + 1) (c2 := cap - (hi + 1)) HVQ hbq HO3.out)
    clear hb1q HVQ
    go_wp2_with fail
    refine (concat_ok [ms.take hi, ms.drop (hi + 1)] _ _ (parts_two rfl HP1.out HP2.out) (by simp) (by rw [HFL.out, HLE.out]; omega)).mono ?_
    rw [HFL.out, HLE.out]
    rintro e w4 ⟨⟨u, rfl, hrow⟩, hb4⟩
    have hszA : w.heap.size ≤ (w1q.alloc (.cells #[.slice (some ⟨b, o, none⟩) hi cap, .slice (some ⟨b, o2, none⟩) (ms.length - (hi + 1)) (cap - (hi + 1))] 22)).heap.size := by
      have := HBQ.out.size
      simp
      omega
    have hrow4 := row_base hrow hszA
    have HB4 := Lib.hid (up (up hb4 ((Below.refl _ _).alloc (Nat.le_refl _) _)) HBQ.out)
    obtain ⟨g, cu, rfl⟩ := ownsRow_succ hrow4
    have HR4 := Lib.hid hrow4
    have hgw : w.heap.size ≤ g := (hrow4.lt g rfl).1
    have hgs : g < w4.heap.size := (hrow4.lt g rfl).2
    have hv4 := HV.out.below HB4.out (Nat.le_refl _)
    have hbw := Nat.lt_of_lt_of_le hb HB4.out.size
    have cl := (sols_cells hv4 HLO.out).2
    have ch := (sols_cells hv4 HHI.out).2
    clear hrow hb4 hrow4 hv4 hszA
    have x0 := cl 0 (by omega); have x1 := cl 1 (by omega); have x2 := cl 2 (by omega); have x3 := cl 3 (by omega); have x4 := cl 4 (by omega); have x5 := cl 5 (by omega); have x6 := cl 6 (by omega); have x7 := cl 7 (by omega)
    have y0 := ch 0 (by omega); have y1 := ch 1 (by omega); have y2 := ch 2 (by omega); have y3 := ch 3 (by omega); have y4 := ch 4 (by omega); have y5 := ch 5 (by omega); have y6 := ch 6 (by omega); have y7 := ch 7 (by omega)
    rw [Nat.add_zero] at x0 y0
    clear cl ch
    go_wp2_with fail
    (refine wp_region_quiet_tail 12 (fun w' => Below w4.heap.size w4 w') (by kernel_rfl) (by kernel_rfl) (Below.drew (Below.refl _ _)) ?_; simp only [List.take_succ_cons, List.take_zero, List.drop_succ_cons, List.drop_zero]; (iterate 12 (refine wpQuiet_step (fun K hK => ?_); go_simp; first | (refine hK _ ?_; clear hK K) | (apply Exists.intro; refine ⟨fun W' hW' => ?_, hK _ ?_⟩; (focus (first | (with_reducible exact rfl) | (with_reducible exact ⟨rfl, rfl⟩) | (obtain ⟨hcq, hfq⟩ := bcell hW'; have hzq := hW'.size; (try go_simp); first | (with_reducible exact rfl) | (with_reducible exact ⟨rfl, rfl⟩) | (first | ((with_reducible refine Calls.mono (HJ.out _) ?_); rintro e w9 ⟨rfl, hb9⟩; exact ⟨rfl, hW'.trans (hb9.mono hW'.size)⟩))))); clear hK K))); refine wpQuiet_nil ?_; intro w1q hb1q)
    have HRQ := row_below HR4.out hb1q
    have HB5 := Lib.hid (up hb1q HB4.out)
    have hgq := Nat.lt_of_lt_of_le hgs hb1q.size
    obtain ⟨fo, hfo⟩ : ∃ fo, (ms.eraseIdx hi)[lo]? = some fo := ⟨_, List.getElem?_eq_getElem (by rw [HLE.out]; exact hlk')⟩
    have hcl := fun (j : Nat) (hj : j < 8) => HRQ.cells (g := g) rfl (lo * 8 + j) _ (flatS_at _ lo j fo hfo hj)
    have hfr := fun (j : Nat) => HRQ.frozenAt (lo * 8 + j)
    have ead : ∀ j, (⟨g, 0, none⟩ : Addr).add j = ⟨g, j, none⟩ := fun j => by simp [Addr.add]; try omega
    simp only [ead] at hcl
    have c0 := hcl 0 (by omega); have c1 := hcl 1 (by omega); have c2 := hcl 2 (by omega); have c3 := hcl 3 (by omega); have c4 := hcl 4 (by omega); have c5 := hcl 5 (by omega); have c6 := hcl 6 (by omega); have c7 := hcl 7 (by omega)
    have f0 := hfr 0; have f1 := hfr 1; have f2 := hfr 2; have f3 := hfr 3; have f4 := hfr 4; have f5 := hfr 5; have f6 := hfr 6; have f7 := hfr 7
    rw [Nat.add_zero] at c0 f0
    have HR5 := Lib.hid (putAt_row (k := lo * 8) HRQ (joinF fl fh))
    have HB6 := Lib.hid (putAt_below (k := lo * 8) HB5.out hgw (joinF fl fh))
    have HFS := Lib.hid (flatS_set (joinF fl fh) (ms.eraseIdx hi) lo (by rw [HLE.out]; exact hlk'))
    have HLS := Lib.hid (show ((ms.eraseIdx hi).set lo (joinF fl fh)).length = k + 1 by rw [List.length_set]; exact HLE.out)
    clear HRQ hb1q hfo hcl hfr ead x0 x1 x2 x3 x4 x5 x6 x7 y0 y1 y2 y3 y4 y5 y6 y7
    go_wp2_with fail
    go_returns
    refine ⟨⟨_, rfl, solsAt_own (base := w.heap.size) ?_ ?_⟩, HB6.out⟩
    · rw [HFS.out, HLS.out]; exact HR5.out
    · rw [HLS.out]; unfold maxLen; omega
end Go.Proofs.YtoajocgfmbakjaaGreatDoor
/-
  Joined: the errors.
-/
set_option linter.unusedVariables false
set_option linter.unusedSimpArgs false
namespace Go.Proofs.YtoajocgfmbakjaaGreatDoor
open Go Go.RowKit Go.Shelf

def isP (ms : List Sol) (p : Int) : Prop := 0 ≤ p ∧ p < ms.length
instance (ms : List Sol) (p : Int) : Decidable (isP ms p) := inferInstanceAs (Decidable (0 ≤ p ∧ p < (ms.length : Int)))
def joiE (ms : List Sol) (p q : Int) : Int := if chkM ms = 0 then (if isP ms p ∧ isP ms q ∧ p ≠ q then 0 else 1) else chkM ms
set_option maxRecDepth 100000 in
set_option maxHeartbeats 2000000 in
theorem joined_no (ms : List Sol) (p q : Int) (pa : Option Addr) (cap : Nat) (w : World) (hv : SolsAt w (.slice pa ms.length cap) ms) (hm : ∀ m ∈ ms, Fit m) (hn : joiE ms p q ≠ 0) :
    Calls Tryz.prog 24 #[.slice pa ms.length cap, .int .i64 p, .int .i64 q] w (RetB (.tuple #[.slice none 0 0, .int .i64 (joiE ms p q)]) w) := by
  have HV := Lib.hid hv
  have HC := Lib.hid (fun W h => checkMould_ok ms (.slice pa ms.length cap) W h hm)
  have HIP := Lib.hid (fun (r : Int) (x : Bool) (hx : x = decide (isP ms r)) W => (show Calls Tryz.prog 81 #[.slice pa ms.length cap, .int .i64 r] W (RetB (.bool x) W) by rw [hx]; exact isPiece_ok pa ms.length cap r W))
  by_cases hc : chkM ms = 0
  · rw [hc] at HC
    have hE : joiE ms p q = if isP ms p ∧ isP ms q ∧ p ≠ q then 0 else 1 := if_pos hc
    have hno : ¬(isP ms p ∧ isP ms q ∧ p ≠ q) := fun h => hn (by rw [hE, if_pos h])
    rw [hE, if_neg hno]
    clear hE hn hm hv hc
    by_cases h1 : isP ms p
    · have HI1 := Lib.hid (HIP.out p true (decide_eq_true h1).symm)
      by_cases h2 : isP ms q
      · have HI2 := Lib.hid (HIP.out q true (decide_eq_true h2).symm)
        obtain rfl : p = q := Classical.byContradiction fun h => hno ⟨h1, h2, h⟩
        have hpe : (p == p) = true := by simp
        clear hno h1 h2 HIP
        go_enter Tryz.func24, Tryz.ntmps24
        go_wp2_with fail
        refine (HC.out _ HV.out).mono ?_
        rintro e w1 ⟨rfl, hb1⟩
        go_wp2_with fail
        refine (HI1.out _).mono ?_
        rintro e w2 ⟨rfl, hb2⟩
        go_wp2_with fail
        refine (HI2.out _).mono ?_
        rintro e w3 ⟨rfl, hb3⟩
        go_wp2_with fail
        go_returns
        exact ⟨rfl, up hb3 (up hb2 hb1)⟩
      · have HI2 := Lib.hid (HIP.out q false (decide_eq_false h2).symm)
        clear hno h1 h2 HIP
        go_enter Tryz.func24, Tryz.ntmps24
        go_wp2_with fail
        refine (HC.out _ HV.out).mono ?_
        rintro e w1 ⟨rfl, hb1⟩
        go_wp2_with fail
        refine (HI1.out _).mono ?_
        rintro e w2 ⟨rfl, hb2⟩
        go_wp2_with fail
        refine (HI2.out _).mono ?_
        rintro e w3 ⟨rfl, hb3⟩
        go_wp2_with fail
        go_returns
        exact ⟨rfl, up hb3 (up hb2 hb1)⟩
    · have HI1 := Lib.hid (HIP.out p false (decide_eq_false h1).symm)
      clear hno h1 HIP
      go_enter Tryz.func24, Tryz.ntmps24
      go_wp2_with fail
      refine (HC.out _ HV.out).mono ?_
      rintro e w1 ⟨rfl, hb1⟩
      go_wp2_with fail
      refine (HI1.out _).mono ?_
      rintro e w2 ⟨rfl, hb2⟩
      go_wp2_with fail
      go_returns
      exact ⟨rfl, up hb2 hb1⟩
  · have hE : joiE ms p q = chkM ms := if_neg hc
    rw [hE]
    obtain ⟨c, hcc⟩ : ∃ c, c = chkM ms := ⟨_, rfl⟩
    rw [← hcc] at HC hc ⊢
    have hne : (c != 0) = true := by simpa using hc
    clear hE hn hm hv hcc hc
    go_enter Tryz.func24, Tryz.ntmps24
    go_wp2_with fail
    refine (HC.out _ HV.out).mono ?_
    rintro e w1 ⟨rfl, hb1⟩
    go_wp2_with fail
    go_returns
    exact ⟨rfl, hb1⟩
theorem askE_val (ms : List Sol) (p : Int) : askE ms p = if chkM ms = 0 then (if isP ms p then 0 else 1) else chkM ms := rfl
set_option maxRecDepth 100000 in
set_option maxHeartbeats 2000000 in
theorem refJoined_no (ms : List Sol) (p q : Int) (v : Value) (w : World) (hv : SolsAt w v ms) (hm : ∀ m ∈ ms, Fit m) (hn : joiE ms p q ≠ 0) :
    Calls Tryz.prog 25 #[v, .int .i64 p, .int .i64 q] w (RetB (.tuple #[.slice none 0 0, .int .i64 (joiE ms p q)]) w) := by
  have HV := Lib.hid hv
  have HA := Lib.hid (fun (r x : Int) (hx : x = askE ms r) (W : World) (h : Below w.heap.size w W) => (show Calls Tryz.prog 83 #[v, .slice none 0 0, .int .i64 r] W (RetB (.int .i64 x) W) by rw [hx]; exact asked_nil ms v r W (HV.out.below h (Nat.le_refl _)) hm))
  obtain ⟨pa, cap, rfl, _, _⟩ := hv
  by_cases hc : chkM ms = 0
  · have hE : joiE ms p q = if isP ms p ∧ isP ms q ∧ p ≠ q then 0 else 1 := if_pos hc
    have hno : ¬(isP ms p ∧ isP ms q ∧ p ≠ q) := fun h => hn (by rw [hE, if_pos h])
    have hK : ∀ r, askE ms r = if isP ms r then 0 else 1 := fun r => if_pos hc
    rw [hE, if_neg hno]
    clear hE hn hm hc
    by_cases h1 : isP ms p
    · have HI1 := Lib.hid (HA.out p 0 (by rw [hK, if_pos h1]))
      by_cases h2 : isP ms q
      · have HI2 := Lib.hid (HA.out q 0 (by rw [hK, if_pos h2]))
        obtain rfl : p = q := Classical.byContradiction fun h => hno ⟨h1, h2, h⟩
        have hpe : (p == p) = true := by simp
        clear hno h1 h2 HA hK
        go_enter Tryz.func25, Tryz.ntmps25
        go_wp2_with fail
        refine (HI1.out _ (Below.refl _ _)).mono ?_
        rintro e w1 ⟨rfl, hb1⟩
        go_wp2_with fail
        refine (HI2.out _ hb1).mono ?_
        rintro e w2 ⟨rfl, hb2⟩
        go_wp2_with fail
        go_returns
        exact ⟨rfl, up hb2 hb1⟩
      · have HI2 := Lib.hid (HA.out q 1 (by rw [hK, if_neg h2]))
        clear hno h1 h2 HA hK
        go_enter Tryz.func25, Tryz.ntmps25
        go_wp2_with fail
        refine (HI1.out _ (Below.refl _ _)).mono ?_
        rintro e w1 ⟨rfl, hb1⟩
        go_wp2_with fail
        refine (HI2.out _ hb1).mono ?_
        rintro e w2 ⟨rfl, hb2⟩
        go_wp2_with fail
        go_returns
        exact ⟨rfl, up hb2 hb1⟩
    · have HI1 := Lib.hid (HA.out p 1 (by rw [hK, if_neg h1]))
      clear hno h1 HA hK
      go_enter Tryz.func25, Tryz.ntmps25
      go_wp2_with fail
      refine (HI1.out _ (Below.refl _ _)).mono ?_
      rintro e w1 ⟨rfl, hb1⟩
      go_wp2_with fail
      go_returns
      exact ⟨rfl, hb1⟩
  · have hE : joiE ms p q = chkM ms := if_neg hc
    have HI1 := Lib.hid (HA.out p (chkM ms) (if_neg hc).symm)
    rw [hE]
    obtain ⟨c, hcc⟩ : ∃ c, c = chkM ms := ⟨_, rfl⟩
    rw [← hcc] at HI1 hc ⊢
    have hne : (c != 0) = true := by simpa using hc
    have hne2 : (c == 0) = false := by simpa using hc
    clear hE hn hm HA hcc hc
    go_enter Tryz.func25, Tryz.ntmps25
    go_wp2_with fail
    refine (HI1.out _ (Below.refl _ _)).mono ?_
    rintro e w1 ⟨rfl, hb1⟩
    go_wp2_with fail
    go_returns
    exact ⟨rfl, hb1⟩
end Go.Proofs.YtoajocgfmbakjaaGreatDoor
/-
  The reference's Joined.
-/
set_option linter.unusedVariables false
set_option linter.unusedSimpArgs false
namespace Go.Proofs.YtoajocgfmbakjaaGreatDoor
open Go Go.RowKit Go.Shelf

theorem flatS_set1 (f : Sol) (v : Nat) : ∀ (l : List Sol) (i y : Nat), i < l.length → y < 8 → (flatS (l.set i f)).set (i * 8 + y) (.int .u64 (v : Int)) = flatS (l.set i (up8 f y v))
  | [], i, y, h, _ => by simp at h
  | m :: l, 0, y, _, hy => by
    show (flatS (f :: l)).set _ _ = flatS (up8 f y v :: l)
    rw [show flatS (f :: l) = (solC f).toList ++ flatS l by simp [flatS], show flatS (up8 f y v :: l) = (solC (up8 f y v)).toList ++ flatS l by simp [flatS]]
    rcases lt8 hy with rfl | rfl | rfl | rfl | rfl | rfl | rfl | rfl <;> rfl
  | m :: l, i + 1, y, h, hy => by
    rw [List.set_cons_succ, List.set_cons_succ, show flatS (m :: l.set i f) = (solC m).toList ++ flatS (l.set i f) by simp [flatS], show flatS (m :: l.set i (up8 f y v)) = (solC m).toList ++ flatS (l.set i (up8 f y v)) by simp [flatS], ← flatS_set1 f v l i y (by simpa using h) hy]
    rw [List.set_append_right _ _ (by simp; omega)]
    congr 2
    simp
    omega
theorem own_cap {W : World} {base g n cu : Nat} {xs : List Value} (h : W.ownsRow base 25 8 (.slice (some ⟨g, 0, none⟩) n cu) n xs) : n ≤ cu ∧ cu ≤ maxLen := by
  rcases h.2 with ⟨h', _⟩ | ⟨g', cap', cur, h', hb, hg, hnc, hcm, hcs, htake⟩
  · simp at h'
  · simp only [Value.slice.injEq, Option.some.injEq, Addr.mk.injEq, and_true, true_and] at h'
    obtain ⟨rfl, rfl⟩ := h'
    exact ⟨hnc, hcm⟩
theorem own_take {W : World} {base g n cu m : Nat} {L : List Sol} (h : W.ownsRow base 25 8 (.slice (some ⟨g, 0, none⟩) n cu) n (flatS L)) (hm : m ≤ n) : W.ownsRow base 25 8 (.slice (some ⟨g, 0, none⟩) m cu) m (flatS (L.take m)) := by
  have hl := h.1
  rw [flatS_len] at hl
  have hL : L.length = n := by omega
  have e : flatS (L.take m) = (flatS L).take (m * 8) := by
    have h1 : flatS L = flatS (L.take m) ++ flatS (L.drop m) := by rw [← flatS_append, List.take_append_drop]
    have hlen : (flatS (L.take m)).length = m * 8 := by rw [flatS_len, List.length_take, Nat.min_eq_left (by omega)]
    rw [h1, ← hlen, List.take_left]
  rcases h.2 with ⟨h', _⟩ | ⟨g', cap', cur, h', hb, hg, hnc, hcm, hcs, htake⟩
  · simp at h'
  · simp only [Value.slice.injEq, Option.some.injEq, Addr.mk.injEq, and_true, true_and] at h'
    obtain ⟨rfl, rfl⟩ := h'
    refine ⟨by rw [flatS_len, List.length_take]; omega, .inr ⟨g, cu, cur, rfl, hb, hg, by omega, hcm, hcs, ?_⟩⟩
    rw [e, ← htake, List.take_take, Nat.min_eq_left (by omega)]
theorem own_drop {W : World} {base g n cu k o2 : Nat} {L : List Sol} (h : W.ownsRow base 25 8 (.slice (some ⟨g, 0, none⟩) n cu) n (flatS L)) (hL : L.length = n) (ho : n - k = 0 ∨ o2 = k * 8) (j : Nat) (u : Value) (hu : (flatS (L.drop k))[j]? = some u) : W.cell? ((⟨g, o2, none⟩ : Addr).add j) = some u := by
  have hj := (List.getElem?_eq_some_iff.1 hu).1
  rw [flatS_len, List.length_drop] at hj
  rcases ho with ho | rfl
  · omega
  · have h1 : flatS L = flatS (L.take k) ++ flatS (L.drop k) := by rw [← flatS_append, List.take_append_drop]
    have h2 := h.cells (g := g) rfl (k * 8 + j) u (by
      rw [h1, List.getElem?_append_right (by rw [flatS_len, List.length_take]; omega), ← hu]
      congr 1
      rw [flatS_len, List.length_take]
      omega)
    have e1 : (⟨g, 0, none⟩ : Addr).add (k * 8 + j) = ⟨g, k * 8 + j, none⟩ := by unfold Addr.add; split <;> simp_all
    have e2 : (⟨g, k * 8, none⟩ : Addr).add j = ⟨g, k * 8 + j, none⟩ := by unfold Addr.add; split <;> simp_all
    rw [e2, ← e1]
    exact h2
theorem erase_set (f : Sol) : ∀ (l : List Sol) (lo hi : Nat), lo < hi → (l.set lo f).eraseIdx hi = (l.eraseIdx hi).set lo f
  | [], lo, hi, _ => by simp
  | m :: l, 0, hi + 1, _ => rfl
  | m :: l, lo + 1, hi + 1, h => by
    show m :: (l.set lo f).eraseIdx hi = m :: (l.eraseIdx hi).set lo f
    rw [erase_set f l lo hi (by omega)]
set_option maxRecDepth 100000 in
set_option maxHeartbeats 4000000 in
theorem refJoined_core (ms : List Sol) (p q lo hi : Nat) (fl fh : Sol) (pa : Option Addr) (cap : Nat) (w : World) (hv : SolsAt w (.slice pa ms.length cap) ms) (hm : ∀ m ∈ ms, Fit m) (hc : chkM ms = 0) (hlo : ms[lo]? = some fl) (hhi : ms[hi]? = some fh) (hlt : lo < hi) (hpq : lo = p ∧ hi = q ∨ hi = p ∧ lo = q) (hcap : ms.length ≤ cap) (hcm : cap ≤ maxLen) :
    Calls Tryz.prog 25 #[.slice pa ms.length cap, .int .i64 p, .int .i64 q] w fun e w' => (∃ u, e = .returned (.tuple #[u, .int .i64 0]) ∧ SolsAt w' u ((ms.eraseIdx hi).set lo (joinF fl fh))) ∧ Below w.heap.size w w' := by
  have HV := Lib.hid hv
  have h12 := chkM_len hc
  have hh := (List.getElem?_eq_some_iff.1 hhi).1
  obtain ⟨b, o, cap', he, hb, _⟩ := hv.at hhi
  obtain ⟨rfl, rfl⟩ : pa = some ⟨b, o, none⟩ ∧ cap = cap' := by injection he with e1 e2 e3; exact ⟨e1, e3⟩
  have HA := Lib.hid (fun (r : Nat) (hr : r < ms.length) (W : World) (h : Below w.heap.size w W) => (show Calls Tryz.prog 83 #[.slice (some ⟨b, o, none⟩) ms.length cap, .slice none 0 0, .int .i64 r] W (RetB (.int .i64 0) W) by
    have := asked_nil ms (.slice (some ⟨b, o, none⟩) ms.length cap) r W (HV.out.below h (Nat.le_refl _)) hm
    rwa [show askE ms (r : Int) = 0 by unfold askE; rw [if_pos hc, if_pos ⟨by omega, by omega⟩]] at this))
  have hl2 : lo < ms.length := by omega
  have HN0 : Hid (∀ W, Below w.heap.size w W → ∀ j u, (flatS ms)[j]? = some u → W.cell? ((⟨b, o, none⟩ : Addr).add j) = some u) := Lib.hid fun W h j u hu =>
    part_cells (fun i m hm => (sols_cells (HV.out.below h (Nat.le_refl _)) hm).2) j u hu
  have HF1 := Lib.hid (hm fl (List.mem_of_getElem? hlo))
  have HF2 := Lib.hid (hm fh (List.mem_of_getElem? hhi))
  have hle : lo ≤ hi := by omega
  have hnle : ¬ hi ≤ lo := by omega
  have hnlt : ¬ hi < lo := by omega
  have hle2 : (lo : Int) ≤ (hi : Int) := by omega
  have hnle2 : ¬ (hi : Int) ≤ (lo : Int) := by omega
  have hne1 : ((lo : Int) == (hi : Int)) = false := by rw [beq_eq_false_iff_ne]; omega
  have hne2 : ((hi : Int) == (lo : Int)) = false := by rw [beq_eq_false_iff_ne]; omega
  have hwh : IntKind.i64.wrap ((hi : Int) + 1) = (hi : Int) + 1 := by rw [IntWalk.i64_in] <;> omega
  have hp1 : hi + 1 ≤ ms.length := by omega
  have hp3 : (hi : Int) + 1 ≤ (ms.length : Int) := by omega
  have hp4 : (0 : Int) ≤ (hi : Int) + 1 := by omega
  have hl3 : (lo : Int) < (ms.length : Int) := by omega
  have hh3 : (hi : Int) < (ms.length : Int) := by omega
  have HLO := Lib.hid hlo
  have HHI := Lib.hid hhi
  have HS0 := Lib.hid (show flatS ms = flatS (ms.set lo (mix 0 (joinF fl fh) fl)) by
    rw [mix_zero]
    congr 1
    have := (List.getElem?_eq_some_iff.1 hlo).2
    rw [← this, List.set_getElem_self])
  have HMX := Lib.hid (show flatS (ms.set lo (mix 8 (joinF fl fh) fl)) = flatS (ms.set lo (joinF fl fh)) by
    rw [flatS_set _ _ _ hl2, flatS_set _ _ _ hl2]
    unfold set8 mix
    simp)
  have HFE := Lib.hid (show flatS ((ms.eraseIdx hi).set lo (joinF fl fh)) = flatS ((ms.set lo (joinF fl fh)).take hi) ++ flatS ((ms.set lo (joinF fl fh)).drop (hi + 1)) by
    rw [← erase_set _ _ _ _ hlt, List.eraseIdx_eq_take_drop_succ, flatS_append])
  have HLE := Lib.hid (show ((ms.eraseIdx hi).set lo (joinF fl fh)).length = hi + (ms.length - (hi + 1)) by rw [List.length_set, List.length_eraseIdx, if_pos hh]; omega)
  obtain ⟨k, hk⟩ : ∃ k, ms.length = k + 1 := ⟨ms.length - 1, by omega⟩
  obtain ⟨i0, hi', hz0, hz1, hz2⟩ := info_parts info_sol
  have HK := Lib.hid hk
  unfold maxLen at hcm
  clear he hc hv hlo hhi hm hk
  rcases hpq with ⟨rfl, rfl⟩ | ⟨rfl, rfl⟩
  · go_enter Tryz.func25, Tryz.ntmps25
    go_wp2_with fail
    refine (HA.out _ (by assumption) _ (Below.refl _ _)).mono ?_
    rintro e w1 ⟨rfl, hb1⟩
    have HB1 := Lib.hid hb1
    clear hb1
    go_wp2_with fail
    refine (HA.out _ (by assumption) _ HB1.out).mono ?_
    rintro e w2 ⟨rfl, hb2⟩
    have HB2 := Lib.hid (up hb2 HB1.out)
    have hs2 := HB2.out.size
    have hnews := HN0.out _ (HB2.out.alloc hs2 (.cells #[] 25))
    have HOW : Hid ((w2.alloc (.cells #[] 25)).ownsRow w.heap.size 25 8 (.slice (some ⟨w2.heap.size, 0, none⟩) 0 0) 0 []) := Lib.hid ⟨rfl, .inr ⟨w2.heap.size, 0, #[], rfl, hs2, World.alloc_heap_new _ _, Nat.le_refl _, Nat.zero_le _, rfl, rfl⟩⟩
    clear hb2
    go_wp2_with (at_builtin; refine wpList_append_own _ rfl _ _ 22 rfl w.heap.size 25 i0 _ 8 64 under_sols hi' hz0 hz1 hz2 rfl (by decide) _ 0 [] rfl HOW.out ⟨b, o, none⟩ ms.length cap (flatS ms) rfl (flatS_len ms) hnews (flatS_one ms) (by simp only [maxLen]; omega) (by omega) (by simp; omega) ?_; intro v3 w3 hown3 hgrow3 _)
    have hb3 : Below w.heap.size w w3 := (HB2.out.alloc hs2 (.cells #[] 25)).grown hgrow3 (by simp; omega) fun j ej => by cases ej; exact hs2
    rw [Nat.zero_add, List.nil_append] at hown3
    rw [HK.out] at hown3
    obtain ⟨g, cu, rfl⟩ := ownsRow_succ hown3
    rw [← HK.out] at hown3 ⊢
    have hgw : w.heap.size ≤ g := (hown3.lt g rfl).1
    rw [HS0.out] at hown3
    clear hgrow3 hnews HOW HB1 HB2 hs2
    go_loopw [10] (fun z wr => ∃ y : Nat, y ≤ 8 ∧ z = .int .i64 y ∧ wr.ownsRow w.heap.size 25 8 (.slice (some ⟨g, 0, none⟩) ms.length cu) ms.length (flatS (ms.set lo (mix y (joinF fl fh) fl))) ∧ Below w.heap.size w wr) (fun z _ => 8 - (intOf z).toNat)
    case atStart => exact ⟨0, by omega, rfl, hown3, hb3⟩
    case round =>
      clear hown3 hb3
      obtain ⟨y, hy, rfl, hrow, hB⟩ := hrel
      by_cases hy8 : y < 8
      · have hd : decide ((y : Int) < 8) = true := decide_eq_true (by omega)
        have hyi : (y : Int) < 8 := by omega
        have hw1 : IntKind.i64.wrap ((y : Int) + 1) = (y : Int) + 1 := by rw [IntWalk.i64_in] <;> omega
        have hv4 := HV.out.below hB (Nat.le_refl _)
        have x1 := (sols_cells hv4 HLO.out).2 y hy8
        have x2 := (sols_cells hv4 HHI.out).2 y hy8
        have E2 := Lib.hid (show bits .or .u64 ((fl y : Nat) : Int) ((fh y : Nat) : Int) = ((joinF fl fh y : Nat) : Int) from bits_or (HF1.out y) (HF2.out y))
        have hst := (hrow.stored (lo * 8 + y) (.int .u64 ((joinF fl fh y : Nat) : Int))).1
        rw [flatS_set1 _ _ ms lo y hl2 hy8, mix_succ] at hst
        have HST := Lib.hid hst
        have HB2 := Lib.hid (hB.setCell (p := ⟨g, lo * 8 + y, none⟩) hgw (.int .u64 ((joinF fl fh y : Nat) : Int)))
        have cg := hrow.cells (g := g) rfl (lo * 8 + y) _ (flatS_at _ lo y _ (show (ms.set lo (mix y (joinF fl fh) fl))[lo]? = some (mix y (joinF fl fh) fl) by rw [List.getElem?_set_self hl2]) hy8)
        rw [show (⟨g, 0, none⟩ : Addr).add (lo * 8 + y) = ⟨g, lo * 8 + y, none⟩ by unfold Addr.add; split <;> simp_all] at cg
        have fg := hrow.frozenAt (lo * 8 + y)
        clear hv4 hst hrow hB
        go_wp2
        go_region
        rw [E2.out]
        have hst2 := HST.out.drew
        have hb2 := HB2.out.drew
        go_wp2
        go_roundw
        case rel => exact ⟨y + 1, by omega, by go_num, hst2, hb2⟩
        case measure => simp [intOf]; omega
      · obtain rfl : y = 8 := by omega
        have hd : decide (((8 : Nat) : Int) < 8) = false := decide_eq_false (by omega)
        rw [HMX.out] at hrow
        obtain ⟨hcu1, hcu2⟩ := own_cap hrow
        have hpc : hi ≤ cu := by omega
        have hp2 : hi + 1 ≤ cu := by omega
        obtain ⟨o2, ho2, ho3⟩ : ∃ o2, (if cu = hi + 1 then (some ⟨g, 0, none⟩ : Option Addr) else some ⟨g, (hi + 1) * 8, none⟩) = some ⟨g, o2, none⟩ ∧ (ms.length - (hi + 1) = 0 ∨ o2 = (hi + 1) * 8) := by
          by_cases hz : cu = hi + 1
          · exact ⟨0, if_pos hz, .inl (by omega)⟩
          · exact ⟨_, if_neg hz, .inr rfl⟩
        have HO2 := Lib.hid ho2
        have hpre := own_take hrow (m := hi) (by omega)
        have hnw := own_drop hrow (k := hi + 1) (o2 := o2) (by rw [List.length_set]) ho3
        have HPR := Lib.hid (show wr.drew.ownsRow w.heap.size 25 8 (.slice (some ⟨g, 0, none⟩) hi cu) hi (flatS ((ms.set lo (joinF fl fh)).take hi)) from hpre)
        have HNW := Lib.hid (show ∀ j u, (flatS ((ms.set lo (joinF fl fh)).drop (hi + 1)))[j]? = some u → wr.drew.cell? ((⟨g, o2, none⟩ : Addr).add j) = some u from hnw)
        have HBD := Lib.hid hB.drew
        have HL2 := Lib.hid (show (flatS ((ms.set lo (joinF fl fh)).drop (hi + 1))).length = (ms.length - (hi + 1)) * 8 by rw [flatS_len, List.length_drop, List.length_set])
        clear hpre hnw ho2 ho3 hrow
        go_wp2_with fail
        go_region_law (refine step_append_own rfl (.tmp 60) (.tmp 66) 22 rfl w.heap.size 25 i0 _ 8 64 under_sols hi' hz0 hz1 hz2 rfl (by decide) _ _ _ (by simp [Act.eval, Act.put]) HPR.out ⟨g, o2, none⟩ (ms.length - (hi + 1)) (cu - (hi + 1)) (flatS ((ms.set lo (joinF fl fh)).drop (hi + 1))) (by simp [Act.eval, Act.put, HO2.out]) HL2.out HNW.out (flatS_one _) (by simp only [maxLen]; omega) (by omega) HBD.out.size ?_; intro v5 w5 hown5 hgrow5)
        all_goals go_wp2_with fail
        all_goals
          go_returns
          refine ⟨⟨v5, rfl, solsAt_own (base := w.heap.size) ?_ ?_⟩, HBD.out.grown hgrow5 HBD.out.size fun j ej => (HPR.out.lt j ej).1⟩
          · rw [HFE.out, HLE.out]; exact hown5
          · rw [HLE.out]; unfold maxLen; omega
  · go_enter Tryz.func25, Tryz.ntmps25
    go_wp2_with fail
    refine (HA.out _ (by assumption) _ (Below.refl _ _)).mono ?_
    rintro e w1 ⟨rfl, hb1⟩
    have HB1 := Lib.hid hb1
    clear hb1
    go_wp2_with fail
    refine (HA.out _ (by assumption) _ HB1.out).mono ?_
    rintro e w2 ⟨rfl, hb2⟩
    have HB2 := Lib.hid (up hb2 HB1.out)
    have hs2 := HB2.out.size
    have hnews := HN0.out _ (HB2.out.alloc hs2 (.cells #[] 25))
    have HOW : Hid ((w2.alloc (.cells #[] 25)).ownsRow w.heap.size 25 8 (.slice (some ⟨w2.heap.size, 0, none⟩) 0 0) 0 []) := Lib.hid ⟨rfl, .inr ⟨w2.heap.size, 0, #[], rfl, hs2, World.alloc_heap_new _ _, Nat.le_refl _, Nat.zero_le _, rfl, rfl⟩⟩
    clear hb2
    go_wp2_with (at_builtin; refine wpList_append_own _ rfl _ _ 22 rfl w.heap.size 25 i0 _ 8 64 under_sols hi' hz0 hz1 hz2 rfl (by decide) _ 0 [] rfl HOW.out ⟨b, o, none⟩ ms.length cap (flatS ms) rfl (flatS_len ms) hnews (flatS_one ms) (by simp only [maxLen]; omega) (by omega) (by simp; omega) ?_; intro v3 w3 hown3 hgrow3 _)
    have hb3 : Below w.heap.size w w3 := (HB2.out.alloc hs2 (.cells #[] 25)).grown hgrow3 (by simp; omega) fun j ej => by cases ej; exact hs2
    rw [Nat.zero_add, List.nil_append] at hown3
    rw [HK.out] at hown3
    obtain ⟨g, cu, rfl⟩ := ownsRow_succ hown3
    rw [← HK.out] at hown3 ⊢
    have hgw : w.heap.size ≤ g := (hown3.lt g rfl).1
    rw [HS0.out] at hown3
    clear hgrow3 hnews HOW HB1 HB2 hs2
    go_loopw [10] (fun z wr => ∃ y : Nat, y ≤ 8 ∧ z = .int .i64 y ∧ wr.ownsRow w.heap.size 25 8 (.slice (some ⟨g, 0, none⟩) ms.length cu) ms.length (flatS (ms.set lo (mix y (joinF fl fh) fl))) ∧ Below w.heap.size w wr) (fun z _ => 8 - (intOf z).toNat)
    case atStart => exact ⟨0, by omega, rfl, hown3, hb3⟩
    case round =>
      clear hown3 hb3
      obtain ⟨y, hy, rfl, hrow, hB⟩ := hrel
      by_cases hy8 : y < 8
      · have hd : decide ((y : Int) < 8) = true := decide_eq_true (by omega)
        have hyi : (y : Int) < 8 := by omega
        have hw1 : IntKind.i64.wrap ((y : Int) + 1) = (y : Int) + 1 := by rw [IntWalk.i64_in] <;> omega
        have hv4 := HV.out.below hB (Nat.le_refl _)
        have x1 := (sols_cells hv4 HLO.out).2 y hy8
        have x2 := (sols_cells hv4 HHI.out).2 y hy8
        have E2 := Lib.hid (show bits .or .u64 ((fh y : Nat) : Int) ((fl y : Nat) : Int) = ((joinF fl fh y : Nat) : Int) by rw [bits_or (HF2.out y) (HF1.out y), Nat.or_comm]; rfl)
        have hst := (hrow.stored (lo * 8 + y) (.int .u64 ((joinF fl fh y : Nat) : Int))).1
        rw [flatS_set1 _ _ ms lo y hl2 hy8, mix_succ] at hst
        have HST := Lib.hid hst
        have HB2 := Lib.hid (hB.setCell (p := ⟨g, lo * 8 + y, none⟩) hgw (.int .u64 ((joinF fl fh y : Nat) : Int)))
        have cg := hrow.cells (g := g) rfl (lo * 8 + y) _ (flatS_at _ lo y _ (show (ms.set lo (mix y (joinF fl fh) fl))[lo]? = some (mix y (joinF fl fh) fl) by rw [List.getElem?_set_self hl2]) hy8)
        rw [show (⟨g, 0, none⟩ : Addr).add (lo * 8 + y) = ⟨g, lo * 8 + y, none⟩ by unfold Addr.add; split <;> simp_all] at cg
        have fg := hrow.frozenAt (lo * 8 + y)
        clear hv4 hst hrow hB
        go_wp2
        go_region
        rw [E2.out]
        have hst2 := HST.out.drew
        have hb2 := HB2.out.drew
        go_wp2
        go_roundw
        case rel => exact ⟨y + 1, by omega, by go_num, hst2, hb2⟩
        case measure => simp [intOf]; omega
      · obtain rfl : y = 8 := by omega
        have hd : decide (((8 : Nat) : Int) < 8) = false := decide_eq_false (by omega)
        rw [HMX.out] at hrow
        obtain ⟨hcu1, hcu2⟩ := own_cap hrow
        have hpc : hi ≤ cu := by omega
        have hp2 : hi + 1 ≤ cu := by omega
        obtain ⟨o2, ho2, ho3⟩ : ∃ o2, (if cu = hi + 1 then (some ⟨g, 0, none⟩ : Option Addr) else some ⟨g, (hi + 1) * 8, none⟩) = some ⟨g, o2, none⟩ ∧ (ms.length - (hi + 1) = 0 ∨ o2 = (hi + 1) * 8) := by
          by_cases hz : cu = hi + 1
          · exact ⟨0, if_pos hz, .inl (by omega)⟩
          · exact ⟨_, if_neg hz, .inr rfl⟩
        have HO2 := Lib.hid ho2
        have hpre := own_take hrow (m := hi) (by omega)
        have hnw := own_drop hrow (k := hi + 1) (o2 := o2) (by rw [List.length_set]) ho3
        have HPR := Lib.hid (show wr.drew.ownsRow w.heap.size 25 8 (.slice (some ⟨g, 0, none⟩) hi cu) hi (flatS ((ms.set lo (joinF fl fh)).take hi)) from hpre)
        have HNW := Lib.hid (show ∀ j u, (flatS ((ms.set lo (joinF fl fh)).drop (hi + 1)))[j]? = some u → wr.drew.cell? ((⟨g, o2, none⟩ : Addr).add j) = some u from hnw)
        have HBD := Lib.hid hB.drew
        have HL2 := Lib.hid (show (flatS ((ms.set lo (joinF fl fh)).drop (hi + 1))).length = (ms.length - (hi + 1)) * 8 by rw [flatS_len, List.length_drop, List.length_set])
        clear hpre hnw ho2 ho3 hrow
        go_wp2_with fail
        go_region_law (refine step_append_own rfl (.tmp 60) (.tmp 66) 22 rfl w.heap.size 25 i0 _ 8 64 under_sols hi' hz0 hz1 hz2 rfl (by decide) _ _ _ (by simp [Act.eval, Act.put]) HPR.out ⟨g, o2, none⟩ (ms.length - (hi + 1)) (cu - (hi + 1)) (flatS ((ms.set lo (joinF fl fh)).drop (hi + 1))) (by simp [Act.eval, Act.put, HO2.out]) HL2.out HNW.out (flatS_one _) (by simp only [maxLen]; omega) (by omega) HBD.out.size ?_; intro v5 w5 hown5 hgrow5)
        all_goals go_wp2_with fail
        all_goals
          go_returns
          refine ⟨⟨v5, rfl, solsAt_own (base := w.heap.size) ?_ ?_⟩, HBD.out.grown hgrow5 HBD.out.size fun j ej => (HPR.out.lt j ej).1⟩
          · rw [HFE.out, HLE.out]; exact hown5
          · rw [HLE.out]; unfold maxLen; omega
end Go.Proofs.YtoajocgfmbakjaaGreatDoor
/-
  DrawMoulds.
-/
set_option linter.unusedVariables false
set_option linter.unusedSimpArgs false
namespace Go.Proofs.YtoajocgfmbakjaaGreatDoor
open Go Go.RowKit Go.Shelf

set_option maxRecDepth 100000 in
set_option maxHeartbeats 4000000 in
theorem moulds_core (ms lw lj : List Sol) (p q c ew ej ue : Int) (s A U : Sol) (v : Value) (w : World) (hv : SolsAt w v ms) (hT : Tab32 w) (h64 : Tab64 w)
    (HSd : ∀ W, SolsAt W v ms → Calls Tryz.prog 20 #[v] W (RetB (.tuple #[sol A, .int .i64 c]) W))
    (HSr : ∀ W, SolsAt W v ms → Calls Tryz.prog 21 #[v] W (RetB (.tuple #[sol A, .int .i64 c]) W))
    (HWd : ∀ W, SolsAt W v ms → Calls Tryz.prog 22 #[v, .int .i64 p] W fun e w' => (∃ u, e = .returned (.tuple #[u, .int .i64 ew]) ∧ SolsAt w' u lw) ∧ Below W.heap.size W w')
    (HWr : ∀ W, SolsAt W v ms → Calls Tryz.prog 23 #[v, .int .i64 p] W fun e w' => (∃ u, e = .returned (.tuple #[u, .int .i64 ew]) ∧ SolsAt w' u lw) ∧ Below W.heap.size W w')
    (HJd : ∀ W, SolsAt W v ms → Calls Tryz.prog 24 #[v, .int .i64 p, .int .i64 q] W fun e w' => (∃ u, e = .returned (.tuple #[u, .int .i64 ej]) ∧ SolsAt w' u lj) ∧ Below W.heap.size W w')
    (HJr : ∀ W, SolsAt W v ms → Calls Tryz.prog 25 #[v, .int .i64 p, .int .i64 q] W fun e w' => (∃ u, e = .returned (.tuple #[u, .int .i64 ej]) ∧ SolsAt w' u lj) ∧ Below W.heap.size W w')
    (HUd : ∀ W, Calls Tryz.prog 26 #[sol s] W (RetB (.tuple #[sol U, .int .i64 ue]) W))
    (HUr : ∀ W, Calls Tryz.prog 27 #[sol s] W (RetB (.tuple #[sol U, .int .i64 ue]) W))
    (HCd : ∀ W, SolsAt W v ms → Calls Tryz.prog 28 #[v] W (RetB (.int .i64 c) W))
    (HCr : ∀ W, SolsAt W v ms → Calls Tryz.prog 29 #[v] W (RetB (.int .i64 c) W)) :
    Calls Tryz.prog 3 #[v, .int .i64 p, .int .i64 q, sol s] w (RetB (.bool true) w) := by
  have HT := Lib.hid hT
  have H6 := Lib.hid h64
  have HV := Lib.hid hv
  have HSd := Lib.hid HSd
  have HSr := Lib.hid HSr
  have HWd := Lib.hid HWd
  have HWr := Lib.hid HWr
  have HJd := Lib.hid HJd
  have HJr := Lib.hid HJr
  have HUd := Lib.hid HUd
  have HUr := Lib.hid HUr
  have HCd := Lib.hid HCd
  have HCr := Lib.hid HCr
  obtain ⟨pa, ca, rfl, hma, _⟩ := hv
  obtain ⟨fw, hfw⟩ : ∃ fw, fw = decide ((ms.length : Int) ≤ 12 ∨ 12 < (ms.length : Int) ∧ (ms.length : Int) ≤ 15) := ⟨_, rfl⟩
  have HF := Lib.hid (fun W => few_ok pa ms.length ca 12 W)
  rw [← hfw] at HF
  obtain ⟨B, hBB⟩ : ∃ B, B = w.heap.size := ⟨_, rfl⟩
  obtain ⟨W0, hW0⟩ : ∃ W0, W0 = w.alloc (.cells #[.int .u64 ((s 0 : Nat) : Int), .int .u64 ((s 1 : Nat) : Int), .int .u64 ((s 2 : Nat) : Int), .int .u64 ((s 3 : Nat) : Int), .int .u64 ((s 4 : Nat) : Int), .int .u64 ((s 5 : Nat) : Int), .int .u64 ((s 6 : Nat) : Int), .int .u64 ((s 7 : Nat) : Int)] 25) := ⟨_, rfl⟩
  have k0 : BoxS W0 B s := by rw [hW0, hBB]; exact BoxK.new _ w s
  have hB0 : Below w.heap.size w W0 := by rw [hW0]; exact (Below.refl _ w).alloc (Nat.le_refl _) _
  have HBE := Lib.hid hBB
  have HB0 := Lib.hid hB0
  have hec : (c == c) = true := by simp
  have hew : (ew == ew) = true := by simp
  have hej : (ej == ej) = true := by simp
  have heu : (ue == ue) = true := by simp
  have hEA := eqS_self A
  have hEU := eqS_self U
  clear hfw hT h64 hBB hB0
  go_enter Tryz.func3, Tryz.ntmps3
  go_upto_region 1 with fail
  rw [← hW0, ← HBE.out]
  clear hW0
  cases fw with
  | false =>
    go_wp2_with fail
    refine (HF.out _).mono ?_
    rintro e w1 ⟨rfl, hb1⟩
    have HB1 := Lib.hid (up hb1 HB0.out)
    go_wp2_with fail
    refine (cast_ok _ (HT.out.below HB1.out (Nat.le_refl _)) (H6.out.below HB1.out (Nat.le_refl _))).mono ?_
    rintro e w4 ⟨rfl, hb4⟩
    go_wp2_with fail
    go_ret
    exact ⟨rfl, up hb4 HB1.out⟩
  | true =>
    go_wp2_with fail
    refine (HF.out _).mono ?_
    rintro e w1 ⟨rfl, hb1⟩
    have HB1 := Lib.hid (up hb1 HB0.out)
    have k1 := k0.below hb1 k0.lt
    clear hb1 k0
    go_wp2_with fail
    refine (HSd.out _ (HV.out.below HB1.out (Nat.le_refl _))).mono ?_
    rintro e w2 ⟨rfl, hb2⟩
    have HB2 := Lib.hid (up hb2 HB1.out)
    have k2 := k1.below hb2 k1.lt
    obtain ⟨G1, hG1⟩ : ∃ G, G = w2.heap.size := ⟨_, rfl⟩
    obtain ⟨W3, hW3⟩ : ∃ W3, W3 = w2.alloc (.cells #[.int .u64 ((A 0 : Nat) : Int), .int .u64 ((A 1 : Nat) : Int), .int .u64 ((A 2 : Nat) : Int), .int .u64 ((A 3 : Nat) : Int), .int .u64 ((A 4 : Nat) : Int), .int .u64 ((A 5 : Nat) : Int), .int .u64 ((A 6 : Nat) : Int), .int .u64 ((A 7 : Nat) : Int)] 25) := ⟨_, rfl⟩
    have a3 : BoxS W3 G1 A := by rw [hW3, hG1]; exact BoxK.new _ w2 A
    have k3 : BoxS W3 B s := by rw [hW3]; exact k2.alloc _
    have HB3 : Hid (Below w.heap.size w W3) := Lib.hid (by rw [hW3]; exact HB2.out.alloc HB2.out.size _)
    have HG1 := Lib.hid hG1
    clear hb2 k1 k2 hG1 HB1
    go_upto_region 4 with fail
    rw [← hW3, ← HG1.out]
    clear hW3
    go_wp2_with fail
    refine (HSr.out _ (HV.out.below HB3.out (Nat.le_refl _))).mono ?_
    rintro e w4 ⟨rfl, hb4⟩
    have HB4 := Lib.hid (up hb4 HB3.out)
    have k4 := k3.below hb4 k3.lt
    have a4 := a3.below hb4 a3.lt
    obtain ⟨G2, hG2⟩ : ∃ G, G = w4.heap.size := ⟨_, rfl⟩
    obtain ⟨W5, hW5⟩ : ∃ W5, W5 = w4.alloc (.cells #[.int .u64 ((A 0 : Nat) : Int), .int .u64 ((A 1 : Nat) : Int), .int .u64 ((A 2 : Nat) : Int), .int .u64 ((A 3 : Nat) : Int), .int .u64 ((A 4 : Nat) : Int), .int .u64 ((A 5 : Nat) : Int), .int .u64 ((A 6 : Nat) : Int), .int .u64 ((A 7 : Nat) : Int)] 25) := ⟨_, rfl⟩
    have b5 : BoxS W5 G2 A := by rw [hW5, hG2]; exact BoxK.new _ w4 A
    have a5 : BoxS W5 G1 A := by rw [hW5]; exact a4.alloc _
    have k5 : BoxS W5 B s := by rw [hW5]; exact k4.alloc _
    have HB5 : Hid (Below w.heap.size w W5) := Lib.hid (by rw [hW5]; exact HB4.out.alloc HB4.out.size _)
    have HG2 := Lib.hid hG2
    clear hb4 k3 a3 k4 a4 hG2 HB2 HB3 HB4
    go_upto_region 5 with fail
    rw [← hW5, ← HG2.out]
    clear hW5
    go_wp2_with fail
    refine (HWd.out _ (HV.out.below HB5.out (Nat.le_refl _))).mono ?_
    rintro e w6 ⟨⟨x, rfl, hx⟩, hb6⟩
    have HB6 := Lib.hid (up hb6 HB5.out)
    have k6 := k5.below hb6 k5.lt
    have a6 := a5.below hb6 a5.lt
    have b6 := b5.below hb6 b5.lt
    have HX6 := Lib.hid hx
    clear hb6 k5 a5 b5 hx HB5
    go_wp2_with fail
    refine (HWr.out _ (HV.out.below HB6.out (Nat.le_refl _))).mono ?_
    rintro e w7 ⟨⟨y, rfl, hy⟩, hb7⟩
    have HB7 := Lib.hid (up hb7 HB6.out)
    have k7 := k6.below hb7 k6.lt
    have a7 := a6.below hb7 a6.lt
    have b7 := b6.below hb7 b6.lt
    have HX7 := Lib.hid (HX6.out.below hb7 (Nat.le_refl _))
    have HY7 := Lib.hid hy
    clear hb7 k6 a6 b6 hy HX6 HB6
    go_wp2_with fail
    refine (HJd.out _ (HV.out.below HB7.out (Nat.le_refl _))).mono ?_
    rintro e w8 ⟨⟨m, rfl, hm⟩, hb8⟩
    have HB8 := Lib.hid (up hb8 HB7.out)
    have k8 := k7.below hb8 k7.lt
    have a8 := a7.below hb8 a7.lt
    have b8 := b7.below hb8 b7.lt
    have HX8 := Lib.hid (HX7.out.below hb8 (Nat.le_refl _))
    have HY8 := Lib.hid (HY7.out.below hb8 (Nat.le_refl _))
    have HM8 := Lib.hid hm
    clear hb8 k7 a7 b7 hm HX7 HY7 HB7
    go_wp2_with fail
    refine (HJr.out _ (HV.out.below HB8.out (Nat.le_refl _))).mono ?_
    rintro e w9 ⟨⟨n, rfl, hn⟩, hb9⟩
    have HB9 := Lib.hid (up hb9 HB8.out)
    have k9 := k8.below hb9 k8.lt
    have a9 := a8.below hb9 a8.lt
    have b9 := b8.below hb9 b8.lt
    have HX9 := Lib.hid (HX8.out.below hb9 (Nat.le_refl _))
    have HY9 := Lib.hid (HY8.out.below hb9 (Nat.le_refl _))
    have HM9 := Lib.hid (HM8.out.below hb9 (Nat.le_refl _))
    have HN9 := Lib.hid hn
    clear hb9 k8 a8 b8 hn HX8 HY8 HM8 HB8
    have d0 := (k9).cell (k := 0) (by omega); have d1 := (k9).cell (k := 1) (by omega); have d2 := (k9).cell (k := 2) (by omega); have d3 := (k9).cell (k := 3) (by omega); have d4 := (k9).cell (k := 4) (by omega); have d5 := (k9).cell (k := 5) (by omega); have d6 := (k9).cell (k := 6) (by omega); have d7 := (k9).cell (k := 7) (by omega)
    go_wp2_with fail
    refine (HUd.out _).mono ?_
    rintro e w10 ⟨rfl, hb10⟩
    have HB10 := Lib.hid (up hb10 HB9.out)
    have k10 := k9.below hb10 k9.lt
    have a10 := a9.below hb10 a9.lt
    have b10 := b9.below hb10 b9.lt
    have HX10 := Lib.hid (HX9.out.below hb10 (Nat.le_refl _))
    have HY10 := Lib.hid (HY9.out.below hb10 (Nat.le_refl _))
    have HM10 := Lib.hid (HM9.out.below hb10 (Nat.le_refl _))
    have HN10 := Lib.hid (HN9.out.below hb10 (Nat.le_refl _))
    obtain ⟨G3, hG3⟩ : ∃ G, G = w10.heap.size := ⟨_, rfl⟩
    obtain ⟨W11, hW11⟩ : ∃ W, W = w10.alloc (.cells #[.int .u64 ((U 0 : Nat) : Int), .int .u64 ((U 1 : Nat) : Int), .int .u64 ((U 2 : Nat) : Int), .int .u64 ((U 3 : Nat) : Int), .int .u64 ((U 4 : Nat) : Int), .int .u64 ((U 5 : Nat) : Int), .int .u64 ((U 6 : Nat) : Int), .int .u64 ((U 7 : Nat) : Int)] 25) := ⟨_, rfl⟩
    have u11 : BoxS W11 G3 U := by rw [hW11, hG3]; exact BoxK.new _ w10 U
    have a11 : BoxS W11 G1 A := by rw [hW11]; exact a10.alloc _
    have b11 : BoxS W11 G2 A := by rw [hW11]; exact b10.alloc _
    have k11 : BoxS W11 B s := by rw [hW11]; exact k10.alloc _
    have hbb : Below w10.heap.size w10 W11 := by rw [hW11]; exact (Below.refl _ _).alloc (Nat.le_refl _) _
    have HB11 := Lib.hid (up hbb HB10.out)
    have HX11 := Lib.hid (HX10.out.below hbb (Nat.le_refl _))
    have HY11 := Lib.hid (HY10.out.below hbb (Nat.le_refl _))
    have HM11 := Lib.hid (HM10.out.below hbb (Nat.le_refl _))
    have HN11 := Lib.hid (HN10.out.below hbb (Nat.le_refl _))
    have HG3 := Lib.hid hG3
    clear hb10 k9 a9 b9 k10 a10 b10 hG3 hbb HX9 HY9 HM9 HN9 HX10 HY10 HM10 HN10 HB9 HB10 d0 d1 d2 d3 d4 d5 d6 d7
    go_upto_region 10 with fail
    rw [← hW11, ← HG3.out]
    clear hW11
    have d0 := (k11).cell (k := 0) (by omega); have d1 := (k11).cell (k := 1) (by omega); have d2 := (k11).cell (k := 2) (by omega); have d3 := (k11).cell (k := 3) (by omega); have d4 := (k11).cell (k := 4) (by omega); have d5 := (k11).cell (k := 5) (by omega); have d6 := (k11).cell (k := 6) (by omega); have d7 := (k11).cell (k := 7) (by omega)
    go_wp2_with fail
    refine (HUr.out _).mono ?_
    rintro e w12 ⟨rfl, hb12⟩
    have HB12 := Lib.hid (up hb12 HB11.out)
    have a12 := a11.below hb12 a11.lt
    have b12 := b11.below hb12 b11.lt
    have u12 := u11.below hb12 u11.lt
    have HX12 := Lib.hid (HX11.out.below hb12 (Nat.le_refl _))
    have HY12 := Lib.hid (HY11.out.below hb12 (Nat.le_refl _))
    have HM12 := Lib.hid (HM11.out.below hb12 (Nat.le_refl _))
    have HN12 := Lib.hid (HN11.out.below hb12 (Nat.le_refl _))
    obtain ⟨G4, hG4⟩ : ∃ G, G = w12.heap.size := ⟨_, rfl⟩
    obtain ⟨W13, hW13⟩ : ∃ W, W = w12.alloc (.cells #[.int .u64 ((U 0 : Nat) : Int), .int .u64 ((U 1 : Nat) : Int), .int .u64 ((U 2 : Nat) : Int), .int .u64 ((U 3 : Nat) : Int), .int .u64 ((U 4 : Nat) : Int), .int .u64 ((U 5 : Nat) : Int), .int .u64 ((U 6 : Nat) : Int), .int .u64 ((U 7 : Nat) : Int)] 25) := ⟨_, rfl⟩
    have r13 : BoxS W13 G4 U := by rw [hW13, hG4]; exact BoxK.new _ w12 U
    have a13 : BoxS W13 G1 A := by rw [hW13]; exact a12.alloc _
    have b13 : BoxS W13 G2 A := by rw [hW13]; exact b12.alloc _
    have u13 : BoxS W13 G3 U := by rw [hW13]; exact u12.alloc _
    have hbb : Below w12.heap.size w12 W13 := by rw [hW13]; exact (Below.refl _ _).alloc (Nat.le_refl _) _
    have HB13 := Lib.hid (up hbb HB12.out)
    have HX13 := Lib.hid (HX12.out.below hbb (Nat.le_refl _))
    have HY13 := Lib.hid (HY12.out.below hbb (Nat.le_refl _))
    have HM13 := Lib.hid (HM12.out.below hbb (Nat.le_refl _))
    have HN13 := Lib.hid (HN12.out.below hbb (Nat.le_refl _))
    have HG4 := Lib.hid hG4
    clear hb12 k11 a11 b11 u11 a12 b12 u12 hG4 hbb HX11 HY11 HM11 HN11 HX12 HY12 HM12 HN12 HB11 HB12 d0 d1 d2 d3 d4 d5 d6 d7
    go_upto_region 11 with fail
    rw [← hW13, ← HG4.out]
    clear hW13
    go_wp2_with fail
    refine (cast_ok _ (HT.out.below HB13.out (Nat.le_refl _)) (H6.out.below HB13.out (Nat.le_refl _))).mono ?_
    rintro e w14 ⟨rfl, hb14⟩
    have HB14 := Lib.hid (up hb14 HB13.out)
    go_wp2_with fail
    refine (HCd.out _ (HV.out.below HB14.out (Nat.le_refl _))).mono ?_
    rintro e w15 ⟨rfl, hb15⟩
    have HB15 := Lib.hid (up hb15 HB14.out)
    go_wp2_with fail
    refine (HCr.out _ (HV.out.below HB15.out (Nat.le_refl _))).mono ?_
    rintro e w16 ⟨rfl, hb16⟩
    have hbA := up hb16 (up hb15 hb14)
    have HB16 := Lib.hid (up hbA HB13.out)
    have a16 := a13.below hbA a13.lt
    have b16 := b13.below hbA b13.lt
    have u16 := u13.below hbA u13.lt
    have r16 := r13.below hbA r13.lt
    have HX16 := Lib.hid (HX13.out.below hbA (Nat.le_refl _))
    have HY16 := Lib.hid (HY13.out.below hbA (Nat.le_refl _))
    have HM16 := Lib.hid (HM13.out.below hbA (Nat.le_refl _))
    have HN16 := Lib.hid (HN13.out.below hbA (Nat.le_refl _))
    clear hb14 hb15 hb16 hbA a13 b13 u13 r13 HX13 HY13 HM13 HN13 HB13 HB14 HB15
    have d0 := (a16).cell (k := 0) (by omega); have d1 := (a16).cell (k := 1) (by omega); have d2 := (a16).cell (k := 2) (by omega); have d3 := (a16).cell (k := 3) (by omega); have d4 := (a16).cell (k := 4) (by omega); have d5 := (a16).cell (k := 5) (by omega); have d6 := (a16).cell (k := 6) (by omega); have d7 := (a16).cell (k := 7) (by omega)
    have g0 := (b16).cell (k := 0) (by omega); have g1 := (b16).cell (k := 1) (by omega); have g2 := (b16).cell (k := 2) (by omega); have g3 := (b16).cell (k := 3) (by omega); have g4 := (b16).cell (k := 4) (by omega); have g5 := (b16).cell (k := 5) (by omega); have g6 := (b16).cell (k := 6) (by omega); have g7 := (b16).cell (k := 7) (by omega)
    go_wp2_with fail
    refine (sameSols_ok lw _ _ _ HX16.out HY16.out).mono ?_
    rintro e w17 ⟨rfl, hb17⟩
    have HB17 := Lib.hid (up hb17 HB16.out)
    have u17 := u16.below hb17 u16.lt
    have r17 := r16.below hb17 r16.lt
    have HM17 := Lib.hid (HM16.out.below hb17 (Nat.le_refl _))
    have HN17 := Lib.hid (HN16.out.below hb17 (Nat.le_refl _))
    clear d0 d1 d2 d3 d4 d5 d6 d7 g0 g1 g2 g3 g4 g5 g6 g7 hb17 u16 r16 a16 b16 HX16 HY16 HM16 HN16 HB16
    go_wp2_with fail
    refine (sameSols_ok lj _ _ _ HM17.out HN17.out).mono ?_
    rintro e w18 ⟨rfl, hb18⟩
    have HB18 := Lib.hid (up hb18 HB17.out)
    have u18 := u17.below hb18 u17.lt
    have r18 := r17.below hb18 r17.lt
    clear hb18 u17 r17 HM17 HN17 HB17
    have d0 := (u18).cell (k := 0) (by omega); have d1 := (u18).cell (k := 1) (by omega); have d2 := (u18).cell (k := 2) (by omega); have d3 := (u18).cell (k := 3) (by omega); have d4 := (u18).cell (k := 4) (by omega); have d5 := (u18).cell (k := 5) (by omega); have d6 := (u18).cell (k := 6) (by omega); have d7 := (u18).cell (k := 7) (by omega)
    have g0 := (r18).cell (k := 0) (by omega); have g1 := (r18).cell (k := 1) (by omega); have g2 := (r18).cell (k := 2) (by omega); have g3 := (r18).cell (k := 3) (by omega); have g4 := (r18).cell (k := 4) (by omega); have g5 := (r18).cell (k := 5) (by omega); have g6 := (r18).cell (k := 6) (by omega); have g7 := (r18).cell (k := 7) (by omega)
    go_wp2_with fail
    go_ret
    exact ⟨rfl, HB18.out⟩
theorem sols_nil (W : World) : SolsAt W (.slice none 0 0) [] := ⟨none, 0, rfl, by simp, .inl rfl⟩
theorem moulds_walk (ms : List Sol) (p q : Int) (s : Sol) (v : Value) (w : World) (hv : SolsAt w v ms) (hm : ∀ m ∈ ms, Fit m) (hcap : ∀ pa n c, v = .slice pa n c → n ≤ c ∧ c ≤ maxLen) (hs : Fit s) (hT : Tab32 w) (h64 : Tab64 w) :
    Calls Tryz.prog 3 #[v, .int .i64 p, .int .i64 q, sol s] w (RetB (.bool true) w) := by
  obtain ⟨pa, cap, e, _, _⟩ := id hv
  obtain ⟨hc1, hc2⟩ := hcap _ _ _ e
  subst e
  obtain ⟨lw, hwd, hwr⟩ : ∃ lw : List Sol, (∀ W, SolsAt W (.slice pa ms.length cap) ms → Calls Tryz.prog 22 #[.slice pa ms.length cap, .int .i64 p] W fun e w' => (∃ u, e = .returned (.tuple #[u, .int .i64 (askE ms p)]) ∧ SolsAt w' u lw) ∧ Below W.heap.size W w') ∧
      (∀ W, SolsAt W (.slice pa ms.length cap) ms → Calls Tryz.prog 23 #[.slice pa ms.length cap, .int .i64 p] W fun e w' => (∃ u, e = .returned (.tuple #[u, .int .i64 (askE ms p)]) ∧ SolsAt w' u lw) ∧ Below W.heap.size W w') := by
    by_cases h : chkM ms = 0 ∧ 0 ≤ p ∧ p < ms.length
    · obtain ⟨hc, h0, h1⟩ := h
      obtain ⟨r, rfl⟩ : ∃ r : Nat, p = r := ⟨p.toNat, by omega⟩
      have hE : askE ms (r : Int) = 0 := by unfold askE; rw [if_pos hc, if_pos ⟨h0, h1⟩]
      have hl : (ms.eraseIdx r).length ≤ maxLen := by have := chkM_len hc; rw [List.length_eraseIdx]; unfold maxLen; split <;> omega
      refine ⟨ms.eraseIdx r, fun W hv => (without_yes ms r pa cap W hv hm hc (by omega) hc1 hc2).mono ?_, fun W hv => (refWithout_yes ms r pa cap W hv hm hc (by omega) hc1 hc2).mono ?_⟩
      · rintro e w' ⟨⟨u, rfl, hrow⟩, hb⟩
        exact ⟨⟨u, by rw [hE], solsAt_own hrow hl⟩, hb⟩
      · rintro e w' ⟨⟨u, rfl, hrow⟩, hb⟩
        exact ⟨⟨u, by rw [hE], solsAt_own hrow hl⟩, hb⟩
    · have hE : askE ms p = if chkM ms = 0 then 1 else chkM ms := by
        unfold askE
        by_cases hc : chkM ms = 0
        · rw [if_pos hc, if_pos hc, if_neg fun k => h ⟨hc, k⟩]
        · rw [if_neg hc, if_neg hc]
      have hne : askE ms p ≠ 0 := by rw [hE]; split <;> omega
      refine ⟨[], fun W hv => (without_no ms p pa cap W hv hm h).mono ?_, fun W hv => (refWithout_no ms p _ W hv hm hne).mono ?_⟩
      · rintro e w' ⟨rfl, hb⟩
        exact ⟨⟨_, by rw [hE], sols_nil _⟩, hb⟩
      · rintro e w' ⟨rfl, hb⟩
        exact ⟨⟨_, rfl, sols_nil _⟩, hb⟩
  obtain ⟨lj, hjd, hjr⟩ : ∃ lj : List Sol, (∀ W, SolsAt W (.slice pa ms.length cap) ms → Calls Tryz.prog 24 #[.slice pa ms.length cap, .int .i64 p, .int .i64 q] W fun e w' => (∃ u, e = .returned (.tuple #[u, .int .i64 (joiE ms p q)]) ∧ SolsAt w' u lj) ∧ Below W.heap.size W w') ∧
      (∀ W, SolsAt W (.slice pa ms.length cap) ms → Calls Tryz.prog 25 #[.slice pa ms.length cap, .int .i64 p, .int .i64 q] W fun e w' => (∃ u, e = .returned (.tuple #[u, .int .i64 (joiE ms p q)]) ∧ SolsAt w' u lj) ∧ Below W.heap.size W w') := by
    by_cases hE : joiE ms p q = 0
    · have hc : chkM ms = 0 := by
        unfold joiE at hE
        by_cases hc : chkM ms = 0
        · exact hc
        · rw [if_neg hc] at hE; exact hE
      obtain ⟨h1, h2, h3⟩ : isP ms p ∧ isP ms q ∧ p ≠ q := by
        unfold joiE at hE
        rw [if_pos hc] at hE
        split at hE
        · assumption
        · cases hE
      obtain ⟨a, rfl⟩ : ∃ r : Nat, p = r := ⟨p.toNat, by have := h1.1; omega⟩
      obtain ⟨b, rfl⟩ : ∃ r : Nat, q = r := ⟨q.toNat, by have := h2.1; omega⟩
      have ha : a < ms.length := by have := h1.2; omega
      have hb : b < ms.length := by have := h2.2; omega
      rw [hE]
      rcases Nat.lt_or_ge a b with hab | hab
      · obtain ⟨fa, hfa⟩ : ∃ f, ms[a]? = some f := ⟨_, List.getElem?_eq_getElem ha⟩
        obtain ⟨fb, hfb⟩ : ∃ f, ms[b]? = some f := ⟨_, List.getElem?_eq_getElem hb⟩
        exact ⟨_, fun W hv => joined_core ms a b a b fa fb pa cap W hv hm hc hfa hfb hab (.inl ⟨rfl, rfl⟩) hc1 hc2, fun W hv => refJoined_core ms a b a b fa fb pa cap W hv hm hc hfa hfb hab (.inl ⟨rfl, rfl⟩) hc1 hc2⟩
      · have hba : b < a := by
          have : a ≠ b := fun e => h3 (by rw [e])
          omega
        obtain ⟨fa, hfa⟩ : ∃ f, ms[a]? = some f := ⟨_, List.getElem?_eq_getElem ha⟩
        obtain ⟨fb, hfb⟩ : ∃ f, ms[b]? = some f := ⟨_, List.getElem?_eq_getElem hb⟩
        exact ⟨_, fun W hv => joined_core ms a b b a fb fa pa cap W hv hm hc hfb hfa hba (.inr ⟨rfl, rfl⟩) hc1 hc2, fun W hv => refJoined_core ms a b b a fb fa pa cap W hv hm hc hfb hfa hba (.inr ⟨rfl, rfl⟩) hc1 hc2⟩
    · refine ⟨[], fun W hv => (joined_no ms p q pa cap W hv hm hE).mono ?_, fun W hv => (refJoined_no ms p q _ W hv hm hE).mono ?_⟩
      · rintro e w' ⟨rfl, hb⟩
        exact ⟨⟨_, rfl, sols_nil _⟩, hb⟩
      · rintro e w' ⟨rfl, hb⟩
        exact ⟨⟨_, rfl, sols_nil _⟩, hb⟩
  exact moulds_core ms lw lj p q (chkM ms) (askE ms p) (joiE ms p q) (undE s) s (sandD ms) (undL s) _ w hv hT h64 (fun W hv => sandD_ok ms _ W hv hm) (fun W hv => refSand_ok ms _ W hv hm) hwd hwr hjd hjr (fun W => undercut_ok s W hs) (fun W => refUnder_ok s W hs) (fun W hv => checkMould_ok ms _ W hv hm) (fun W hv => refCheck_ok ms _ W hv hm)
end Go.Proofs.YtoajocgfmbakjaaGreatDoor
