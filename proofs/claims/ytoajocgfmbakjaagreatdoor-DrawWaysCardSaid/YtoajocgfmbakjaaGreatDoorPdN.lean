/-
  The reference's In, Contains and Union; few.
-/
import Derived.Test.YtoajocgfmbakjaaGreatDoorPdJ
import Derived.Test.YtoajocgfmbakjaaGreatDoorPaG
import Derived.Test.YtoajocgfmbakjaaGreatDoorPdC
set_option linter.unusedVariables false
set_option linter.unusedSimpArgs false
namespace Go.Proofs.YtoajocgfmbakjaaGreatDoor
open Go Go.RowKit Go.Shelf

theorem few_ok (pa : Option Addr) (n c : Nat) (k : Int) (w : World) : Calls Tryz.prog 18 #[.slice pa n c, .int .i64 k] w (RetB (.bool (decide ((n : Int) ≤ k ∨ 12 < (n : Int) ∧ (n : Int) ≤ 15))) w) := by
  go_enter Tryz.func18, Tryz.ntmps18
  go_wp2
  all_goals
    go_ret
    exact ⟨retB (by rw [Bool.eq_iff_iff] <;> (simp <;> omega)), by go_grown⟩
set_option maxRecDepth 100000 in
set_option maxHeartbeats 2000000 in
theorem inR_ok (l : List Int) (v : Value) (x : Int) (w : World) (h : IntsAt w v l) : Calls Tryz.prog 76 #[v, .int .i64 x] w (RetB (.bool (decide (x ∈ l))) w) := by
  have H := Lib.hid h
  obtain ⟨pl, cl, rfl, hlx, _⟩ := h
  simp only [maxLen] at hlx
  obtain ⟨ans, hans⟩ : ∃ ans, ans = decide (x ∈ l) := ⟨_, rfl⟩
  rw [← hans]
  have HA := Lib.hid hans
  clear hans
  go_enter Tryz.func76, Tryz.ntmps76
  go_wp2
  go_loopw [5] (fun c wr => ∃ i : Nat, i ≤ l.length ∧ c = .int .i64 i ∧ Hid (x ∉ l.take i) ∧ Below w.heap.size w wr) (fun c _ => l.length - (intOf c).toNat)
  case atStart => exact ⟨0, by omega, rfl, Lib.hid (by simp), Below.refl _ _⟩
  case round =>
    obtain ⟨i, hi, rfl, HT, hB⟩ := hrel
    by_cases hlt : i < l.length
    · have hd : decide ((i : Int) < (l.length : Int)) = true := decide_eq_true (by omega)
      have hw1 : IntKind.i64.wrap ((i : Int) + 1) = (i : Int) + 1 := by rw [IntWalk.i64_in] <;> omega
      obtain ⟨y, ga⟩ : ∃ y, l[i]? = some y := ⟨_, List.getElem?_eq_getElem hlt⟩
      obtain ⟨g1, o1, c1', e1, hg1, ca⟩ := (H.out.below hB (Nat.le_refl _)).at ga
      obtain ⟨rfl, rfl⟩ : pl = some ⟨g1, o1, none⟩ ∧ cl = c1' := by injection e1 with e1 e2 e3; exact ⟨e1, e3⟩
      clear e1
      have hla2 : (i : Int) < (l.length : Int) := by omega
      by_cases hxy : y = x
      · have hq : (y == x) = true := by simp [hxy]
        have hA2 : ans = true := by rw [HA.out]; exact decide_eq_true (hxy ▸ List.mem_of_getElem? ga)
        clear hxy ga
        go_wp2_with fail
        go_ret
        exact ⟨by rw [hA2]; rfl, hB⟩
      · have hq : (y == x) = false := by simpa using hxy
        have HX := Lib.hid (show x ∉ l.take (i + 1) by
          rw [List.take_add_one, ga]
          simp only [Option.toList_some, List.mem_append, List.mem_singleton, not_or]
          exact ⟨HT.out, fun e => hxy e.symm⟩)
        clear hxy ga
        go_wp2_with fail
        case roundEnd => exact ⟨⟨i + 1, by omega, by go_num, HX, hB⟩, by simp [intOf]; omega⟩
    · obtain rfl : i = l.length := by omega
      have hd : decide ((l.length : Int) < (l.length : Int)) = false := decide_eq_false (by omega)
      have hA2 : ans = false := by
        rw [HA.out]
        have := HT.out
        rw [List.take_length] at this
        exact decide_eq_false this
      go_wp2
      go_ret
      exact ⟨by rw [hA2]; rfl, hB⟩
set_option maxRecDepth 100000 in
set_option maxHeartbeats 2000000 in
theorem part_ok (a b : List Int) (va vb : Value) (w : World) (h1 : IntsAt w va a) (h2 : IntsAt w vb b) : Calls Tryz.prog 136 #[va, vb] w (RetB (.bool (decide (∀ x ∈ a, x ∈ b))) w) := by
  have H := Lib.hid h1
  have H2 := Lib.hid h2
  obtain ⟨pl, cl, rfl, hlx, _⟩ := h1
  simp only [maxLen] at hlx
  obtain ⟨ans, hans⟩ : ∃ ans, ans = decide (∀ x ∈ a, x ∈ b) := ⟨_, rfl⟩
  rw [← hans]
  have HA := Lib.hid hans
  have HI := Lib.hid (fun (W : World) (x : Int) (h : IntsAt W vb b) => inR_ok b vb x W h)
  clear hans
  go_enter Tryz.func136, Tryz.ntmps136
  go_wp2
  go_loopw [5] (fun c wr => ∃ i : Nat, i ≤ a.length ∧ c = .int .i64 i ∧ Hid (∀ x ∈ a.take i, x ∈ b) ∧ Below w.heap.size w wr) (fun c _ => a.length - (intOf c).toNat)
  case atStart => exact ⟨0, by omega, rfl, Lib.hid (by simp), Below.refl _ _⟩
  case round =>
    obtain ⟨i, hi, rfl, HT, hB⟩ := hrel
    by_cases hlt : i < a.length
    · have hd : decide ((i : Int) < (a.length : Int)) = true := decide_eq_true (by omega)
      have hw1 : IntKind.i64.wrap ((i : Int) + 1) = (i : Int) + 1 := by rw [IntWalk.i64_in] <;> omega
      obtain ⟨y, ga⟩ : ∃ y, a[i]? = some y := ⟨_, List.getElem?_eq_getElem hlt⟩
      obtain ⟨g1, o1, c1', e1, hg1, ca⟩ := (H.out.below hB (Nat.le_refl _)).at ga
      obtain ⟨rfl, rfl⟩ : pl = some ⟨g1, o1, none⟩ ∧ cl = c1' := by injection e1 with e1 e2 e3; exact ⟨e1, e3⟩
      clear e1
      have hla2 : (i : Int) < (a.length : Int) := by omega
      have HV2 := Lib.hid (H2.out.below hB (Nat.le_refl _))
      by_cases hxy : y ∈ b
      · have HX := Lib.hid (show ∀ x ∈ a.take (i + 1), x ∈ b by
          rw [List.take_add_one, ga]
          simp only [Option.toList_some, List.mem_append, List.mem_singleton]
          rintro x (hx | rfl)
          · exact HT.out x hx
          · exact hxy)
        have HI2 := Lib.hid (fun (W : World) (h : IntsAt W vb b) => (show Calls Tryz.prog 76 #[vb, .int .i64 y] W (RetB (.bool true) W) by have := HI.out W y h; rwa [show decide (y ∈ b) = true from decide_eq_true hxy] at this))
        clear hxy ga
        go_wp2_with fail
        refine (HI2.out _ HV2.out).mono ?_
        rintro e w1 ⟨rfl, hb1⟩
        have hB2 : Below w.heap.size w w1 := up hb1 hB
        go_wp2_with fail
        case roundEnd => exact ⟨⟨i + 1, by omega, by go_num, HX, hB2⟩, by simp [intOf]; omega⟩
      · have HI2 := Lib.hid (fun (W : World) (h : IntsAt W vb b) => (show Calls Tryz.prog 76 #[vb, .int .i64 y] W (RetB (.bool false) W) by have := HI.out W y h; rwa [show decide (y ∈ b) = false from decide_eq_false hxy] at this))
        have hA2 : ans = false := by rw [HA.out]; exact decide_eq_false fun h => hxy (h y (List.mem_of_getElem? ga))
        clear hxy ga
        go_wp2_with fail
        refine (HI2.out _ HV2.out).mono ?_
        rintro e w1 ⟨rfl, hb1⟩
        have hB2 : Below w.heap.size w w1 := up hb1 hB
        go_wp2_with fail
        go_ret
        exact ⟨by rw [hA2]; rfl, hB2⟩
    · obtain rfl : i = a.length := by omega
      have hd : decide ((a.length : Int) < (a.length : Int)) = false := decide_eq_false (by omega)
      have hA2 : ans = true := by
        rw [HA.out]
        have := HT.out
        rw [List.take_length] at this
        exact decide_eq_true this
      go_wp2
      go_ret
      exact ⟨by rw [hA2]; rfl, hB⟩
theorem contains_ok (a b : List Int) (va vb : Value) (w : World) (h1 : IntsAt w va a) (h2 : IntsAt w vb b) : Calls Tryz.prog 74 #[va, vb] w (RetB (.bool (decide (∀ x ∈ b, x ∈ a))) w) := by
  have HP := Lib.hid (part_ok b a vb va w h2 h1)
  go_enter Tryz.func74, Tryz.ntmps74
  go_wp2_with fail
  refine HP.out.mono ?_
  rintro e w1 ⟨rfl, hb1⟩
  go_wp2_with fail
  go_ret
  exact ⟨rfl, hb1⟩
end Go.Proofs.YtoajocgfmbakjaaGreatDoor
/-
  short; CheckDraw.
-/
set_option linter.unusedVariables false
set_option linter.unusedSimpArgs false
namespace Go.Proofs.YtoajocgfmbakjaaGreatDoor
open Go Go.RowKit Go.Shelf

set_option maxRecDepth 100000 in
set_option maxHeartbeats 2000000 in
theorem short_ok (K : List (List Int)) (v : Value) (w : World) (h : ListsAt w v K) : Calls Tryz.prog 31 #[v] w (RetB (.bool (decide (∀ l ∈ K, l.length ≤ 20))) w) := by
  have H := Lib.hid h
  obtain ⟨pl, cl, rfl, hlx, _⟩ := h
  simp only [maxLen] at hlx
  obtain ⟨ans, hans⟩ : ∃ ans, ans = decide (∀ l ∈ K, l.length ≤ 20) := ⟨_, rfl⟩
  rw [← hans]
  have HA := Lib.hid hans
  clear hans
  go_enter Tryz.func31, Tryz.ntmps31
  go_wp2
  go_loopw [3] (fun c wr => ∃ i : Nat, i ≤ K.length ∧ c = .int .i64 i ∧ Hid (∀ l ∈ K.take i, l.length ≤ 20) ∧ Below w.heap.size w wr) (fun c _ => K.length - (intOf c).toNat)
  case atStart => exact ⟨0, by omega, rfl, Lib.hid (by simp), Below.refl _ _⟩
  case round =>
    obtain ⟨i, hi, rfl, HT, hB⟩ := hrel
    by_cases hlt : i < K.length
    · have hd : decide ((i : Int) < (K.length : Int)) = true := decide_eq_true (by omega)
      have hw1 : IntKind.i64.wrap ((i : Int) + 1) = (i : Int) + 1 := by rw [IntWalk.i64_in] <;> omega
      obtain ⟨y, ga⟩ : ∃ y, K[i]? = some y := ⟨_, List.getElem?_eq_getElem hlt⟩
      obtain ⟨g1, o1, c1', x, e1, hg1, ca, hx⟩ := (H.out.below hB (Nat.le_refl _)).at ga
      obtain ⟨rfl, rfl⟩ : pl = some ⟨g1, o1, none⟩ ∧ cl = c1' := by injection e1 with e1 e2 e3; exact ⟨e1, e3⟩
      obtain ⟨px, cx, rfl, hmx, _⟩ := hx
      clear e1
      have hla2 : (i : Int) < (K.length : Int) := by omega
      by_cases hxy : y.length ≤ 20
      · have HX := Lib.hid (show ∀ l ∈ K.take (i + 1), l.length ≤ 20 by
          rw [List.take_add_one, ga]
          simp only [Option.toList_some, List.mem_append, List.mem_singleton]
          rintro l (hl | rfl)
          · exact HT.out l hl
          · exact hxy)
        have hq : decide ((20 : Int) < (y.length : Int)) = false := decide_eq_false (by omega)
        clear hxy ga
        go_wp2_with fail
        case roundEnd => exact ⟨⟨i + 1, by omega, by go_num, HX, hB⟩, by simp [intOf]; omega⟩
      · have hq : decide ((20 : Int) < (y.length : Int)) = true := decide_eq_true (by omega)
        have hA2 : ans = false := by rw [HA.out]; exact decide_eq_false fun h => hxy (h y (List.mem_of_getElem? ga))
        clear hxy ga
        go_wp2_with fail
        go_ret
        exact ⟨by rw [hA2]; rfl, hB⟩
    · obtain rfl : i = K.length := by omega
      have hd : decide ((K.length : Int) < (K.length : Int)) = false := decide_eq_false (by omega)
      have hA2 : ans = true := by
        rw [HA.out]
        have := HT.out
        rw [List.take_length] at this
        exact decide_eq_true this
      go_wp2
      go_ret
      exact ⟨by rw [hA2]; rfl, hB⟩
theorem lists_one {W : World} {n cap : Nat} {x : Value} {l : List Int} (hn : n = W.heap.size) (h : IntsAt W x l) : ListsAt (W.alloc (.cells #[x] 38)) (.slice (some ⟨n, 0, none⟩) 1 cap) [l] := by
  subst hn
  refine ⟨_, cap, rfl, by simp [maxLen], .inr ⟨_, 0, rfl, by simp, fun i m hm => ?_⟩⟩
  rcases i with _ | i
  · cases hm
    exact ⟨x, cells4 (World.alloc_heap_new W _) _ _ rfl, h.below ((Below.refl _ W).alloc (Nat.le_refl _) _) (Nat.le_refl _)⟩
  · simp at hm
set_option maxRecDepth 100000 in
set_option maxHeartbeats 2000000 in
theorem checkDraw_ok (ms : List Sol) (l : List Mo) (v lv : Value) (w : World) (hv : SolsAt w v ms) (hl : MovsAt w lv l) (hm : ∀ m ∈ ms, Fit m) (h20 : l.length ≤ 100) :
    Calls Tryz.prog 45 #[v, lv] w (RetB (.tuple #[.bool (chkO ms l && decide (l.length = ms.length)), .int .i64 (chkM ms)]) w) := by
  have HO := Lib.hid (checkOrder_ok ms l v lv w hv hl hm h20)
  obtain ⟨pa, ca, rfl, hma, _⟩ := hv
  obtain ⟨pl, cl, rfl, hmb, _⟩ := hl
  obtain ⟨ok, hok⟩ : ∃ ok, ok = chkO ms l := ⟨_, rfl⟩
  rw [← hok] at HO ⊢
  generalize chkM ms = c at *
  clear hok
  have hE : ((l.length : Int) == (ms.length : Int)) = decide (l.length = ms.length) := by
    rw [Bool.eq_iff_iff]
    simp
    omega
  obtain ⟨q, hq⟩ : ∃ q, q = decide (l.length = ms.length) := ⟨_, rfl⟩
  rw [← hq] at hE ⊢
  clear hq
  go_enter Tryz.func45, Tryz.ntmps45
  cases ok with
  | false =>
    go_wp2_with fail
    refine HO.out.mono ?_
    rintro e w1 ⟨rfl, hb1⟩
    go_wp2_with fail
    go_returns
    exact ⟨rfl, hb1⟩
  | true =>
    go_wp2_with fail
    refine HO.out.mono ?_
    rintro e w1 ⟨rfl, hb1⟩
    go_wp2_with fail
    go_returns
    exact ⟨by first | rfl | (rw [hE]; rfl), hb1⟩
end Go.Proofs.YtoajocgfmbakjaaGreatDoor
/-
  CheckLock.
-/
set_option linter.unusedVariables false
set_option linter.unusedSimpArgs false
namespace Go.Proofs.YtoajocgfmbakjaaGreatDoor
open Go Go.RowKit Go.Shelf

/-- What CheckLock says. -/
def chkL (ms : List Sol) (l : List Int) : Bool := if chkM ms = 0 then (match setF ms.length l with | some s => isLockB ms s | none => false) else false
set_option maxRecDepth 100000 in
set_option maxHeartbeats 2000000 in
theorem checkLock_ok (ms : List Sol) (l : List Int) (v lv : Value) (w : World) (hv : SolsAt w v ms) (hl : IntsAt w lv l) (hm : ∀ m ∈ ms, Fit m) (h100 : l.length ≤ 100) :
    Calls Tryz.prog 61 #[v, lv] w (RetB (.tuple #[.bool (chkL ms l), .int .i64 (chkM ms)]) w) := by
  by_cases hc : chkM ms = 0
  · have HY := Lib.hid (look_yes ms v w hv hm hc)
    have HLV := Lib.hid hl
    have h12 := chkM_len hc
    have HM := Lib.hid hm
    have HO := Lib.hid (show chkL ms l = (match setF ms.length l with | some s => isLockB ms s | none => false) from if_pos hc)
    rw [hc]
    obtain ⟨R, hR⟩ : ∃ R, R = chkL ms l := ⟨_, rfl⟩
    rw [← hR] at HO ⊢
    obtain ⟨pa, cap, rfl, _, _⟩ := hv
    clear hl hm hc hR
    go_enter Tryz.func61, Tryz.ntmps61
    go_wp2_with fail
    refine HY.out.mono ?_
    rintro e w1 ⟨b, rfl, hb, hM1, hB1⟩
    have q1 : (w1.alloc (.cells #[.slice pa ms.length cap, .map (some b)] 101)).heap[w1.heap.size]? = some (.cells #[.slice pa ms.length cap, .map (some b)] 101 (0, 0)) := World.alloc_heap_new w1 _
    have hA := (Below.refl _ w1).alloc (Nat.le_refl _) (.cells #[.slice pa ms.length cap, .map (some b)] 101)
    have hB2 : Below w.heap.size w (w1.alloc (.cells #[.slice pa ms.length cap, .map (some b)] 101)) := hB1.trans (hA.mono hB1.size)
    have c0 := cells4 q1 0 _ rfl
    have c1 := cells4 q1 1 _ rfl
    have HSO := Lib.hid (setOf_ok pa ms.length cap l lv _ h12 (HLV.out.below hB2 (Nat.le_refl _)) h100)
    have HM2 := Lib.hid (hM1.below hA)
    have HB2 := Lib.hid hB2
    have HB := Lib.hid hb
    clear hA hB2 hM1 hB1 hb
    go_wp2_with fail
    cases hs : setF ms.length l with
    | none =>
      have HO1 := Lib.hid (show R = false by rw [HO.out, hs])
      rw [hs] at HSO
      refine HSO.out.mono ?_
      rintro e w3 ⟨rfl, hb3⟩
      have HB3 := Lib.hid (up hb3 HB2.out)
      clear c0 c1 q1 hb3 HSO hs
      go_wp2
      go_returns
      exact ⟨by rw [HO1.out]; rfl, HB3.out⟩
    | some s =>
      have HO1 := Lib.hid (show R = isLockB ms s by rw [HO.out, hs])
      rw [hs] at HSO
      have hs16 := setF_lt h12 hs
      refine HSO.out.mono ?_
      rintro e w3 ⟨rfl, hb3⟩
      have q3 := heap_below q1 hb3 (Array.getElem?_eq_some_iff.1 q1).1
      have HB3 := Lib.hid (up hb3 HB2.out)
      have HIL := Lib.hid (isLock_ok ms s (.slice pa ms.length cap) b w3 HM.out h12 hs16 noBlk (fun _ h => h.elim) (HM2.out.below hb3))
      clear c0 c1 q1 hb3 HSO hs
      have c0 := cells4 q3 0 _ rfl
      have c1 := cells4 q3 1 _ rfl
      go_wp2_with fail
      refine HIL.out.mono ?_
      rintro e w4 ⟨rfl, hk4⟩
      go_wp2
      go_returns
      exact ⟨by rw [HO1.out]; rfl, kept_out hk4 HB.out HB3.out⟩
  · have HN := Lib.hid (look_no ms v w hv hm hc)
    have HO := Lib.hid (show chkL ms l = false from if_neg hc)
    rw [HO.out]
    obtain ⟨c, hcc⟩ : ∃ c, c = chkM ms := ⟨_, rfl⟩
    rw [← hcc] at HN hc ⊢
    have hne : (c != 0) = true := by simpa using hc
    clear hcc hc hm hl
    go_enter Tryz.func61, Tryz.ntmps61
    go_wp2_with fail
    refine HN.out.mono ?_
    rintro e w1 ⟨rfl, hB1⟩
    go_wp2
    go_returns
    exact ⟨rfl, hB1.alloc hB1.size _⟩
end Go.Proofs.YtoajocgfmbakjaaGreatDoor
