/-
  The reference's SameInts.
-/
import Derived.Test.YtoajocgfmbakjaaGreatDoorPdF
import Derived.Test.YtoajocgfmbakjaaGreatDoorPdC
set_option linter.unusedVariables false
set_option linter.unusedSimpArgs false
namespace Go.Proofs.YtoajocgfmbakjaaGreatDoor
open Go Go.RowKit Go.Shelf

set_option maxRecDepth 100000 in
set_option maxHeartbeats 4000000 in
theorem sameInts_ok (la lb : List Int) (va vb : Value) (w : World) (h1 : IntsAt w va la) (h2 : IntsAt w vb lb) :
    Calls Tryz.prog 38 #[va, vb] w (RetB (.bool (decide (la = lb))) w) := by
  have H1 := Lib.hid h1
  have H2 := Lib.hid h2
  obtain ⟨p1, c1, rfl, hm1, _⟩ := h1
  obtain ⟨p2, c2, rfl, hm2, _⟩ := h2
  obtain ⟨ans, hans⟩ : ∃ ans, ans = decide (la = lb) := ⟨_, rfl⟩
  rw [← hans]
  have HA := Lib.hid hans
  clear hans
  simp only [maxLen] at hm1 hm2
  by_cases hl : la.length = lb.length
  · have hn : ((la.length : Int) != (lb.length : Int)) = false := by simp [hl]
    go_enter Tryz.func38, Tryz.ntmps38
    go_wp2
    have HL := Lib.hid hl
    clear hl
    go_loopw [5] (fun c wr => ∃ i : Nat, i ≤ la.length ∧ c = .int .i64 i ∧ Hid (la.take i = lb.take i) ∧ Below w.heap.size w wr) (fun c _ => la.length - (intOf c).toNat)
    case atStart => exact ⟨0, by omega, rfl, Lib.hid rfl, Below.refl _ _⟩
    case round =>
      obtain ⟨i, hi, rfl, HT, hB⟩ := hrel
      by_cases hlt : i < la.length
      · have hd : decide ((i : Int) < (la.length : Int)) = true := decide_eq_true (by omega)
        have hib : i < lb.length := by have := HL.out; omega
        have hw1 : IntKind.i64.wrap ((i : Int) + 1) = (i : Int) + 1 := by rw [IntWalk.i64_in] <;> omega
        obtain ⟨x, ga⟩ : ∃ x, la[i]? = some x := ⟨_, List.getElem?_eq_getElem hlt⟩
        obtain ⟨y, gb⟩ : ∃ y, lb[i]? = some y := ⟨_, List.getElem?_eq_getElem hib⟩
        obtain ⟨g1, o1, c1', e1, hg1, ca⟩ := (H1.out.below hB (Nat.le_refl _)).at ga
        obtain ⟨g2, o2, c2', e2, hg2, cb⟩ := (H2.out.below hB (Nat.le_refl _)).at gb
        obtain ⟨rfl, rfl⟩ : p1 = some ⟨g1, o1, none⟩ ∧ c1 = c1' := by injection e1 with e1 e2 e3; exact ⟨e1, e3⟩
        obtain ⟨rfl, rfl⟩ : p2 = some ⟨g2, o2, none⟩ ∧ c2 = c2' := by injection e2 with e1 e2 e3; exact ⟨e1, e3⟩
        clear e1 e2
        have hlb2 : (i : Int) < (lb.length : Int) := by omega
        have hla2 : (i : Int) < (la.length : Int) := by omega
        by_cases hxy : x = y
        · have hq : (x != y) = false := by simp [hxy]
          have HX := Lib.hid (show la.take (i + 1) = lb.take (i + 1) by rw [List.take_add_one, List.take_add_one, ga, gb, HT.out, hxy])
          clear hxy ga gb
          go_wp2_with fail
          (refine wp_region_quiet (C := fun w' => Below wr.heap.size wr w') (by kernel_rfl) (by kernel_rfl) (Below.drew (Below.refl _ _)) ?_; (iterate 9 (refine wpQuiet_step (fun K hK => ?_); go_simp; first | (refine hK _ ?_; clear hK K) | (apply Exists.intro; refine ⟨fun W' hW' => ?_, hK _ ?_⟩; (focus (first | (with_reducible exact rfl) | (with_reducible exact ⟨rfl, rfl⟩) | (obtain ⟨hcq, hfq⟩ := bcell hW'; have hzq := hW'.size; (try go_simp); first | (with_reducible exact rfl) | (with_reducible exact ⟨rfl, rfl⟩) | (fail)))); clear hK K))); refine wpQuiet_nil ?_; intro w1q hb1q)
          have HB2 := Lib.hid (up hb1q hB)
          go_wp2_with fail
          case roundEnd => exact ⟨⟨i + 1, by omega, by go_num, HX, HB2.out⟩, by simp [intOf]; omega⟩
        · have hq : (x != y) = true := by simpa using hxy
          have hA2 : ans = false := by
            rw [HA.out]
            refine decide_eq_false fun e => hxy ?_
            subst e
            rw [ga] at gb
            injection gb
          clear hxy ga gb
          go_wp2_with fail
          (refine wp_region_quiet (C := fun w' => Below wr.heap.size wr w') (by kernel_rfl) (by kernel_rfl) (Below.drew (Below.refl _ _)) ?_; (iterate 9 (refine wpQuiet_step (fun K hK => ?_); go_simp; first | (refine hK _ ?_; clear hK K) | (apply Exists.intro; refine ⟨fun W' hW' => ?_, hK _ ?_⟩; (focus (first | (with_reducible exact rfl) | (with_reducible exact ⟨rfl, rfl⟩) | (obtain ⟨hcq, hfq⟩ := bcell hW'; have hzq := hW'.size; (try go_simp); first | (with_reducible exact rfl) | (with_reducible exact ⟨rfl, rfl⟩) | (fail)))); clear hK K))); refine wpQuiet_nil ?_; intro w1q hb1q)
          have HB2 := Lib.hid (up hb1q hB)
          go_wp2_with fail
          go_ret
          exact ⟨by rw [hA2]; rfl, HB2.out⟩
      · obtain rfl : i = la.length := by omega
        have hd : decide ((la.length : Int) < (la.length : Int)) = false := decide_eq_false (by omega)
        have hA2 : ans = true := by
          rw [HA.out]
          have := HT.out
          rw [List.take_length, HL.out, List.take_length] at this
          exact decide_eq_true this
        go_wp2
        go_ret
        exact ⟨by rw [hA2]; rfl, hB⟩
  · have hn : ((la.length : Int) != (lb.length : Int)) = true := by simp; omega
    have hA2 : ans = false := by
      rw [HA.out]
      exact decide_eq_false fun e => hl (by rw [e])
    go_enter Tryz.func38, Tryz.ntmps38
    go_wp2
    go_ret
    exact ⟨by rw [hA2]; rfl, Below.refl _ _⟩
end Go.Proofs.YtoajocgfmbakjaaGreatDoor
/-
  The reference's SameMoves.
-/
set_option linter.unusedVariables false
set_option linter.unusedSimpArgs false
namespace Go.Proofs.YtoajocgfmbakjaaGreatDoor
open Go Go.RowKit Go.Shelf

set_option maxRecDepth 100000 in
set_option maxHeartbeats 4000000 in
theorem sameMovs_ok (la lb : List Mo) (va vb : Value) (w : World) (h1 : MovsAt w va la) (h2 : MovsAt w vb lb) :
    Calls Tryz.prog 49 #[va, vb] w (RetB (.bool (decide (la = lb))) w) := by
  have H1 := Lib.hid h1
  have H2 := Lib.hid h2
  obtain ⟨p1, c1, rfl, hm1, _⟩ := h1
  obtain ⟨p2, c2, rfl, hm2, _⟩ := h2
  obtain ⟨ans, hans⟩ : ∃ ans, ans = decide (la = lb) := ⟨_, rfl⟩
  rw [← hans]
  have HA := Lib.hid hans
  clear hans
  simp only [maxLen] at hm1 hm2
  by_cases hl : la.length = lb.length
  · have hn : ((la.length : Int) != (lb.length : Int)) = false := by simp [hl]
    go_enter Tryz.func49, Tryz.ntmps49
    go_wp2
    have HL := Lib.hid hl
    clear hl
    go_loopw [5] (fun c wr => ∃ i : Nat, i ≤ la.length ∧ c = .int .i64 i ∧ Hid (la.take i = lb.take i) ∧ Below w.heap.size w wr) (fun c _ => la.length - (intOf c).toNat)
    case atStart => exact ⟨0, by omega, rfl, Lib.hid rfl, Below.refl _ _⟩
    case round =>
      obtain ⟨i, hi, rfl, HT, hB⟩ := hrel
      by_cases hlt : i < la.length
      · have hd : decide ((i : Int) < (la.length : Int)) = true := decide_eq_true (by omega)
        have hib : i < lb.length := by have := HL.out; omega
        have hw1 : IntKind.i64.wrap ((i : Int) + 1) = (i : Int) + 1 := by rw [IntWalk.i64_in] <;> omega
        obtain ⟨x, ga⟩ : ∃ x, la[i]? = some x := ⟨_, List.getElem?_eq_getElem hlt⟩
        obtain ⟨y, gb⟩ : ∃ y, lb[i]? = some y := ⟨_, List.getElem?_eq_getElem hib⟩
        obtain ⟨g1, o1, c1', e1, hg1, ca0, ca1, ca2⟩ := (H1.out.below hB (Nat.le_refl _)).at ga
        obtain ⟨g2, o2, c2', e2, hg2, cb0, cb1, cb2⟩ := (H2.out.below hB (Nat.le_refl _)).at gb
        obtain ⟨rfl, rfl⟩ : p1 = some ⟨g1, o1, none⟩ ∧ c1 = c1' := by injection e1 with e1 e2 e3; exact ⟨e1, e3⟩
        obtain ⟨rfl, rfl⟩ : p2 = some ⟨g2, o2, none⟩ ∧ c2 = c2' := by injection e2 with e1 e2 e3; exact ⟨e1, e3⟩
        clear e1 e2
        have hlb2 : (i : Int) < (lb.length : Int) := by omega
        have hla2 : (i : Int) < (la.length : Int) := by omega
        obtain ⟨x0, x1, x2⟩ := x
        obtain ⟨y0, y1, y2⟩ := y
        by_cases hxy : ((x0, x1, x2) : Mo) = (y0, y1, y2)
        · obtain ⟨rfl, rfl, rfl⟩ : x0 = y0 ∧ x1 = y1 ∧ x2 = y2 := by injection hxy with e1 e2; injection e2 with e2 e3; exact ⟨e1, e2, e3⟩
          have HX := Lib.hid (show la.take (i + 1) = lb.take (i + 1) by rw [List.take_add_one, List.take_add_one, ga, gb, HT.out, hxy])
          clear hxy ga gb
          go_wp2_with fail
          (refine wp_region_quiet (C := fun w' => Below wr.heap.size wr w') (by kernel_rfl) (by kernel_rfl) (Below.drew (Below.refl _ _)) ?_; (iterate 9 (refine wpQuiet_step (fun K hK => ?_); go_simp; first | (refine hK _ ?_; clear hK K) | (apply Exists.intro; refine ⟨fun W' hW' => ?_, hK _ ?_⟩; (focus (first | (with_reducible exact rfl) | (with_reducible exact ⟨rfl, rfl⟩) | (obtain ⟨hcq, hfq⟩ := bcell hW'; have hzq := hW'.size; (try go_simp); first | (with_reducible exact rfl) | (with_reducible exact ⟨rfl, rfl⟩) | (fail)))); clear hK K))); refine wpQuiet_nil ?_; intro w1q hb1q)
          have HB2 := Lib.hid (up hb1q hB)
          go_wp2_with fail
          case roundEnd => exact ⟨⟨i + 1, by omega, by go_num, HX, HB2.out⟩, by simp [intOf]; omega⟩
        · have HIF := Lib.hid (fun (a b : Result Next) => (show (if x0 = y0 then if x1 = y1 then if x2 = y2 then a else b else b else b) = b by
            by_cases h0 : x0 = y0
            · by_cases h1 : x1 = y1
              · by_cases h2 : x2 = y2
                · exact absurd (by rw [h0, h1, h2]) hxy
                · rw [if_pos h0, if_pos h1, if_neg h2]
              · rw [if_pos h0, if_neg h1]
            · rw [if_neg h0]))
          have hA2 : ans = false := by
            rw [HA.out]
            refine decide_eq_false fun e => hxy ?_
            subst e
            rw [ga] at gb
            injection gb
          clear hxy ga gb
          go_wp2_with fail
          (refine wp_region_quiet (C := fun w' => Below wr.heap.size wr w') (by kernel_rfl) (by kernel_rfl) (Below.drew (Below.refl _ _)) ?_; (iterate 9 (refine wpQuiet_step (fun K hK => ?_); go_simp; first | (refine hK _ ?_; clear hK K) | (apply Exists.intro; refine ⟨fun W' hW' => ?_, hK _ ?_⟩; (focus (first | (with_reducible exact rfl) | (with_reducible exact ⟨rfl, rfl⟩) | (obtain ⟨hcq, hfq⟩ := bcell hW'; have hzq := hW'.size; (try go_simp); first | (with_reducible exact rfl) | (with_reducible exact ⟨rfl, rfl⟩) | ((rw [HIF.out]; exact ⟨rfl, rfl⟩))))); clear hK K))); refine wpQuiet_nil ?_; intro w1q hb1q)
          have HB2 := Lib.hid (up hb1q hB)
          go_wp2_with fail
          go_ret
          exact ⟨by rw [hA2]; rfl, HB2.out⟩
      · obtain rfl : i = la.length := by omega
        have hd : decide ((la.length : Int) < (la.length : Int)) = false := decide_eq_false (by omega)
        have hA2 : ans = true := by
          rw [HA.out]
          have := HT.out
          rw [List.take_length, HL.out, List.take_length] at this
          exact decide_eq_true this
        go_wp2
        go_ret
        exact ⟨by rw [hA2]; rfl, hB⟩
  · have hn : ((la.length : Int) != (lb.length : Int)) = true := by simp; omega
    have hA2 : ans = false := by
      rw [HA.out]
      exact decide_eq_false fun e => hl (by rw [e])
    go_enter Tryz.func49, Tryz.ntmps49
    go_wp2
    go_ret
    exact ⟨by rw [hA2]; rfl, Below.refl _ _⟩
end Go.Proofs.YtoajocgfmbakjaaGreatDoor
/-
  The reference's SameLists.
-/
set_option linter.unusedVariables false
set_option linter.unusedSimpArgs false
namespace Go.Proofs.YtoajocgfmbakjaaGreatDoor
open Go Go.RowKit Go.Shelf

/-- A row of rows of numbers, wherever they lie. -/
def ListsAt (W : World) (v : Value) (L : List (List Int)) : Prop := ∃ pa cap, v = .slice pa L.length cap ∧ L.length ≤ maxLen ∧
  (L = [] ∨ ∃ b o, pa = some ⟨b, o, none⟩ ∧ b < W.heap.size ∧ ∀ i l, L[i]? = some l → ∃ x, W.cell? ⟨b, o + i, none⟩ = some x ∧ IntsAt W x l)
theorem ListsAt.at {W : World} {v : Value} {L : List (List Int)} (h : ListsAt W v L) {i : Nat} {l : List Int} (hx : L[i]? = some l) : ∃ b o cap x, v = .slice (some ⟨b, o, none⟩) L.length cap ∧ b < W.heap.size ∧ W.cell? ⟨b, o + i, none⟩ = some x ∧ IntsAt W x l := by
  obtain ⟨pa, cap, rfl, h2, h3⟩ := h
  rcases h3 with rfl | ⟨b, o, rfl, hb, hc⟩
  · simp at hx
  · obtain ⟨x, h4, h5⟩ := hc i l hx
    exact ⟨b, o, cap, x, rfl, hb, h4, h5⟩
theorem ListsAt.below {n : Nat} {W W' : World} {v : Value} {L : List (List Int)} (h : ListsAt W v L) (hb : Below n W W') (hn : W.heap.size ≤ n) : ListsAt W' v L := by
  obtain ⟨pa, cap, rfl, h2, h3⟩ := h
  refine ⟨pa, cap, rfl, h2, h3.imp id ?_⟩
  rintro ⟨b, o, e1, e2, e3⟩
  refine ⟨b, o, e1, Nat.lt_of_lt_of_le e2 hb.size, fun i l hl => ?_⟩
  obtain ⟨x, h4, h5⟩ := e3 i l hl
  exact ⟨x, (hb.cell (p := ⟨b, o + i, none⟩) (Nat.lt_of_lt_of_le e2 hn)).trans h4, h5.below hb hn⟩
theorem listsAt_own {W : World} {n₀ : Nat} {u : Value} {L : List (List Nat)} (h : RowsI W n₀ u L) : ListsAt W u (L.map fun l => l.map fun x : Nat => (x : Int)) := by
  obtain ⟨vs, h1, h2, h3⟩ := h
  obtain ⟨hl, hh | ⟨g, cap, cur, rfl, hb, hg, hcap, hmax, hsz, htk⟩⟩ := id h2
  · obtain ⟨rfl, h0⟩ := hh
    have : vs = [] := List.length_eq_zero_iff.1 h0
    subst this
    have : L = [] := List.length_eq_zero_iff.1 h1.symm
    subst this
    exact ⟨none, 0, rfl, by simp, .inl rfl⟩
  · refine ⟨_, cap, by rw [List.length_map, h1], by rw [List.length_map]; omega, .inr ⟨g, 0, rfl, (Array.getElem?_eq_some_iff.1 hg).1, fun i l hl => ?_⟩⟩
    rw [List.getElem?_map] at hl
    cases hy : L[i]? with
    | none => rw [hy] at hl; cases hl
    | some y =>
      rw [hy] at hl
      cases hl
      have hi : i < vs.length := by rw [h1]; exact (List.getElem?_eq_some_iff.1 hy).1
      have hv : vs[i]? = some vs[i] := List.getElem?_eq_getElem hi
      refine ⟨vs[i], ?_, intsAt_own (h3 i _ y hv hy)⟩
      have := h2.cells (g := g) rfl i _ hv
      rwa [show (⟨g, 0, none⟩ : Addr).add i = ⟨g, 0 + i, none⟩ by simp [Addr.add]; try omega] at this
set_option maxRecDepth 100000 in
set_option maxHeartbeats 4000000 in
theorem sameLists_ok (la lb : List (List Int)) (va vb : Value) (w : World) (h1 : ListsAt w va la) (h2 : ListsAt w vb lb) :
    Calls Tryz.prog 56 #[va, vb] w (RetB (.bool (decide (la = lb))) w) := by
  have H1 := Lib.hid h1
  have H2 := Lib.hid h2
  obtain ⟨p1, c1, rfl, hm1, _⟩ := h1
  obtain ⟨p2, c2, rfl, hm2, _⟩ := h2
  obtain ⟨ans, hans⟩ : ∃ ans, ans = decide (la = lb) := ⟨_, rfl⟩
  rw [← hans]
  have HA := Lib.hid hans
  clear hans
  simp only [maxLen] at hm1 hm2
  by_cases hl : la.length = lb.length
  · have hn : ((la.length : Int) != (lb.length : Int)) = false := by simp [hl]
    go_enter Tryz.func56, Tryz.ntmps56
    go_wp2
    have HL := Lib.hid hl
    clear hl
    go_loopw [5] (fun c wr => ∃ i : Nat, i ≤ la.length ∧ c = .int .i64 i ∧ Hid (la.take i = lb.take i) ∧ Below w.heap.size w wr) (fun c _ => la.length - (intOf c).toNat)
    case atStart => exact ⟨0, by omega, rfl, Lib.hid rfl, Below.refl _ _⟩
    case round =>
      obtain ⟨i, hi, rfl, HT, hB⟩ := hrel
      by_cases hlt : i < la.length
      · have hd : decide ((i : Int) < (la.length : Int)) = true := decide_eq_true (by omega)
        have hib : i < lb.length := by have := HL.out; omega
        have hw1 : IntKind.i64.wrap ((i : Int) + 1) = (i : Int) + 1 := by rw [IntWalk.i64_in] <;> omega
        obtain ⟨x, ga⟩ : ∃ x, la[i]? = some x := ⟨_, List.getElem?_eq_getElem hlt⟩
        obtain ⟨y, gb⟩ : ∃ y, lb[i]? = some y := ⟨_, List.getElem?_eq_getElem hib⟩
        obtain ⟨g1, o1, c1', u1, e1, hg1, ca, ia⟩ := (H1.out.below hB (Nat.le_refl _)).at ga
        obtain ⟨g2, o2, c2', u2, e2, hg2, cb, ib⟩ := (H2.out.below hB (Nat.le_refl _)).at gb
        obtain ⟨rfl, rfl⟩ : p1 = some ⟨g1, o1, none⟩ ∧ c1 = c1' := by injection e1 with e1 e2 e3; exact ⟨e1, e3⟩
        obtain ⟨rfl, rfl⟩ : p2 = some ⟨g2, o2, none⟩ ∧ c2 = c2' := by injection e2 with e1 e2 e3; exact ⟨e1, e3⟩
        clear e1 e2
        have HS := Lib.hid (fun W (h : Below wr.heap.size wr W) => sameInts_ok x y u1 u2 W (ia.below h (Nat.le_refl _)) (ib.below h (Nat.le_refl _)))
        clear ia ib
        have hlb2 : (i : Int) < (lb.length : Int) := by omega
        have hla2 : (i : Int) < (la.length : Int) := by omega
        by_cases hxy : x = y
        · have hq : decide (x = y) = true := decide_eq_true hxy
          rw [hq] at HS
          have HX := Lib.hid (show la.take (i + 1) = lb.take (i + 1) by rw [List.take_add_one, List.take_add_one, ga, gb, HT.out, hxy])
          clear hxy ga gb hq
          go_wp2_with fail
          (refine wp_region_quiet (C := fun w' => Below wr.heap.size wr w') (by kernel_rfl) (by kernel_rfl) (Below.drew (Below.refl _ _)) ?_; (iterate 10 (refine wpQuiet_step (fun K hK => ?_); go_simp; first | (refine hK _ ?_; clear hK K) | (apply Exists.intro; refine ⟨fun W' hW' => ?_, hK _ ?_⟩; (focus (first | (with_reducible exact rfl) | (with_reducible exact ⟨rfl, rfl⟩) | (obtain ⟨hcq, hfq⟩ := bcell hW'; have hzq := hW'.size; (try go_simp); first | (with_reducible exact rfl) | (with_reducible exact ⟨rfl, rfl⟩) | (first | ((with_reducible refine Calls.mono (HS.out _ hW') ?_); rintro e w9 ⟨rfl, hb9⟩; exact ⟨rfl, hW'.trans (hb9.mono hW'.size)⟩))))); clear hK K))); refine wpQuiet_nil ?_; intro w1q hb1q)
          have HB2 := Lib.hid (up hb1q hB)
          go_wp2_with fail
          case roundEnd => exact ⟨⟨i + 1, by omega, by go_num, HX, HB2.out⟩, by simp [intOf]; omega⟩
        · have hq : decide (x = y) = false := decide_eq_false hxy
          rw [hq] at HS
          have hA2 : ans = false := by
            rw [HA.out]
            refine decide_eq_false fun e => hxy ?_
            subst e
            rw [ga] at gb
            injection gb
          clear hxy ga gb hq
          go_wp2_with fail
          (refine wp_region_quiet (C := fun w' => Below wr.heap.size wr w') (by kernel_rfl) (by kernel_rfl) (Below.drew (Below.refl _ _)) ?_; (iterate 10 (refine wpQuiet_step (fun K hK => ?_); go_simp; first | (refine hK _ ?_; clear hK K) | (apply Exists.intro; refine ⟨fun W' hW' => ?_, hK _ ?_⟩; (focus (first | (with_reducible exact rfl) | (with_reducible exact ⟨rfl, rfl⟩) | (obtain ⟨hcq, hfq⟩ := bcell hW'; have hzq := hW'.size; (try go_simp); first | (with_reducible exact rfl) | (with_reducible exact ⟨rfl, rfl⟩) | (first | ((with_reducible refine Calls.mono (HS.out _ hW') ?_); rintro e w9 ⟨rfl, hb9⟩; exact ⟨rfl, hW'.trans (hb9.mono hW'.size)⟩))))); clear hK K))); refine wpQuiet_nil ?_; intro w1q hb1q)
          have HB2 := Lib.hid (up hb1q hB)
          go_wp2_with fail
          go_ret
          exact ⟨by rw [hA2]; rfl, HB2.out⟩
      · obtain rfl : i = la.length := by omega
        have hd : decide ((la.length : Int) < (la.length : Int)) = false := decide_eq_false (by omega)
        have hA2 : ans = true := by
          rw [HA.out]
          have := HT.out
          rw [List.take_length, HL.out, List.take_length] at this
          exact decide_eq_true this
        go_wp2
        go_ret
        exact ⟨by rw [hA2]; rfl, hB⟩
  · have hn : ((la.length : Int) != (lb.length : Int)) = true := by simp; omega
    have hA2 : ans = false := by
      rw [HA.out]
      exact decide_eq_false fun e => hl (by rw [e])
    go_enter Tryz.func56, Tryz.ntmps56
    go_wp2
    go_ret
    exact ⟨by rw [hA2]; rfl, Below.refl _ _⟩
end Go.Proofs.YtoajocgfmbakjaaGreatDoor
/-
  The law's row of cells.
-/
set_option linter.unusedVariables false
set_option linter.unusedSimpArgs false
namespace Go.Proofs.YtoajocgfmbakjaaGreatDoor
open Go Go.RowKit Go.Shelf

def rowN (a : Nat) : Nat → Nat
  | 0 => 0
  | k + 1 => rowN a k ||| 2 ^ (a + k)
theorem rowN_lt (a : Nat) : ∀ k, a + k ≤ 64 → rowN a k < 18446744073709551616
  | 0, _ => by simp [rowN]
  | k + 1, h => Nat.or_lt_two_pow (n := 64) (rowN_lt a k (by omega)) (Nat.pow_lt_pow_right (a := 2) (n := 64) (by decide) (by omega))
theorem wrap_pow64 {n : Nat} (h : n < 64) : IntKind.u64.wrap (2 ^ n) = ((2 ^ n : Nat) : Int) := by
  have h1 : (2 : Nat) ^ n < 18446744073709551616 := Nat.pow_lt_pow_right (a := 2) (n := 64) (by decide) h
  have h2 : ((2 ^ n : Nat) : Int) = 2 ^ n := by norm_cast
  rw [IntKind.wrap_u64, ← h2]
  exact Int.emod_eq_of_lt (Int.natCast_nonneg _) (Int.ofNat_lt.2 h1)
set_option maxRecDepth 100000 in
set_option maxHeartbeats 1000000 in
theorem row_ok (a b : Nat) (hab : a ≤ b + 1) (hb : b < 64) (w : World) : Calls Tryz.prog 144 #[.int .i64 (a : Int), .int .i64 (b : Int)] w fun e w' => e = .returned (.int .u64 ((rowN a (b + 1 - a) : Nat) : Int)) ∧ w' = w := by
  go_enter Tryz.func144, Tryz.ntmps144
  go_wp2_with fail
  go_loopw [5, 6] (fun n x wr => ∃ k : Nat, a + k ≤ b + 1 ∧ x = .int .i64 ((a + k : Nat) : Int) ∧ n = .int .u64 ((rowN a k : Nat) : Int) ∧ wr = w) (fun _ x _ => b + 1 - (intOf x).toNat)
  case atStart => exact ⟨0, by omega, by simp, rfl, rfl⟩
  case round =>
    obtain ⟨k, hk, rfl, rfl, rfl⟩ := hrel
    obtain ⟨x, hx⟩ : ∃ x, x = a + k := ⟨_, rfl⟩
    have HX := Lib.hid hx
    rw [← hx]
    by_cases hlt : x ≤ b
    · have hd : decide ((x : Int) ≤ (b : Int)) = true := decide_eq_true (by omega)
      have hw1 : IntKind.i64.wrap ((x : Int) + 1) = (x : Int) + 1 := by rw [IntWalk.i64_in] <;> omega
      have hp := wrap_pow64 (n := x) (by omega)
      have hor := bits_or_u64_nat (rowN a k) (2 ^ x) (rowN_lt a k (by omega)) (Nat.pow_lt_pow_right (a := 2) (n := 64) (by decide) (by omega))
      have HO := Lib.hid (show rowN a (k + 1) = rowN a k ||| 2 ^ x by rw [hx]; rfl)
      clear hx
      go_wp2_with fail
      case roundEnd =>
        refine ⟨⟨k + 1, by have := HX.out; omega, by rw [HX.out]; rfl, ?_, by trivial⟩, by simp [intOf]; have := HX.out; omega⟩
        rw [HO.out, ← hor]
        congr 2
    · have hd : decide ((x : Int) ≤ (b : Int)) = false := decide_eq_false (by omega)
      have hkk : k = b + 1 - a := by omega
      have HR := Lib.hid (show rowN a (b + 1 - a) = rowN a k by rw [hkk])
      clear hx hkk
      go_wp2_with fail
      go_ret
      exact ⟨by rw [HR.out]; rfl, rfl⟩
end Go.Proofs.YtoajocgfmbakjaaGreatDoor
/-
  The moulds of the chapter's examples.
-/
set_option linter.unusedVariables false
set_option linter.unusedSimpArgs false
namespace Go.Proofs.YtoajocgfmbakjaaGreatDoor
open Go Go.RowKit Go.Shelf

def ex1 : List Sol := [up8 (fun _ => 0) 5 28, up8 (up8 (fun _ => 0) 6 28) 7 28, up8 (fun _ => 0) 5 32]
def ex2 : List Sol := [up8 (up8 (fun _ => 0) 7 4) 6 8, up8 (up8 (fun _ => 0) 6 4) 7 8]
theorem sols_new {W : World} {cs : Array Value} {n k cap : Nat} {T : TypeId} (hn : n = W.heap.size) (ms : List Sol) (hl : ms.length = k) (hk : k ≤ maxLen) (h : ∀ (i : Nat) (m : Sol), ms[i]? = some m → ∀ j, j < 8 → cs[i * 8 + j]? = some (.int .u64 (m j : Nat))) :
    SolsAt (W.alloc (.cells cs T)) (.slice (some ⟨n, 0, none⟩) k cap) ms := by
  subst hn hl
  refine ⟨_, cap, rfl, hk, .inr ⟨_, 0, rfl, by simp, fun i m hm j hj => ?_⟩⟩
  rw [Nat.zero_add]
  exact cells4 (World.alloc_heap_new W _) _ _ (h i m hm j hj)
set_option maxRecDepth 100000 in
set_option maxHeartbeats 2000000 in
theorem layered_ok (w : World) : Calls Tryz.prog 78 #[] w fun e w' => (∃ u, e = .returned u ∧ SolsAt w' u ex1) ∧ Below w.heap.size w w' := by
  have R24 := Lib.hid (fun W => row_ok 2 4 (by decide) (by decide) W)
  rw [show rowN 2 (4 + 1 - 2) = 28 from by decide +kernel] at R24
  have R55 := Lib.hid (fun W => row_ok 5 5 (by decide) (by decide) W)
  rw [show rowN 5 (5 + 1 - 5) = 32 from by decide +kernel] at R55
  go_enter Tryz.func78, Tryz.ntmps78
  go_wp2_with fail
  refine (R24.out _).mono ?_
  rintro e _ ⟨rfl, rfl⟩
  go_wp2_with fail
  refine (R24.out _).mono ?_
  rintro e _ ⟨rfl, rfl⟩
  go_wp2_with fail
  refine (R24.out _).mono ?_
  rintro e _ ⟨rfl, rfl⟩
  go_wp2_with fail
  refine (R55.out _).mono ?_
  rintro e _ ⟨rfl, rfl⟩
  go_wp2_with fail
  go_ret
  refine ⟨⟨_, rfl, sols_new (by simp) ex1 rfl (by decide) fun i m hm j hj => ?_⟩, (((Below.refl _ w).alloc (Nat.le_refl _) _).alloc (by simp) _).alloc (by simp; omega) _ |>.alloc (by simp; omega) _⟩
  rcases i with _ | _ | _ | i
  · cases hm; rcases lt8 hj with rfl | rfl | rfl | rfl | rfl | rfl | rfl | rfl <;> rfl
  · cases hm; rcases lt8 hj with rfl | rfl | rfl | rfl | rfl | rfl | rfl | rfl <;> rfl
  · cases hm; rcases lt8 hj with rfl | rfl | rfl | rfl | rfl | rfl | rfl | rfl <;> rfl
  · simp [ex1] at hm
set_option maxRecDepth 100000 in
set_option maxHeartbeats 2000000 in
theorem ring_ok (w : World) : Calls Tryz.prog 79 #[] w fun e w' => (∃ u, e = .returned u ∧ SolsAt w' u ex2) ∧ Below w.heap.size w w' := by
  have R22 := Lib.hid (fun W => row_ok 2 2 (by decide) (by decide) W)
  rw [show rowN 2 (2 + 1 - 2) = 4 from by decide +kernel] at R22
  have R33 := Lib.hid (fun W => row_ok 3 3 (by decide) (by decide) W)
  rw [show rowN 3 (3 + 1 - 3) = 8 from by decide +kernel] at R33
  go_enter Tryz.func79, Tryz.ntmps79
  go_wp2_with fail
  refine (R22.out _).mono ?_
  rintro e _ ⟨rfl, rfl⟩
  go_wp2_with fail
  refine (R33.out _).mono ?_
  rintro e _ ⟨rfl, rfl⟩
  go_wp2_with fail
  refine (R22.out _).mono ?_
  rintro e _ ⟨rfl, rfl⟩
  go_wp2_with fail
  refine (R33.out _).mono ?_
  rintro e _ ⟨rfl, rfl⟩
  go_wp2_with fail
  go_ret
  refine ⟨⟨_, rfl, sols_new (by simp) ex2 rfl (by decide) fun i m hm j hj => ?_⟩, (((Below.refl _ w).alloc (Nat.le_refl _) _).alloc (by simp) _).alloc (by simp; omega) _⟩
  rcases i with _ | _ | i
  · cases hm; rcases lt8 hj with rfl | rfl | rfl | rfl | rfl | rfl | rfl | rfl <;> rfl
  · cases hm; rcases lt8 hj with rfl | rfl | rfl | rfl | rfl | rfl | rfl | rfl <;> rfl
  · simp [ex2] at hm
end Go.Proofs.YtoajocgfmbakjaaGreatDoor
