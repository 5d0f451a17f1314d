/-
  Holds: the errors.
-/
import Derived.Test.YtoajocgfmbakjaaGreatDoorPdI
import Derived.Test.YtoajocgfmbakjaaGreatDoorPdA
import Derived.Test.YtoajocgfmbakjaaGreatDoorPdW
import Derived.Test.YtoajocgfmbakjaaGreatDoorPdB
import Derived.Test.YtoajocgfmbakjaaGreatDoorPdC
import Derived.Test.YtoajocgfmbakjaaGreatDoorPdQ
set_option linter.unusedVariables false
set_option linter.unusedSimpArgs false
namespace Go.Proofs.YtoajocgfmbakjaaGreatDoor
open Go Go.RowKit Go.Shelf
attribute [local go_sem] Oper.semAt_some

theorem res4_new (X : World) : Res4 ((((X.alloc (.cells #[.int .i64 0] 3)).alloc (.cells #[.int .i64 0] 3)).alloc (.cells #[.bool false] 4)).alloc (.cells #[.int .i64 0] 28)) X.heap.size (.int .i64 0) (.int .i64 0) (.bool false) (.int .i64 0) := by
  refine ⟨?_, ?_, ?_, ?_⟩
  · exact (Below.heap_alloc _ _ _ (by simp; omega)).trans ((Below.heap_alloc _ _ _ (by simp; omega)).trans ((Below.heap_alloc _ _ _ (by simp)).trans (World.alloc_heap_new X _)))
  · refine (Below.heap_alloc _ _ _ (by simp)).trans ((Below.heap_alloc _ _ _ (by simp)).trans ?_)
    have := World.alloc_heap_new (X.alloc (.cells #[.int .i64 0] 3)) (.cells #[.int .i64 0] 3); rwa [World.size_alloc] at this
  · refine (Below.heap_alloc _ _ _ (by simp)).trans ?_
    have := World.alloc_heap_new ((X.alloc (.cells #[.int .i64 0] 3)).alloc (.cells #[.int .i64 0] 3)) (.cells #[.bool false] 4); rwa [World.size_alloc, World.size_alloc] at this
  · have := World.alloc_heap_new (((X.alloc (.cells #[.int .i64 0] 3)).alloc (.cells #[.int .i64 0] 3)).alloc (.cells #[.bool false] 4)) (.cells #[.int .i64 0] 28); rwa [World.size_alloc, World.size_alloc, World.size_alloc] at this
theorem Res4.setB {W : World} {R : Nat} {a b c d : Value} (h : Res4 W R a b c d) (x : Value) : Res4 (W.setCell ⟨R + 1, 0, none⟩ x) R a x c d := ⟨heap_set h.ha (by omega) x, blk1_set h.hb x, heap_set h.hc (by omega) x, heap_set h.hd (by omega) x⟩
theorem Res4.setC {W : World} {R : Nat} {a b c d : Value} (h : Res4 W R a b c d) (x : Value) : Res4 (W.setCell ⟨R + 1 + 1, 0, none⟩ x) R a b x d := ⟨heap_set h.ha (by omega) x, heap_set h.hb (by omega) x, blk1_set h.hc x, heap_set h.hd (by omega) x⟩
set_option maxRecDepth 100000 in
set_option maxHeartbeats 2000000 in
theorem holds_err (ms : List Sol) (l : List Int) (p s far : Int) (v lv : Value) (w : World) (hv : SolsAt w v ms) (hl : IntsAt w lv l) (hm : ∀ m ∈ ms, Fit m) (h100 : l.length ≤ 100) (he : errW ms l ≠ 0) :
    Calls Tryz.prog 34 #[v, lv, .agg #[.int .i64 (p), .int .i64 (s), .int .i64 (far)]] w (RetB (.tuple #[.int .i64 0, .int .i64 0, .bool false, .int .i64 (errW ms l)]) w) := by
  obtain ⟨X, hX⟩ : ∃ X, X = w.alloc (.cells #[.int .i64 (p), .int .i64 (s), .int .i64 (far)] 40) := ⟨_, rfl⟩
  obtain ⟨R, hR⟩ : ∃ R, R = X.heap.size := ⟨_, rfl⟩
  obtain ⟨W0, hW0⟩ : ∃ W0, W0 = (((X.alloc (.cells #[.int .i64 0] 3)).alloc (.cells #[.int .i64 0] 3)).alloc (.cells #[.bool false] 4)).alloc (.cells #[.int .i64 0] 28) := ⟨_, rfl⟩
  have r0 := res4_new X
  rw [← hW0, ← hR] at r0
  have hRw : R = w.heap.size + 1 := by rw [hR, hX, World.size_alloc]
  rw [hX] at hW0
  have hB0 : Below w.heap.size w W0 := by rw [hW0]; exact (((((Below.refl _ w).alloc (Nat.le_refl _) _).alloc (by simp) _).alloc (by simp; omega) _).alloc (by simp; omega) _).alloc (by simp; omega) _
  have HY := lookW_no ms l v lv W0 (hv.below hB0 (Nat.le_refl _)) (hl.below hB0 (Nat.le_refl _)) hm h100 he
  obtain ⟨E, hE⟩ : ∃ E, E = errW ms l := ⟨_, rfl⟩
  rw [← hE] at HY he ⊢
  rw [hW0] at HY
  have HYH := Lib.hid HY
  have HRW := Lib.hid hRw
  have hne : (E != 0) = true := by simpa using he
  clear HY hE hR hX hv hl hm h100 he hRw
  refine (callsIn_wide (n := 9)).1 ?_
  refine callsIn_of_wp_marks Tryz.func34 rfl trivial ?_ rfl
  simp only [Tryz.ntmps34, List.size_toArray, List.length_cons, List.length_nil, Nat.reduceAdd, Nat.reduceSub, Array.replicate_succ, Array.replicate_zero, List.push_toArray, List.append_toArray, List.nil_append, List.cons_append]
  refine wpIn_wide.2 ?_
  go_wp2_with fail
  refine HYH.out.mono ?_
  rw [← hW0]
  rintro e w1 ⟨rfl, hB1⟩
  have hr1 := r0.below hB1 r0.lt
  have hBw := up hB1 hB0
  obtain ⟨W2, hW2⟩ : ∃ W2, W2 = w1.alloc (.cells #[.slice none 0 0, .map none] 101) := ⟨_, rfl⟩
  have hA : Below w1.heap.size w1 W2 := by rw [hW2]; exact (Below.refl _ w1).alloc (Nat.le_refl _) _
  have hr2 := hr1.below hA hr1.lt
  have hB2 := hBw.trans (hA.mono hBw.size)
  obtain ⟨W3, hW3⟩ : ∃ W3, W3 = W2.setCell ⟨R + 1 + 1 + 1, 0, none⟩ (.int .i64 E) := ⟨_, rfl⟩
  have hr3 := hr2.setD (.int .i64 E)
  have hB3 : Below w.heap.size w W3 := by rw [hW3]; exact hB2.setCell (p := ⟨R + 1 + 1 + 1, 0, none⟩) (by have := HRW.out; show w.heap.size ≤ R + 1 + 1 + 1; omega) _
  rw [← hW3] at hr3
  have d2 := cells4 hr2.hd 0 _ rfl
  have fd2 := free3 hr2.hd 0
  have d3 := cells4 hr3.hd 0 _ rfl
  have HB3 := Lib.hid hB3
  have HR3 := Lib.hid hr3
  have HLW := Lib.hid (show w.heap.size ≤ R by have := HRW.out; omega)
  clear r0 hB0 hB1 hBw hA hr1 hW0 HYH hB2 hr2 hr3 hB3
  rw [hW2] at fd2 d2 hW3
  rw [hW3] at d3
  rw [← HRW.out]
  clear hW2
  go_wp2_with fail
  rw [← hW3]
  clear d2 fd2 d3 hW3
  have hC0 : Res4 W3.drew R (.int .i64 0) (.int .i64 0) (.bool false) (.int .i64 E) ∧ Below w.heap.size w W3.drew := ⟨HR3.out.below (Below.drew (Below.refl _ _)) HR3.out.lt, Below.drew HB3.out⟩
  refine wp_region_relR (fun (i : Nat) (v : Value) (W : World) => match i with | 0 => v = .int .i64 E | _ => True) (fun W => Res4 W R (.int .i64 0) (.int .i64 0) (.bool false) (.int .i64 E) ∧ Below w.heap.size w W) (fun _ _ => True) (by kernel_rfl) (by kernel_rfl) (by kernel_rfl) hC0 (by kernel_rfl) (fun j v W W' _ _ h => h) ?hop ?hend
  case hop =>
    intro iR o ho a' W hC hin hfix
    obtain ⟨hr, hb⟩ := hC
    have s6 : a'.tmps[6]? = some (.pointer (some ⟨R, 0, none⟩)) := hfix 6 (by kernel_rfl)
    have s7 : a'.tmps[7]? = some (.pointer (some ⟨R + 1, 0, none⟩)) := hfix 7 (by kernel_rfl)
    have s8 : a'.tmps[8]? = some (.pointer (some ⟨R + 1 + 1, 0, none⟩)) := hfix 8 (by kernel_rfl)
    have s9 : a'.tmps[9]? = some (.pointer (some ⟨R + 1 + 1 + 1, 0, none⟩)) := hfix 9 (by kernel_rfl)
    have fa := free3 hr.ha 0
    have fb := free3 hr.hb 0
    have fc := free3 hr.hc 0
    have fd := free3 hr.hd 0
    have ya := cells4 hr.ha 0 _ rfl
    have yb := cells4 hr.hb 0 _ rfl
    have yc := cells4 hr.hc 0 _ rfl
    have yd := cells4 hr.hd 0 _ rfl
    have hi : iR < 5 := (Array.getElem?_eq_some_iff.1 ho).1
    rcases (show iR = 0 ∨ iR = 1 ∨ iR = 2 ∨ iR = 3 ∨ iR = 4 by omega) with rfl | rfl | rfl | rfl | rfl
    · obtain rfl := Option.some.inj ho
      refine .inl ⟨rfl, fun K hK => ?_⟩
      clear hin hfix ho
      go_simp
      exact hK _ _ rfl ⟨hr, hb⟩ trivial
    · obtain rfl := Option.some.inj ho
      refine .inl ⟨rfl, fun K hK => ?_⟩
      clear hin hfix ho
      go_simp
      exact hK undef _ trivial ⟨hr.setA _, hb.setCell (p := ⟨R, 0, none⟩) HLW.out _⟩ trivial
    · obtain rfl := Option.some.inj ho
      refine .inl ⟨rfl, fun K hK => ?_⟩
      clear hin hfix ho
      go_simp
      exact hK undef _ trivial ⟨hr.setB _, hb.setCell (p := ⟨R + 1, 0, none⟩) (by have := HLW.out; show w.heap.size ≤ R + 1; omega) _⟩ trivial
    · obtain rfl := Option.some.inj ho
      refine .inl ⟨rfl, fun K hK => ?_⟩
      clear hin hfix ho
      go_simp
      exact hK undef _ trivial ⟨hr.setC _, hb.setCell (p := ⟨R + 1 + 1, 0, none⟩) (by have := HLW.out; show w.heap.size ≤ R + 1 + 1; omega) _⟩ trivial
    · obtain ⟨v0, rfl, h0⟩ := hin 0 24 (by kernel_rfl) (by kernel_rfl)
      obtain rfl := Option.some.inj ho
      refine .inl ⟨rfl, fun K hK => ?_⟩
      clear hin hfix ho
      go_simp
      exact hK undef _ trivial ⟨hr.setD _, hb.setCell (p := ⟨R + 1 + 1 + 1, 0, none⟩) (by have := HLW.out; show w.heap.size ≤ R + 1 + 1 + 1; omega) _⟩ trivial
  case hend =>
    intro vals W hC hV
    obtain ⟨hr, hb⟩ := hC
    have z0 := hV 0 (by decide)
    clear hV
    simp only at z0
    have hr5 : List.range 5 = [0, 1, 2, 3, 4] := rfl
    simp only [List.size_toArray, List.length_cons, List.length_nil, Nat.reduceAdd, putA, hr5, List.foldl_cons, List.foldl_nil, dstR, List.getElem?_toArray, List.getElem?_cons_succ, List.getElem?_cons_zero, Option.bind_some, Act.put, List.setIfInBounds_toArray, List.set_cons_succ, List.set_cons_zero, z0]
    clear hr5 z0
    go_wp2_with fail
    refine leaves_marks w.heap.size [] _ (by simp) (by simp) fun W3 hb3 hk => ?_
    have HPP := hr.keep (W' := W3) (fun k o hko ho => hk k o (by simp) ho)
    exact ⟨_, res_iibe Tryz.results34 rfl rfl rfl rfl (cells4 HPP.ha 0 _ rfl) (cells4 HPP.hb 0 _ rfl) (cells4 HPP.hc 0 _ rfl) (cells4 HPP.hd 0 _ rfl), rfl, hb.trans hb3⟩
set_option maxRecDepth 100000 in
set_option maxHeartbeats 2000000 in
theorem holds_arg (ms : List Sol) (l : List Int) (g : Nat) (p s far : Int) (v lv : Value) (w : World) (hv : SolsAt w v ms) (hl : IntsAt w lv l) (hm : ∀ m ∈ ms, Fit m) (h100 : l.length ≤ 100) (hc : chkM ms = 0) (hs : setF ms.length l = some g)
    (hb : moveB ms.length p s far = false ∨ moveB ms.length p s far = true ∧ g.testBit p.toNat = true) :
    Calls Tryz.prog 34 #[v, lv, .agg #[.int .i64 (p), .int .i64 (s), .int .i64 (far)]] w (RetB (.tuple #[.int .i64 0, .int .i64 0, .bool false, .int .i64 1]) w) := by
  obtain ⟨B, hBB⟩ : ∃ B, B = w.heap.size := ⟨_, rfl⟩
  obtain ⟨X, hX⟩ : ∃ X, X = w.alloc (.cells #[.int .i64 (p), .int .i64 (s), .int .i64 (far)] 40) := ⟨_, rfl⟩
  obtain ⟨R, hR⟩ : ∃ R, R = X.heap.size := ⟨_, rfl⟩
  obtain ⟨W0, hW0⟩ : ∃ W0, W0 = (((X.alloc (.cells #[.int .i64 0] 3)).alloc (.cells #[.int .i64 0] 3)).alloc (.cells #[.bool false] 4)).alloc (.cells #[.int .i64 0] 28) := ⟨_, rfl⟩
  have r0 := res4_new X
  rw [← hW0, ← hR] at r0
  have hRw : R = w.heap.size + 1 := by rw [hR, hX, World.size_alloc]
  rw [hX] at hW0
  have hB0 : Below w.heap.size w W0 := by rw [hW0]; exact (((((Below.refl _ w).alloc (Nat.le_refl _) _).alloc (by simp) _).alloc (by simp; omega) _).alloc (by simp; omega) _).alloc (by simp; omega) _
  have m0 : BoxM W0 B p s far := by
    rw [hW0, hBB]; exact (Below.heap_alloc _ _ _ (by simp; omega)).trans ((Below.heap_alloc _ _ _ (by simp; omega)).trans ((Below.heap_alloc _ _ _ (by simp; omega)).trans ((Below.heap_alloc _ _ _ (by simp)).trans (World.alloc_heap_new w _))))
  have HY := lookW_yes ms l g v lv W0 (hv.below hB0 (Nat.le_refl _)) (hl.below hB0 (Nat.le_refl _)) hm hc h100 hs
  rw [hW0] at HY
  have HYH := Lib.hid HY
  have h12 := chkM_len hc
  have hg := setF_lt h12 hs
  have HRW := Lib.hid hRw
  have HBE := Lib.hid hBB
  obtain ⟨pa, cap, rfl, _, _⟩ := hv
  have HIM := Lib.hid (fun W => isMove_ok pa ms.length cap p s far W)
  have HLW := Lib.hid (show w.heap.size ≤ R by omega)
  have HB := Lib.hid hb
  have HNA := Lib.hid (show moveB ms.length p s far = true → ∃ q : Nat, p = (q : Int) ∧ q < 12 from fun h => by
    obtain ⟨r, x, rfl, _, _, hr, _, _⟩ := moveB_ok h
    exact ⟨r, rfl, by omega⟩)
  have HH := Lib.hid (fun (q : Nat) (hq : q < 12) W => has_ok g q hg (by omega) W)
  clear HY hR hX hl hm h100 hc hs hRw hb h12 hBB hg
  refine (callsIn_wide (n := 9)).1 ?_
  refine callsIn_of_wp_marks Tryz.func34 rfl trivial ?_ rfl
  simp only [Tryz.ntmps34, List.size_toArray, List.length_cons, List.length_nil, Nat.reduceAdd, Nat.reduceSub, Array.replicate_succ, Array.replicate_zero, List.push_toArray, List.append_toArray, List.nil_append, List.cons_append]
  refine wpIn_wide.2 ?_
  go_wp2_with fail
  refine HYH.out.mono ?_
  rw [← hW0, ← HBE.out]
  rintro e w1 ⟨b, rfl, hb, hM1, hB1⟩
  have hm1 := heap_below m0 hB1 (Array.getElem?_eq_some_iff.1 m0).1
  have hr1 := r0.below hB1 r0.lt
  have hBw := up hB1 hB0
  obtain ⟨A, hAA⟩ : ∃ A, A = w1.heap.size := ⟨_, rfl⟩
  obtain ⟨W2, hW2⟩ : ∃ W2, W2 = w1.alloc (.cells #[.slice pa ms.length cap, .map (some b)] 101) := ⟨_, rfl⟩
  have q2 : W2.heap[A]? = some (.cells #[.slice pa ms.length cap, .map (some b)] 101 (0, 0)) := by rw [hW2, hAA]; exact World.alloc_heap_new w1 _
  have hA : Below w1.heap.size w1 W2 := by rw [hW2]; exact (Below.refl _ w1).alloc (Nat.le_refl _) _
  have hm2 := heap_below hm1 hA (Array.getElem?_eq_some_iff.1 hm1).1
  have hr2 := hr1.below hA hr1.lt
  have hB2 := hBw.trans (hA.mono hBw.size)
  obtain ⟨W3, hW3⟩ : ∃ W3, W3 = W2.setCell ⟨R + 1 + 1 + 1, 0, none⟩ (.int .i64 0) := ⟨_, rfl⟩
  have hr3 := hr2.setD (.int .i64 0)
  have hB3 : Below w.heap.size w W3 := by rw [hW3]; exact hB2.setCell (p := ⟨R + 1 + 1 + 1, 0, none⟩) (by have := HLW.out; show w.heap.size ≤ R + 1 + 1 + 1; omega) _
  have hRA : R + 1 + 1 + 1 < A := by have := hr1.lt; omega
  have hm3 : BoxM W3 B p s far := by rw [hW3]; exact heap_set hm2 (by have := HRW.out; have := HBE.out; omega) _
  have q3 : W3.heap[A]? = some (.cells #[.slice pa ms.length cap, .map (some b)] 101 (0, 0)) := by rw [hW3]; exact heap_set q2 (by omega) _
  rw [← hW3] at hr3
  have d2 := cells4 hr2.hd 0 _ rfl
  have fd2 := free3 hr2.hd 0
  have d3 := cells4 hr3.hd 0 _ rfl
  have HB3 := Lib.hid hB3
  have HR3 := Lib.hid hr3
  obtain ⟨x0, x1, x2⟩ := cells3 hm3
  have c0 := cells4 q3 0 _ rfl
  clear r0 m0 hB0 hB1 hBw hA hr1 hm1 hm2 q2 hW0 HYH hB2 hr2 hr3 hB3 hRA hM1 hb
  rw [hW2] at fd2 d2 hW3
  rw [hW3] at d3 x0 x1 x2 c0
  rw [hAA] at c0
  rw [← (show R = B + 1 by rw [HRW.out, HBE.out])]
  clear hW2
  go_wp2_with fail
  refine (HIM.out _).mono ?_
  rw [← hW3, ← hAA]
  rintro e w4 ⟨rfl, hb4⟩
  have HM4 := Lib.hid (heap_below hm3 hb4 (Array.getElem?_eq_some_iff.1 hm3).1)
  have HR4 := Lib.hid (HR3.out.below hb4 HR3.out.lt)
  have HB4 := Lib.hid (up hb4 HB3.out)
  clear c0 x0 x1 x2 d2 d3 fd2 hW3 hAA hm3 q3 hb4 HR3 HB3
  cases hmv : moveB ms.length p s far with
  | false =>
    have fa := free3 HR4.out.ha 0
    have fb := free3 HR4.out.hb 0
    have fc := free3 HR4.out.hc 0
    have fd := free3 HR4.out.hd 0
    have ya := cells4 HR4.out.ha 0 _ rfl
    have yb := cells4 HR4.out.hb 0 _ rfl
    have yc := cells4 HR4.out.hc 0 _ rfl
    have yd := cells4 HR4.out.hd 0 _ rfl
    have HP := Lib.hid (HR4.out.put (.int .i64 0) (.int .i64 0) (.bool false) (.int .i64 1))
    have HBP := Lib.hid (putR_below (R := R) HB4.out HLW.out (.int .i64 0) (.int .i64 0) (.bool false) (.int .i64 1))
    clear hmv
    go_wp2_with fail
    refine leaves_marks w.heap.size [] _ (by simp) (by simp) fun W3 hb3 hk => ?_
    have HPP := HP.out.keep (W' := W3) (fun k o hko ho => hk k o (by simp) ho)
    exact ⟨_, res_iibe Tryz.results34 rfl rfl rfl rfl (cells4 HPP.ha 0 _ rfl) (cells4 HPP.hb 0 _ rfl) (cells4 HPP.hc 0 _ rfl) (cells4 HPP.hd 0 _ rfl), rfl, HBP.out.trans hb3⟩
  | true =>
    obtain ⟨q, hpq, hq⟩ := HNA.out hmv
    have hbt : g.testBit q = true := by
      rcases HB.out with h | ⟨_, h⟩
      · rw [hmv] at h; cases h
      · rwa [hpq, Int.toNat_natCast] at h
    subst hpq
    have HHQ := Lib.hid (fun W => (show Calls Tryz.prog 96 #[setV g, .int .i64 (q : Nat)] W (RetB (.bool true) W) by rw [← hbt]; exact HH.out q hq W))
    obtain ⟨x0, x1, x2⟩ := cells3 HM4.out
    clear hmv hbt hq
    go_wp2_with fail
    refine (HHQ.out _).mono ?_
    rintro e w5 ⟨rfl, hb5⟩
    have HR5 := Lib.hid (HR4.out.below hb5 HR4.out.lt)
    have HB5 := Lib.hid (up hb5 HB4.out)
    have fa := free3 HR5.out.ha 0
    have fb := free3 HR5.out.hb 0
    have fc := free3 HR5.out.hc 0
    have fd := free3 HR5.out.hd 0
    have ya := cells4 HR5.out.ha 0 _ rfl
    have yb := cells4 HR5.out.hb 0 _ rfl
    have yc := cells4 HR5.out.hc 0 _ rfl
    have yd := cells4 HR5.out.hd 0 _ rfl
    have HP := Lib.hid (HR5.out.put (.int .i64 0) (.int .i64 0) (.bool false) (.int .i64 1))
    have HBP := Lib.hid (putR_below (R := R) HB5.out HLW.out (.int .i64 0) (.int .i64 0) (.bool false) (.int .i64 1))
    clear x0 x1 x2 hb5
    go_wp2_with fail
    refine leaves_marks w.heap.size [] _ (by simp) (by simp) fun W3 hb3 hk => ?_
    have HPP := HP.out.keep (W' := W3) (fun k o hko ho => hk k o (by simp) ho)
    exact ⟨_, res_iibe Tryz.results34 rfl rfl rfl rfl (cells4 HPP.ha 0 _ rfl) (cells4 HPP.hb 0 _ rfl) (cells4 HPP.hc 0 _ rfl) (cells4 HPP.hd 0 _ rfl), rfl, HBP.out.trans hb3⟩
end Go.Proofs.YtoajocgfmbakjaaGreatDoor
/-
  Holds at every mould, list and move.
-/
set_option linter.unusedVariables false
set_option linter.unusedSimpArgs false
namespace Go.Proofs.YtoajocgfmbakjaaGreatDoor
open Go Go.RowKit Go.Shelf

theorem holdsT_ok (ms : List Sol) (l : List Int) (p s far : Int) (v lv : Value) (w : World) (hv : SolsAt w v ms) (hl : IntsAt w lv l) (hm : ∀ m ∈ ms, Fit m) (h100 : l.length ≤ 100) (hT : Tab64 w) :
    Calls Tryz.prog 34 #[v, lv, .agg #[.int .i64 (p), .int .i64 (s), .int .i64 (far)]] w (RetB (.tuple #[.int .i64 (holT ms l (p, s, far)).1, .int .i64 (holT ms l (p, s, far)).2.1, .bool (holT ms l (p, s, far)).2.2, .int .i64 (goErr ms l (p, s, far))]) w) := by
  have hno : goErr ms l (p, s, far) ≠ 0 → holT ms l (p, s, far) = (0, 0, false) := fun h => if_neg h
  by_cases he : errW ms l = 0
  · obtain ⟨hc, g, hs⟩ : chkM ms = 0 ∧ ∃ g, setF ms.length l = some g := by
      rcases errW_ways ms l with ⟨h1, h2⟩ | ⟨h1, h2, h3⟩ | ⟨h1, h2, h3⟩
      · rw [h2] at he; exact absurd he h1
      · rw [h3] at he; cases he
      · exact ⟨h1, h2⟩
    have hE : goErr ms l (p, s, far) = if (moveB ms.length p s far && !g.testBit p.toNat) = true then 0 else 1 := by unfold goErr; rw [if_pos he, hs]; rfl
    cases hmv : moveB ms.length p s far with
    | false =>
      rw [hmv] at hE
      have hE : goErr ms l (p, s, far) = 1 := hE
      rw [hno (by rw [hE]; decide), hE]
      exact holds_arg ms l g p s far v lv w hv hl hm h100 hc hs (.inl hmv)
    | true =>
      cases hbt : g.testBit p.toNat with
      | true =>
        rw [hmv, hbt] at hE
        have hE : goErr ms l (p, s, far) = 1 := hE
        rw [hno (by rw [hE]; decide), hE]
        exact holds_arg ms l g p s far v lv w hv hl hm h100 hc hs (.inr ⟨hmv, hbt⟩)
      | false =>
        rw [hmv, hbt] at hE
        have hE : goErr ms l (p, s, far) = 0 := hE
        obtain ⟨r, x, rfl, rfl, rfl, hr, hrt, hx⟩ := moveB_ok hmv
        obtain ⟨f, hf⟩ : ∃ f, ms[r]? = some f := ⟨_, List.getElem?_eq_getElem hr⟩
        have hw : x.1 = 0 ∧ x.2 = 0 ∨ 1 ≤ x.1 ∧ x.1 ≤ 4 ∧ 1 ≤ x.2 ∧ x.2 ≤ 7 := by
          have h2 := hmv
          unfold moveB wayB at h2
          rw [Bool.and_eq_true] at h2
          have := of_decide_eq_true h2.2
          omega
        rw [Int.toNat_natCast] at hbt
        have hT2 : holT ms l ((r : Int), (x.1 : Int), (x.2 : Int)) = holdL ms (restF ms (g ||| 2 ^ r)) (standsL f x.1 x.2) := by
          unfold holT
          rw [if_pos hE]
          dsimp only
          rw [Int.toNat_natCast, Int.toNat_natCast, Int.toNat_natCast, hf, hs]
          rfl
        rw [hT2, hE]
        exact holds_yes ms l g r x.1 x.2 f v lv w hv hl hm h100 hc hs hf hbt (by omega) (by omega) hmv hT
  · have hE : goErr ms l (p, s, far) = errW ms l := by unfold goErr; rw [if_neg he]
    rw [hno (by rw [hE]; exact he), hE]
    exact holds_err ms l p s far v lv w hv hl hm h100 he
end Go.Proofs.YtoajocgfmbakjaaGreatDoor
/-
  A move that nothing stands in the way of: mathematics.
-/
set_option linter.unusedVariables false
set_option linter.unusedSimpArgs false
namespace Go.Proofs.YtoajocgfmbakjaaGreatDoor
open Go Go.RowKit

theorem touch_rest {ms : List Sol} (hm : ∀ m ∈ ms, Fit m) (ha : Apart ms) {t : Sol} (ht : Fit t) {s : Nat} : touchB t (restF ms s) = true ↔ touchB t (sandF ms) = true ∨ ∃ (q : Nat) (m : Sol), ms[q]? = some m ∧ s.testBit q = false ∧ touchB t m = true := by
  constructor
  · intro h
    obtain ⟨z, i, hz, h1, h2⟩ := touch_iff.1 h
    obtain ⟨hi, h3⟩ := (restF_bit hm).1 h2
    by_cases hq : ∃ (q : Nat) (m : Sol), ms[q]? = some m ∧ (m z).testBit i = true
    · obtain ⟨q, m, hqm, hb⟩ := hq
      refine .inr ⟨q, m, hqm, ?_, touch_iff.2 ⟨z, i, hz, h1, hb⟩⟩
      cases hs : s.testBit q with
      | false => rfl
      | true => rw [h3 q hs m hqm] at hb; cases hb
    · refine .inl (touch_iff.2 ⟨z, i, hz, h1, (sandF_bit hm).2 ⟨hi, fun m hmm => ?_⟩⟩)
      obtain ⟨q, hqm⟩ := List.mem_iff_getElem?.1 hmm
      cases hb : (m z).testBit i with
      | false => rfl
      | true => exact absurd ⟨q, m, hqm, hb⟩ hq
  · rintro (h | ⟨q, m, hqm, hs, h⟩)
    · obtain ⟨z, i, hz, h1, h2⟩ := touch_iff.1 h
      obtain ⟨hi, h3⟩ := (sandF_bit hm).1 h2
      exact touch_iff.2 ⟨z, i, hz, h1, (restF_bit hm).2 ⟨hi, fun p _ m hpm => h3 m (List.mem_of_getElem? hpm)⟩⟩
    · obtain ⟨z, i, hz, h1, h2⟩ := touch_iff.1 h
      refine touch_iff.2 ⟨z, i, hz, h1, (restF_bit hm).2 ⟨bit_lt64 (ht z) h1, fun p hp mp hpm => ?_⟩⟩
      cases hb : (mp z).testBit i with
      | false => rfl
      | true =>
        by_cases e : p = q
        · subst e
          rw [hs] at hp
          cases hp
        · have := ha p q mp m e hpm hqm
          rw [touch_iff.2 ⟨z, i, hz, hb, h2⟩] at this
          cases this
theorem holdL_bad {ms : List Sol} {th : Sol} {L : List SB} : (holdL ms th L).2.2 = true ↔ ∃ x ∈ L, stopB th x = true := by
  unfold holdL
  cases h : L.find? (stopB th) with
  | none =>
    constructor
    · intro k; cases k
    · rintro ⟨x, hx, hs⟩
      have := List.find?_eq_none.1 h x hx
      exact absurd hs this
  | some x =>
    refine ⟨fun _ => ⟨x, List.mem_of_find?_eq_some h, List.find?_some h⟩, fun _ => ?_⟩
    show (holdV ms th x).2.2 = true
    unfold holdV
    split <;> rfl
theorem canGo_hold {ms : List Sol} (hm : ∀ m ∈ ms, Fit m) (ha : Apart ms) {g p : Nat} {f : Sol} {x : SD} (hx : x ∈ movesL) (hL : ∀ y ∈ standsL f x.1 x.2, Fit y.1) :
    canGoF ms g p f x = !(holdL ms (restF ms (g ||| 2 ^ p)) (standsL f x.1 x.2)).2.2 := by
  rw [Bool.eq_iff_iff, canGo_iff, Bool.not_eq_true', ← Bool.not_eq_true, holdL_bad]
  generalize standsL f x.1 x.2 = L at *
  have hst : ∀ y : SB, stopB (restF ms (g ||| 2 ^ p)) y = true ↔ y.2 = false ∨ touchB y.1 (restF ms (g ||| 2 ^ p)) = true := fun y => by
    unfold stopB
    rw [Bool.or_eq_true, Bool.not_eq_true']
  constructor
  · rintro ⟨_, h2, h3⟩ ⟨y, hy, hs⟩
    obtain ⟨k1, k2⟩ := freeK_iff.1 h2 y hy
    rcases (hst y).1 hs with h | h
    · rw [k1] at h; cases h
    · rcases (touch_rest hm ha (hL y hy)).1 h with h | ⟨q, m, hqm, hq, h⟩
      · rw [k2] at h; cases h
      · rw [or_pow_bit, Bool.or_eq_false_iff] at hq
        have hne : (q : Int) ≠ (p : Int) := fun e => by
          have := of_decide_eq_false hq.2
          omega
        have := h3 q (metK_bit.2 ⟨hne, y, hy, m, hqm, h⟩)
        rw [hq.1] at this
        cases this
  · intro h
    refine ⟨hx, freeK_iff.2 fun y hy => ?_, fun q hq => ?_⟩
    · have hn : ¬ (stopB (restF ms (g ||| 2 ^ p)) y = true) := fun hs => h ⟨y, hy, hs⟩
      rw [hst] at hn
      refine ⟨by cases hb : y.2 with | true => rfl | false => exact absurd (.inl hb) hn, ?_⟩
      cases hb : touchB y.1 (sandF ms) with
      | false => rfl
      | true => exact absurd (.inr ((touch_rest hm ha (hL y hy)).2 (.inl hb))) hn
    · obtain ⟨hne, y, hy, m, hqm, ht⟩ := metK_bit.1 hq
      cases hb : g.testBit q with
      | true => rfl
      | false =>
        refine absurd ⟨y, hy, (hst y).2 (.inr ((touch_rest hm ha (hL y hy)).2 (.inr ⟨q, m, hqm, ?_, ht⟩)))⟩ h
        rw [or_pow_bit, hb, decide_eq_false (by omega)]
        rfl
theorem stands_fit {f : Sol} (hf : Fit f) {s far : Nat} : ∀ y ∈ standsL f s far, Fit y.1 := fun y hy => sideL_fit s (cntF f) far f hf y hy
theorem goB_hold (ms : List Sol) (hm : ∀ m ∈ ms, Fit m) (l : List Int) (p s far : Int) : goB ms l (p, s, far) = (decide (goErr ms l (p, s, far) = 0) && !(holT ms l (p, s, far)).2.2) := by
  by_cases he : errW ms l = 0
  · obtain ⟨hc, g, hs⟩ : chkM ms = 0 ∧ ∃ g, setF ms.length l = some g := by
      rcases errW_ways ms l with ⟨h1, h2⟩ | ⟨h1, h2, h3⟩ | ⟨h1, h2, h3⟩
      · rw [h2] at he; exact absurd he h1
      · rw [h3] at he; cases he
      · exact ⟨h1, h2⟩
    have hE : goErr ms l (p, s, far) = if (moveB ms.length p s far && !g.testBit p.toNat) = true then 0 else 1 := by unfold goErr; rw [if_pos he, hs]; rfl
    have hG : goB ms l (p, s, far) = nextB ms g (p, s, far) := by unfold goB; rw [if_pos he, hs]; rfl
    rw [hG]
    cases hmv : moveB ms.length p s far with
    | false =>
      rw [hmv] at hE
      have hE : goErr ms l (p, s, far) = 1 := hE
      rw [hE]
      unfold nextB
      rw [hmv]
      rfl
    | true =>
      cases hbt : g.testBit p.toNat with
      | true =>
        rw [hmv, hbt] at hE
        have hE : goErr ms l (p, s, far) = 1 := hE
        rw [hE]
        unfold nextB
        rw [hmv]
        dsimp only
        rw [hbt]
        rfl
      | false =>
        rw [hmv, hbt] at hE
        have hE : goErr ms l (p, s, far) = 0 := hE
        obtain ⟨r, x, rfl, rfl, rfl, hr, hrt, hx⟩ := moveB_ok hmv
        obtain ⟨f, hf⟩ : ∃ f, ms[r]? = some f := ⟨_, List.getElem?_eq_getElem hr⟩
        have hw : wayB x.1 x.2 = true := by
          have h2 := hmv
          unfold moveB at h2
          rw [Bool.and_eq_true] at h2
          exact h2.2
        rw [hrt] at hbt
        have hT2 : holT ms l ((r : Int), (x.1 : Int), (x.2 : Int)) = holdL ms (restF ms (g ||| 2 ^ r)) (standsL f x.1 x.2) := by
          unfold holT
          rw [if_pos hE]
          dsimp only
          rw [Int.toNat_natCast, Int.toNat_natCast, Int.toNat_natCast, hf, hs]
          rfl
        have hN : nextB ms g ((r : Int), (x.1 : Int), (x.2 : Int)) = canGoF ms g r f x := by
          unfold nextB
          dsimp only
          rw [hmv, hrt, hx, hf, hbt]
          rfl
        rw [hT2, hE, hN, canGo_hold hm (chkM_apart hc) (mem_moves.2 hw) (stands_fit (hm f (List.mem_of_getElem? hf)))]
        rfl
  · have hE : goErr ms l (p, s, far) = errW ms l := by unfold goErr; rw [if_neg he]
    have hG : goB ms l (p, s, far) = false := by unfold goB; rw [if_neg he]
    rw [hE, hG, decide_eq_false he]
    rfl
end Go.Proofs.YtoajocgfmbakjaaGreatDoor
/-
  The pieces in the way of a move, as the reference finds them: mathematics.
-/
set_option linter.unusedVariables false
set_option linter.unusedSimpArgs false
namespace Go.Proofs.YtoajocgfmbakjaaGreatDoor
open Go Go.RowKit

/-- The numbers below n with a property; their set. -/
def pickL (n : Nat) (P : Nat → Bool) : List Nat := (List.range n).filter P
def pickS (n : Nat) (P : Nat → Bool) : Nat := setL 0 (pickL n P)
theorem mem_pick {n : Nat} {P : Nat → Bool} {q : Nat} : q ∈ pickL n P ↔ q < n ∧ P q = true := by unfold pickL; rw [List.mem_filter, List.mem_range]
theorem pickL_succ (k : Nat) (P : Nat → Bool) : pickL (k + 1) P = pickL k P ++ (if P k = true then [k] else []) := by
  unfold pickL
  rw [List.range_succ, List.filter_append]
  congr 1
  cases h : P k <;> simp [h]
theorem pick_asc (n : Nat) (P : Nat → Bool) : (pickL n P).Pairwise (· < ·) := List.Pairwise.filter _ List.pairwise_lt_range
theorem pick_list {n : Nat} (hn : n ≤ 12) (P : Nat → Bool) : listS (pickS n P) = pickL n P := list_setL (pick_asc n P) fun q hq => by have := (mem_pick.1 hq).1; omega
theorem pick_lt {n : Nat} (hn : n ≤ 12) (P : Nat → Bool) : pickS n P < 65536 := setL_lt (pickL n P) 0 (by omega) fun q hq => by have := (mem_pick.1 hq).1; omega
theorem pick_bit {n : Nat} {P : Nat → Bool} {q : Nat} : (pickS n P).testBit q = true ↔ q < n ∧ P q = true := by
  unfold pickS
  rw [setL_bit, mem_pick]
  simp
/-- Numbers as the program holds them. -/
def pickI (n : Nat) (P : Nat → Bool) : List Int := (pickL n P).map fun x : Nat => (x : Int)
/-- Whether something is in the way, some having gone. -/
def heldR (ms : List Sol) (gone : List Int) (p : Nat) (f : Sol) (s far : Nat) : Bool := (asT (standR ms gone p f s far)).2.2
/-- The pieces in the way. -/
def blkF (ms : List Sol) (p : Nat) (f : Sol) (s far : Nat) : Option (List Nat) := if heldR ms (pickI ms.length fun k => decide (k ≠ p)) p f s far = true then none
  else some (pickL ms.length fun i => decide (i ≠ p) && heldR ms (pickI ms.length fun k => decide (k ≠ i) && decide (k ≠ p)) p f s far)
theorem held_go {ms : List Sol} (hm : ∀ m ∈ ms, Fit m) (hc : chkM ms = 0) {p : Nat} {f : Sol} (hf : ms[p]? = some f) {x : SD} (hx : wayB x.1 x.2 = true) (P : Nat → Bool) : heldR ms (pickI ms.length P) p f x.1 x.2 = !canGoF ms (pickS ms.length P) p f x := by
  have hw : x.1 = 0 ∧ x.2 = 0 ∨ 1 ≤ x.1 ∧ x.1 ≤ 4 ∧ 1 ≤ x.2 ∧ x.2 ≤ 7 := by
    unfold wayB at hx
    have := of_decide_eq_true hx
    omega
  have h12 := chkM_len hc
  have hfm := hm f (List.mem_of_getElem? hf)
  have h1 : pickI ms.length P = listG (pickS ms.length P) := by unfold pickI listG; rw [pick_list h12]
  rw [canGo_hold hm (chkM_apart hc) (mem_moves.2 hx) (stands_fit hfm), Bool.not_not]
  unfold heldR
  rw [h1, stand_eq hm (chkM_apart hc) (pick_lt h12 P) hfm hw]
theorem met_in {ms : List Sol} {p q : Nat} {L : List SB} (h : (metK ms p L).testBit q = true) : q < ms.length ∧ q ≠ p := by
  obtain ⟨h1, _, _, m, h2, _⟩ := metK_bit.1 h
  exact ⟨(List.getElem?_eq_some_iff.1 h2).1, fun e => h1 (by rw [e])⟩
theorem blk_way {ms : List Sol} (hm : ∀ m ∈ ms, Fit m) (hc : chkM ms = 0) {p : Nat} {f : Sol} (hf : ms[p]? = some f) {x : SD} (hx : wayB x.1 x.2 = true) : blkF ms p f x.1 x.2 = (wayF ms p f x).map listS := by
  have h12 := chkM_len hc
  unfold blkF
  rw [held_go hm hc hf hx]
  by_cases hfr : freeK (sandF ms) (standsL f x.1 x.2) = true
  · have h1 : canGoF ms (pickS ms.length fun k => decide (k ≠ p)) p f x = true := canGo_iff.2 ⟨mem_moves.2 hx, hfr, fun q hq => by
      obtain ⟨k1, k2⟩ := met_in hq
      exact pick_bit.2 ⟨k1, decide_eq_true k2⟩⟩
    rw [h1, if_neg (by decide), wayF_some.2 ⟨mem_moves.2 hx, hfr, rfl⟩]
    show some _ = some _
    congr 1
    refine asc_ext (pick_asc _ _) (listS_asc (metK_lt ms p (by omega) _)) fun q => ?_
    rw [mem_pick, mem_listS (metK_lt ms p (by omega) _), held_go hm hc hf hx, Bool.and_eq_true, decide_eq_true_eq, Bool.not_eq_true', ← Bool.not_eq_true, canGo_iff]
    constructor
    · rintro ⟨k1, k2, k3⟩
      cases hb : (metK ms p (standsL f x.1 x.2)).testBit q with
      | true => rfl
      | false =>
        refine absurd ⟨mem_moves.2 hx, hfr, fun r hr => ?_⟩ k3
        obtain ⟨j1, j2⟩ := met_in hr
        refine pick_bit.2 ⟨j1, ?_⟩
        have hne : r ≠ q := fun e => by rw [e, hb] at hr; cases hr
        simp [hne, j2]
    · intro hq
      obtain ⟨j1, j2⟩ := met_in hq
      refine ⟨j1, j2, fun hh => ?_⟩
      have := (pick_bit.1 (hh.2.2 q hq)).2
      simp at this
  · have h1 : canGoF ms (pickS ms.length fun k => decide (k ≠ p)) p f x = false := by
      cases h : canGoF ms (pickS ms.length fun k => decide (k ≠ p)) p f x with
      | false => rfl
      | true => exact absurd (canGo_iff.1 h).2.1 hfr
    rw [h1, if_pos (by decide)]
    cases h : wayF ms p f x with
    | none => rfl
    | some q => exact absurd (wayF_some.1 h).2.1 hfr
end Go.Proofs.YtoajocgfmbakjaaGreatDoor
/-
  The reference's others.
-/
set_option linter.unusedVariables false
set_option linter.unusedSimpArgs false
namespace Go.Proofs.YtoajocgfmbakjaaGreatDoor
open Go Go.RowKit Go.Shelf

set_option maxRecDepth 100000 in
set_option maxHeartbeats 2000000 in
theorem others_ok (pa : Option Addr) (n c : Nat) (p : Int) (w : World) (hn : n ≤ 12) :
    Calls Tryz.prog 124 #[.slice pa n c, .int .i64 p] w fun e w' => (∃ u, e = .returned u ∧ w'.ownsRow w.heap.size 3 1 u (pickL n fun (k : Nat) => decide ((k : Int) ≠ p)).length (flatI (pickL n fun (k : Nat) => decide ((k : Int) ≠ p)))) ∧ Below w.heap.size w w' := by
  have HS := Lib.hid (fun k => pickL_succ k fun (j : Nat) => decide ((j : Int) ≠ p))
  obtain ⟨i0, hi', hz0, hz1, hz2⟩ := info_parts info_int'
  obtain ⟨P, hP⟩ : ∃ P : Nat → Bool, P = fun (k : Nat) => decide ((k : Int) ≠ p) := ⟨_, rfl⟩
  have HP := Lib.hid (show ∀ k : Nat, P k = decide ((k : Int) ≠ p) by rw [hP]; exact fun _ => rfl)
  rw [← hP] at HS ⊢
  clear hP
  go_enter Tryz.func124, Tryz.ntmps124
  go_wp2_with fail
  go_loopw [5, 6] (fun lv z wr => ∃ (i : Nat) (pre : List Nat), i ≤ n ∧ z = .int .i64 i ∧ pre.length ≤ i ∧ Hid (pickL i P = pre) ∧ wr.ownsRow w.heap.size 3 1 lv pre.length (flatI pre) ∧ Below w.heap.size w wr) (fun _ z _ => n - (intOf z).toNat)
  case atStart => exact ⟨0, [], by omega, rfl, by simp, Lib.hid rfl, World.ownsRow_nil _ _ _ _, Below.refl _ _⟩
  case round =>
    obtain ⟨i, pre, hi, rfl, hpl, HO, hrow, hB⟩ := hrel
    have hsz := hB.size
    by_cases hlt : i < n
    · have hd : decide ((i : Int) < (n : Int)) = true := decide_eq_true (by omega)
      have hw1 : IntKind.i64.wrap ((i : Int) + 1) = (i : Int) + 1 := by rw [IntWalk.i64_in] <;> omega
      by_cases ha : (i : Int) = p
      · have HX := Lib.hid (show pickL (i + 1) P = pre by rw [HS.out, HO.out, decide_eq_false (by simpa using ha), if_neg (by decide), List.append_nil])
        have hne : ((i : Int) != p) = false := by simpa using ha
        clear ha HO
        go_wp2_with fail
        case roundEnd => exact ⟨⟨i + 1, pre, by omega, by go_num, by omega, HX, hrow, hB⟩, by simp [intOf]; omega⟩
      · have HX := Lib.hid (show pickL (i + 1) P = pre ++ [i] by rw [HS.out, HO.out, decide_eq_true ha, if_pos rfl])
        have hne : ((i : Int) != p) = true := by simpa using ha
        clear ha HO
        have hlen : pre.length ≤ 12 := by omega
        go_wp2_with (at_builtin; refine wpList_append_own _ rfl _ _ 38 rfl w.heap.size 3 i0 (.int .i64 0) 1 8 under_ints hi' hz0 hz1 hz2 rfl (by decide) u5 _ _ rfl (hrow.alloc _) ⟨wr.heap.size, 0, none⟩ 1 1 [.int .i64 (i : Int)] rfl rfl (int_new _ rfl _) (by simp [Value.oneCell']) (by simp only [maxLen]; omega) (by omega) (by simp; omega) ?_; intro v' w5 hown' hgrow _; obtain ⟨g', cap', rfl⟩ := ownsRow_succ hown')
        case roundEnd =>
          have hb5 : Below w.heap.size wr w5 := ((Below.refl w.heap.size wr).alloc hsz _).grown hgrow (by simp; omega) fun j ej => (hrow.lt j ej).1
          exact ⟨⟨i + 1, pre ++ [i], by omega, by go_num, by simp; omega, HX, by simp only [List.length_append, List.length_cons, List.length_nil]; unfold flatI at *; rw [List.map_append]; exact hown', hB.trans hb5⟩, by simp [intOf]; omega⟩
    · have he : i = n := by omega
      have hd : decide ((i : Int) < (n : Int)) = false := decide_eq_false (by omega)
      have HX := Lib.hid (show pickL n P = pre by rw [← he]; exact HO.out)
      clear he HO
      go_wp2_with fail
      go_ret
      rw [HX.out]
      exact ⟨⟨_, rfl, hrow⟩, hB⟩
end Go.Proofs.YtoajocgfmbakjaaGreatDoor
