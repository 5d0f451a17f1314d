/-
  What the chapter's examples come to, a.
-/
import Derived.Test.YtoajocgfmbakjaaGreatDoorPdJ
import Derived.Test.YtoajocgfmbakjaaGreatDoorPdC
import Derived.Test.YtoajocgfmbakjaaGreatDoorPdI
import Derived.Test.YtoajocgfmbakjaaGreatDoorPdE
import Derived.Test.YtoajocgfmbakjaaGreatDoorPdH
import Derived.Test.YtoajocgfmbakjaaGreatDoorPdF
import Derived.Test.YtoajocgfmbakjaaGreatDoorPdG
set_option linter.unusedVariables false
set_option linter.unusedSimpArgs false
namespace Go.Proofs.YtoajocgfmbakjaaGreatDoor
open Go Go.RowKit Go.Shelf

set_option maxRecDepth 100000
theorem ex1_chk : chkM ex1 = 0 := by decide +kernel
theorem ex2_chk : chkM ex2 = 0 := by decide +kernel
theorem ex1_draw : drawB ex1 = true := by decide +kernel
theorem ex1_drawL : drawL ex1 = [(1, 0, 0), (0, 0, 0), (2, 3, 1)] := by decide +kernel
theorem ex2_draw : drawB ex2 = false := by decide +kernel
theorem ex1_wayE : inWayE ex1 (2, 3, 1) = 0 := by decide +kernel
theorem ex1_wayF : (inWayF ex1 (2, 3, 1)).isSome = true := by decide +kernel
theorem ex1_wayL : inWayL ex1 (2, 3, 1) = [0, 1] := by decide +kernel
end Go.Proofs.YtoajocgfmbakjaaGreatDoor
/-
  What the chapter's examples come to, b.
-/
set_option linter.unusedVariables false
set_option linter.unusedSimpArgs false
namespace Go.Proofs.YtoajocgfmbakjaaGreatDoor
open Go Go.RowKit Go.Shelf

set_option maxRecDepth 100000
theorem ex1_set : setF ex1.length [] = some 0 := by decide +kernel
theorem ex1_move : moveB ex1.length (2 : Nat) (3 : Nat) (6 : Nat) = true := by decide +kernel
theorem ex1_hold : holdL ex1 (restF ex1 (0 ||| 2 ^ 2)) (standsL (up8 (fun _ => 0) 5 32) 3 6) = (324, 0, true) := by decide +kernel
theorem ex1_rounds : roundsL ex1 = [[1], [0], [2]] := by decide +kernel
theorem ex1_errN : errN ex1 2 = 0 := by decide +kernel
theorem ex1_need : needL ex1 2 = [0, 1] := by decide +kernel
end Go.Proofs.YtoajocgfmbakjaaGreatDoor
/-
  What the chapter's examples come to, c.
-/
set_option linter.unusedVariables false
set_option linter.unusedSimpArgs false
namespace Go.Proofs.YtoajocgfmbakjaaGreatDoor
open Go Go.RowKit Go.Shelf

set_option maxRecDepth 100000
theorem ex1_errA : errA ex1 2 = 0 := by decide +kernel
theorem ex1_r0 : readyF ex1 0 = 2 ^ 1 := by decide +kernel
theorem ex1_r1 : readyF ex1 (0 ||| 2 ^ 1) = 2 ^ 0 := by decide +kernel
theorem ex1_r2 : readyF ex1 (0 ||| 2 ^ 1 ||| 2 ^ 0) = 2 ^ 2 := by decide +kernel
theorem ex1_path : listS (setL 0 [1, 0, 2]) = [0, 1, 2] := by decide +kernel
theorem ex2_leastB : (leastT ex2).isSome = true := by decide +kernel
theorem ex2_least : leastLL ex2 = [0, 1] := by decide +kernel
theorem ex1_last : lastL ex1 = [2] := by decide +kernel
end Go.Proofs.YtoajocgfmbakjaaGreatDoor
/-
  cast: what is laid by the text of the law.
-/
set_option linter.unusedVariables false
set_option linter.unusedSimpArgs false
namespace Go.Proofs.YtoajocgfmbakjaaGreatDoor
open Go Go.RowKit Go.Shelf

theorem movsAt_own {W : World} {base : Nat} {v : Value} {l : List Mo} (h : W.ownsRow base 40 3 v l.length (flatM l)) (hmx : l.length ≤ maxLen) : MovsAt W v l := by
  obtain ⟨hl, hh | ⟨g, cap, cur, rfl, hb, hg, hcap, hmax, hsz, htk⟩⟩ := id h
  · obtain ⟨rfl, h0⟩ := hh
    have : l = [] := List.length_eq_zero_iff.1 h0
    subst this
    exact ⟨none, 0, rfl, by simp, .inl rfl⟩
  · refine ⟨_, cap, rfl, hmx, .inr ⟨g, 0, rfl, (Array.getElem?_eq_some_iff.1 hg).1, fun i m hm => ?_⟩⟩
    have key : ∀ (l : List Mo) (i : Nat) (m : Mo) (k : Nat), l[i]? = some m → k < 3 → (flatM l)[i * 3 + k]? = (movC m)[k]? := by
      intro l
      induction l with
      | nil => intro i m k h; simp at h
      | cons a l ih =>
        intro i m k h hk
        rw [show flatM (a :: l) = movC a ++ flatM l by simp [flatM]]
        rcases i with _ | i
        · simp at h
          subst h
          rw [Nat.zero_mul, Nat.zero_add, List.getElem?_append_left (by simp [movC]; omega)]
        · rw [List.getElem?_append_right (by simp [movC]; omega), show (i + 1) * 3 + k - (movC a).length = i * 3 + k by simp [movC]; omega]
          exact ih i m k (by simpa using h) hk
    have c := fun (k : Nat) (u : Value) (hk : k < 3) (hu : (movC m)[k]? = some u) => h.cells (g := g) rfl (i * 3 + k) u ((key l i m k hm hk).trans hu)
    have e : ∀ n : Nat, (⟨g, 0, none⟩ : Addr).add n = ⟨g, 0 + n, none⟩ := fun n => by simp [Addr.add]; try omega
    have c0 := c 0 _ (by decide) rfl
    have c1 := c 1 _ (by decide) rfl
    have c2 := c 2 _ (by decide) rfl
    rw [e] at c0 c1 c2
    exact ⟨c0, by rw [Nat.add_assoc]; exact c1, by rw [Nat.add_assoc]; exact c2⟩
theorem ints_new {W : World} {cs : Array Value} {n k cap : Nat} {T : TypeId} (hn : n = W.heap.size) (l : List Int) (hl : l.length = k) (hk : k ≤ maxLen) (h : ∀ (i : Nat) (x : Int), l[i]? = some x → cs[i]? = some (.int .i64 x)) :
    IntsAt (W.alloc (.cells cs T)) (.slice (some ⟨n, 0, none⟩) k cap) l := by
  subst hn hl
  refine ⟨_, cap, rfl, hk, .inr ⟨_, 0, rfl, by simp, fun i x hx => ?_⟩⟩
  rw [Nat.zero_add]
  exact cells4 (World.alloc_heap_new W _) _ _ (h i x hx)
theorem movs_new {W : World} {cs : Array Value} {n k cap : Nat} {T : TypeId} (hn : n = W.heap.size) (l : List Mo) (hl : l.length = k) (hk : k ≤ maxLen) (h : ∀ (i : Nat) (m : Mo), l[i]? = some m → cs[i * 3]? = some (.int .i64 m.1) ∧ cs[i * 3 + 1]? = some (.int .i64 m.2.1) ∧ cs[i * 3 + 2]? = some (.int .i64 m.2.2)) :
    MovsAt (W.alloc (.cells cs T)) (.slice (some ⟨n, 0, none⟩) k cap) l := by
  subst hn hl
  refine ⟨_, cap, rfl, hk, .inr ⟨_, 0, rfl, by simp, fun i m hm => ?_⟩⟩
  rw [Nat.zero_add]
  obtain ⟨h0, h1, h2⟩ := h i m hm
  exact ⟨cells4 (World.alloc_heap_new W _) _ _ h0, cells4 (World.alloc_heap_new W _) _ _ h1, cells4 (World.alloc_heap_new W _) _ _ h2⟩
theorem lists_new {W : World} {cs : Array Value} {n k cap : Nat} {T : TypeId} (hn : n = W.heap.size) (L : List (List Int)) (hl : L.length = k) (hk : k ≤ maxLen) (h : ∀ (i : Nat) (l : List Int), L[i]? = some l → ∃ x, cs[i]? = some x ∧ IntsAt W x l) :
    ListsAt (W.alloc (.cells cs T)) (.slice (some ⟨n, 0, none⟩) k cap) L := by
  subst hn hl
  refine ⟨_, cap, rfl, hk, .inr ⟨_, 0, rfl, by simp, fun i l hl => ?_⟩⟩
  rw [Nat.zero_add]
  obtain ⟨x, h0, h1⟩ := h i l hl
  exact ⟨x, cells4 (World.alloc_heap_new W _) _ _ h0, h1.below ((Below.refl _ W).alloc (Nat.le_refl _) _) (Nat.le_refl _)⟩
theorem ints_nil (w : World) : IntsAt w (.slice none 0 0) [] := ⟨none, 0, rfl, by simp, .inl rfl⟩
theorem up8_fit {f : Sol} (h : Fit f) {k v : Nat} (hv : v < 18446744073709551616) : Fit (up8 f k v) := fun i => by
  unfold up8
  split
  · exact hv
  · exact h i
theorem zero_fit : Fit (fun _ => 0) := fun i => by show 0 < _; decide
theorem ex1_fit : ∀ m ∈ ex1, Fit m := fun m hm => by
  simp only [ex1, List.mem_cons, List.not_mem_nil, or_false] at hm
  rcases hm with rfl | rfl | rfl
  · exact up8_fit zero_fit (by decide)
  · exact up8_fit (up8_fit zero_fit (by decide)) (by decide)
  · exact up8_fit zero_fit (by decide)
theorem ex2_fit : ∀ m ∈ ex2, Fit m := fun m hm => by
  simp only [ex2, List.mem_cons, List.not_mem_nil, or_false] at hm
  rcases hm with rfl | rfl
  · exact up8_fit (up8_fit zero_fit (by decide)) (by decide)
  · exact up8_fit (up8_fit zero_fit (by decide)) (by decide)
theorem ex1_chain : chainP ex1 2 0 [1, 0, 2] := ⟨by decide, ex1_r0, by decide, ex1_r1, by decide, ex1_r2, by show Nat.testBit _ _ = true; decide⟩
theorem sameInts_yes (l : List Int) (va vb : Value) (w : World) (h1 : IntsAt w va l) (h2 : IntsAt w vb l) : Calls Tryz.prog 38 #[va, vb] w (RetB (.bool true) w) := by
  have h := sameInts_ok l l va vb w h1 h2
  rwa [decide_eq_true rfl] at h
theorem sameMovs_yes (l : List Mo) (va vb : Value) (w : World) (h1 : MovsAt w va l) (h2 : MovsAt w vb l) : Calls Tryz.prog 49 #[va, vb] w (RetB (.bool true) w) := by
  have h := sameMovs_ok l l va vb w h1 h2
  rwa [decide_eq_true rfl] at h
theorem sameLists_yes (l : List (List Int)) (va vb : Value) (w : World) (h1 : ListsAt w va l) (h2 : ListsAt w vb l) : Calls Tryz.prog 56 #[va, vb] w (RetB (.bool true) w) := by
  have h := sameLists_ok l l va vb w h1 h2
  rwa [decide_eq_true rfl] at h
theorem grow1 (w : World) (o : Obj) : Below w.heap.size w (w.alloc o) := (Below.refl _ w).alloc (Nat.le_refl _) o
theorem ex1_orders : ordersN ex1 = 1 := by
  have h12 : ex1.length ≤ 12 := by decide
  have l1 : listS (2 ^ 1) = [1] := by decide +kernel
  have l0 : listS (2 ^ 0) = [0] := by decide +kernel
  have l2 : listS (2 ^ 2) = [2] := by decide +kernel
  have s3 : seqN ex1 (0 ||| 2 ^ 1 ||| 2 ^ 0 ||| 2 ^ 2) = 1 := by rw [seqN_eq h12 (by decide), if_pos (by decide +kernel)]
  have s2 : seqN ex1 (0 ||| 2 ^ 1 ||| 2 ^ 0) = 1 := by rw [seqN_eq h12 (by decide), if_neg (by decide +kernel), ex1_r2, l2, List.foldl_cons, List.foldl_nil, s3]; decide
  have s1 : seqN ex1 (0 ||| 2 ^ 1) = 1 := by rw [seqN_eq h12 (by decide), if_neg (by decide +kernel), ex1_r1, l0, List.foldl_cons, List.foldl_nil, s2]; decide
  have s0 : seqN ex1 0 = 1 := by rw [seqN_eq h12 (by decide), if_neg (by decide +kernel), ex1_r0, l1, List.foldl_cons, List.foldl_nil, s1]; decide
  unfold ordersN
  rw [if_pos ex1_chk, s0]
end Go.Proofs.YtoajocgfmbakjaaGreatDoor
/-
  cast: the chapter's examples.
-/
set_option linter.unusedVariables false
set_option linter.unusedSimpArgs false
namespace Go.Proofs.YtoajocgfmbakjaaGreatDoor
open Go Go.RowKit Go.Shelf

set_option maxRecDepth 100000 in
set_option maxHeartbeats 4000000 in
theorem cast_ok (w : World) (hT : Tab32 w) (h64 : Tab64 w) : Calls Tryz.prog 19 #[] w (RetB (.bool true) w) := by
  have X0T := Lib.hid hT
  have X0S := Lib.hid h64
  clear hT h64
  go_enter Tryz.func19, Tryz.ntmps19
  go_wp2_with fail
  refine (layered_ok _).mono ?_
  rintro e w1 ⟨⟨u, rfl, hM⟩, hb⟩
  have X1T := Lib.hid (X0T.out.below hb (Nat.le_refl _))
  have X1S := Lib.hid (X0S.out.below hb (Nat.le_refl _))
  have X1M := Lib.hid hM
  have HB1 := Lib.hid hb
  obtain ⟨pu, cu, rfl, _, _⟩ := hM
  clear hb X0T X0S

  have HD := draw_ok ex1 _ w1 X1M.out ex1_fit X1T.out
  simp only [ex1_draw, ex1_drawL, ex1_chk] at HD
  have HDH := Lib.hid HD
  clear HD
  go_wp2_with fail
  refine HDH.out.mono ?_
  rintro e w2 ⟨⟨l, rfl, hrow, _⟩, hb⟩
  have X2T := Lib.hid (X1T.out.below hb (Nat.le_refl _))
  have X2S := Lib.hid (X1S.out.below hb (Nat.le_refl _))
  have X2M := Lib.hid (X1M.out.below hb (Nat.le_refl _))
  have HB2 := Lib.hid (up hb HB1.out)
  obtain ⟨pl, cl, rfl⟩ := row_shape hrow
  have X2L := Lib.hid (movsAt_own hrow (by decide))
  clear hrow
  clear hb HB1 X1T X1S X1M
  have HW := inWay_ok ex1 2 3 1 _ w2 X2M.out ex1_fit X2T.out
  simp only [ex1_wayE, ex1_wayF, ex1_wayL] at HW
  have HWH := Lib.hid HW
  clear HW
  go_wp2_with fail
  refine HWH.out.mono ?_
  rintro e w3 ⟨⟨vw, rfl, hrow, _⟩, hb⟩
  have X3T := Lib.hid (X2T.out.below hb (Nat.le_refl _))
  have X3S := Lib.hid (X2S.out.below hb (Nat.le_refl _))
  have X3M := Lib.hid (X2M.out.below hb (Nat.le_refl _))
  have X3L := Lib.hid (X2L.out.below hb (Nat.le_refl _))
  have HB3 := Lib.hid (up hb HB2.out)
  obtain ⟨pw, cw, rfl⟩ := row_shape hrow
  have X3W := Lib.hid (show IntsAt w3 (.slice pw 2 cw) [0, 1] from intsAt_own hrow)
  clear hrow
  clear hb HB2 X2T X2S X2M X2L
  have HH := holds_yes ex1 [] 0 2 3 6 (up8 (fun _ => 0) 5 32) _ (.slice none 0 0) w3 X3M.out (ints_nil w3) ex1_fit (by decide) ex1_chk ex1_set rfl (by decide) (by decide) (by decide) ex1_move X3S.out
  simp only [ex1_hold] at HH
  have HHH := Lib.hid HH
  clear HH
  go_wp2_with fail
  refine HHH.out.mono ?_
  rintro e w4 ⟨rfl, hb⟩
  have X4T := Lib.hid (X3T.out.below hb (Nat.le_refl _))
  have X4S := Lib.hid (X3S.out.below hb (Nat.le_refl _))
  have X4M := Lib.hid (X3M.out.below hb (Nat.le_refl _))
  have X4L := Lib.hid (X3L.out.below hb (Nat.le_refl _))
  have X4W := Lib.hid (X3W.out.below hb (Nat.le_refl _))
  have HB4 := Lib.hid (up hb HB3.out)
  clear hb HB3 X3T X3S X3M X3L X3W
  have HR := roundsT_ok ex1 _ w4 X4M.out ex1_fit X4T.out
  simp only [ex1_rounds, ex1_chk] at HR
  have HRH := Lib.hid HR
  clear HR
  go_wp2_with fail
  refine HRH.out.mono ?_
  rintro e w5 ⟨⟨vr, rfl, hrow, _⟩, hb⟩
  have X5T := Lib.hid (X4T.out.below hb (Nat.le_refl _))
  have X5S := Lib.hid (X4S.out.below hb (Nat.le_refl _))
  have X5M := Lib.hid (X4M.out.below hb (Nat.le_refl _))
  have X5L := Lib.hid (X4L.out.below hb (Nat.le_refl _))
  have X5W := Lib.hid (X4W.out.below hb (Nat.le_refl _))
  have HB5 := Lib.hid (up hb HB4.out)
  have X5R := Lib.hid (show ListsAt w5 vr [[1], [0], [2]] from listsAt_own hrow)
  obtain ⟨pr, cr, hvr, _, _⟩ := listsAt_own hrow
  subst hvr
  clear hrow
  clear hb HB4 X4T X4S X4M X4L X4W
  have HN := needs_ok ex1 2 _ w5 X5M.out ex1_fit X5T.out
  simp only [ex1_errN, ex1_need] at HN
  have HNH := Lib.hid HN
  clear HN
  go_wp2_with fail
  refine HNH.out.mono ?_
  rintro e w6 ⟨⟨vn, rfl, hrow, _⟩, hb⟩
  have X6T := Lib.hid (X5T.out.below hb (Nat.le_refl _))
  have X6S := Lib.hid (X5S.out.below hb (Nat.le_refl _))
  have X6M := Lib.hid (X5M.out.below hb (Nat.le_refl _))
  have X6L := Lib.hid (X5L.out.below hb (Nat.le_refl _))
  have X6W := Lib.hid (X5W.out.below hb (Nat.le_refl _))
  have X6R := Lib.hid (X5R.out.below hb (Nat.le_refl _))
  have HB6 := Lib.hid (up hb HB5.out)
  obtain ⟨pn, cn, rfl⟩ := row_shape hrow
  have X6N := Lib.hid (show IntsAt w6 (.slice pn 2 cn) [0, 1] from intsAt_own hrow)
  clear hrow
  clear hb HB5 X5T X5S X5M X5L X5W X5R
  have HP := pathsT_1 ex1 2 [1, 0, 2] _ w6 X6M.out ex1_fit X6T.out ex1_errA ex1_chain (by decide)
  simp only [ex1_path] at HP
  have HPH := Lib.hid HP
  clear HP
  go_wp2_with fail
  refine HPH.out.mono ?_
  rintro e w7 ⟨⟨vp, rfl, hrow⟩, hb⟩
  have X7T := Lib.hid (X6T.out.below hb (Nat.le_refl _))
  have X7S := Lib.hid (X6S.out.below hb (Nat.le_refl _))
  have X7M := Lib.hid (X6M.out.below hb (Nat.le_refl _))
  have X7L := Lib.hid (X6L.out.below hb (Nat.le_refl _))
  have X7W := Lib.hid (X6W.out.below hb (Nat.le_refl _))
  have X7R := Lib.hid (X6R.out.below hb (Nat.le_refl _))
  have X7N := Lib.hid (X6N.out.below hb (Nat.le_refl _))
  have HB7 := Lib.hid (up hb HB6.out)
  have X7P := Lib.hid (show ListsAt w7 vp [[0, 1, 2]] from listsAt_own hrow)
  obtain ⟨pp, cp, hvp, _, _⟩ := listsAt_own hrow
  subst hvp
  clear hrow
  clear hb HB6 X6T X6S X6M X6L X6W X6R X6N
  go_wp2_with fail
  refine (ring_ok _).mono ?_
  rintro e w8 ⟨⟨v2, rfl, hM⟩, hb⟩
  have X8T := Lib.hid (X7T.out.below hb (Nat.le_refl _))
  have X8S := Lib.hid (X7S.out.below hb (Nat.le_refl _))
  have X8M := Lib.hid (X7M.out.below hb (Nat.le_refl _))
  have X8L := Lib.hid (X7L.out.below hb (Nat.le_refl _))
  have X8W := Lib.hid (X7W.out.below hb (Nat.le_refl _))
  have X8R := Lib.hid (X7R.out.below hb (Nat.le_refl _))
  have X8N := Lib.hid (X7N.out.below hb (Nat.le_refl _))
  have X8P := Lib.hid (X7P.out.below hb (Nat.le_refl _))
  have HB8 := Lib.hid (up hb HB7.out)
  have X8A := Lib.hid hM
  obtain ⟨p2, c2, rfl, _, _⟩ := hM
  clear hb HB7 X7T X7S X7M X7L X7W X7R X7N X7P
  have HL := leastLock_ok ex2 _ w8 X8A.out ex2_fit X8T.out
  simp only [ex2_leastB, ex2_least, ex2_chk] at HL
  have HLH := Lib.hid HL
  clear HL
  go_wp2_with fail
  refine HLH.out.mono ?_
  rintro e w9 ⟨⟨vk, rfl, hrow, _⟩, hb⟩
  have X9T := Lib.hid (X8T.out.below hb (Nat.le_refl _))
  have X9S := Lib.hid (X8S.out.below hb (Nat.le_refl _))
  have X9M := Lib.hid (X8M.out.below hb (Nat.le_refl _))
  have X9L := Lib.hid (X8L.out.below hb (Nat.le_refl _))
  have X9W := Lib.hid (X8W.out.below hb (Nat.le_refl _))
  have X9R := Lib.hid (X8R.out.below hb (Nat.le_refl _))
  have X9N := Lib.hid (X8N.out.below hb (Nat.le_refl _))
  have X9P := Lib.hid (X8P.out.below hb (Nat.le_refl _))
  have HB9 := Lib.hid (up hb HB8.out)
  obtain ⟨pk, ck, rfl⟩ := row_shape hrow
  have X9K := Lib.hid (show IntsAt w9 (.slice pk 2 ck) [0, 1] from intsAt_own hrow)
  clear hrow X8A
  clear hb HB8 X8T X8S X8M X8L X8W X8R X8N X8P
  go_wp2_with fail
  refine (ring_ok _).mono ?_
  rintro e w10 ⟨⟨v3, rfl, hM⟩, hb⟩
  have X10T := Lib.hid (X9T.out.below hb (Nat.le_refl _))
  have X10S := Lib.hid (X9S.out.below hb (Nat.le_refl _))
  have X10M := Lib.hid (X9M.out.below hb (Nat.le_refl _))
  have X10L := Lib.hid (X9L.out.below hb (Nat.le_refl _))
  have X10W := Lib.hid (X9W.out.below hb (Nat.le_refl _))
  have X10R := Lib.hid (X9R.out.below hb (Nat.le_refl _))
  have X10N := Lib.hid (X9N.out.below hb (Nat.le_refl _))
  have X10P := Lib.hid (X9P.out.below hb (Nat.le_refl _))
  have X10K := Lib.hid (X9K.out.below hb (Nat.le_refl _))
  have HB10 := Lib.hid (up hb HB9.out)
  have X10A := Lib.hid hM
  obtain ⟨p3, c3, rfl, _, _⟩ := hM
  clear hb HB9 X9T X9S X9M X9L X9W X9R X9N X9P X9K
  have HD := draw_ok ex2 _ w10 X10A.out ex2_fit X10T.out
  simp only [ex2_draw, ex2_chk] at HD
  have HDH := Lib.hid HD
  clear HD
  go_wp2_with fail
  refine HDH.out.mono ?_
  rintro e w11 ⟨⟨l3, rfl, _, _⟩, hb⟩
  have X11T := Lib.hid (X10T.out.below hb (Nat.le_refl _))
  have X11S := Lib.hid (X10S.out.below hb (Nat.le_refl _))
  have X11M := Lib.hid (X10M.out.below hb (Nat.le_refl _))
  have X11L := Lib.hid (X10L.out.below hb (Nat.le_refl _))
  have X11W := Lib.hid (X10W.out.below hb (Nat.le_refl _))
  have X11R := Lib.hid (X10R.out.below hb (Nat.le_refl _))
  have X11N := Lib.hid (X10N.out.below hb (Nat.le_refl _))
  have X11P := Lib.hid (X10P.out.below hb (Nat.le_refl _))
  have X11K := Lib.hid (X10K.out.below hb (Nat.le_refl _))
  have HB11 := Lib.hid (up hb HB10.out)
  clear X10A
  clear hb HB10 X10T X10S X10M X10L X10W X10R X10N X10P X10K
  have HL := last_ok ex1 _ w11 X11M.out ex1_fit X11T.out
  simp only [ex1_last, ex1_chk] at HL
  have HLH := Lib.hid HL
  clear HL
  go_wp2_with fail
  refine HLH.out.mono ?_
  rintro e w12 ⟨⟨vy, rfl, hrow, _⟩, hb⟩
  have X12T := Lib.hid (X11T.out.below hb (Nat.le_refl _))
  have X12S := Lib.hid (X11S.out.below hb (Nat.le_refl _))
  have X12M := Lib.hid (X11M.out.below hb (Nat.le_refl _))
  have X12L := Lib.hid (X11L.out.below hb (Nat.le_refl _))
  have X12W := Lib.hid (X11W.out.below hb (Nat.le_refl _))
  have X12R := Lib.hid (X11R.out.below hb (Nat.le_refl _))
  have X12N := Lib.hid (X11N.out.below hb (Nat.le_refl _))
  have X12P := Lib.hid (X11P.out.below hb (Nat.le_refl _))
  have X12K := Lib.hid (X11K.out.below hb (Nat.le_refl _))
  have HB12 := Lib.hid (up hb HB11.out)
  obtain ⟨py, cy, rfl⟩ := row_shape hrow
  have X12Y := Lib.hid (show IntsAt w12 (.slice py 1 cy) [2] from intsAt_own hrow)
  clear hrow
  clear hb HB11 X11T X11S X11M X11L X11W X11R X11N X11P X11K
  have HO := orders_ok ex1 _ w12 X12M.out ex1_fit X12T.out
  simp only [ex1_orders, ex1_chk] at HO
  have HOH := Lib.hid HO
  clear HO
  go_wp2_with fail
  refine HOH.out.mono ?_
  rintro e w13 ⟨rfl, hb⟩
  have X13T := Lib.hid (X12T.out.below hb (Nat.le_refl _))
  have X13S := Lib.hid (X12S.out.below hb (Nat.le_refl _))
  have X13M := Lib.hid (X12M.out.below hb (Nat.le_refl _))
  have X13L := Lib.hid (X12L.out.below hb (Nat.le_refl _))
  have X13W := Lib.hid (X12W.out.below hb (Nat.le_refl _))
  have X13R := Lib.hid (X12R.out.below hb (Nat.le_refl _))
  have X13N := Lib.hid (X12N.out.below hb (Nat.le_refl _))
  have X13P := Lib.hid (X12P.out.below hb (Nat.le_refl _))
  have X13K := Lib.hid (X12K.out.below hb (Nat.le_refl _))
  have X13Y := Lib.hid (X12Y.out.below hb (Nat.le_refl _))
  have HB13 := Lib.hid (up hb HB12.out)
  clear hb HB12 X12T X12S X12M X12L X12W X12R X12N X12P X12K X12Y
  clear X13T X13S X13M
  go_wp2_with fail
  refine (sameMovs_yes [(1, 0, 0), (0, 0, 0), (2, 3, 1)] _ _ _ (X13L.out.below (grow1 _ _) (Nat.le_refl _)) (movs_new rfl _ rfl (by decide) fun i m hm => by
      rcases i with _ | _ | _ | i
      · cases hm; exact ⟨rfl, rfl, rfl⟩
      · cases hm; exact ⟨rfl, rfl, rfl⟩
      · cases hm; exact ⟨rfl, rfl, rfl⟩
      · simp at hm)).mono ?_
  rintro e w14 ⟨rfl, hb⟩
  have hb := up hb (grow1 w13 _)
  have X14L := Lib.hid (X13L.out.below hb (Nat.le_refl _))
  have X14W := Lib.hid (X13W.out.below hb (Nat.le_refl _))
  have X14R := Lib.hid (X13R.out.below hb (Nat.le_refl _))
  have X14N := Lib.hid (X13N.out.below hb (Nat.le_refl _))
  have X14P := Lib.hid (X13P.out.below hb (Nat.le_refl _))
  have X14K := Lib.hid (X13K.out.below hb (Nat.le_refl _))
  have X14Y := Lib.hid (X13Y.out.below hb (Nat.le_refl _))
  have HB14 := Lib.hid (up hb HB13.out)
  clear hb HB13 X13L X13W X13R X13N X13P X13K X13Y
  go_wp2_with fail
  refine (sameInts_yes [0, 1] _ _ _ (X14W.out.below (grow1 _ _) (Nat.le_refl _)) (ints_new rfl _ rfl (by decide) fun i x hx => by
      rcases i with _ | _ | i
      · cases hx; rfl
      · cases hx; rfl
      · simp at hx)).mono ?_
  rintro e w15 ⟨rfl, hb⟩
  have hb := up hb (grow1 w14 _)
  have X15W := Lib.hid (X14W.out.below hb (Nat.le_refl _))
  have X15R := Lib.hid (X14R.out.below hb (Nat.le_refl _))
  have X15N := Lib.hid (X14N.out.below hb (Nat.le_refl _))
  have X15P := Lib.hid (X14P.out.below hb (Nat.le_refl _))
  have X15K := Lib.hid (X14K.out.below hb (Nat.le_refl _))
  have X15Y := Lib.hid (X14Y.out.below hb (Nat.le_refl _))
  have HB15 := Lib.hid (up hb HB14.out)
  clear hb HB14 X14W X14R X14N X14P X14K X14Y
  have HG := Lib.hid (fun a b c d : Obj => up (grow1 _ d) (up (grow1 _ c) (up (grow1 _ b) (grow1 w15 a))))
  go_wp2_with fail
  refine (sameLists_yes [[1], [0], [2]] _ _ _ (X15R.out.below (HG.out _ _ _ _) (Nat.le_refl _)) (lists_new (by simp) _ rfl (by decide) fun i l hl => by
      rcases i with _ | _ | _ | i
      · cases hl; exact ⟨_, rfl, ((ints_new (W := w15) rfl [1] rfl (by decide) (fun i x hx => by
              rcases i with _ | i
              · cases hx; rfl
              · simp at hx)).below (grow1 _ _) (Nat.le_refl _)).below (grow1 _ _) (Nat.le_refl _)⟩
      · cases hl; exact ⟨_, rfl, (ints_new (by simp) [0] rfl (by decide) (fun i x hx => by
              rcases i with _ | i
              · cases hx; rfl
              · simp at hx)).below (grow1 _ _) (Nat.le_refl _)⟩
      · cases hl; exact ⟨_, rfl, ints_new (by simp) [2] rfl (by decide) (fun i x hx => by
              rcases i with _ | i
              · cases hx; rfl
              · simp at hx)⟩
      · simp at hl)).mono ?_
  rintro e w16 ⟨rfl, hb⟩
  have hb := up hb (HG.out _ _ _ _)
  have X16R := Lib.hid (X15R.out.below hb (Nat.le_refl _))
  have X16N := Lib.hid (X15N.out.below hb (Nat.le_refl _))
  have X16P := Lib.hid (X15P.out.below hb (Nat.le_refl _))
  have X16K := Lib.hid (X15K.out.below hb (Nat.le_refl _))
  have X16Y := Lib.hid (X15Y.out.below hb (Nat.le_refl _))
  have HB16 := Lib.hid (up hb HB15.out)
  clear hb HB15 X15R X15N X15P X15K X15Y
  go_wp2_with fail
  refine (sameInts_yes [0, 1] _ _ _ (X16N.out.below (grow1 _ _) (Nat.le_refl _)) (ints_new rfl _ rfl (by decide) fun i x hx => by
      rcases i with _ | _ | i
      · cases hx; rfl
      · cases hx; rfl
      · simp at hx)).mono ?_
  rintro e w17 ⟨rfl, hb⟩
  have hb := up hb (grow1 w16 _)
  have X17N := Lib.hid (X16N.out.below hb (Nat.le_refl _))
  have X17P := Lib.hid (X16P.out.below hb (Nat.le_refl _))
  have X17K := Lib.hid (X16K.out.below hb (Nat.le_refl _))
  have X17Y := Lib.hid (X16Y.out.below hb (Nat.le_refl _))
  have HB17 := Lib.hid (up hb HB16.out)
  clear hb HB16 X16N X16P X16K X16Y
  go_wp2_with fail
  refine (sameLists_yes [[0, 1, 2]] _ _ _ (X17P.out.below (up (grow1 _ _) (grow1 _ _)) (Nat.le_refl _)) (lists_new (by simp) _ rfl (by decide) fun i l hl => by
      rcases i with _ | i
      · cases hl; exact ⟨_, rfl, ints_new (W := w17) rfl [0, 1, 2] rfl (by decide) (fun i x hx => by
              rcases i with _ | _ | _ | i
              · cases hx; rfl
              · cases hx; rfl
              · cases hx; rfl
              · simp at hx)⟩
      · simp at hl)).mono ?_
  rintro e w18 ⟨rfl, hb⟩
  have hb := up hb (up (grow1 _ _) (grow1 w17 _))
  have X18P := Lib.hid (X17P.out.below hb (Nat.le_refl _))
  have X18K := Lib.hid (X17K.out.below hb (Nat.le_refl _))
  have X18Y := Lib.hid (X17Y.out.below hb (Nat.le_refl _))
  have HB18 := Lib.hid (up hb HB17.out)
  clear hb HB17 X17P X17K X17Y
  go_wp2_with fail
  refine (sameInts_yes [0, 1] _ _ _ (X18K.out.below (grow1 _ _) (Nat.le_refl _)) (ints_new rfl _ rfl (by decide) fun i x hx => by
      rcases i with _ | _ | i
      · cases hx; rfl
      · cases hx; rfl
      · simp at hx)).mono ?_
  rintro e w19 ⟨rfl, hb⟩
  have hb := up hb (grow1 w18 _)
  have X19K := Lib.hid (X18K.out.below hb (Nat.le_refl _))
  have X19Y := Lib.hid (X18Y.out.below hb (Nat.le_refl _))
  have HB19 := Lib.hid (up hb HB18.out)
  clear hb HB18 X18K X18Y
  go_wp2_with fail
  refine (sameInts_yes [2] _ _ _ (X19Y.out.below (grow1 _ _) (Nat.le_refl _)) (ints_new rfl _ rfl (by decide) fun i x hx => by
      rcases i with _ | i
      · cases hx; rfl
      · simp at hx)).mono ?_
  rintro e w20 ⟨rfl, hb⟩
  have hb := up hb (grow1 w19 _)
  have X20Y := Lib.hid (X19Y.out.below hb (Nat.le_refl _))
  have HB20 := Lib.hid (up hb HB19.out)
  clear hb HB19 X19Y
  go_wp2
  go_ret
  exact ⟨rfl, HB20.out⟩
end Go.Proofs.YtoajocgfmbakjaaGreatDoor
