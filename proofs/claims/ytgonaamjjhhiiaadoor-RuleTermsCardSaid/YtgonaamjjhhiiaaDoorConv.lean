/-
  The walk of Convergents: a range over a function whose rounds turn two fractions and append one.
-/
import Derived.Test.YtgonaamjjhhiiaaDoorTerms
import Derived.Test.YtgonaamjjhhiiaaDoorTermN
import Derived.RangeFuncBox
import Derived.RangeFuncNested
import Derived.Test.YtgonaamjjhhiiaaDoorFlow
import Derived.IntWalk
set_option linter.unusedVariables false
set_option linter.unusedSimpArgs false
namespace Go.Proofs.YtgonaamjjhhiiaaDoor
open Go Go.RowKit Go.Shelf

attribute [local go_sem] Oper.semAt_some

/-- A block of two cells. -/
def BoxT (W : World) (B : Nat) (t : TypeId) (x y : Value) : Prop := W.heap[B]? = some (.cells #[x, y] t (0, 0))
theorem BoxT.lt {W : World} {B : Nat} {t : TypeId} {x y : Value} (h : BoxT W B t x y) : B < W.heap.size := (Array.getElem?_eq_some_iff.1 h).1
theorem BoxT.cell0 {W : World} {B : Nat} {t : TypeId} {x y : Value} (h : BoxT W B t x y) : W.cell? ⟨B, 0, none⟩ = some x := by simp [World.cell?, show W.heap[B]? = _ from h]
theorem BoxT.cell1 {W : World} {B : Nat} {t : TypeId} {x y : Value} (h : BoxT W B t x y) : W.cell? ⟨B, 1, none⟩ = some y := by simp [World.cell?, show W.heap[B]? = _ from h]
theorem BoxT.frozen0 {W : World} {B : Nat} {t : TypeId} {x y : Value} (h : BoxT W B t x y) : W.frozen? ⟨B, 0, none⟩ = false := by simp [World.frozen?, show W.heap[B]? = _ from h]
theorem BoxT.frozen1 {W : World} {B : Nat} {t : TypeId} {x y : Value} (h : BoxT W B t x y) : W.frozen? ⟨B, 1, none⟩ = false := by simp [World.frozen?, show W.heap[B]? = _ from h]
theorem BoxT.kept {W W' : World} {row : Option Nat} {B : Nat} {t : TypeId} {x y : Value} (h : BoxT W B t x y) (hg : W.grownBy W' row) (hne : some B ≠ row) : BoxT W' B t x y := (hg.block B h.lt hne).trans h
theorem BoxT.alloc {W : World} {B : Nat} {t : TypeId} {x y : Value} (h : BoxT W B t x y) (o : Obj) : BoxT (W.alloc o) B t x y := h.kept (World.grownBy_alloc W o none) (by simp)
theorem BoxT.set0 {W : World} {B : Nat} {t : TypeId} {x y : Value} (v : Value) (h : BoxT W B t x y) : BoxT (W.setCell ⟨B, 0, none⟩ v) B t v y := by
  obtain ⟨hlt, hk⟩ := Array.getElem?_eq_some_iff.1 h
  show (W.heap.modify B _)[B]? = _
  rw [Array.getElem?_eq_getElem (by rw [Array.size_modify]; exact hlt), Array.getElem_modify_self, hk]
  rfl
theorem BoxT.set1 {W : World} {B : Nat} {t : TypeId} {x y : Value} (v : Value) (h : BoxT W B t x y) : BoxT (W.setCell ⟨B, 1, none⟩ v) B t x v := by
  obtain ⟨hlt, hk⟩ := Array.getElem?_eq_some_iff.1 h
  show (W.heap.modify B _)[B]? = _
  rw [Array.getElem?_eq_getElem (by rw [Array.size_modify]; exact hlt), Array.getElem_modify_self, hk]
  rfl
theorem grownBy_setCell2 (W : World) (b o : Nat) (v : Value) : W.grownBy (W.setCell ⟨b, o, none⟩ v) (some b) :=
  ⟨rfl, rfl, rfl, (KeepsWalks.setCell W _ v).size, fun k _ hk => Below.heap_setCell _ _ _ k (fun e => hk (by rw [e]))⟩
theorem BoxT.other {W : World} {B b o : Nat} {t : TypeId} {x y v : Value} (h : BoxT W B t x y) (hne : B ≠ b) : BoxT (W.setCell ⟨b, o, none⟩ v) B t x y := h.kept (grownBy_setCell2 W b o v) (by simpa using hne)
theorem boxed_other {W : World} {B b o : Nat} {t : TypeId} {x v : Value} (h : Boxed W B t x) (hne : B ≠ b) : Boxed (W.setCell ⟨b, o, none⟩ v) B t x := h.kept (grownBy_setCell2 W b o v) (by simpa using hne)
theorem BoxT.not_row {W : World} {B : Nat} {t e : TypeId} {x y : Value} (h : BoxT W B t x y) (hte : t ≠ e) {base size k : Nat} {v : Value} {xs : List Value} (hr : W.ownsRow base e size v k xs) : some B ≠ v.ownBlock := by
  rcases hr.2 with ⟨rfl, _⟩ | ⟨g, cap, cur, rfl, _, hgb, _⟩
  · simp [Value.ownBlock]
  · intro e'
    obtain rfl : B = g := by simpa [Value.ownBlock] using e'
    have := (show W.heap[B]? = _ from h).symm.trans hgb
    simp at this
    exact hte this.2
theorem row_set {W : World} {B o : Nat} {t e : TypeId} {x y u : Value} (h : BoxT W B t x y) (hte : t ≠ e) {base size k : Nat} {v : Value} {xs : List Value} (hr : W.ownsRow base e size v k xs) : (W.setCell ⟨B, o, none⟩ u).ownsRow base e size v k xs :=
  hr.kept (grownBy_setCell2 W B o u) (.inr (h.not_row hte hr).symm)

/-- What lies ahead of a round: the slice in its box, the two fractions in theirs. -/
def CvJ (p q : Int) (w : World) (B5 B6 B7 : Nat) (pre : List Int) (W : World) : Prop := ∃ (a b c d : Int) (L : List (Int × Int)) (v : Value), Hid (CvIs p q pre a b c d L) ∧ Boxed W B5 31 v ∧ W.ownsRow w.heap.size 23 2 v L.length (flat L) ∧
  BoxT W B6 65 (.int .i64 a) (.int .i64 b) ∧ BoxT W B7 65 (.int .i64 c) (.int .i64 d) ∧ Below w.heap.size w W ∧ L.length = pre.length
theorem CvJ.own (p q : Int) (w : World) (B5 B6 B7 B : Nat) (hB : w.heap.size ≤ B) : OwnFrom B (CvJ p q w B5 B6 B7) := by
  rintro s X Y row ⟨a, b, c, d, L, v, h1, h2, h3, h4, h5, h6, h7⟩ hg hr
  have nb : ∀ (r : Nat) (t : TypeId) (cs : Array Value) (z : Nat × Nat), X.heap[r]? = some (.cells cs t z) → some r ≠ row := by
    intro r t cs z hx e
    obtain ⟨_, o, ho, hc⟩ := hr r e.symm
    rw [hx] at ho; cases ho; cases hc
  refine ⟨a, b, c, d, L, v, h1, h2.kept hg (nb _ _ _ _ h2), h3.kept hg ?_, h4.kept hg (nb _ _ _ _ h4), h5.kept hg (nb _ _ _ _ h5), ownFrom_below (β := Unit) (w₀ := w) (Nat.le_refl _) hB () X Y row h6 hg hr, h7⟩
  rcases h3.2 with ⟨rfl, _⟩ | ⟨g, cap, cur, rfl, _, hgb, _⟩
  · exact .inl rfl
  · exact .inr fun e' => nb g _ _ _ hgb e'

theorem cell_two_new (w : World) (x y : Value) (t : TypeId) : ∀ j u, [x, y][j]? = some u → (w.alloc (.cells #[x, y] t)).cell? ((⟨w.heap.size, 0, none⟩ : Addr).add j) = some u := by
  intro j u hj
  match j, hj with
  | 0, hj => simp at hj; subst hj; simp [Addr.add]
  | 1, hj => simp at hj; subst hj; simp [Addr.add]

def ConvPost (p q : Int) (w : World) (e : Ending) (w' : World) : Prop := ∃ v, e = .returned (.tuple #[v, .int .i64 0]) ∧ w'.ownsRow w.heap.size 23 2 v (cv p q).length (flat (cv p q)) ∧ Below w.heap.size w w'
theorem infoQ : (Tryd.prog.info? 23).map (fun i => (i.zero, i.size, i.bytes)) = some (some (.agg #[.int .i64 (0), .int .i64 (0)]), 2, 16) := by kernel_rfl

set_option maxRecDepth 100000 in
set_option maxHeartbeats 4000000 in
theorem Conv_ok (p q : Int) (w : World) (ha : okQ p q = true) :
    Calls Tryd.prog 11 #[.agg #[.int .i64 (p), .int .i64 (q)]] w (ConvPost p q w) := by
  obtain ⟨h1, h2, h3, h4, _⟩ := okQ_iff.1 ha
  obtain ⟨i0, hi, hz0, hz1, hz2⟩ := info_parts infoQ
  have hlen := tl_len q.toNat p q (Nat.le_refl _)
  have hlen2 : (tl p q).length ≤ 1000000 := by omega
  have HA := Lib.hid ha
  clear ha hlen
  refine (callsIn_wide (n := 5)).1 ?_
  refine callsIn_of_wp_marks Tryd.func11 rfl trivial ?_ rfl
  simp only [Tryd.ntmps11, List.size_toArray, List.length_cons, List.length_nil, Nat.reduceAdd, Nat.reduceSub, Array.replicate_succ, Array.replicate_zero, List.push_toArray, List.append_toArray, List.nil_append, List.cons_append]
  gi_wp2_with (first | (refine ⟨trivial, ?_⟩; gi_at_call 31; refine (callsIn_wide.2 (check1_ok _ _ p q _ (by simp [go_sem]) (by simp [go_sem]) HA.out)).mono ?_; rintro e w1 ⟨rfl, hb1⟩; obtain ⟨hc1, hf1⟩ := bcell hb1; have hB1 : Below w.heap.size w w1 := up hb1 (by go_grown); have hz1' := hb1.size; simp at hz1'; have y0 : w.heap.size < w1.heap.size := (by omega); have y1 : w.heap.size + 1 < w1.heap.size := (by omega); have y2 : w.heap.size < w1.heap.size + 1 := (by omega); have y3 : w.heap.size < w1.heap.size + 1 + 1 := (by omega)) | (refine ⟨trivial, ?_⟩; gi_at_call 32; refine (terms_in _ p q _).mono ?_; rintro e w2 ⟨rfl, rfl⟩))
  have bO := Boxed.new w1 31 (.slice none 0 0)
  have hB0 : Below w.heap.size w ((((w1.alloc (.cells #[.slice none 0 0] 31)).alloc (.cells #[.int .i64 (0), .int .i64 (1)] 65)).alloc (.cells #[.int .i64 (1), .int .i64 (0)] 65)).alloc (.cells #[.int .i64 (p), .int .i64 (q)] 23)) := (((hB1.alloc (by omega) _).alloc (by simp; omega) _).alloc (by simp; omega) _).alloc (by simp; omega) _
  have hML : 1000001 ≤ maxLen := by unfold maxLen; omega
  have cB := cell_new2 (((w1.alloc (.cells #[.slice none 0 0] 31)).alloc (.cells #[.int .i64 (0), .int .i64 (1)] 65)).alloc (.cells #[.int .i64 (1), .int .i64 (0)] 65)) (.int .i64 p) (.int .i64 q) 23
  rw [World.size_alloc, World.size_alloc, World.size_alloc] at cB
  have hws : w.heap.size ≤ w1.heap.size := by omega
  have b6 : BoxT ((w1.alloc (.cells #[.slice none 0 0] 31)).alloc (.cells #[.int .i64 (0), .int .i64 (1)] 65)) (w1.heap.size + 1) 65 (.int .i64 0) (.int .i64 1) := by
    have := World.alloc_heap_new (w1.alloc (.cells #[.slice none 0 0] 31)) (.cells #[.int .i64 (0), .int .i64 (1)] 65)
    rw [World.size_alloc] at this
    exact this
  have b7 : BoxT (((w1.alloc (.cells #[.slice none 0 0] 31)).alloc (.cells #[.int .i64 (0), .int .i64 (1)] 65)).alloc (.cells #[.int .i64 (1), .int .i64 (0)] 65)) (w1.heap.size + 1 + 1) 65 (.int .i64 1) (.int .i64 0) := by
    have := World.alloc_heap_new ((w1.alloc (.cells #[.slice none 0 0] 31)).alloc (.cells #[.int .i64 (0), .int .i64 (1)] 65)) (.cells #[.int .i64 (1), .int .i64 (0)] 65)
    rw [World.size_alloc, World.size_alloc] at this
    exact this
  refine wpIn_rangeFunc_ownG rfl (by omega) (gf := 64) (lb := #[.pointer (some ⟨w1.heap.size + 1 + 1 + 1, 0, none⟩)]) rfl trivial (enters_of Tryd.func64 (by kernel_rfl) rfl)
    (terms_stops _ (by omega) (w1.heap.size + 1 + 1 + 1) w.heap.size p q (by omega) (by omega) h3 h4 _ (by simp) cB.1 cB.2) belowK_t (belowK_b (by simp; omega)) (Below.refl _ _) (fun _ => rfl)
    (CvJ p q w w1.heap.size (w1.heap.size + 1) (w1.heap.size + 1 + 1))
    (fun _ _ _ => False)
    (CvJ.own p q w _ _ _ _ (by simp; omega))
    (fun _ _ _ _ _ hs _ _ => hs)
    ⟨0, 1, 1, 0, [], _, Lib.hid (CvIs.start p q), ((bO.alloc _).alloc _).alloc _, World.ownsRow_nil _ _ _ _, (b6.alloc _).alloc _, b7.alloc _, hB0, rfl⟩
    (fun x => { tmps := #[.agg #[.int .i64 (p), .int .i64 (q)], .pointer (some ⟨w.heap.size, 0, none⟩), .slice none 0 0, .int .i64 0, .int .i64 0, .pointer (some ⟨w1.heap.size, 0, none⟩), .pointer (some ⟨w1.heap.size + 1, 0, none⟩), .pointer (some ⟨w1.heap.size + 1 + 1, 0, none⟩), .int .i64 x, .agg #[.int .i64 (p), .int .i64 (q)], .slice (some ⟨w.heap.size + 1, 0, none⟩) 1 1, .int .i64 0, .int .i64 0, .bool false, undef, .agg #[.int .i64 (0), .int .i64 (1)], .agg #[.int .i64 (1), .int .i64 (0)], .agg #[.int .i64 (p), .int .i64 (q)], .func (.func 64) #[] #[.pointer (some ⟨w1.heap.size + 1 + 1 + 1, 0, none⟩)], .int .i64 x, undef, undef, undef, undef, undef, undef, undef, undef, undef, undef, undef, undef, undef, undef, undef, undef, undef, undef, undef, undef, undef], defers := [] }) ?assign ?body ?done ?stop
  case assign =>
    intro l x W K hK
    gi_wp2
    exact hK
  case body =>
    rintro l pre x W ⟨a, b, c, d, L, v, HI, hv, hrow, h6, h7, hB, hL⟩ hlt
    have c60 := h6.cell0
    have c61 := h6.cell1
    have c70 := h7.cell0
    have c71 := h7.cell1
    have f60 := h6.frozen0
    have f61 := h6.frozen1
    have f70 := h7.frozen0
    have f71 := h7.frozen1
    have hmx : Tryd.prog.follows .mixedOrders = true := by kernel_rfl
    obtain ⟨P', hP⟩ : ∃ P', P' = IntKind.i64.wrap (IntKind.i64.wrap (x * c) + a) := ⟨_, rfl⟩
    obtain ⟨Q', hQ⟩ : ∃ Q', Q' = IntKind.i64.wrap (IntKind.i64.wrap (x * d) + b) := ⟨_, rfl⟩
    obtain ⟨W2, hW2⟩ : ∃ W2, W2 = (W.drew.setCell ⟨w1.heap.size + 1, 0, none⟩ (.int .i64 c)).setCell ⟨w1.heap.size + 1, 1, none⟩ (.int .i64 d) := ⟨_, rfl⟩
    obtain ⟨W3, hW3⟩ : ∃ W3, W3 = (W2.setCell ⟨w1.heap.size + 1 + 1, 0, none⟩ (.int .i64 P')).setCell ⟨w1.heap.size + 1 + 1, 1, none⟩ (.int .i64 Q') := ⟨_, rfl⟩
    have h6d : BoxT W.drew (w1.heap.size + 1) 65 (.int .i64 a) (.int .i64 b) := h6
    have h7d : BoxT W.drew (w1.heap.size + 1 + 1) 65 (.int .i64 c) (.int .i64 d) := h7
    have h62 : BoxT W2 (w1.heap.size + 1) 65 (.int .i64 c) (.int .i64 d) := by rw [hW2]; exact (h6d.set0 _).set1 _
    have h72 : BoxT W2 (w1.heap.size + 1 + 1) 65 (.int .i64 c) (.int .i64 d) := by rw [hW2]; exact (h7d.other (by omega)).other (by omega)
    have d60 := h6d.cell0
    have d61 := h6d.cell1
    have d70 := h7d.cell0
    have d71 := h7d.cell1
    have g60 := h6d.frozen0
    have g61 := h6d.frozen1
    have c70' := h72.cell0
    have c71' := h72.cell1
    have f70' := h72.frozen0
    have f71' := h72.frozen1
    gi_wp2
    refine wpIn_round_runs W2 W3 16 41 [.agg #[.int .i64 (c), .int .i64 (d)], .int .i64 x, .pointer (some ⟨w1.heap.size + 1 + 1, 0, none⟩), .int .i64 c, .int .i64 (IntKind.i64.wrap (x * c)), .pointer (some ⟨w1.heap.size + 1, 0, none⟩), .int .i64 a, .int .i64 P', .int .i64 x, .pointer (some ⟨w1.heap.size + 1 + 1, 1, none⟩), .int .i64 d, .int .i64 (IntKind.i64.wrap (x * d)), .pointer (some ⟨w1.heap.size + 1, 1, none⟩), .int .i64 b, .int .i64 Q', .agg #[.int .i64 (P'), .int .i64 (Q')], undef, undef]
      { tmps := #[.agg #[.int .i64 (p), .int .i64 (q)], .pointer (some ⟨w.heap.size, 0, none⟩), .slice none 0 0, .int .i64 0, .int .i64 0, .pointer (some ⟨w1.heap.size, 0, none⟩), .pointer (some ⟨w1.heap.size + 1, 0, none⟩), .pointer (some ⟨w1.heap.size + 1 + 1, 0, none⟩), .int .i64 x, .agg #[.int .i64 (p), .int .i64 (q)], .slice (some ⟨w.heap.size + 1, 0, none⟩) 1 1, .int .i64 0, .int .i64 0, .bool false, undef, .agg #[.int .i64 (0), .int .i64 (1)], .agg #[.int .i64 (1), .int .i64 (0)], .agg #[.int .i64 (p), .int .i64 (q)], .func (.func 64) #[] #[.pointer (some ⟨w1.heap.size + 1 + 1 + 1, 0, none⟩)], .int .i64 x,
        .agg #[.int .i64 (c), .int .i64 (d)], .int .i64 x, .pointer (some ⟨w1.heap.size + 1 + 1, 0, none⟩), .int .i64 c, .int .i64 (IntKind.i64.wrap (x * c)), .pointer (some ⟨w1.heap.size + 1, 0, none⟩), .int .i64 a, .int .i64 P', .int .i64 x, .pointer (some ⟨w1.heap.size + 1 + 1, 1, none⟩), .int .i64 d, .int .i64 (IntKind.i64.wrap (x * d)), .pointer (some ⟨w1.heap.size + 1, 1, none⟩), .int .i64 b, .int .i64 Q', .agg #[.int .i64 (P'), .int .i64 (Q')], undef, undef, undef, undef, undef], defers := [] }
      hmx (by kernel_rfl) (by kernel_rfl) (by kernel_rfl) (by kernel_rfl) ?runs ?s1 ?s2 ?rest
    case runs =>
      clear HI hv hrow hB hL hlt hc1 hf1
      repeat' (refine And.intro ?_ ?_)
      all_goals first | exact .inl rfl | exact .inr (.inl rfl) | trivial | (refine .inr (.inr ⟨_, rfl, ?_, ?_⟩))
      all_goals first | (refine .inr ?_; go_simp; done) | (go_simp; done) | exact .inl (by kernel_rfl)
    case s1 =>
      intro o ho
      cases ho
      rw [hW2]
      go_simp
    case s2 =>
      intro o ho
      cases ho
      rw [hW3]
      go_simp
    case rest =>
      have h63 : BoxT W3 (w1.heap.size + 1) 65 (.int .i64 c) (.int .i64 d) := by rw [hW3]; exact (h62.other (by omega)).other (by omega)
      have h73 : BoxT W3 (w1.heap.size + 1 + 1) 65 (.int .i64 P') (.int .i64 Q') := by rw [hW3]; exact (h72.set0 _).set1 _
      have hv2 : Boxed W2 w1.heap.size 31 v := by rw [hW2]; exact boxed_other (boxed_other (W := W.drew) hv (by omega)) (by omega)
      have hv3 : Boxed W3 w1.heap.size 31 v := by rw [hW3]; exact boxed_other (boxed_other hv2 (by omega)) (by omega)
      have hr2 : W2.ownsRow w.heap.size 23 2 v L.length (flat L) := by rw [hW2]; exact row_set (h6d.set0 _) (by decide) (row_set (W := W.drew) h6d (by decide) hrow)
      have hr3 : W3.ownsRow w.heap.size 23 2 v L.length (flat L) := by rw [hW3]; exact row_set (h72.set0 _) (by decide) (row_set h72 (by decide) hr2)
      have hk3 : KeepsOthers W W3 := by rw [hW3, hW2]; exact (((((KeepsOthers.drew W).trans (KeepsOthers.setCell _ _ _)).trans (KeepsOthers.setCell _ _ _)).trans (KeepsOthers.setCell _ _ _)).trans (KeepsOthers.setCell _ _ _))
      have hb3 : Below w.heap.size W W3 := by
        rw [hW3, hW2]
        exact ((((Below.drew (Below.refl _ _)).setCell (p := ⟨w1.heap.size + 1, 0, none⟩) (by simp; omega) _).setCell (p := ⟨w1.heap.size + 1, 1, none⟩) (by simp; omega) _).setCell (p := ⟨w1.heap.size + 1 + 1, 0, none⟩) (by simp; omega) _).setCell (p := ⟨w1.heap.size + 1 + 1, 1, none⟩) (by simp; omega) _
      have hB3 : Below w.heap.size w W3 := hB.trans hb3
      have hP1 : Mb a → Mb c → Mb (x * c + a) → P' = x * c + a := fun m1 _ m2 => by
        unfold Mb at m1 m2
        rw [hP, IntWalk.i64_in (x * c) (by omega), IntWalk.i64_in _ (by omega)]
      have hQ1 : Mb b → Mb d → Mb (x * d + b) → Q' = x * d + b := fun m1 _ m2 => by
        unfold Mb at m1 m2
        rw [hQ, IntWalk.i64_in (x * d) (by omega), IntWalk.i64_in _ (by omega)]
      have HN := Lib.hid (HI.out.next (x := x) h1 h2 h3 h4 hP1 hQ1)
      have hsz : w.heap.size ≤ W3.heap.size := by have := hB3.size; omega
      have c5 := hv3.cell
      have c72 := h73.cell0
      have c73 := h73.cell1
      clear hP hQ hW2 hW3 h62 h72 h6d h7d c60 c61 c70 c71 f60 f61 f70 f71 d60 d61 d70 d71 g60 g61 c70' c71' f70' f71' h6 h7 hv hrow hv2 hr2 hP1 hQ1 HI
      have HL := Lib.hid hL
      clear hL
      have hl2 : L.length < 1000000 := by have := HL.out; omega
      gi_wp2_with (gi_at_builtin; refine wpListIn_append_own _ rfl _ _ 31 rfl w.heap.size 23 i0 (.agg #[.int .i64 (0), .int .i64 (0)]) 2 16 Tryd.underlying31 hi hz0 hz1 hz2 rfl (by decide) _ _ _ rfl (hr3.alloc _) ⟨W3.heap.size, 0, none⟩ 1 1 [.int .i64 P', .int .i64 Q'] rfl rfl (cell_two_new _ _ _ _) (by simp [Value.oneCell']) (by omega) (by omega) (by simp; omega) ?_; intro v' w2 hown' hgrow _; obtain ⟨g', cap', rfl⟩ := ownsRow_succ hown'; obtain ⟨hv1, hv4, hr4, hk4, hb4⟩ := hv3.appended (by decide) hr3 hsz hws hown' hgrow; have hc1' := hv1.cell; have hf1' := hv1.frozen)
      have h64 : BoxT (w2.setCell ⟨w1.heap.size, 0, none⟩ (.slice (some ⟨g', 0, none⟩) (L.length + 1) cap')) (w1.heap.size + 1) 65 (.int .i64 c) (.int .i64 d) := ((h63.alloc _).kept hgrow (h63.not_row (by decide) hr3)).other (by omega)
      have h74 : BoxT (w2.setCell ⟨w1.heap.size, 0, none⟩ (.slice (some ⟨g', 0, none⟩) (L.length + 1) cap')) (w1.heap.size + 1 + 1) 65 (.int .i64 P') (.int .i64 Q') := ((h73.alloc _).kept hgrow (h73.not_row (by decide) hr3)).other (by omega)
      refine ⟨(hk3.trans hk4).from _, hb3.trans hb4, c, d, P', Q', L ++ [(P', Q')], _, HN, hv4, ?_, h64, h74, hB3.trans hb4, by simp [HL.out]⟩
      rw [flat_snoc, List.length_append]
      exact hr4
  case done =>
    rintro D ys W hD rfl ⟨a, b, c, d, L, v, HI, hv, hrow, h6, h7, hB, hL⟩ hK
    have hc := hv.cell
    have HCV := Lib.hid (HI.out (List.prefix_refl _)).2
    gi_wp2
    refine ⟨by simp, .inl ⟨_, _, rfl, run_takeDeferred hK, ?_⟩⟩
    refine ⟨_, results_tmp2 rfl _ _ _, v, rfl, ?_, hB.trans (belowK_b (w := w) (Nat.le_refl _) W D _ _ (by simp at hD; omega) hK rfl rfl)⟩
    rw [show cv p q = L from HCV.out.symm]
    exact ownsRow_putObj hrow _ hK rfl
  case stop =>
    rintro D c pre W _ _ h _
    exact h.elim

theorem Conv_arg (n d : Int) (w : World) (hw : W2 n d) (ha : okQ n d = false) :
    Calls Tryd.prog 11 #[.agg #[.int .i64 (n), .int .i64 (d)]] w fun e w' => e = .returned (.tuple #[.slice none 0 0, .int .i64 1]) ∧ Below w.heap.size w w' := by
  have HA := Lib.hid ha
  have HW := Lib.hid hw
  clear ha hw
  go_enter Tryd.func11, Tryd.ntmps11
  go_wp2_with (go_at_call 31; refine (check1_bad1 _ _ n d _ (by simp [go_sem]) (by simp [go_sem]) HA.out HW.out).mono ?_; rintro e w1 ⟨rfl, hb1⟩; obtain ⟨hc1, hf1⟩ := bcell hb1; have hB1 : Below w.heap.size w w1 := up hb1 (by go_grown); have hz1 := hb1.size; (try simp at hz1); (try have hz1_w_p1 : w.heap.size < w1.heap.size + 1 := (by omega)); (try have hz1_w_p2 : w.heap.size < w1.heap.size + 1 + 1 := (by omega)); (try have hz1_w_p3 : w.heap.size < w1.heap.size + 1 + 1 + 1 := (by omega)); (try have hz1_w_0 : w.heap.size < w1.heap.size := (by omega)); (try have hz1_w_1 : w.heap.size + 1 < w1.heap.size := (by omega)); (try have hz1_w_2 : w.heap.size + 1 + 1 < w1.heap.size := (by omega)); (try have hz1_w_3 : w.heap.size + 1 + 1 + 1 < w1.heap.size := (by omega)); (try have hz1_w_4 : w.heap.size + 1 + 1 + 1 + 1 < w1.heap.size := (by omega)); (try have hz1_w_5 : w.heap.size + 1 + 1 + 1 + 1 + 1 < w1.heap.size := (by omega)); (try have hz1_w_6 : w.heap.size + 1 + 1 + 1 + 1 + 1 + 1 < w1.heap.size := (by omega)))
  go_returns
  exact ⟨rfl, by go_grown⟩
end Go.Proofs.YtgonaamjjhhiiaaDoor
