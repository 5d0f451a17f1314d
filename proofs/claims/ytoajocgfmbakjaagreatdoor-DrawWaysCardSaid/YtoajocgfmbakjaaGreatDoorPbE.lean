/-
  The ways of a piece: reckoned once, then looked up.
-/
import Derived.Test.YtoajocgfmbakjaaGreatDoorPbD
import Derived.Test.YtoajocgfmbakjaaGreatDoorPaE
import Derived.Sort.QuietTacIn
import Derived.WalkMore
set_option linter.unusedVariables false
set_option linter.unusedSimpArgs false
namespace Go.Proofs.YtoajocgfmbakjaaGreatDoor
open Go Go.RowKit Go.Shelf

attribute [local go_sem] Oper.semAt_some
/-- What a range over a function leaves among the calls deferred. -/
abbrev mark (D : Nat) : Deferred := { target := .collected D, args := #[] }
theorem below_mark {n₀ D : Nat} {W : World} {o o' : Obj} (hD : n₀ ≤ D) (h : W.heap[D]? = some o) : Below n₀ W (W.putObj D o') := below_put W o' hD
theorem leaves_marks {F : Fence} {n : Nat} {P : Program} {fn : Func} {tmps : Array Value} {R : Ending → World → Prop} (n₀ : Nat) : ∀ (Ds : List Nat) (W : World), Ds.Nodup → (∀ D ∈ Ds, n₀ ≤ D ∧ W.heap[D]? = some (.deferred (some []))) →
    (∀ W', Below n₀ W W' → (∀ (b : Nat) (o : Obj), (∀ D ∈ Ds, b ≠ D) → W.heap[b]? = some o → W'.heap[b]? = some o) → LeavesIn F n P fn tmps R [] .returning W') → LeavesInM F n P fn tmps R (Ds.map mark) .returning W
  | [], W, _, _, h => h W (Below.refl _ _) fun _ _ _ h => h
  | D :: r, W, hn, hd, h => by
    obtain ⟨h1, h2⟩ := hd D (by simp)
    have hg := grownBy_putObj' W D (.deferred none)
    refine ⟨by simp, .inl ⟨D, _, rfl, run_takeDeferred h2, ?_⟩⟩
    refine leaves_marks n₀ r _ (List.nodup_cons.1 hn).2 (fun D' hD' => ?_) fun W' hb hk => h W' ((below_mark h1 h2).trans hb) fun b o hne ho => hk b o (fun D' hD' => hne D' (by simp [hD'])) ?_
    · obtain ⟨h3, h4⟩ := hd D' (by simp [hD'])
      refine ⟨h3, (hg.block D' (Array.getElem?_eq_some_iff.1 h4).1 fun e => ?_).trans h4⟩
      cases e
      exact (List.nodup_cons.1 hn).1 hD'
    · exact (hg.block b (Array.getElem?_eq_some_iff.1 ho).1 fun e => by cases e; exact hne _ (by simp) rfl).trans ho
theorem row_below {W W' : World} {base size n : Nat} {e : TypeId} {v : Value} {xs : List Value} (h : W.ownsRow base e size v n xs) (hb : Below W.heap.size W W') : W'.ownsRow base e size v n xs :=
  h.kept (row := none) ⟨hb.os, hb.tape, hb.output, hb.size, fun i hi _ => hb.block i hi⟩ (Classical.em _)
theorem keeps_below {W X : World} (h : Below W.heap.size W X) (B : Nat) : KeepsFrom B W X := ⟨h.size, fun k o _ hk _ => (h.block k (Array.getElem?_eq_some_iff.1 hk).1).trans hk⟩
theorem way_cells {W : World} {G p Q : Nat} {x : SD} (h : W.heap[G]? = some (.cells #[.int .i64 p, .int .i64 x.1, .int .i64 x.2, .int .u16 Q] 108 (0, 0))) (k : Nat) (u : Value) (hu : (wyC p (x, Q))[k]? = some u) : W.cell? ⟨G, k, none⟩ = some u := by
  unfold World.cell?
  rw [h]
  rcases k with _ | _ | _ | _ | k
  · exact hu
  · exact hu
  · exact hu
  · exact hu
  · simp [wyC] at hu
theorem way_new (W : World) (p : Nat) (x : Wy) (j : Nat) (u : Value) (hu : (wyC p x)[j]? = some u) : (W.alloc (.cells #[.int .i64 p, .int .i64 x.1.1, .int .i64 x.1.2, .int .u16 x.2] 108)).cell? ((⟨W.heap.size, 0, none⟩ : Addr).add j) = some u := by
  have e : (⟨W.heap.size, 0, none⟩ : Addr).add j = ⟨W.heap.size, j, none⟩ := by simp [Addr.add]; try omega
  rw [e]
  exact way_cells (World.alloc_heap_new W _) j u hu
theorem way_one (p : Nat) (x : Wy) : ∀ u ∈ wyC p x, u.oneCell' = true := by
  intro u hu
  simp only [wyC, List.mem_cons, List.not_mem_nil, or_false] at hu
  rcases hu with rfl | rfl | rfl | rfl <;> rfl
theorem not_row {X : World} {k n₀ size n : Nat} {cs : Array Value} {t e : TypeId} {fr : Nat × Nat} {v : Value} {xs : List Value} (hk : X.heap[k]? = some (.cells cs t fr)) (hne : t ≠ e) (hrow : X.ownsRow n₀ e size v n xs) : some k ≠ v.ownBlock := by
  intro he
  rcases hrow.2 with ⟨rfl, _⟩ | ⟨g, cap, cur, rfl, _, hg, _⟩
  · cases he
  · injection he with he
    subst he
    rw [hk] at hg
    cases hg
    exact hne rfl
theorem blk_app {X w4 : World} {k n₀ size n B : Nat} {cs : Array Value} {t e : TypeId} {fr : Nat × Nat} {v : Value} {xs : List Value} {tmp : Obj} (hk : X.heap[k]? = some (.cells cs t fr)) (hne : t ≠ e) (hrow : X.ownsRow n₀ e size v n xs)
    (hgrow : (X.alloc tmp).grownBy w4 v.ownBlock) (hB : k ≠ B) (v' : Value) : (w4.setCell ⟨B, 0, none⟩ v').heap[k]? = some (.cells cs t fr) := by
  have hlt := (Array.getElem?_eq_some_iff.1 hk).1
  exact (Below.heap_setCell w4 ⟨B, 0, none⟩ v' k hB).trans ((hgrow.block k (by rw [World.size_alloc]; omega) (not_row hk hne hrow)).trans ((Below.heap_alloc X tmp k hlt).trans hk))
theorem way_set {W : World} {G : Nat} {a b c d : Value} (h : W.heap[G]? = some (.cells #[a, b, c, d] 108 (0, 0))) (v : Value) : (W.setCell ⟨G, 3, none⟩ v).heap[G]? = some (.cells #[a, b, c, v] 108 (0, 0)) := by
  obtain ⟨hlt, he⟩ := Array.getElem?_eq_some_iff.1 h
  show (W.heap.modify G _)[G]? = _
  rw [Array.getElem?_eq_getElem (by rw [Array.size_modify]; exact hlt), Array.getElem_modify_self, he]
  rfl
theorem grown_mark {W W' : World} {n D : Nat} (hb : Below n W W') (hk : ∀ (k : Nat) (o : Obj), k ≠ D → W.heap[k]? = some o → W'.heap[k]? = some o) : W.grownBy W' (some D) :=
  ⟨hb.os, hb.tape, hb.output, hb.size, fun i hi hne => by
    obtain ⟨o, ho⟩ : ∃ o, W.heap[i]? = some o := ⟨_, Array.getElem?_eq_getElem hi⟩
    rw [ho]
    exact hk i o (fun e => hne (by rw [e])) ho⟩
theorem grown_of_below {W W' : World} (h : Below W.heap.size W W') (row : Option Nat) : W.grownBy W' row := ⟨h.os, h.tape, h.output, h.size, fun i hi _ => h.block i hi⟩
theorem own_block {β : Type} (B b : Nat) (o : Obj) (hc : o.isCells = true) : OwnFrom B (fun (_ : β) W => W.heap[b]? = some o) := fun s X Y row hs hg hr =>
  (hg.block b (Array.getElem?_eq_some_iff.1 hs).1 (fun e => by obtain ⟨_, o', ho, hn⟩ := hr b e.symm; rw [hs] at ho; cases ho; rw [hc] at hn; cases hn)).trans hs
/-- A mould's value. -/
abbrev mldV (v : Value) (b : Nat) : Value := .agg #[v, .map (some b)]
/-- What a call that looks at ways leaves: all as it was, but the map. -/
def RetM (r : Value → World → Prop) (b : Nat) (w : World) : Ending → World → Prop := fun e w' => (∃ v, e = .returned v ∧ r v w') ∧ w.grownBy w' (some b)
set_option maxRecDepth 100000 in
set_option maxHeartbeats 4000000 in
theorem waysOf_ok (ms : List Sol) (p : Nat) (f : Sol) (v : Value) (b : Nat) (w : World) (hf : ms[p]? = some f) (hm : ∀ m ∈ ms, Fit m) (h12 : ms.length ≤ 12) (hv : SolsAt w v ms) (av : Nat → Prop) (hav : ∀ k, av k → k < w.heap.size) (hw : Ways w b none ms av) :
    Calls Tryz.prog 150 #[mldV v b, .int .i64 p] w (RetM (fun r w' => RowW w' r p (waysL ms p f) ∧ Off av r ∧ Ways w' b none ms av) b w) := by
  have hp : p < ms.length := (List.getElem?_eq_some_iff.1 hf).1
  have HV := Lib.hid hv
  have HW := Lib.hid hw
  have HM := Lib.hid hm
  have HF := Lib.hid hf
  have lb := hw.lt
  obtain ⟨pa, cap, rfl, hmx, _⟩ := hv
  obtain ⟨b0, o0, cap', he, hb0, hcs⟩ := HV.out.at HF.out
  obtain ⟨rfl, rfl⟩ : pa = some ⟨b0, o0, none⟩ ∧ cap = cap' := by injection he with e1 e2 e3; exact ⟨e1, e3⟩
  have HCS := Lib.hid hcs
  clear hcs he
  refine (callsIn_wide (n := 9)).1 ?_
  refine callsIn_of_wp_marks Tryz.func150 rfl trivial ?_ rfl
  simp only [Tryz.ntmps150, List.size_toArray, List.length_cons, List.length_nil, Nat.reduceAdd, Nat.reduceSub, Array.replicate_succ, Array.replicate_zero, List.push_toArray, List.append_toArray, List.nil_append, List.cons_append]
  clear hw hm hf
  obtain ⟨W0, hW0⟩ : ∃ W0, W0 = (w.alloc (.cells #[.slice (some ⟨b0, o0, none⟩) ms.length cap, .map (some b)] 101)).alloc (.cells #[.int .i64 p] 3) := ⟨_, rfl⟩
  have hB0 : Below w.heap.size w W0 := by rw [hW0]; exact ((Below.refl _ w).alloc (Nat.le_refl _) _).alloc (by simp) _
  have WW0 : Ways W0 b none ms av := HW.out.below hB0
  have HAV := Lib.hid hav
  clear hav
  obtain ⟨r, ok, hrun, hrow, habs⟩ := HW.out.look hB0 HF.out (by omega)
  rw [hW0] at hrun
  refine wpIn_wide.2 ?_
  cases ok with
  | true =>
    go_wp2_with fail
    go_step3
    go_wp2_with fail
    rw [Exit.noGoto_ret]
    rw [← hW0]
    exact ⟨_, results_tmp rfl _ _ _, ⟨r, rfl, (hrow trivial).1, (hrow trivial).2, WW0⟩, grown_of_below hB0 _⟩
  | false =>
    have HAB := Lib.hid (habs rfl)
    clear hrow habs
    obtain ⟨sd, hsd⟩ : ∃ sd, sd = sandF ms := ⟨_, rfl⟩
    have HS0 := fun W h => sand_ok ms (.slice (some ⟨b0, o0, none⟩) ms.length cap) W h HM.out h12
    rw [show restF ms (allN ms.length) = sd from hsd.symm] at HS0
    have HS := Lib.hid HS0
    have HSD := Lib.hid hsd
    have FSD := Lib.hid (show Fit sd by rw [hsd]; exact notF_fit _)
    clear HS0 hsd
    obtain ⟨A, hA⟩ : ∃ A, A = w.heap.size := ⟨_, rfl⟩
    go_wp2_with fail
    go_step3
    go_wp2_with fail
    obtain ⟨W1, hW1⟩ : ∃ W1, W1 = W0.alloc (.cells #[.slice none 0 0] 176) := ⟨_, rfl⟩
    have hB1 : Below W0.heap.size W0 W1 := by rw [hW1]; exact (Below.refl _ _).alloc (Nat.le_refl _) _
    have hM1 : W1.heap[A]? = some (.cells #[.slice (some ⟨b0, o0, none⟩) ms.length cap, .map (some b)] 101 (0, 0)) := by
      rw [hW1, hW0, hA]; exact (Below.heap_alloc _ _ _ (by simp; omega)).trans ((Below.heap_alloc _ _ _ (by simp)).trans (World.alloc_heap_new w _))
    have hP1 : W1.heap[A + 1]? = some (.cells #[.int .i64 p] 3 (0, 0)) := by
      rw [hW1, hW0, hA]; refine (Below.heap_alloc _ _ _ (by simp)).trans ?_
      have := World.alloc_heap_new (w.alloc (.cells #[.slice (some ⟨b0, o0, none⟩) ms.length cap, .map (some b)] 101)) (.cells #[.int .i64 p] 3); rwa [World.size_alloc] at this
    have hL1 : W1.heap[A + 1 + 1]? = some (.cells #[.slice none 0 0] 176 (0, 0)) := by
      rw [hW1]; have := World.alloc_heap_new W0 (.cells #[.slice none 0 0] 176); rwa [show W0.heap.size = A + 1 + 1 by rw [hW0, hA]; simp] at this
    have hs1 : W1.heap.size = A + 1 + 1 + 1 := by rw [hW1, hW0, hA]; simp
    rw [hW0] at hW1
    have hBw : Below w.heap.size w W1 := up hB1 hB0
    rw [← hW1]
    have HS1 := HS.out W1 (HV.out.below hBw (Nat.le_refl _))
    rw [← hA] at hBw lb ⊢
    have HA := Lib.hid hA
    clear hA
    clear hW1 hB1 hB0 hW0 hrun
    refine HS1.mono ?_
    rintro e w2 ⟨rfl, hb2⟩
    clear HS HS1
    have z2 := hb2.size
    rw [hs1] at hb2 z2
    have hM2 := heap_below hM1 hb2 (by omega)
    have hP2 := heap_below hP1 hb2 (by omega)
    have hL2 := heap_below hL1 hb2 (by omega)
    have hB2 : Below A w w2 := hBw.trans (hb2.mono (by omega))
    clear hM1 hP1 hL1 hBw hb2 hs1
    obtain ⟨W3, hW3⟩ : ∃ W3, W3 = w2.alloc (.cells (solC sd) 88) := ⟨_, rfl⟩
    have hb3 : Below w2.heap.size w2 W3 := by rw [hW3]; exact (Below.refl _ _).alloc (Nat.le_refl _) _
    have hM3 := heap_below hM2 hb3 (by omega)
    have hP3 := heap_below hP2 hb3 (by omega)
    have hL3 := heap_below hL2 hb3 (by omega)
    have hS3 : BoxD W3 w2.heap.size sd := by rw [hW3]; exact BoxK.new _ w2 sd
    have hB3 : Below A w W3 := hB2.trans (hb3.mono (by omega))
    have z3 : W3.heap.size = w2.heap.size + 1 := by rw [hW3]; simp
    have cP : W3.cell? ⟨A + 1, 0, none⟩ = some (.int .i64 p) := by unfold World.cell?; rw [hP3]; rfl
    clear hM2 hP2 hL2 hB2 hb3
    obtain ⟨S, hS⟩ : ∃ S, S = w2.heap.size := ⟨_, rfl⟩
    go_wp2_with fail
    rw [show w2.alloc (.cells #[.int .u64 ((sd 0 : Nat) : Int), .int .u64 ((sd 1 : Nat) : Int), .int .u64 ((sd 2 : Nat) : Int), .int .u64 ((sd 3 : Nat) : Int), .int .u64 ((sd 4 : Nat) : Int), .int .u64 ((sd 5 : Nat) : Int), .int .u64 ((sd 6 : Nat) : Int), .int .u64 ((sd 7 : Nat) : Int)] 88) = W3 from hW3.symm, ← hS]
    rw [← hS] at hS3 z3 z2
    clear hW3 hS
    go_step3
    go_wp2_with fail
    have hMV := (callsIn_wide (n := 9)).1 (moves_in 9 (p : Int) W3)
    refine hMV.mono ?_
    clear hMV
    rintro e w4 ⟨rfl, rfl⟩
    obtain ⟨U, hU⟩ : ∃ U, U = W3.alloc (.cells #[.int .i64 p] 3) := ⟨_, rfl⟩
    have hb4 : Below W3.heap.size W3 U := by rw [hU]; exact (Below.refl _ _).alloc (Nat.le_refl _) _
    have hQ : U.heap[S + 1]? = some (.cells #[.int .i64 p] 3 (0, 0)) := by rw [hU, ← z3]; exact World.alloc_heap_new W3 _
    have zU : U.heap.size = S + 1 + 1 := by rw [hU, World.size_alloc, z3]
    rw [← hU, z3]
    have hM := heap_below hM3 hb4 (by omega)
    have hP := heap_below hP3 hb4 (by omega)
    have hL := heap_below hL3 hb4 (by omega)
    have hS := hS3.below hb4 hS3.lt
    have hB : Below A w U := hB3.trans (hb4.mono (by omega))
    clear hM3 hP3 hL3 hS3 hB3 hb4 hU cP z3
    go_wp2_with fail
    refine (wpIn_wide (n := 9)).1 ?_
    refine wpIn_rangeFunc_ownH rfl (by omega) (gf := 183) (lb := #[.pointer (some ⟨S + 1, 0, none⟩)]) rfl trivial (enters_of Tryz.func183 (by kernel_rfl) rfl)
      (moves_stopsK _ (by omega) (S + 1) A (p : Int) U hQ) keepP_t (keepP_b (by omega)) (Below.refl _ _) (fun _ => rfl)
      (fun (pre : List Mv) W => (∃ vl, Boxed W (A + 1 + 1) 176 vl ∧ W.ownsRow (A + 1 + 1) 108 4 vl (wysL ms p f pre).length (flatW p (wysL ms p f pre)) ∧ (vl = .slice none 0 0 ↔ wysL ms p f pre = [])) ∧
        W.heap[A]? = some (.cells #[.slice (some ⟨b0, o0, none⟩) ms.length cap, .map (some b)] 101 (0, 0)) ∧ W.heap[A + 1]? = some (.cells #[.int .i64 p] 3 (0, 0)) ∧ BoxD W S sd ∧ W.heap[S + 1]? = some (.cells #[.int .i64 p] 3 (0, 0)) ∧ Below A w W)
      (fun _ _ _ => False)
      (OwnFrom.and (Own.from (holdsRow_own (A + 1 + 1) (A + 1 + 1) 176 108 4 (fun pre : List Mv => (wysL ms p f pre).length) (fun pre => flatW p (wysL ms p f pre)) (fun pre v => v = .slice none 0 0 ↔ wysL ms p f pre = [])) _)
        (OwnFrom.and (own_block _ _ _ rfl) (OwnFrom.and (own_block _ _ _ rfl) (OwnFrom.and (own_block _ _ _ rfl) (OwnFrom.and (own_block _ _ _ rfl) (ownFrom_below (by rw [HA.out]; exact Nat.le_refl _) (by omega)))))))
      (fun _ _ _ _ _ hs _ _ => hs)
      ⟨⟨_, hL, World.ownsRow_nil _ _ _ _, by simp [wysL]⟩, hM, hP, hS, hQ, hB⟩
      (fun (x : Mv) a' W => ∃ g, S < g ∧ BoxM W g (p : Int) x.1.1 x.1.2 ∧ a' = { tmps := #[mldV (.slice (some ⟨b0, o0, none⟩) ms.length cap) b, .int .i64 p, .pointer (some ⟨A, 0, none⟩), .pointer (some ⟨A + 1, 0, none⟩), .slice none 0 0, r, .bool false, .pointer (some ⟨A + 1 + 1, 0, none⟩), .pointer (some ⟨S, 0, none⟩), .pointer (some ⟨g, 0, none⟩), undef, undef, undef, .tuple #[r, .bool false], .pointer (some ⟨A, 1, none⟩), .map (some b), .int .i64 p, .tuple #[r, .bool false], r, .bool false, .bool false, undef, .pointer (some ⟨A, 0, none⟩), .slice (some ⟨b0, o0, none⟩) ms.length cap, sol sd, .int .i64 p, .func (.func 183) #[] #[.pointer (some ⟨S + 1, 0, none⟩)], .agg #[.int .i64 (p), .int .i64 (x.1.1), .int .i64 (x.1.2)], undef, undef, undef, undef, undef, undef, undef, undef, undef, undef, undef, undef, undef, undef, undef, undef, undef, undef, undef, undef, undef, undef, undef, undef, undef, undef, undef, undef, undef, undef, undef, undef, undef, undef, undef, undef], defers := [] })
      (fun x a' s X Y row ⟨g, h1, h2, h3⟩ hg hr => ⟨g, h1, own_block (β := Unit) _ _ _ rfl () X Y row h2 hg hr, h3⟩) ?assign ?body ?done ?stop
    case assign =>
      rintro l pre x W K ⟨⟨vl, hvl, hrow, hnil⟩, i2, i3, i4, iq, i5⟩ hK
      have hsW : A ≤ W.heap.size := by have := i5.size; have := HA.out; omega
      have lS := i4.lt
      have l2 := (Array.getElem?_eq_some_iff.1 i2).1
      have l3 := (Array.getElem?_eq_some_iff.1 i3).1
      gi_wp2
      exact hK _ _ ((KeepsOthers.alloc _ _).from _) ⟨(Below.refl _ W).alloc hsW _, fun o ho _ => (Below.heap_alloc W _ _ (Array.getElem?_eq_some_iff.1 ho).1).trans ho⟩
        ⟨⟨vl, hvl.alloc _, hrow.alloc _, hnil⟩, (Below.heap_alloc W _ _ l2).trans i2, (Below.heap_alloc W _ _ l3).trans i3, i4.alloc _, (Below.heap_alloc W _ _ (Array.getElem?_eq_some_iff.1 iq).1).trans iq, i5.alloc hsW _⟩ ⟨W.heap.size, lS, World.alloc_heap_new W _, rfl⟩
    case body =>
      rintro l pre x a' W hl ⟨rc, hrc⟩ ⟨⟨vl, hvl, hrow, hnil⟩, i2, i3, i4, iq, i5⟩ ⟨g, hg, bX, rfl⟩ hlt
      have hsW : A ≤ W.heap.size := by have := i5.size; have := HA.out; omega
      obtain ⟨m0, m1, m2⟩ := BoxM.cells bX
      have lg := bX.lt
      gi_wp2_with fail
      clear m0 m1 m2
      obtain ⟨G, hG⟩ : ∃ G, G = W.heap.size := ⟨_, rfl⟩
      obtain ⟨W5, hW5⟩ : ∃ W5, W5 = W.alloc (.cells #[.int .i64 p, .int .i64 x.1.1, .int .i64 x.1.2, .int .u16 0] 108) := ⟨_, rfl⟩
      have hb5 : Below W.heap.size W W5 := by rw [hW5]; exact (Below.refl _ _).alloc (Nat.le_refl _) _
      have w5 : W5.heap[G]? = some (.cells #[.int .i64 p, .int .i64 x.1.1, .int .i64 x.1.2, .int .u16 0] 108 (0, 0)) := by rw [hW5, hG]; exact World.alloc_heap_new W _
      have hv5 := heap_below hvl hb5 (Array.getElem?_eq_some_iff.1 hvl).1
      have m5 := heap_below i2 hb5 (Array.getElem?_eq_some_iff.1 i2).1
      have p5 := heap_below i3 hb5 (Array.getElem?_eq_some_iff.1 i3).1
      have s5 := i4.below hb5 i4.lt
      have x5 := heap_below bX hb5 lg
      have r5 := heap_below hrc hb5 (Array.getElem?_eq_some_iff.1 hrc).1
      have row5 := row_below hrow hb5
      have z5 : W5.heap.size = G + 1 := by rw [hW5, hG, World.size_alloc]
      have i55 : Below A w W5 := i5.trans (hb5.mono hsW)
      rw [← hW5, ← hG]
      have HZ5 := Lib.hid z5
      have HG := Lib.hid hG
      rw [← hG] at hb5
      have HI := Lib.hid (show Boxed W (A + 1 + 1) 176 vl ∧ W.ownsRow (A + 1 + 1) 108 4 vl (wysL ms p f pre).length (flatW p (wysL ms p f pre)) ∧ (vl = .slice none 0 0 ↔ wysL ms p f pre = []) ∧ W.heap[A]? = some (.cells #[.slice (some ⟨b0, o0, none⟩) ms.length cap, .map (some b)] 101 (0, 0)) ∧ W.heap[A + 1]? = some (.cells #[.int .i64 p] 3 (0, 0)) ∧ BoxD W S sd ∧ W.heap[S + 1]? = some (.cells #[.int .i64 p] 3 (0, 0)) ∧ Below A w W from ⟨hvl, hrow, hnil, i2, i3, i4, iq, i5⟩)
      clear i2 i3 i4 iq i5 bX hrc hrow hvl hnil hW5 z5 hG
      have cA : W5.cell? ⟨A, 0, none⟩ = some (.slice (some ⟨b0, o0, none⟩) ms.length cap) := by unfold World.cell?; rw [m5]; rfl
      have cP : W5.cell? ⟨A + 1, 0, none⟩ = some (.int .i64 p) := by unfold World.cell?; rw [p5]; rfl
      obtain ⟨g0, g1, g2⟩ := BoxM.cells x5
      have y := fun j hj => (i55.cell (p := ⟨b0, o0 + p * 8 + j, none⟩) (by rw [HA.out]; exact hb0)).trans (HCS.out j hj)
      have y0 := y 0 (by omega); have y1 := y 1 (by omega); have y2 := y 2 (by omega); have y3 := y 3 (by omega); have y4 := y 4 (by omega); have y5 := y 5 (by omega); have y6 := y 6 (by omega); have y7 := y 7 (by omega)
      rw [Nat.add_zero] at y0
      clear y
      have hii : (p : Int) < (ms.length : Int) := by omega
      have lA5 := (Array.getElem?_eq_some_iff.1 m5).1
      have lP5 := (Array.getElem?_eq_some_iff.1 p5).1
      have lg5 := (Array.getElem?_eq_some_iff.1 x5).1
      have lb5 : b0 < W5.heap.size := by have := HA.out; have := i55.size; omega
      (refine region_tailIn 6 (fun w' => Below W5.heap.size W5 w') (by kernel_rfl) (by kernel_rfl) (by kernel_rfl) (Below.drew (Below.refl _ _)) ?_; simp only [List.take_succ_cons, List.take_zero, List.drop_succ_cons, List.drop_zero]; (iterate 6 (refine wpQuietIn_step (fun _ _ _ _ => trivial) (fun K hK => ?_); go_simp; first | (refine hK _ ?_; clear hK K) | (apply Exists.intro; refine ⟨fun W' hW' => ?_, hK _ ?_⟩; (focus (first | (with_reducible exact rfl) | (with_reducible exact ⟨rfl, rfl⟩) | (obtain ⟨hcq, hfq⟩ := bcell hW'; have hzq := hW'.size; (try go_simp); first | (with_reducible exact rfl) | (with_reducible exact ⟨rfl, rfl⟩) | (fail)))); clear hK K))); refine wpQuietIn_nil ?_; intro w1q hb1q)
      clear cA cP g0 g1 g2 y0 y1 y2 y3 y4 y5 y6 y7
      have lG5 := (Array.getElem?_eq_some_iff.1 w5).1
      have lh5 := (Array.getElem?_eq_some_iff.1 hv5).1
      have w6 := heap_below w5 hb1q lG5
      have hv6 := heap_below hv5 hb1q lh5
      have m6 := heap_below m5 hb1q lA5
      have p6 := heap_below p5 hb1q lP5
      have s6 := s5.below hb1q s5.lt
      have r6 := heap_below r5 hb1q (Array.getElem?_eq_some_iff.1 r5).1
      have row6 := row_below row5 hb1q
      have z6 := hb1q.size
      have b56 : Below G W w1q := hb5.trans (hb1q.mono (by have := HZ5.out; omega))
      clear w5 hv5 m5 p5 x5 r5 row5 s5 hb1q lA5 lP5 lg5 lb5 i55 hb5
      gi_wp2_with fail
      refine ⟨trivial, ?_⟩
      gi_at_call 86
      (with_reducible refine CallsIn.mono (CallsIn.inRound l (stands_in _ f p x.1.1 x.1.2 _)) ?_)
      rintro e w7 ⟨rfl, rfl⟩
      obtain ⟨B1, hB1⟩ : ∃ B1, B1 = w1q.heap.size := ⟨_, rfl⟩
      obtain ⟨V, hV⟩ : ∃ V, V = (w1q.alloc (.cells (solC f) 25)).alloc (.cells #[.int .i64 (p), .int .i64 (x.1.1), .int .i64 (x.1.2)] 40) := ⟨_, rfl⟩
      have hb7 : Below w1q.heap.size w1q V := by rw [hV]; exact ((Below.refl _ _).alloc (Nat.le_refl _) _).alloc (by simp) _
      have bS : BoxS V B1 f := by rw [hV, hB1]; exact (BoxK.new _ w1q f).alloc _
      have bM : BoxM V (B1 + 1) p x.1.1 x.1.2 := by
        rw [hV, hB1]; have := World.alloc_heap_new (w1q.alloc (.cells (solC f) 25)) (.cells #[.int .i64 (p), .int .i64 (x.1.1), .int .i64 (x.1.2)] 40); rwa [World.size_alloc] at this
      have zV : V.heap.size = B1 + 1 + 1 := by rw [hV, hB1]; simp
      rw [← hV, ← hB1]
      rw [← hB1] at hb7 z6
      have lG6 := (Array.getElem?_eq_some_iff.1 w6).1
      have lh6 := (Array.getElem?_eq_some_iff.1 hv6).1
      have w7 := heap_below w6 hb7 (by omega)
      have hv7 := heap_below hv6 hb7 (by omega)
      have m7 := heap_below m6 hb7 (by have := (Array.getElem?_eq_some_iff.1 m6).1; omega)
      have p7 := heap_below p6 hb7 (by have := (Array.getElem?_eq_some_iff.1 p6).1; omega)
      have s7 := s6.below hb7 (by have := s6.lt; omega)
      have r7 := heap_below r6 hb7 (by have := (Array.getElem?_eq_some_iff.1 r6).1; omega)
      have row7 := row_below row6 (by rw [← hB1]; exact hb7)
      have b57 : Below G W V := b56.trans (hb7.mono (by have := HZ5.out; omega))
      have HZV := Lib.hid zV
      have HB1 := Lib.hid hB1
      clear w6 hv6 m6 p6 r6 row6 s6 hb7 hV zV hB1 b56
      gi_wp2_with fail
      refine range_bN (l₀ := l) (r₀ := rc) rfl r7 (by omega) (gf := 146) (lb := #[.pointer (some ⟨B1, 0, none⟩), .pointer (some ⟨B1 + 1, 0, none⟩)]) rfl trivial (enters_of Tryz.func146 (by kernel_rfl) rfl)
        (SeqB.inRound l (stands_stops _ (by omega) B1 (B1 + 1) 0 B1 f p x.1.1 x.1.2 (HM.out f (List.mem_of_getElem? HF.out)) x.2.1 x.2.2.1 V bS bM (by omega))) keepA_t (keepA_b (by omega)) (Below.refl _ _) (fun _ => rfl)
        (fun (pr : List SF) W' => V.grownBy W' (some G) ∧ W'.heap[G]? = some (.cells #[.int .i64 p, .int .i64 x.1.1, .int .i64 x.1.2, .int .u16 (metK ms p (pr.map Subtype.val) : Nat)] 108 (0, 0)) ∧ freeK sd (pr.map Subtype.val) = true)
        (fun c (pr : List SF) W' => c = .exit 1 ∧ V.grownBy W' (some G) ∧ freeK sd (pr.map Subtype.val) = false)
        (fun pr X C hx hb => ⟨grown_low hx.1 hb, heap_below hx.2.1 hb (by have := HZ5.out; have := HZV.out; omega), hx.2.2⟩)
        (fun c pr X C hx hb => ⟨hx.1, grown_low hx.2.1 hb, hx.2.2⟩)
        ⟨grown_of_below (Below.refl _ _) _, w7, rfl⟩
        (fun (z : SF) a' W' => ∃ h, V.heap.size ≤ h ∧ BoxD W' h z.1.1 ∧ a' = { tmps := #[mldV (.slice (some ⟨b0, o0, none⟩) ms.length cap) b, .int .i64 p, .pointer (some ⟨A, 0, none⟩), .pointer (some ⟨A + 1, 0, none⟩), .slice none 0 0, r, .bool false, .pointer (some ⟨A + 1 + 1, 0, none⟩), .pointer (some ⟨S, 0, none⟩), .pointer (some ⟨g, 0, none⟩), .pointer (some ⟨G, 0, none⟩), .pointer (some ⟨h, 0, none⟩), .bool z.1.2, .tuple #[r, .bool false], .pointer (some ⟨A, 1, none⟩), .map (some b), .int .i64 p, .tuple #[r, .bool false], r, .bool false, .bool false, undef, .pointer (some ⟨A, 0, none⟩), .slice (some ⟨b0, o0, none⟩) ms.length cap, sol sd, .int .i64 p, .func (.func 183) #[] #[.pointer (some ⟨S + 1, 0, none⟩)], .agg #[.int .i64 (p), .int .i64 (x.1.1), .int .i64 (x.1.2)], .agg #[.int .i64 (p), .int .i64 (x.1.1), .int .i64 (x.1.2)], .agg #[.int .i64 p, .int .i64 x.1.1, .int .i64 x.1.2, .int .u16 0], .pointer (some ⟨A, 0, none⟩), .slice (some ⟨b0, o0, none⟩) ms.length cap, .int .i64 p, .pointer (some ⟨b0, o0 + p * 8, none⟩), sol f, .agg #[.int .i64 (p), .int .i64 (x.1.1), .int .i64 (x.1.2)], .func (.func 146) #[] #[.pointer (some ⟨B1, 0, none⟩), .pointer (some ⟨B1 + 1, 0, none⟩)], sol z.1.1, .bool z.1.2, undef, undef, undef, undef, undef, undef, undef, undef, undef, undef, undef, undef, undef, undef, undef, undef, undef, undef, undef, undef, undef, undef, undef, undef, undef], defers := [] })
        (fun z a' X l' o o' ⟨h, h1, h2, h3⟩ hl hc => ⟨h, h1, (World.putObj_heap_other (fun e => by rw [e] at h2; rw [h2] at hl; cases hl; cases hc)).trans h2, h3⟩) ?assign2 ?body2 ?done2 ?stop2
      case assign2 =>
        rintro l' pr z X K ⟨q1, q2, q3⟩ hK
        have zX := q1.size
        have lG := (Array.getElem?_eq_some_iff.1 q2).1
        have hbX : Below V.heap.size X (X.alloc (.cells (solC z.1.1) 88)) := (Below.refl _ X).alloc zX _
        gi_wp2
        exact hK _ _ ((KeepsOthers.alloc _ _).from _) (keepA_below ((Below.refl _ X).alloc (Nat.le_refl _) _) (Nat.zero_le _)) ⟨grown_low q1 hbX, (Below.heap_alloc X _ _ lG).trans q2, q3⟩ ⟨X.heap.size, zX, BoxK.new _ X _, rfl⟩
      case body2 =>
        rintro l' pr z a' X hl' ⟨rc', hrc'⟩ ⟨q1, q2, q3⟩ ⟨h, hh, bD, rfl⟩ hlt'
        obtain ⟨⟨t, c⟩, htf⟩ := z
        have s7' : V.heap[S]? = some (.cells (solC sd) 88 (0, 0)) := s7
        have nS : S ≠ G := fun e => by rw [e, w7] at s7'; cases s7'
        have nA : A ≠ G := fun e => by rw [e] at m7; rw [w7] at m7; cases m7
        have nP : A + 1 ≠ G := fun e => by rw [e] at p7; rw [w7] at p7; cases p7
        have sX : BoxD X S sd := (q1.block S s7.lt (fun e => nS (by injection e))).trans s7
        have mX := (q1.block A (Array.getElem?_eq_some_iff.1 m7).1 (fun e => nA (by injection e))).trans m7
        have pX := (q1.block (A + 1) (Array.getElem?_eq_some_iff.1 p7).1 (fun e => nP (by injection e))).trans p7
        have Q1 := Lib.hid q1
        have Q2 := Lib.hid q2
        have Q3 := Lib.hid q3
        have lG := (Array.getElem?_eq_some_iff.1 q2).1
        dsimp only at bD htf
        have ld := bD.lt
        clear q1 q2 q3 hrc' s7 m7 p7 w7 r7 bS bM
        have HFS := Lib.hid (fun c => freeK_snoc sd (pr.map Subtype.val) (t, c))
        cases c with
        | false =>
          gi_wp2
          refine ⟨trivial, ?_⟩
          gi_wp2
          exact ⟨KeepsFrom.refl _ _, rfl, Q1.out, by rw [List.map_append]; exact (HFS.out false).trans (by simp)⟩
        | true =>
          have HTO := Lib.hid (fun W => touches_ok t sd W htf FSD.out)
          have d0 := (bD).cell (k := 0) (by omega); have d1 := (bD).cell (k := 1) (by omega); have d2 := (bD).cell (k := 2) (by omega); have d3 := (bD).cell (k := 3) (by omega); have d4 := (bD).cell (k := 4) (by omega); have d5 := (bD).cell (k := 5) (by omega); have d6 := (bD).cell (k := 6) (by omega); have d7 := (bD).cell (k := 7) (by omega)
          have e0 := (sX).cell (k := 0) (by omega); have e1 := (sX).cell (k := 1) (by omega); have e2 := (sX).cell (k := 2) (by omega); have e3 := (sX).cell (k := 3) (by omega); have e4 := (sX).cell (k := 4) (by omega); have e5 := (sX).cell (k := 5) (by omega); have e6 := (sX).cell (k := 6) (by omega); have e7 := (sX).cell (k := 7) (by omega)
          gi_wp2_with fail
          refine ⟨trivial, ?_⟩
          gi_at_call 99
          (with_reducible refine CallsIn.mono (CallsIn.inRound l' (CallsIn.inRound l (callsIn_wide.2 (HTO.out _)))) ?_)
          rintro e w8 ⟨rfl, hb8⟩
          clear d0 d1 d2 d3 d4 d5 d6 d7 e0 e1 e2 e3 e4 e5 e6 e7 HTO
          cases hto : touchB t sd with
          | true =>
            gi_wp2
            refine ⟨keeps_below hb8 _, rfl, grown_low Q1.out (hb8.mono Q1.out.size), by rw [List.map_append]; exact (HFS.out true).trans (by rw [hto]; simp)⟩
          | false =>
            have w8G := heap_below Q2.out hb8 lG
            have m8 := heap_below mX hb8 (Array.getElem?_eq_some_iff.1 mX).1
            have p8 := heap_below pX hb8 (Array.getElem?_eq_some_iff.1 pX).1
            have d8 := bD.below hb8 ld
            have g8 := grown_low Q1.out (hb8.mono Q1.out.size)
            have k8 := Lib.hid (keeps_below hb8 V.heap.size)
            have a8 := Lib.hid (keepA_below (n₀ := 0) (n₁ := B1) hb8 (Nat.zero_le _))
            have z8 := Nat.le_trans Q1.out.size hb8.size
            have HMT := Lib.hid (metK_lt ms (p : Int) (by omega) (pr.map Subtype.val))
            obtain ⟨q, hq⟩ : ∃ q, q = metK ms p (pr.map Subtype.val) := ⟨_, rfl⟩
            rw [← hq] at w8G
            have c8 : w8.cell? ⟨G, 3, none⟩ = some (.int .u16 (q : Int)) := by unfold World.cell?; rw [w8G]; rfl
            have f8 : w8.frozen? ⟨G, 3, none⟩ = false := by unfold World.frozen?; rw [w8G]; simp
            have cA : w8.cell? ⟨A, 0, none⟩ = some (.slice (some ⟨b0, o0, none⟩) ms.length cap) := by unfold World.cell?; rw [m8]; rfl
            have cP : w8.cell? ⟨A + 1, 0, none⟩ = some (.int .i64 p) := by unfold World.cell?; rw [p8]; rfl
            have d0 := (d8).cell (k := 0) (by omega); have d1 := (d8).cell (k := 1) (by omega); have d2 := (d8).cell (k := 2) (by omega); have d3 := (d8).cell (k := 3) (by omega); have d4 := (d8).cell (k := 4) (by omega); have d5 := (d8).cell (k := 5) (by omega); have d6 := (d8).cell (k := 6) (by omega); have d7 := (d8).cell (k := 7) (by omega)
            have lG8 := (Array.getElem?_eq_some_iff.1 w8G).1
            have lA8 := (Array.getElem?_eq_some_iff.1 m8).1
            have lP8 := (Array.getElem?_eq_some_iff.1 p8).1
            have ld8 := d8.lt
            gi_wp2_with fail
            have i5 := HI.out.2.2.2.2.2.2.2
            have b58 := Lib.hid (show Below A w w8 from (i5.trans (b57.mono (by have := HG.out; have := i5.size; have := HA.out; omega))).trans ⟨g8.os, g8.tape, g8.output, g8.size, fun k hk => g8.block k (by have := HZV.out; have := HZ5.out; have := HG.out; have := i5.size; have := HA.out; omega) (fun e => by injection e with e; have := HG.out; have := i5.size; have := HA.out; omega)⟩)
            have HT0 := fun W' (hW' : Below w8.heap.size w8 W') => touched_ok ms t p (.slice (some ⟨b0, o0, none⟩) ms.length cap) W' htf (HV.out.below (b58.out.trans (hW'.mono (by have := b58.out.size; have := HA.out; omega))) (by rw [HA.out]; exact Nat.le_refl _)) HM.out h12
            have HTT := Lib.hid HT0
            obtain ⟨tk, htk⟩ : ∃ tk, tk = touchK ms t p ms.length := ⟨_, rfl⟩
            rw [← htk] at HT0 HTT
            have htk16 : tk < 65536 := by rw [htk]; exact touchK_lt ms t p _ (by omega)
            have HTK := Lib.hid htk
            have hq16 : q < 65536 := by rw [hq]; exact HMT.out
            have HOR := u16_or_nat q tk hq16 htk16
            have HQ := Lib.hid hq
            have G8 := Lib.hid g8
            have HB8 := Lib.hid hb8
            clear HT0 htk hq hq16 htk16 g8 k8 a8 z8 hb8 i5
            (refine region_tailIn 9 (fun w' => Below w8.heap.size w8 w') (by kernel_rfl) (by kernel_rfl) (by kernel_rfl) (Below.drew (Below.refl _ _)) ?_; simp only [List.take_succ_cons, List.take_zero, List.drop_succ_cons, List.drop_zero]; (iterate 9 (refine wpQuietIn_step (fun _ _ _ _ => trivial) (fun K hK => ?_); go_simp; first | (refine hK _ ?_; clear hK K) | (apply Exists.intro; refine ⟨fun W' hW' => ?_, hK _ ?_⟩; (focus (first | (with_reducible exact rfl) | (with_reducible exact ⟨rfl, rfl⟩) | (obtain ⟨hcq, hfq⟩ := bcell hW'; have hzq := hW'.size; (try go_simp); first | (with_reducible exact rfl) | (with_reducible exact ⟨rfl, rfl⟩) | (first | ((with_reducible refine CallsIn.mono (CallsIn.inRound l' (CallsIn.inRound l (callsIn_wide.2 (HTT.out _ hW')))) ?_); rintro e w9 ⟨rfl, hb9⟩; exact ⟨rfl, hW'.trans (hb9.mono hW'.size)⟩))))); clear hK K))); refine wpQuietIn_nil ?_; intro w1q hb1q)
            have wq := heap_below w8G hb1q lG8
            have cq : w1q.cell? ⟨G, 3, none⟩ = some (.int .u16 (q : Int)) := by unfold World.cell?; rw [wq]; rfl
            have fq : w1q.frozen? ⟨G, 3, none⟩ = false := by unfold World.frozen?; rw [wq]; simp
            clear d0 d1 d2 d3 d4 d5 d6 d7 c8 f8 cA cP
            gi_wp2
            have bXq : Below X.heap.size X w1q := HB8.out.trans (hb1q.mono HB8.out.size)
            have gq := grown_low Q1.out (bXq.mono Q1.out.size)
            have hGB : G < B1 := by omega
            refine ⟨(keeps_below bXq _).trans ((KeepsOthers.setCell _ _ _).from _), keepA_t (keepA_below bXq (Nat.zero_le _)) ⟨(Below.refl 0 w1q).setCell (p := ⟨G, 3, none⟩) (Nat.zero_le _) _, fun k o hk ho _ => (Below.heap_setCell w1q ⟨G, 3, none⟩ _ k (by show k ≠ G; omega)).trans ho⟩, ?_, ?_, ?_⟩
            · have hset := (Below.refl 0 w1q).setCell (p := ⟨G, 3, none⟩) (Nat.zero_le _) (.int .u16 ((q ||| tk : Nat) : Int))
              exact ⟨hset.os.trans gq.os, hset.tape.trans gq.tape, hset.output.trans gq.output, Nat.le_trans gq.size hset.size, fun k hk hne => (Below.heap_setCell w1q ⟨G, 3, none⟩ _ k (fun e => hne (by rw [e]))).trans (gq.block k hk hne)⟩
            · rw [List.map_append, List.map_cons, List.map_nil, metK_snoc, ← HQ.out, ← HTK.out]
              exact way_set wq _
            · rw [List.map_append]; exact (HFS.out true).trans (by rw [hto, Q3.out]; rfl)
      case done2 =>
        rintro zs X hzs ⟨q1, q2, q3⟩
        have hzs' : zs.map Subtype.val = standsL f x.1.1 x.1.2 := hzs
        rw [hzs'] at q2 q3
        have hfr : freeK (sandF ms) (standsL f x.1.1 x.1.2) = true := by rw [← HSD.out]; exact q3
        have bGX : Below G W X := b57.trans ⟨q1.os, q1.tape, q1.output, q1.size, fun k hk => q1.block k (by have := HZV.out; omega) (fun e => by injection e with e; omega)⟩
        have bWX : Below W.heap.size W X := by rw [← HG.out]; exact bGX
        obtain ⟨hvl, hrow, hnil, i2, i3, i4, iq, i5⟩ := HI.out
        have hvX : Boxed X (A + 1 + 1) 176 vl := heap_below hvl bWX (Array.getElem?_eq_some_iff.1 hvl).1
        have rowX := row_below hrow bWX
        have hlen : (wysL ms p f pre).length ≤ 29 := by
          have h1 : (wysL ms p f pre).length ≤ pre.length := List.length_filterMap_le _ _
          have h2 : pre.length < movesL.length := hlt
          have h3 : movesL.length = 29 := by decide
          omega
        obtain ⟨Q, hQ'⟩ : ∃ Q, Q = metK ms p (standsL f x.1.1 x.1.2) := ⟨_, rfl⟩
        rw [← hQ'] at q2
        obtain ⟨i0, hi, hz0, hz1, hz2⟩ := info_parts info_way
        have gc := fun (k : Nat) (u : Value) (h : (wyC p (x.1, Q))[k]? = some u) => way_cells q2 k u h
        have g0 := gc 0 _ rfl
        have g1 := gc 1 _ rfl
        have g2 := gc 2 _ rfl
        have g3 := gc 3 _ rfl
        have cv := hvX.cell
        have lGX := (Array.getElem?_eq_some_iff.1 q2).1
        have lhX := hvX.lt
        have HBX := Lib.hid bWX
        have HFR := Lib.hid hfr
        have HQ' := Lib.hid hQ'
        clear bGX bWX s7 m7 p7 w7 r7 bS bM q1 q3 hzs hzs' hv7 row7 i2 i3 i4 iq i5 hvl hrow hnil gc hfr hQ' q2
        gi_wp2_with (gi_at_builtin; refine wpListIn_append_own _ rfl _ _ 176 rfl (A + 1 + 1) 108 i0 (.agg #[.int .i64 0, .int .i64 0, .int .i64 0, .int .u16 0]) 4 32 under_ways hi hz0 hz1 hz2 rfl (by decide) vl _ _ rfl (rowX.alloc _) ⟨X.heap.size, 0, none⟩ 1 1 (wyC p (x.1, Q)) rfl rfl (way_new X p (x.1, Q)) (way_one p (x.1, Q)) (by simp only [maxLen]; omega) (by omega) (by simp; omega) ?_; intro v' w4 hown' hgrow _; obtain ⟨g', cap', rfl⟩ := ownsRow_succ hown'; obtain ⟨hv1, hv2, hr2, hk2, hb2⟩ := hvX.appended (by decide) rowX (by omega) (Nat.le_refl _) hown' hgrow; have hc1 := hv1.cell; have hf1 := hv1.frozen)
        obtain ⟨hvl, hrow, hnil, i2, i3, i4, iq, i5⟩ := HI.out
        have bWX := HBX.out
        have x2 := heap_below i2 bWX (Array.getElem?_eq_some_iff.1 i2).1
        have x3 := heap_below i3 bWX (Array.getElem?_eq_some_iff.1 i3).1
        have x4 := i4.below bWX i4.lt
        have xq := heap_below iq bWX (Array.getElem?_eq_some_iff.1 iq).1
        have zq := blk_app xq (by decide) rowX hgrow (show S + 1 ≠ A + 1 + 1 by omega) (.slice (some ⟨g', 0, none⟩) ((wysL ms p f pre).length + 1) cap')
        have z4 := blk_app x4 (by decide) rowX hgrow (show S ≠ A + 1 + 1 by omega) (.slice (some ⟨g', 0, none⟩) ((wysL ms p f pre).length + 1) cap')
        refine ⟨(keeps_below bWX _).trans (hk2.from _), ⟨(bWX.mono hsW).trans (hb2.mono (by omega)), fun o ho _ => ?_⟩, ?_⟩
        · rw [iq] at ho
          cases ho
          exact zq
        · dsimp only
          rw [wysL_yes HFR.out, ← HQ'.out]
          refine ⟨⟨_, hv2, ?_, by simp⟩, heap_below x2 hb2 (by omega), heap_below x3 hb2 (by omega), z4, zq, i5.trans ((bWX.mono hsW).trans (hb2.mono (by omega)))⟩
          simp only [List.length_append, List.length_cons, List.length_nil, flatW_snoc]
          exact hr2
      case stop2 =>
        rintro c pr X hpr ⟨rfl, q1, q3⟩
        have hpr' : pr.map Subtype.val <+: standsL f x.1.1 x.1.2 := hpr
        have hfr : freeK (sandF ms) (standsL f x.1.1 x.1.2) = false := by rw [← HSD.out]; exact freeK_prefix hpr' q3
        have bGX : Below G W X := b57.trans ⟨q1.os, q1.tape, q1.output, q1.size, fun k hk => q1.block k (by have := HZV.out; omega) (fun e => by injection e with e; omega)⟩
        have bWX : Below W.heap.size W X := by rw [← HG.out]; exact bGX
        have HBX := Lib.hid bWX
        clear bGX bWX s7 m7 p7 w7 r7 bS bM q1 q3 hpr hpr' hv7 row7
        gi_wp2
        obtain ⟨hvl, hrow, hnil, i2, i3, i4, iq, i5⟩ := HI.out
        have bWX := HBX.out
        refine ⟨keeps_below bWX _, ⟨bWX.mono hsW, fun o ho _ => heap_below ho bWX (Array.getElem?_eq_some_iff.1 ho).1⟩, ?_⟩
        dsimp only
        rw [wysL_no hfr]
        exact ⟨⟨vl, heap_below hvl bWX (Array.getElem?_eq_some_iff.1 hvl).1, row_below hrow bWX, hnil⟩, heap_below i2 bWX (Array.getElem?_eq_some_iff.1 i2).1, heap_below i3 bWX (Array.getElem?_eq_some_iff.1 i3).1, i4.below bWX i4.lt, heap_below iq bWX (Array.getElem?_eq_some_iff.1 iq).1, i5.trans (bWX.mono hsW)⟩
    case done =>
      rintro D ys W hD hys ⟨⟨vl, hvl, hrow, hnil⟩, i2, i3, i4, iq, i5⟩ hK
      rw [wysL_all hys] at hrow hnil
      have hlD := (Array.getElem?_eq_some_iff.1 hK).1
      have hoff : Off av vl := fun k hk ha => by have h1 := (hrow.lt k hk).1; have h2 := HAV.out k ha; have := HA.out; omega
      have i5' := i5
      rw [HA.out] at i5'
      obtain ⟨W', hput, hW', hg, hR⟩ := (HAB.out.below i5').put HF.out h12 ⟨_, hrow⟩ hoff
      have l3 := (Array.getElem?_eq_some_iff.1 hvl).1
      have c1 : W.cell? ⟨A, 1, none⟩ = some (.map (some b)) := by unfold World.cell?; rw [i2]; rfl
      have c2 : W.cell? ⟨A + 1, 0, none⟩ = some (.int .i64 p) := by unfold World.cell?; rw [i3]; rfl
      have c3 := hvl.cell
      have hv' : W'.heap[A + 1 + 1]? = some (.cells #[vl] 176 (0, 0)) := (hg.block _ l3 (fun e => by cases e; omega)).trans hvl
      have c4 : W'.cell? ⟨A + 1 + 1, 0, none⟩ = some vl := by unfold World.cell?; rw [hv']; rfl
      have hK' : W'.heap[D]? = some (.deferred (some [])) := (hg.block _ hlD (fun e => by cases e; omega)).trans hK
      gi_wp2
      go_wp2_with fail
      rw [Exit.noGoto_ret]
      refine leaves_marks A [D] W' (by simp) (fun D' h => by simp at h; subst h; exact ⟨by omega, hK'⟩) fun W3 hb hk => ⟨_, results_tmp rfl _ _ _, ⟨vl, rfl, ?_⟩, ?_⟩
      · have hg3 := grown_mark hb fun k o hne ho => hk k o (fun D' h => by simp at h; rw [h]; exact hne) ho
        have hno : ∀ r, some D = some r → ∃ o : Obj, W'.heap[r]? = some o ∧ o.isCells = false := fun r e => by cases e; exact ⟨_, hK', rfl⟩
        exact ⟨hR.kept hg3 hno, hoff, hW'.kept hg3 (fun e => by cases e; omega) hno⟩
      · refine ⟨hb.os.trans (hg.os.trans i5.os), hb.tape.trans (hg.tape.trans i5.tape), hb.output.trans (hg.output.trans i5.output), Nat.le_trans i5.size (Nat.le_trans hg.size hb.size), fun k hk1 hne => ?_⟩
        have hkA : k < A := by rw [HA.out]; exact hk1
        exact ((hb.block k hkA).trans (hg.block k (by omega) hne)).trans (i5.block k hkA)
    case stop =>
      rintro D c pre W _ _ h _
      exact h.elim
end Go.Proofs.YtoajocgfmbakjaaGreatDoor
