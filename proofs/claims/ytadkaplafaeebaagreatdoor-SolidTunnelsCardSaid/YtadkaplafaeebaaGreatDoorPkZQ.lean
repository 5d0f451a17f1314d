/-
  inside, of a solid that has no cell: it yields nothing.
-/
import Derived.Test.YtadkaplafaeebaaGreatDoorPkOQ
import Derived.Test.YtadkaplafaeebaaGreatDoorPkGQ
import Derived.Test.YtadkaplafaeebaaGreatDoorPkEQ
import Derived.Deep.LoopGhost
set_option linter.unusedVariables false
set_option linter.unusedSimpArgs false
namespace Go.Proofs.YtadkaplafaeebaaGreatDoor
open Go Go.RowKit Go.Shelf

attribute [local go_sem] Oper.semAt_some

set_option maxRecDepth 100000 in
set_option maxHeartbeats 1000000 in
theorem ins_walkE (n : Nat) (hn : 1 ≤ n) (l Ba Bb B0 : Nat) (f : Sol)
    (hBf : ∀ W, Calls Tryz.prog 38 #[sol f] W fun e w' => e = .returned (.tuple #[.agg #[.int .i64 (0), .int .i64 (0), .int .i64 (0), .int .i64 (0), .int .i64 (0), .int .i64 (0)], .bool false]) ∧ Below W.heap.size W w')
    (J Jx : List Pl → World → Prop) (hA : AbidesFrom B0 J) (W : World) (hBa : BoxS W Ba f) (h0 : J [] W) :
    CallsIn Fence.wide n Tryz.prog 147 #[.func (.yield l) #[] #[], .pointer (some ⟨Ba, 0, none⟩), .pointer (some ⟨Bb, 0, none⟩)] W fun e W' => (∃ v, e = .returned v) ∧
      ((∃ ys, ys = ([] : List Pl) ∧ J ys W') ∨ (∃ pre, pre <+: ([] : List Pl) ∧ Jx pre W')) := by
  have HBF := Lib.hid hBf
  have HJ := Lib.hid hA
  have HJ0 := Lib.hid h0
  clear hBf hA h0
  refine callsIn_of_wp Tryz.func147 rfl trivial ?_ rfl
  simp only [Tryz.ntmps147, List.size_toArray, List.length_cons, List.length_nil, Nat.reduceAdd, Nat.reduceSub, Array.replicate_succ, Array.replicate_zero, List.push_toArray, List.append_toArray, List.nil_append, List.cons_append]
  have a0 := (hBa).cell (k := 0) (by omega); have a1 := (hBa).cell (k := 1) (by omega); have a2 := (hBa).cell (k := 2) (by omega); have a3 := (hBa).cell (k := 3) (by omega); have a4 := (hBa).cell (k := 4) (by omega); have a5 := (hBa).cell (k := 5) (by omega); have a6 := (hBa).cell (k := 6) (by omega); have a7 := (hBa).cell (k := 7) (by omega)
  gi_wp2_with (refine ⟨trivial, ?_⟩; gi_at_call 38; first
    | ((with_reducible refine CallsIn.mono (callsIn_wide.2 (HBF.out _)) ?_); rintro e w1 ⟨rfl, hb1⟩)
    | fail)
  have hA1 : Below W.heap.size W (w1.alloc (.cells #[.int .i64 (0), .int .i64 (0), .int .i64 (0), .int .i64 (0), .int .i64 (0), .int .i64 (0)] 40)) := hb1.alloc hb1.size _
  have hJ2 : J [] (w1.alloc (.cells #[.int .i64 (0), .int .i64 (0), .int .i64 (0), .int .i64 (0), .int .i64 (0), .int .i64 (0)] 40)) := abides_below HJ.out HJ0.out hA1
  refine bodyPost_ret (results_none Tryz.results147 _ _ _) rfl ?_
  exact ⟨⟨_, rfl⟩, .inl ⟨[], rfl, hJ2⟩⟩
end Go.Proofs.YtadkaplafaeebaaGreatDoor
/-
  inside, of solids that have cells: its list, and its contract as a sequence.
-/
set_option linter.unusedVariables false
set_option linter.unusedSimpArgs false
namespace Go.Proofs.YtadkaplafaeebaaGreatDoor
open Go Go.RowKit Go.Shelf

/-- How many places a side has in a room. -/
def gap (a b c d : Nat) : Nat := (b - a) + 1 - (d - c)
/-- The places, by Z, Y, X, each with what is placed. -/
def insideL (f g : Sol) : List Pl := if emptyS f = true then [] else
  insZ f g ((lowZ f : Int) - (lowZ g : Int)) ((lowY f : Int) - (lowY g : Int)) ((lowX f : Int) - (lowX g : Int)) (gap (lowZ f) (highZ f) (lowZ g) (highZ g)) (gap (lowY f) (highY f) (lowY g) (highY g)) (gap (lowX f) (highX f) (lowX g) (highX g)) 0
theorem gap_dec {a b c d : Nat} (h1 : a < b) (h2 : c < d) (k : Nat) : decide ((a : Int) - (c : Int) + (k : Int) ≤ (b : Int) - 1 - ((d : Int) - 1)) = decide (k < gap a b c d) := by
  unfold gap
  exact decide_eq_decide.2 (by omega)
set_option maxHeartbeats 1000000 in
theorem inside_stops (n : Nat) (hn : 1 ≤ n) (Ba Bb n₀ n₁ : Nat) (f g : Sol) (hf : Fit f) (hg : Fit g) (hge : emptyS g = false) (w : World) (hBa : BoxS w Ba f) (hBb : BoxS w Bb g) (h1 : n₁ ≤ Ba) (h2 : n₁ ≤ Bb) :
    SeqStopsK Fence.wide n Tryz.prog 147 #[.pointer (some ⟨Ba, 0, none⟩), .pointer (some ⟨Bb, 0, none⟩)] (fun x : Pl => #[encI x.1, sol x.2]) (KeepA n₀ n₁) (fun ys => ys = insideL f g) (fun pre => pre <+: insideL f g) (insideL f g).length w := fun l J Jx W hW hJ _ hY h0 => by
  by_cases hee : emptyS f = true
  · have e0 : insideL f g = [] := by unfold insideL; rw [if_pos hee]
    rw [e0]
    exact ins_walkE n hn l Ba Bb _ f (fun W => bounds_no f W hee) J Jx hJ W (hBa.below hW hBa.lt) h0
  have he : emptyS f = false := by simpa using hee
  have F := boundN hf he
  have G := boundN hg hge
  obtain ⟨f1, f2, f3, f4, f5, f6⟩ := F
  obtain ⟨g1, g2, g3, g4, g5, g6⟩ := G
  have hx := gap_dec f1 g1
  have hy := gap_dec f3 g3
  have hz := gap_dec f5 g5
  refine ins_walk n hn l Ba Bb n₀ n₁ _ f g (lowX f) (lowY f) (lowZ f) ((highX f : Int) - 1) ((highY f : Int) - 1) ((highZ f : Int) - 1) (lowX g) (lowY g) (lowZ g) ((highX g : Int) - 1) ((highY g : Int) - 1) ((highZ g : Int) - 1)
    (gap (lowX f) (highX f) (lowX g) (highX g)) (gap (lowY f) (highY f) (lowY g) (highY g)) (gap (lowZ f) (highZ f) (lowZ g) (highZ g)) (insideL f g) (by omega) (by omega) (by omega) (by omega) hx hy hz hf (fun x y z => shiftF_fit hg x y z 8) (fun W => bounds_yes f W hf he) (fun W => bounds_yes g W hg hge) ?_ ?_ J Jx hJ hY W (hBa.below hW hBa.lt) (hBb.below hW hBb.lt) h1 h2 h0
  · intro i j k W hi hj hk
    unfold gap at hi hj hk
    refine shifted_ok g _ _ _ W hg (by omega) (by omega) fun m hm hp => ?_
    have := plane_in hm hp
    omega
  · unfold insideL
    rw [he, if_neg Bool.false_ne_true]
set_option maxHeartbeats 1000000 in
theorem inside_in (n : Nat) (f g : Sol) (w : World) :
    CallsIn Fence.wide n Tryz.prog 116 #[sol f, sol g] w fun e w' => e = .returned (.func (.func 147) #[] #[.pointer (some ⟨w.heap.size, 0, none⟩), .pointer (some ⟨w.heap.size + 1, 0, none⟩)]) ∧ w' = (w.alloc (.cells (solC f) 24)).alloc (.cells (solC g) 24) := by
  have hmf : ∀ (fn : Fn) (first cap : Array Value) (w : World), (Instr.makeFunc fn first cap).run Tryz.prog w = .ok (.func fn first cap) w := fun _ _ _ _ => rfl
  refine callsIn_of_wp Tryz.func116 rfl trivial ?_ rfl
  simp only [Tryz.ntmps116, List.size_toArray, List.length_cons, List.length_nil, Nat.reduceAdd, Nat.reduceSub, Array.replicate_succ, Array.replicate_zero, List.push_toArray, List.append_toArray, List.nil_append, List.cons_append]
  gi_wp2
  go_ret
  exact ⟨rfl, rfl⟩
end Go.Proofs.YtadkaplafaeebaaGreatDoor
/-
  Fits: a range over a function in a loop, left by a label.
-/
set_option linter.unusedVariables false
set_option linter.unusedSimpArgs false
namespace Go.Proofs.YtadkaplafaeebaaGreatDoor
open Go Go.RowKit Go.Shelf

attribute [local go_sem] Oper.semAt_some

/-- What a range over a function leaves among the calls deferred. -/
abbrev mark (D : Nat) : Deferred := { target := .collected D, args := #[] }
theorem below_mark {n₀ D : Nat} {W : World} {o o' : Obj} (hD : n₀ ≤ D) (h : W.heap[D]? = some o) : Below n₀ W (W.putObj D o') :=
  have hg := grownBy_putObj' W D o'
  have hl := (Array.getElem?_eq_some_iff.1 h).1
  ⟨hg.os, hg.tape, hg.output, hg.size, fun k hk => hg.block k (by omega) (fun e => by cases e; omega)⟩
theorem leaves_marks {F : Fence} {n : Nat} {P : Program} {fn : Func} {tmps : Array Value} {R : Ending → World → Prop} (n₀ : Nat) : ∀ (Ds : List Nat) (W : World), Ds.Nodup → (∀ D ∈ Ds, n₀ ≤ D ∧ W.heap[D]? = some (.deferred (some []))) →
    (∀ W', Below n₀ W W' → (∀ (b : Nat) (o : Obj), o.isCells = true → W.heap[b]? = some o → W'.heap[b]? = some o) → LeavesIn F n P fn tmps R [] .returning W') → LeavesInM F n P fn tmps R (Ds.map mark) .returning W
  | [], W, _, _, h => h W (Below.refl _ _) fun _ _ _ h => h
  | D :: r, W, hn, hd, h => by
    obtain ⟨h1, h2⟩ := hd D (by simp)
    have hl := (Array.getElem?_eq_some_iff.1 h2).1
    have hg := grownBy_putObj' W D (.deferred none)
    refine ⟨by simp, .inl ⟨D, _, rfl, run_takeDeferred h2, ?_⟩⟩
    refine leaves_marks n₀ r _ (List.nodup_cons.1 hn).2 (fun D' hD' => ?_) fun W' hb hk => h W' ((below_mark h1 h2).trans hb) fun b o hc ho => hk b o hc ?_
    · obtain ⟨h3, h4⟩ := hd D' (by simp [hD'])
      refine ⟨h3, (hg.block D' (Array.getElem?_eq_some_iff.1 h4).1 fun e => ?_).trans h4⟩
      cases e
      exact (List.nodup_cons.1 hn).1 hD'
    · exact (hg.block b (Array.getElem?_eq_some_iff.1 ho).1 fun e => by cases e; rw [h2] at ho; cases ho; cases hc).trans ho
/-- The first turn and move that place a solid inside another one. -/
def fitAt (f g : Sol) (t : Nat) : Option (Nat × I3) := (insideL f (turnedF g t)).head?.map fun p => (t, p.1)
def fitsFrom (f g : Sol) : Nat → Nat → Option (Nat × I3)
  | 0, _ => none
  | n + 1, t => match fitAt f g t with | some x => some x | none => fitsFrom f g n (t + 1)
def fitsF (f g : Sol) : Option (Nat × I3) := fitsFrom f g 24 0
def motV : Option (Nat × I3) → Value
  | none => .agg #[.int .i64 (0), .int .i64 (0), .int .i64 (0), .int .i64 (0)]
  | some (t, c) => .agg #[.int .i64 (t), .int .i64 (c.1), .int .i64 (c.2.1), .int .i64 (c.2.2)]
/-- What lies while Fits looks. -/
structure FitW (w : World) (f g : Sol) (A F : Nat) (t : Int) (c : I3) (b : Bool) (W : World) : Prop where
  fa : BoxS W A f
  fb : BoxS W (A + 1) g
  fr : Q4 W (A + 1 + 1) 0 0 0 0
  fm : Q4 W F t c.1 c.2.1 c.2.2
  fk : Boxed W (F + 1) 4 (.bool b)
  fw : Below A w W
theorem FitW.below {w : World} {f g : Sol} {A F : Nat} {t : Int} {c : I3} {b : Bool} {W W' : World} (h : FitW w f g A F t c b W) (hb : Below W.heap.size W W') (hA : A ≤ W.heap.size) : FitW w f g A F t c b W' :=
  ⟨h.fa.below hb h.fa.lt, h.fb.below hb h.fb.lt, blk_below h.fr hb (blk_lt h.fr), blk_below h.fm hb (blk_lt h.fm), (hb.block _ h.fk.lt).trans h.fk, h.fw.trans (hb.mono hA)⟩
/-- The marks that are left. -/
def Marks (A : Nat) (Ds : List Nat) (W : World) : Prop := ∀ D ∈ Ds, A ≤ D ∧ W.heap[D]? = some (.deferred (some []))
theorem Marks.below {A : Nat} {Ds : List Nat} {W W' : World} (h : Marks A Ds W) (hb : Below W.heap.size W W') : Marks A Ds W' := fun D hD => ⟨(h D hD).1, (hb.block D (Array.getElem?_eq_some_iff.1 (h D hD).2).1).trans (h D hD).2⟩
theorem Marks.set {A : Nat} {Ds : List Nat} {W : World} {B k : Nat} {cs : Array Value} {t : TypeId} {fr : Nat × Nat} (h : Marks A Ds W) (hB : W.heap[B]? = some (.cells cs t fr)) (v : Value) : Marks A Ds (W.setCell ⟨B, k, none⟩ v) := fun D hD =>
  ⟨(h D hD).1, blk_other (h D hD).2 (fun e => by have := (h D hD).2; rw [e, hB] at this; cases this) v⟩
/-- The world behind the two stores of a find. -/
abbrev putF (W : World) (F : Nat) (t : Int) (c : I3) : World := ((((W.setCell ⟨F, 0, none⟩ (.int .i64 t)).setCell ⟨F, 1, none⟩ (.int .i64 c.1)).setCell ⟨F, 2, none⟩ (.int .i64 c.2.1)).setCell ⟨F, 3, none⟩ (.int .i64 c.2.2)).setCell ⟨F + 1, 0, none⟩ (.bool true)
theorem FitW.put {w : World} {f g : Sol} {A F : Nat} {t : Int} {c : I3} {b : Bool} {W : World} (h : FitW w f g A F t c b W) (hA : A + 1 + 1 < F) (t' : Int) (c' : I3) : FitW w f g A F t' c' true (putF W F t' c') := by
  have o : ∀ {k : Nat} {x : Obj}, W.heap[k]? = some x → k ≠ F → k ≠ F + 1 → (putF W F t' c').heap[k]? = some x := fun h h1 h2 => blk_other (blk_other (blk_other (blk_other (blk_other h h1 _) h1 _) h1 _) h1 _) h2 _
  refine ⟨o h.fa (by omega) (by omega), o h.fb (by omega) (by omega), o h.fr (by omega) (by omega), ?_, ?_, ?_⟩
  · exact blk_other (blk_set (k := 3) (blk_set (k := 2) (blk_set (k := 1) (blk_set (k := 0) h.fm (.int .i64 t')) (.int .i64 c'.1)) (.int .i64 c'.2.1)) (.int .i64 c'.2.2)) (by omega) _
  · have h1 : (((((W.setCell ⟨F, 0, none⟩ (.int .i64 t')).setCell ⟨F, 1, none⟩ (.int .i64 c'.1)).setCell ⟨F, 2, none⟩ (.int .i64 c'.2.1)).setCell ⟨F, 3, none⟩ (.int .i64 c'.2.2))).heap[F + 1]? = some (.cells #[.bool b] 4 (0, 0)) := blk_other (blk_other (blk_other (blk_other h.fk (by omega) _) (by omega) _) (by omega) _) (by omega) _
    exact blk_set (k := 0) h1 (.bool true)
  · exact ((((h.fw.setCell (p := ⟨F, 0, none⟩) (by simp; omega) _).setCell (p := ⟨F, 1, none⟩) (by simp; omega) _).setCell (p := ⟨F, 2, none⟩) (by simp; omega) _).setCell (p := ⟨F, 3, none⟩) (by simp; omega) _).setCell (p := ⟨F + 1, 0, none⟩) (by simp; omega) _
theorem Marks.put {A : Nat} {Ds : List Nat} {w : World} {f g : Sol} {F : Nat} {t : Int} {c : I3} {b : Bool} {W : World} (hm : Marks A Ds W) (h : FitW w f g A F t c b W) (t' : Int) (c' : I3) : Marks A Ds (putF W F t' c') := by
  have b1 := blk_set (k := 0) h.fm (.int .i64 t')
  have b2 := blk_set (k := 1) b1 (.int .i64 c'.1)
  have b3 := blk_set (k := 2) b2 (.int .i64 c'.2.1)
  have h1 : (((((W.setCell ⟨F, 0, none⟩ (.int .i64 t')).setCell ⟨F, 1, none⟩ (.int .i64 c'.1)).setCell ⟨F, 2, none⟩ (.int .i64 c'.2.1)).setCell ⟨F, 3, none⟩ (.int .i64 c'.2.2))).heap[F + 1]? = some (.cells #[.bool b] 4 (0, 0)) := blk_other (blk_other (blk_other (blk_other h.fk (by omega) _) (by omega) _) (by omega) _) (by omega) _
  exact ((((hm.set h.fm _).set b1 _).set b2 _).set b3 _).set h1 _
theorem own_marks {β : Type} {A B : Nat} {Ds : List Nat} (hB : ∀ D ∈ Ds, D < B) : OwnFrom B (fun (_ : β) W => Marks A Ds W) := fun s X Y row hs hg hr D hD =>
  ⟨(hs D hD).1, (hg.block D (Array.getElem?_eq_some_iff.1 (hs D hD).2).1 (fun e => by have := (hr D e.symm).1; have := hB D hD; omega)).trans (hs D hD).2⟩
theorem own_fitW {β : Type} {w : World} {f g : Sol} {A F B : Nat} {t : β → Int} {c : β → I3} {b : Bool} (h1 : A ≤ B) : OwnFrom B (fun (s : β) W => FitW w f g A F (t s) (c s) b W ∧ A ≤ W.heap.size) := fun s X Y row hs hg hr => by
  obtain ⟨h, h2⟩ := hs
  have key : ∀ (k : Nat) (o : Obj), o.isCells = true → X.heap[k]? = some o → Y.heap[k]? = some o := fun k o hc hk => (hg.block k (Array.getElem?_eq_some_iff.1 hk).1 (fun e => by obtain ⟨_, o', ho, hn⟩ := hr k e.symm; rw [hk] at ho; cases ho; rw [hc] at hn; cases hn)).trans hk
  refine ⟨⟨key _ _ rfl h.fa, key _ _ rfl h.fb, key _ _ rfl h.fr, key _ _ rfl h.fm, key _ _ rfl h.fk, ?_⟩, Nat.le_trans h2 hg.size⟩
  exact h.fw.trans ⟨hg.os, hg.tape, hg.output, hg.size, fun k hk => hg.block k (by omega) (fun e => by have := (hr k e.symm).1; omega)⟩
set_option maxRecDepth 100000 in
set_option maxHeartbeats 1000000 in
theorem fits_any (f g : Sol) (w : World) (hf : Fit f) (hg : Fit g) (hge : emptyS g = false) (hT : Tab64 w) :
    Calls Tryz.prog 54 #[sol f, sol g] w fun e w' => e = .returned (.tuple #[motV (fitsF f g), .bool (fitsF f g).isSome]) ∧ Below w.heap.size w w' := by
  have HF := Lib.hid hf
  have HG := Lib.hid hg
  have HT := Lib.hid hT
  have HGE := Lib.hid hge
  clear hf hg hT hge
  refine (callsIn_wide (n := 7)).1 ?_
  refine callsIn_of_wp_marks Tryz.func54 rfl trivial ?_ rfl
  simp only [Tryz.ntmps54, List.size_toArray, List.length_cons, List.length_nil, Nat.reduceAdd, Nat.reduceSub, Array.replicate_succ, Array.replicate_zero, List.push_toArray, List.append_toArray, List.nil_append, List.cons_append]
  refine wpIn_wide.2 ?_
  have bA0 : BoxS (((w.alloc (.cells (solC f) 24)).alloc (.cells (solC g) 24)).alloc (.cells #[.int .i64 (0), .int .i64 (0), .int .i64 (0), .int .i64 (0)] 46)) w.heap.size f := ((BoxS.new w f).alloc _).alloc _
  have bB0 : BoxS (((w.alloc (.cells (solC f) 24)).alloc (.cells (solC g) 24)).alloc (.cells #[.int .i64 (0), .int .i64 (0), .int .i64 (0), .int .i64 (0)] 46)) (w.heap.size + 1) g := (BoxS.new' (by simp)).alloc _
  have bR0 : Q4 (((w.alloc (.cells (solC f) 24)).alloc (.cells (solC g) 24)).alloc (.cells #[.int .i64 (0), .int .i64 (0), .int .i64 (0), .int .i64 (0)] 46)) (w.heap.size + 1 + 1) 0 0 0 0 := blk_new (by simp)
  have hB0 : Below w.heap.size w (((w.alloc (.cells (solC f) 24)).alloc (.cells (solC g) 24)).alloc (.cells #[.int .i64 (0), .int .i64 (0), .int .i64 (0), .int .i64 (0)] 46)) := by repeat' (first | (with_reducible exact Below.refl _ _) | (with_reducible assumption) | (with_reducible refine Below.alloc ?_ ?_ _) | (with_reducible refine Below.drew ?_) | (with_reducible refine below_drewN ?_ _) | (with_reducible refine Below.setCell ?_ ?_ _) | go_size)
  have c0 := (bB0).cell (k := 0) (by omega); have c1 := (bB0).cell (k := 1) (by omega); have c2 := (bB0).cell (k := 2) (by omega); have c3 := (bB0).cell (k := 3) (by omega); have c4 := (bB0).cell (k := 4) (by omega); have c5 := (bB0).cell (k := 5) (by omega); have c6 := (bB0).cell (k := 6) (by omega); have c7 := (bB0).cell (k := 7) (by omega)
  go_wp2_with fail
  go_step3
  go_wp2_with fail
  clear c0 c1 c2 c3 c4 c5 c6 c7
  refine (isEmpty_is HGE.out _).mono ?_
  rintro e w1 ⟨rfl, hb1⟩
  have bA1 := bA0.below hb1 bA0.lt
  have bB1 := bB0.below hb1 bB0.lt
  have bR1 := blk_below bR0 hb1 (blk_lt bR0)
  have hB1 : Below w.heap.size w w1 := up hb1 hB0
  clear bA0 bB0 bR0 hB0 hb1
  have lA1 := bA1.lt
  have lB1 := bB1.lt
  have lR1 := blk_lt bR1
  go_wp2_with fail
  go_step3
  go_wp2_with fail
  have bF0 : Q4 ((w1.alloc (.cells #[.int .i64 (0), .int .i64 (0), .int .i64 (0), .int .i64 (0)] 46)).alloc (.cells #[.bool false] 4)) w1.heap.size 0 0 0 0 := blk_alloc (blk_new rfl) _
  have bK0 : Boxed ((w1.alloc (.cells #[.int .i64 (0), .int .i64 (0), .int .i64 (0), .int .i64 (0)] 46)).alloc (.cells #[.bool false] 4)) (w1.heap.size + 1) 4 (.bool false) := boxed_at (by simp)
  have hL0 : FitW w f g w.heap.size w1.heap.size 0 (0, 0, 0) false ((w1.alloc (.cells #[.int .i64 (0), .int .i64 (0), .int .i64 (0), .int .i64 (0)] 46)).alloc (.cells #[.bool false] 4)) :=
    ⟨(bA1.alloc _).alloc _, (bB1.alloc _).alloc _, blk_alloc (blk_alloc bR1 _) _, bF0, bK0, by repeat' (first | (with_reducible exact Below.refl _ _) | (with_reducible assumption) | (with_reducible refine Below.alloc ?_ ?_ _) | (with_reducible refine Below.drew ?_) | (with_reducible refine below_drewN ?_ _) | (with_reducible refine Below.setCell ?_ ?_ _) | go_size)⟩
  have hs1 := hB1.size
  obtain ⟨W2, hW2⟩ : ∃ W2, W2 = (w1.alloc (.cells #[.int .i64 (0), .int .i64 (0), .int .i64 (0), .int .i64 (0)] 46)).alloc (.cells #[.bool false] 4) := ⟨_, rfl⟩
  have hs2 : w.heap.size ≤ W2.heap.size := by rw [hW2]; simp; omega
  rw [← hW2] at hL0 ⊢
  clear hW2 bF0 bK0 bA1 bB1 bR1 hB1
  obtain ⟨F, hF⟩ : ∃ F, F = w1.heap.size := ⟨_, rfl⟩
  rw [← hF] at hL0 lR1 ⊢
  clear hF lA1 lB1 hs1
  have HFT := Lib.hid (show fitsF f g = fitsFrom f g 24 0 from rfl)
  refine wp_loop_ghost_k (fun gk a W => ∃ (t : Nat) (Ds : List Nat) (x8 x9 x15 x16 x17 x18 x19 x20 x21 x22 x23 x24 x25 x26 x27 : Value), gk = 24 - t ∧ t ≤ 24 ∧
    a = { tmps := #[sol f, sol g, .pointer (some ⟨w.heap.size, 0, none⟩), .pointer (some ⟨w.heap.size + 1, 0, none⟩), .pointer (some ⟨w.heap.size + 1 + 1, 0, none⟩), .bool false, .pointer (some ⟨F, 0, none⟩), .pointer (some ⟨F + 1, 0, none⟩), x8, x9, sol g, .bool false, undef, undef, .int .i64 (t : Int), x15, x16, x17, x18, x19, x20, x21, x22, x23, x24, x25, x26, x27, undef, undef], defers := Ds.map mark } ∧
    FitW w f g w.heap.size F 0 (0, 0, 0) false W ∧ w.heap.size ≤ W.heap.size ∧ Hid (fitsF f g = fitsFrom f g (24 - t) t) ∧ Ds.Nodup ∧ Marks w.heap.size Ds W) 24 ?start ?round
  case start => exact ⟨0, [], _, _, _, _, _, _, _, _, _, _, _, _, _, _, _, rfl, by omega, rfl, hL0, hs2, HFT, List.nodup_nil, fun D hD => by cases hD⟩
  case round =>
    clear hL0 hs2 HFT
    rintro gk a W ⟨t, Ds, x8, x9, x15, x16, x17, x18, x19, x20, x21, x22, x23, x24, x25, x26, x27, hgk, ht, rfl, hL, hs, HFT, hnd, hM⟩ J K hJ hK
    have HGK := Lib.hid hgk
    have HM := Lib.hid hM
    have HND := Lib.hid hnd
    clear hgk hM hnd
    by_cases hlt : t < 24
    · have hd : decide ((t : Int) < 24) = true := decide_eq_true (by omega)
      have hA1 : Below W.heap.size W (W.alloc (.cells #[.int .i64 (t : Int)] 3)) := (Below.refl _ W).alloc (Nat.le_refl _) _
      have bT : Boxed (W.alloc (.cells #[.int .i64 (t : Int)] 3)) W.heap.size 3 (.int .i64 (t : Int)) := boxed_at rfl
      have hL1 := hL.below hA1 hs
      have hM1 := Lib.hid (HM.out.below hA1)
      go_wp2_with fail
      obtain ⟨W1, hW1⟩ : ∃ W1, W1 = W.alloc (.cells #[.int .i64 (t : Int)] 3) := ⟨_, rfl⟩
      have hs1 : W.heap.size < W1.heap.size := by rw [hW1]; simp
      rw [← hW1] at hA1 bT hL1 hM1 ⊢
      clear hW1
      have cT := bT.cell
      have lT := bT.lt
      have lA := hL1.fa.lt
      have lB := hL1.fb.lt
      have a0 := (hL1.fa).cell (k := 0) (by omega); have a1 := (hL1.fa).cell (k := 1) (by omega); have a2 := (hL1.fa).cell (k := 2) (by omega); have a3 := (hL1.fa).cell (k := 3) (by omega); have a4 := (hL1.fa).cell (k := 4) (by omega); have a5 := (hL1.fa).cell (k := 5) (by omega); have a6 := (hL1.fa).cell (k := 6) (by omega); have a7 := (hL1.fa).cell (k := 7) (by omega)
      have b0 := (hL1.fb).cell (k := 0) (by omega); have b1 := (hL1.fb).cell (k := 1) (by omega); have b2 := (hL1.fb).cell (k := 2) (by omega); have b3 := (hL1.fb).cell (k := 3) (by omega); have b4 := (hL1.fb).cell (k := 4) (by omega); have b5 := (hL1.fb).cell (k := 5) (by omega); have b6 := (hL1.fb).cell (k := 6) (by omega); have b7 := (hL1.fb).cell (k := 7) (by omega)
      obtain ⟨h, hh⟩ : ∃ h, h = turnedF g t := ⟨_, rfl⟩
      have HTU0 : ∀ W, Tab64 W → Calls Tryz.prog 100 #[sol g, .int .i64 (t : Int)] W fun e w' => e = .returned (sol h) ∧ Below W.heap.size W w' := fun W hT => by
        rw [hh]; exact turned_ok g t W HG.out hlt hT
      have HTU := Lib.hid HTU0
      have HHF := Lib.hid (show Fit h by rw [hh]; exact turnedF_fit g t)
      have HHE := Lib.hid (show emptyS h = false by rw [hh]; exact turnedF_ne HG.out HGE.out t)
      have HFA := Lib.hid (show fitAt f g t = (insideL f h).head?.map fun p => (t, p.1) by rw [hh]; rfl)
      clear HTU0 hh
      (refine wp_region_quiet_tail 4 (fun w' => Below W1.heap.size W1 w') (by kernel_rfl) (by kernel_rfl) (Below.drew (Below.refl _ _)) ?_; simp only [List.take_succ_cons, List.take_zero, List.drop_succ_cons, List.drop_zero]; (iterate 4 (refine wpQuiet_step (fun K hK => ?_); go_simp; first | (refine hK _ ?_; clear hK K) | (apply Exists.intro; refine ⟨fun W' hW' => ?_, hK _ ?_⟩; (focus (first | (with_reducible exact rfl) | (with_reducible exact ⟨rfl, rfl⟩) | (obtain ⟨hcq, hfq⟩ := bcell hW'; have hzq := hW'.size; (try go_simp); first | (with_reducible exact rfl) | (with_reducible exact ⟨rfl, rfl⟩) | (refine (HTU.out _ (HT.out.below (hL1.fw.trans (hW'.mono (by omega))) (Nat.le_refl _))).mono ?_; rintro e w9 ⟨rfl, hb9⟩; exact ⟨rfl, hW'.trans (hb9.mono hW'.size)⟩)))); clear hK K))); refine wpQuiet_nil ?_; intro w1q hb1q)
      have hs3 := hb1q.size
      have hL2 := hL1.below hb1q (by omega)
      have hM2 := Lib.hid (hM1.out.below hb1q)
      have bT2 : Boxed w1q W.heap.size 3 (.int .i64 (t : Int)) := (hb1q.block _ lT).trans bT
      clear hL1 hM1 bT a0 a1 a2 a3 a4 a5 a6 a7 b0 b1 b2 b3 b4 b5 b6 b7 cT hb1q
      go_wp2_with fail
      refine ((callsIn_wide (n := 3)).1 (inside_in 3 f h _)).mono ?_
      rintro e w5 ⟨rfl, rfl⟩
      go_wp2_with fail
      have hA3 : Below w1q.heap.size w1q ((w1q.alloc (.cells (solC f) 24)).alloc (.cells (solC h) 24)) := by repeat' (first | (with_reducible exact Below.refl _ _) | (with_reducible assumption) | (with_reducible refine Below.alloc ?_ ?_ _) | (with_reducible refine Below.drew ?_) | (with_reducible refine below_drewN ?_ _) | (with_reducible refine Below.setCell ?_ ?_ _) | go_size)
      have hL3 := hL2.below hA3 (by omega)
      have hM3 := Lib.hid (hM2.out.below hA3)
      have bT3 : Boxed ((w1q.alloc (.cells (solC f) 24)).alloc (.cells (solC h) 24)) W.heap.size 3 (.int .i64 (t : Int)) := (hA3.block _ (by omega)).trans bT2
      have bY1 : BoxS ((w1q.alloc (.cells (solC f) 24)).alloc (.cells (solC h) 24)) w1q.heap.size f := (BoxS.new w1q f).alloc _
      have bY2 : BoxS ((w1q.alloc (.cells (solC f) 24)).alloc (.cells (solC h) 24)) (w1q.heap.size + 1) h := BoxS.new' (by simp)
      obtain ⟨W0, hW0⟩ : ∃ W0, W0 = (w1q.alloc (.cells (solC f) 24)).alloc (.cells (solC h) 24) := ⟨_, rfl⟩
      have hs4 : w1q.heap.size < W0.heap.size := by rw [hW0]; simp; omega
      rw [← hW0] at hL3 hM3 bT3 bY1 bY2 ⊢
      clear hW0 hL2 hM2 bT2 hA3
      have hDl : ∀ D ∈ Ds, D < W0.heap.size := fun D hD => (Array.getElem?_eq_some_iff.1 (hM3.out D hD).2).1
      have HDL := Lib.hid hDl
      have lK := hL3.fk.lt
      clear hDl
      refine (wpIn_wide (n := 7)).1 ?_
      refine wpIn_rangeFunc_ownH rfl (by omega) (gf := 147) (lb := #[.pointer (some ⟨w1q.heap.size, 0, none⟩), .pointer (some ⟨w1q.heap.size + 1, 0, none⟩)]) rfl trivial (enters_of Tryz.func147 (by kernel_rfl) rfl)
        (inside_stops _ (by omega) w1q.heap.size (w1q.heap.size + 1) w.heap.size w1q.heap.size f h HF.out HHF.out HHE.out W0 bY1 bY2 (Nat.le_refl _) (by omega)) keepA_t (keepA_b (by omega)) (Below.refl _ _) (fun _ => rfl)
        (fun (pre : List Pl) W' => pre = [] ∧ (FitW w f g w.heap.size F 0 (0, 0, 0) false W' ∧ w.heap.size ≤ W'.heap.size) ∧ Boxed W' W.heap.size 3 (.int .i64 (t : Int)) ∧ Marks w.heap.size Ds W')
        (fun c (pre : List Pl) W' => c = .exit 0 ∧ (∃ p, pre = [p] ∧ (FitW w f g w.heap.size F (t : Int) p.1 true W' ∧ w.heap.size ≤ W'.heap.size)) ∧ Marks w.heap.size Ds W')
        (OwnFrom.and (fun s X Y row hs _ _ => hs) (OwnFrom.and (own_fitW (t := fun _ => 0) (c := fun _ => (0, 0, 0)) (by omega)) (OwnFrom.and (own_block _ _ _ rfl) (own_marks HDL.out))))
        (fun c => OwnFrom.and (fun s X Y row hs _ _ => hs) (OwnFrom.and (fun s X Y row ⟨p, e, hs⟩ hg hr => ⟨p, e, own_fitW (β := Unit) (t := fun _ => (t : Int)) (c := fun _ => p.1) (B := W0.heap.size) (by omega) () X Y row hs hg hr⟩) (own_marks HDL.out)))
        ⟨rfl, ⟨hL3, by omega⟩, bT3, hM3.out⟩
        (fun (x : Pl) a' W' => ∃ Bx, F + 1 < Bx ∧ BoxC W' Bx x.1.1 x.1.2.1 x.1.2.2 ∧ a' = { tmps := #[sol f, sol g, .pointer (some ⟨w.heap.size, 0, none⟩), .pointer (some ⟨w.heap.size + 1, 0, none⟩), .pointer (some ⟨w.heap.size + 1 + 1, 0, none⟩), .bool false, .pointer (some ⟨F, 0, none⟩), .pointer (some ⟨F + 1, 0, none⟩), .pointer (some ⟨W.heap.size, 0, none⟩), .pointer (some ⟨Bx, 0, none⟩), sol g, .bool false, undef, undef, .int .i64 (t : Int), .bool true, .int .i64 (t : Int), sol f, sol g, .int .i64 (t : Int), sol h, .func (.func 147) #[] #[.pointer (some ⟨w1q.heap.size, 0, none⟩), .pointer (some ⟨w1q.heap.size + 1, 0, none⟩)], encI x.1, sol x.2, x24, x25, x26, x27, undef, undef], defers := [] })
        (fun x a' s X Y row ⟨Bx, h1, h2, h3⟩ hg hr => ⟨Bx, h1, own_block (β := Unit) _ _ _ rfl () X Y row h2 hg hr, h3⟩) ?assign ?body ?done ?stop
      case assign =>
        rintro l pre x W' K' ⟨i1, ⟨i2, i3⟩, i4, i5⟩ hK'
        gi_wp2
        have hA5 : Below W'.heap.size W' (W'.alloc (.cells #[.int .i64 (x.1.1), .int .i64 (x.1.2.1), .int .i64 (x.1.2.2)] 26)) := (Below.refl _ W').alloc (Nat.le_refl _) _
        exact hK' _ _ ((KeepsOthers.alloc _ _).from _) (keepA_below hA5 i3) ⟨i1, ⟨i2.below hA5 i3, by simp; omega⟩, (hA5.block _ i4.lt).trans i4, i5.below hA5⟩ ⟨W'.heap.size, i2.fk.lt, World.alloc_heap_new W' _, rfl⟩
      case body =>
        rintro l pre x a' W' hl ⟨r, hr⟩ ⟨i1, ⟨i2, i3⟩, i4, i5⟩ ⟨Bx, hBx, bX, rfl⟩ hlen
        obtain ⟨⟨cx, cy, cz⟩, px⟩ := x
        simp only at bX
        have d0 := bX.c0
        have d1 := bX.c1
        have d2 := bX.c2
        have cT := i4.cell
        have lF := blk_lt i2.fm
        have I5 := Lib.hid i5
        clear i5
        gi_wp2_with (refine ⟨trivial, ?_⟩; gi_at_call 111; refine (CallsIn.inRound l (callsIn_wide.2 (motionOf_ok (t : Int) cx cy cz _))).mono ?_; rintro e w3 ⟨rfl, hb3⟩; have i6 := i2.below hb3 i3; obtain ⟨n0, n1, n2, n3⟩ := Q4.cells i6.fm; have f0 := blk_free (k := 0) i6.fm; have f1 := blk_free (k := 1) i6.fm; have f2 := blk_free (k := 2) i6.fm; have f3 := blk_free (k := 3) i6.fm; have ck := i6.fk.cell; have fk := i6.fk.frozen)
        have i7 := I5.out.below hb3
        have h3 := hb3.size
        have r2 := i6.put lR1 (t : Int) (cx, cy, cz)
        have r3 := i7.put i6 (t : Int) (cx, cy, cz)
        have r4 : w.heap.size ≤ (putF w3 F (t : Int) (cx, cy, cz)).heap.size := by simp only [World.size_setCell]; omega
        have r5 : KeepsOthers w3 (putF w3 F (t : Int) (cx, cy, cz)) := ((((KeepsOthers.setCell w3 ⟨F, 0, none⟩ (.int .i64 t)).trans (KeepsOthers.setCell _ ⟨F, 1, none⟩ (.int .i64 cx))).trans (KeepsOthers.setCell _ ⟨F, 2, none⟩ (.int .i64 cy))).trans (KeepsOthers.setCell _ ⟨F, 3, none⟩ (.int .i64 cz))).trans (KeepsOthers.setCell _ ⟨F + 1, 0, none⟩ (.bool true))
        have r1 : KeepsFrom W0.heap.size W' (putF w3 F (t : Int) (cx, cy, cz)) := (keeps_below hb3).trans (r5.from _)
        have r6 : pre ++ [((cx, cy, cz), px)] = [((cx, cy, cz), px)] := by rw [i1]; rfl
        clear r5 i6 i7 n0 n1 n2 n3 f0 f1 f2 f3 ck fk d0 d1 d2 cT bX i2 I5 hb3
        obtain ⟨Z, hZ⟩ : ∃ Z, Z = putF w3 F (t : Int) (cx, cy, cz) := ⟨_, rfl⟩
        rw [← hZ] at r1 r2 r3 r4
        rw [r6]
        refine ⟨?_, rfl, ⟨((cx, cy, cz), px), rfl, ?_, ?_⟩, ?_⟩
        · rw [hZ] at r1; exact r1
        · rw [hZ] at r2; exact r2
        · rw [hZ] at r4; exact r4
        · rw [hZ] at r3; exact r3
      case done =>
        rintro D ys W' hD hys ⟨rfl, ⟨i2, i3⟩, i4, i5⟩ hKD
        have HFN := Lib.hid (show fitsF f g = fitsFrom f g (24 - (t + 1)) (t + 1) by
          rw [HFT.out, show 24 - t = (24 - (t + 1)) + 1 by omega, fitsFrom, HFA.out, ← hys]; rfl)
        have I5 := Lib.hid i5
        have HKD := Lib.hid hKD
        clear i5 hKD hys i4
        gi_wp2
        go_wp2_with fail
        refine Handed.intro (24 - (t + 1)) (by have := HGK.out; omega) (hJ _ _ _ ⟨t + 1, D :: Ds, _, _, _, _, _, _, _, _, _, _, _, _, _, _, _, rfl, by omega, rfl, i2, i3, HFN, ?_, ?_⟩)
        · exact List.nodup_cons.2 ⟨fun hm => by have := HDL.out D hm; omega, HND.out⟩
        · intro D' hD'
          rcases List.mem_cons.1 hD' with rfl | h1
          · exact ⟨by omega, HKD.out⟩
          · exact I5.out D' h1
      case stop =>
        rintro D c pre W' hD hSp ⟨rfl, ⟨p, rfl, i2, i3⟩, i5⟩ hKD
        have HFN := Lib.hid (show fitsF f g = some (t, p.1) by
          have h1 : (insideL f h).head? = some p := by
            obtain ⟨r, hr⟩ := hSp
            rw [← hr]; rfl
          rw [HFT.out, show 24 - t = (24 - (t + 1)) + 1 by omega, fitsFrom, HFA.out, h1]; rfl)
        have I5 := Lib.hid i5
        have HKD := Lib.hid hKD
        clear i5 hKD hSp
        gi_wp2
        have hM6 : Marks w.heap.size (D :: Ds) W' := fun D' hD' => by
          rcases List.mem_cons.1 hD' with rfl | h1
          · exact ⟨by omega, HKD.out⟩
          · exact I5.out D' h1
        have HM6 := Lib.hid hM6
        have HN6 := Lib.hid (show (D :: Ds).Nodup from List.nodup_cons.2 ⟨fun hm => by have := HDL.out D hm; omega, HND.out⟩)
        clear hM6
        obtain ⟨⟨cx, cy, cz⟩, px⟩ := p
        simp only at i2 HFN
        obtain ⟨n0, n1, n2, n3⟩ := Q4.cells i2.fm
        have ck := i2.fk.cell
        have lF := blk_lt i2.fm
        have lK := i2.fk.lt
        go_wp2_with fail
        have R4 : Q4 W'.drew (w.heap.size + 1 + 1) 0 0 0 0 := i2.fr
        have hB4 : Below w.heap.size w W'.drew := i2.fw.drew
        have HM4 : Hid (Marks w.heap.size _ W'.drew) := Lib.hid (HM6.out)
        obtain ⟨r0, r1, r2, r3⟩ := Q4.cells i2.fr
        have f0 := blk_free (k := 0) i2.fr; have f1 := blk_free (k := 1) i2.fr; have f2 := blk_free (k := 2) i2.fr; have f3 := blk_free (k := 3) i2.fr
        go_region
        go_wp2_with fail
        clear r0 r1 r2 r3 ck
        clear n0 n1 n2 n3 f0 f1 f2 f3
        have g1 := blk_set (k := 0) R4 (.int .i64 t)
        have g2 := blk_set (k := 1) g1 (.int .i64 (cx, cy, cz).1)
        have g3 := blk_set (k := 2) g2 (.int .i64 (cx, cy, cz).2.1)
        have g4 := blk_set (k := 3) g3 (.int .i64 (cx, cy, cz).2.2)
        have m4 := (((HM4.out.set (k := 0) R4 (.int .i64 t)).set (k := 1) g1 (.int .i64 (cx, cy, cz).1)).set (k := 2) g2 (.int .i64 (cx, cy, cz).2.1)).set (k := 3) g3 (.int .i64 (cx, cy, cz).2.2)
        have b4 := (((hB4.setCell (p := ⟨w.heap.size + 1 + 1, 0, none⟩) (by simp; omega) (.int .i64 t)).setCell (p := ⟨w.heap.size + 1 + 1, 1, none⟩) (by simp; omega) (.int .i64 (cx, cy, cz).1)).setCell (p := ⟨w.heap.size + 1 + 1, 2, none⟩) (by simp; omega) (.int .i64 (cx, cy, cz).2.1)).setCell (p := ⟨w.heap.size + 1 + 1, 3, none⟩) (by simp; omega) (.int .i64 (cx, cy, cz).2.2)
        rw [Exit.noGoto_ret]
        refine leaves_marks w.heap.size (D :: Ds) _ HN6.out m4 (fun W3 hb hk => ⟨_, res_4e Tryz.results54 rfl (blk_cell (k := 0) (hk _ _ rfl g4)) (blk_cell (k := 1) (hk _ _ rfl g4)) (blk_cell (k := 2) (hk _ _ rfl g4)) (blk_cell (k := 3) (hk _ _ rfl g4)), ?_, b4.trans hb⟩)
        rw [HFN.out]
        rfl
    · obtain rfl : t = 24 := by omega
      have hd : decide (((24 : Nat) : Int) < 24) = false := by decide
      obtain ⟨n0, n1, n2, n3⟩ := Q4.cells hL.fm
      have ck := hL.fk.cell
      have lF := blk_lt hL.fm
      have lK := hL.fk.lt
      go_wp2_with fail
      have R4 : Q4 W.drew (w.heap.size + 1 + 1) 0 0 0 0 := hL.fr
      have hB4 : Below w.heap.size w W.drew := hL.fw.drew
      have HM4 : Hid (Marks w.heap.size _ W.drew) := Lib.hid (HM.out)
      obtain ⟨r0, r1, r2, r3⟩ := Q4.cells hL.fr
      have f0 := blk_free (k := 0) hL.fr; have f1 := blk_free (k := 1) hL.fr; have f2 := blk_free (k := 2) hL.fr; have f3 := blk_free (k := 3) hL.fr
      go_region
      go_wp2_with fail
      clear r0 r1 r2 r3 ck
      clear n0 n1 n2 n3 f0 f1 f2 f3
      have g1 := blk_set (k := 0) R4 (.int .i64 0)
      have g2 := blk_set (k := 1) g1 (.int .i64 ((0, 0, 0) : I3).1)
      have g3 := blk_set (k := 2) g2 (.int .i64 ((0, 0, 0) : I3).2.1)
      have g4 := blk_set (k := 3) g3 (.int .i64 ((0, 0, 0) : I3).2.2)
      have m4 := (((HM4.out.set (k := 0) R4 (.int .i64 0)).set (k := 1) g1 (.int .i64 ((0, 0, 0) : I3).1)).set (k := 2) g2 (.int .i64 ((0, 0, 0) : I3).2.1)).set (k := 3) g3 (.int .i64 ((0, 0, 0) : I3).2.2)
      have b4 := (((hB4.setCell (p := ⟨w.heap.size + 1 + 1, 0, none⟩) (by simp; omega) (.int .i64 0)).setCell (p := ⟨w.heap.size + 1 + 1, 1, none⟩) (by simp; omega) (.int .i64 ((0, 0, 0) : I3).1)).setCell (p := ⟨w.heap.size + 1 + 1, 2, none⟩) (by simp; omega) (.int .i64 ((0, 0, 0) : I3).2.1)).setCell (p := ⟨w.heap.size + 1 + 1, 3, none⟩) (by simp; omega) (.int .i64 ((0, 0, 0) : I3).2.2)
      rw [Exit.noGoto_ret]
      refine leaves_marks w.heap.size (Ds) _ HND.out m4 (fun W3 hb hk => ⟨_, res_4e Tryz.results54 rfl (blk_cell (k := 0) (hk _ _ rfl g4)) (blk_cell (k := 1) (hk _ _ rfl g4)) (blk_cell (k := 2) (hk _ _ rfl g4)) (blk_cell (k := 3) (hk _ _ rfl g4)), ?_, b4.trans hb⟩)
      rw [HFT.out]
      rfl
theorem fits_ok (f g : Sol) (w : World) (hf : Fit f) (hg : Fit g) (he : emptyS f = false) (hge : emptyS g = false) (hT : Tab64 w) :
    Calls Tryz.prog 54 #[sol f, sol g] w fun e w' => e = .returned (.tuple #[motV (fitsF f g), .bool (fitsF f g).isSome]) ∧ Below w.heap.size w w' := fits_any f g w hf hg hge hT
end Go.Proofs.YtadkaplafaeebaaGreatDoor
