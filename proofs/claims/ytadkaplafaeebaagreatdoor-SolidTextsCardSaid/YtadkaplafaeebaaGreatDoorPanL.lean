/-
  A range over a function whose rounds may panic: the walk of one function's own frames.
-/
import Derived.RangeFuncLeaves
import Derived.RangeFuncNested
import Derived.Shelf.Abstract
import Derived.OwnWalkIn
set_option linter.unusedVariables false
namespace Go.Proofs.YtadkaplafaeebaaGreatDoor
open Go Go.RowKit Go.Shelf

section
variable {F : Fence} {n : Nat} {P : Program}

/-- As 'wpIn', of the frames of function g alone. -/
def WpAt (F : Fence) (n : Nat) (P : Program) (g : FuncId) (c : Code) (Q : Exit → Act → World → Prop) (a : Act) (w : World) : Prop :=
  ∀ (b : Frame) (k : List Item) (cs : List Frame), b.fn = g → b.roundOf = F.round → F.fn b.fn → F.room (cs.length + 1 + n) →
    ∃ e a' w', Q e a' w' ∧ ArrivesIn (Machine.fenced P F) P (lone (b.atR a (.code c :: k)) cs w) b k cs e a' w'
theorem WpAt.of {g : FuncId} {c : Code} {Q : Exit → Act → World → Prop} {a : Act} {w : World} (h : c.wpIn F n P Q a w) : WpAt F n P g c Q a w :=
  fun b k cs _ h1 h2 h3 => h b k cs h1 h2 h3
theorem WpAt.seq {g : FuncId} {x y : Code} {Q : Exit → Act → World → Prop} {a : Act} {w : World} (h : WpAt F n P g x (Exit.then (WpAt F n P g y Q) Q) a w) : WpAt F n P g (.seq x y) Q a w := by
  intro b k cs hg hro hb hr
  have i0 : (lone (b.atR a (.code (.seq x y) :: k)) cs w).fenced P F := fenced_calm hb hr rfl
  obtain ⟨e, a1, w1, q1, r1⟩ := h b (.code y :: k) cs hg hro hb hr
  cases e with
  | normal =>
    obtain ⟨e2, a2, w2, q2, r2⟩ := q1 b k cs hg hro hb hr
    exact ⟨e2, a2, w2, q2, .of_steps (.head i0 stepR_seq r1) r2⟩
  | exit id => exact ⟨_, _, _, q1, .of_steps (.one i0 stepR_seq) (.pass (x := .code y) rfl (fun _ _ => .inl (by simp)) r1)⟩
  | goto t => exact ⟨_, _, _, q1, .of_steps (.one i0 stepR_seq) (.pass (x := .code y) rfl (fun _ _ => .inl (by simp)) r1)⟩
  | ret => exact ⟨_, _, _, q1, .of_steps (.one i0 stepR_seq) (.pass (x := .code y) rfl (fun _ _ => .inl (by simp)) r1)⟩
  | panic ch => exact ⟨_, _, _, q1, .of_steps (.one i0 stepR_seq) (.pass (x := .code y) rfl (fun _ _ => .inl (by simp)) r1)⟩
  | outgrown => exact ⟨_, _, _, q1, .of_steps (.one i0 stepR_seq) (.pass (x := .code y) rfl (fun _ _ => .inl (by simp)) r1)⟩
/-- Only off the end, or by a panic. -/
def onlyNP (Q : Exit → Act → World → Prop) : Exit → Act → World → Prop
  | .normal, a, w => Q .normal a w
  | .panic ch, a, w => Q (.panic ch) a w
  | _, _, _ => False
theorem WpAt.block {g : FuncId} {id : Nat} {c : Code} {Q : Exit → Act → World → Prop} {a : Act} {w : World} (h : WpAt F n P g c (onlyNP Q) a w) : WpAt F n P g (.block id c) Q a w := by
  intro b k cs hg hro hb hr
  have i0 : (lone (b.atR a (.code (.block id c) :: k)) cs w).fenced P F := fenced_calm hb hr rfl
  obtain ⟨e, a1, w1, q1, r1⟩ := h b (.inBlock id :: k) cs hg hro hb hr
  cases e with
  | normal => exact ⟨.normal, a1, w1, q1, .head i0 stepR_block (StepsIn.trans r1 (.one (fenced_calm hb hr rfl) stepR_inBlock))⟩
  | panic ch => exact ⟨_, a1, w1, q1, .of_steps (.one i0 stepR_block) r1⟩
  | exit id => exact q1.elim
  | goto t => exact q1.elim
  | ret => exact q1.elim
  | outgrown => exact q1.elim
theorem calls_at_marks {f : FuncId} {fn : Func} {c : Code} {args : Array Value} {w : World} {R : Ending → World → Prop}
    (hf : P.funcs[f]? = some fn) (hb : fn.body = some c) (hF : F.fn f)
    (h : WpAt F n P f c (bodyPostM F n P fn R) { tmps := args ++ Array.replicate (fn.ntmps - args.size) undef, defers := [] } w) (hro : F.round = none := by rfl) : CallsIn F n P f args w R := by
  refine ⟨hF, fun cs hr => ?_⟩
  let b : Frame := { (default : Frame) with fn := f, kind := .normal, roundOf := none }
  have hin : Frame.enter P f args .normal = b.atR { tmps := args ++ Array.replicate (fn.ntmps - args.size) undef, defers := [] } [.code c] := by
    simp [Frame.enter, Frame.atR, hf, hb, b]
  obtain ⟨e, a', w', q, r⟩ := h b [] cs rfl hro.symm hF hr
  rw [← hin] at r
  cases e with
  | normal =>
    obtain ⟨e', w2, fr, hR, hs, h1, h2⟩ := leaves_stepsInM a'.defers .returning w' { b.atR a' [] with mode := .returning } cs rfl rfl rfl hf rfl hF hr q
    exact ⟨e', w2, fr, hR, ComesIn.of_steps (StepsIn.trans r (.one (fenced_calm (fr := b.atR a' []) hF hr rfl) (stepR_end rfl))) hs, h1, h2⟩
  | ret =>
    obtain ⟨todo, s0⟩ := r.1 rfl
    obtain ⟨e', w2, fr, hR, hs, h1, h2⟩ := leaves_stepsInM a'.defers .returning w' { b.atR a' todo with mode := .returning } cs rfl rfl rfl hf rfl hF hr q
    exact ⟨e', w2, fr, hR, ComesIn.of_steps s0 hs, h1, h2⟩
  | panic ch =>
    obtain ⟨todo, s0⟩ := r
    obtain ⟨e', w2, fr, hR, hs, h1, h2⟩ := leaves_stepsInM a'.defers (.panicking ch) w' { b.atR a' todo with mode := .panicking ch } cs rfl rfl rfl hf rfl hF hr q
    exact ⟨e', w2, fr, hR, ComesIn.of_steps s0 hs, h1, h2⟩
  | exit id => exact q.elim
  | goto l => exact q.elim
  | outgrown => exact ⟨.outgrown, w', b, q, r.resolve_left (by simp [b]), rfl, trivial⟩
/-- How a round's body may be left: it goes on, or it panics with no call deferred. -/
def panPost (P : Program) (l : Nat) (R : Ending → World → Prop) : Exit → Act → World → Prop
  | .normal, _, w => ∃ v w', (Instr.endRound l none).run P w = .ok v w' ∧ R (.returned v) w'
  | .panic ch, a, w => a.defers = [] ∧ R (.panicked ch) w
  | _, _, _ => False
theorem round_pan {l : Nat} {f : FuncId} {fx : Func} {tmps : Array Value} {assign body : Code} {w : World} {R : Ending → World → Prop} (hF : F.fn f) (hfx : P.funcs[f]? = some fx)
    (h : assign.wpIn (F.inRound l) n P (Exit.then (fun a1 w1 => ∃ w2, (Instr.beginRound l).run P w1 = .ok () w2 ∧ body.wpIn (F.inRound l) n P (panPost P l R) a1 w2) (fun _ _ _ => False))
      { tmps := tmps, defers := [] } w) : RoundIn F n P l f tmps assign body w R := by
  refine ⟨hF, fun c cs hr => ?_⟩
  let b : Frame := { (default : Frame) with fn := f, kind := .normal, roundOf := some l }
  have hin : Frame.round l f tmps assign body .normal = b.atR { tmps := tmps, defers := [] } [.code assign, .beginRound, .code body] := by
    simp [Frame.round, Frame.atR, b]
  have hr' : (F.inRound l).room ((c :: cs).length + 1 + n) := hr
  have hF' : (F.inRound l).fn b.fn := hF
  obtain ⟨e, a1, w1, q, r⟩ := h b [.beginRound, .code body] (c :: cs) rfl hF' hr'
  rw [← hin] at r
  cases e with
  | normal =>
    obtain ⟨w2, hbr, hbody⟩ := q
    have s1 : StepsIn (Machine.fenced P (F.inRound l)) P (lone (b.atR a1 [.beginRound, .code body]) (c :: cs) w1) (lone (b.atR a1 [.code body]) (c :: cs) w2) :=
      .one (fenced_calm (fr := b.atR a1 [.beginRound, .code body]) hF' hr' rfl) (stepR_beginRound rfl hbr)
    obtain ⟨e2, a2, w3, q2, r2⟩ := hbody b [] (c :: cs) rfl hF' hr'
    cases e2 with
    | normal =>
      obtain ⟨v, w4, hend, hR⟩ := q2
      exact ⟨.returned v, w4, hR, (StepsIn.trans r s1).trans (StepsIn.trans r2 (.one (fenced_calm (fr := b.atR a2 []) hF' hr' rfl) (stepR_round_end rfl rfl hend)))⟩
    | panic ch =>
      obtain ⟨hd, hR⟩ := q2
      obtain ⟨todo, s2⟩ := r2
      have hl : ({ b.atR a2 todo with mode := .panicking ch } : Frame).leaving P w3 (.panicked ch) := ⟨rfl, hd, fx, hfx⟩
      exact ⟨.panicked ch, w3, hR, (StepsIn.trans r s1).trans (StepsIn.trans s2 (.one (fenced_leaving hF' hr' hl) (step_leave_panicked hl)))⟩
    | ret => exact q2.elim
    | exit id => exact q2.elim
    | goto t => exact q2.elim
    | outgrown => exact q2.elim
  | exit id => exact q.elim
  | goto l => exact q.elim
  | ret => exact q.elim
  | panic ch => exact q.elim
  | outgrown => exact q.elim
/-- An iterator that yields until its list is at an end, and between its yields makes steps of its own (St); a round's panic goes through it. -/
def SeqPan {α : Type} (F : Fence) (n : Nat) (P : Program) (g : Nat) (lb : Array Value) (encs : α → Array Value) (Kp St : World → World → Prop) (S : List α → Prop) (X : List α → α → Prop) (w : World) : Prop :=
  ∀ (l : Nat) (J : List α → World → Prop) (Jp : List PanicEntry → World → Prop) (W : World), Below w.heap.size w W → AbidesFrom W.heap.size J → (∀ s A B, J s A → St A B → J s B) →
    (∀ pre x W1, J pre W1 → X pre x → YieldAt F (n - 1) P l (encs x) W1 fun e W' =>
      (e = .returned (.bool true) ∧ J (pre ++ [x]) W' ∧ Kp W1 W') ∨ (∃ ch, e = .panicked ch ∧ Jp ch W')) →
    J [] W →
    CallsIn F n P g (#[.func (.yield l) #[] #[]] ++ lb) W fun e W' => (∃ v, e = .returned v ∧ ∃ xs, S xs ∧ J xs W') ∨ (∃ ch, e = .panicked ch ∧ Jp ch W')
/-- How the caller's body may be left. -/
def bodyPan {α : Type} (B : Nat) (Kp : World → World → Prop) (I : List α → World → Prop) (Ip : List PanicEntry → World → Prop) (xs : List α) (W : World) : Exit → Act → World → Prop
  | .normal, _, W' => KeepsFrom B W W' ∧ Kp W W' ∧ I xs W'
  | .panic ch, a, W' => a.defers = [] ∧ KeepsFrom B W W' ∧ Ip ch W'
  | _, _, _ => False
/-- The statement itself, at the frames of one function: the call of what is ranged over returns with no jump pending, or panics. -/
theorem WpAt.range {fid : FuncId} {g : Operand} {ps : Array Tmp} {assign body : Code} {Q : Exit → Act → World → Prop} {a : Act} {w : World} (hro : F.round = none) (h1 : 1 ≤ n)
    {l : Nat} {mark : List Deferred} {w1 w1' w2 : World} {d : Deferred} {f : FuncId} {args : Array Value}
    (he : (Instr.enterLoop fid a.tmps ps assign body none).run P w = .ok (l, mark) w1)
    (hres : (resolve a.eval (rangeCall g l) 0).run P w1 = .ok d w1')
    (hlead : ∀ f', Target.leads P w1' d.target d.args = some f' → F.fn f')
    (hinv : (invoke d.target d.args).run P w1' = .ok (.enter f args) w2)
    (hcall : CallsIn F (n - 1) P f args w2 fun
      | .returned _, w3 => ∃ w4, (Instr.endLoop l).run P w3 = .ok none w4 ∧ Q .normal { a with defers := mark ++ a.defers } w4
      | .panicked ch, w3 => Q (.panic ch) { a with defers := mark ++ a.defers } w3
      | .outgrown, _ => False) :
    WpAt F n P fid (.rangeFunc g ps assign body) Q a w := by
  intro b k cs hfn hbr hb hr
  subst hfn
  have he' : (Instr.enterLoop b.fn a.tmps ps assign body b.roundOf).run P w = .ok (l, mark) w1 := by rw [hbr, hro]; exact he
  have hev := Frame.eval_atR b a (.code (.rangeFunc g ps assign body) :: k)
  simp only [Frame.atR] at hev
  have i0 : (lone (b.atR a (.code (.rangeFunc g ps assign body) :: k)) cs w).fenced P F := by
    refine fenced_lone (.inl hb) (fun f' hf' => hlead f' ?_) (Fence.room_le hr (by omega))
    simp only [Frame.about, Frame.atR, he', hev, hres] at hf'
    exact hf'
  have s0 := stepR_rangeFunc (P := P) (b := b) (a := a) (k := k) (cs := cs) (w := w) he' hres hinv
  have hroom : F.room ((b.atR { a with defers := mark ++ a.defers } (.inRangeFunc l :: k) :: cs).length + 1 + (n - 1)) := Fence.room_enter hr fun _ => h1
  obtain ⟨hFf, hcall⟩ := hcall
  obtain ⟨e, w3, fr, hR, hs, hfr, hlv⟩ := hcall _ hroom
  cases e with
  | outgrown => exact hR.elim
  | returned v =>
    obtain ⟨w4, hend, hq⟩ := hR
    have i3 : (lone fr (b.atR { a with defers := mark ++ a.defers } (.inRangeFunc l :: k) :: cs) w3).fenced P F := fenced_leaving (hfr ▸ hFf) hroom hlv
    refine ⟨.normal, _, w4, hq, StepsIn.head i0 s0 (StepsIn.trans hs (StepsIn.head i3 ?_ (.one (fenced_calm (fr := b.atR { a with defers := mark ++ a.defers } (.endRangeFunc l :: k)) hb hr rfl) (stepR_endRangeFunc hend))))⟩
    rw [← finish_atR_inRangeFunc l v]
    exact step_leave_returned hlv
  | panicked ch =>
    have i3 : (lone fr (b.atR { a with defers := mark ++ a.defers } (.inRangeFunc l :: k) :: cs) w3).fenced P F := fenced_leaving (hfr ▸ hFf) hroom hlv
    refine ⟨.panic ch, _, w3, hR, .inRangeFunc l :: k, StepsIn.head i0 s0 (StepsIn.trans hs (.one i3 ?_))⟩
    rw [← Frame.raise_atR]
    exact step_leave_panicked hlv
theorem range_pan {α : Type} {fid : FuncId} {fx : Func} (hfx : P.funcs[fid]? = some fx) (hFf : F.fn fid) {g : Operand} {ps : Array Tmp} {assign body : Code} {Q : Exit → Act → World → Prop} {a : Act} {w : World}
    (hro : F.round = none) (h1 : 1 ≤ n) {gf : Nat} {lb : Array Value} (hg : a.eval g = .func (.func gf) #[] lb) (hFg : F.fn gf) (eg : ∀ args w, (callFunc gf args).run P w = .ok (.enter gf args) w)
    {encs : α → Array Value} {Kp St : World → World → Prop} {S : List α → Prop} {X : List α → α → Prop} {w0 : World} (hseq : SeqPan F (n - 1) P gf lb encs Kp St S X w0)
    (hKt : ∀ {A B C : World}, Kp A B → Kp B C → Kp A C) (hKb : ∀ (W : World) (l : Nat) (o o' : Obj), w.heap.size ≤ l → W.heap[l]? = some o → o.isCells = false → o.isWalk = false → Kp W (W.putObj l o')) (hb0 : Below w0.heap.size w0 w) (hps : ∀ x, (encs x).size = ps.size)
    (I : List α → World → Prop) (Ip : List PanicEntry → World → Prop) (hI : OwnFrom w.heap.size I) (hSI : ∀ s A B, I s A → St A B → I s B) (hSk : ∀ (A B : World) (r : Nat) (o : Obj), St A B → A.heap[r]? = some o → o.isCells = false → B.heap[r]? = some o) (h0 : I [] w) (Ax : α → Act → World → Prop) (hAx : ∀ x a', OwnFrom w.heap.size (fun (_ : Unit) W => Ax x a' W))
    (hassign : ∀ (l : Nat) (pre : List α) (x : α) (W : World) (K : Act → World → Prop), I pre W → (∀ a' W', KeepsFrom w.heap.size W W' → Kp W W' → I pre W' → Ax x a' W' → K a' W') →
      assign.wpIn (F.inRound l) (n - 1 - 1) P (Exit.then K (fun _ _ _ => False)) { tmps := (ps.zip (encs x)).foldl (fun t (p, v) => t.setIfInBounds p v) a.tmps, defers := [] } W)
    (hbody : ∀ (l : Nat) (pre : List α) (x : α) (a' : Act) (W : World), w.heap.size ≤ l → (∃ r, W.heap[l]? = some (.loop r)) → I pre W → Ax x a' W → X pre x → body.wpIn (F.inRound l) (n - 1 - 1) P (bodyPan w.heap.size Kp I Ip (pre ++ [x]) W) a' W)
    (hdone : ∀ (D : Nat) (xs : List α) (W : World), w.heap.size ≤ D → S xs → I xs W → W.heap[D]? = some (.deferred (some [])) → Q .normal { a with defers := { target := .collected D, args := #[] } :: a.defers } W)
    (hstop : ∀ (D : Nat) (ch : List PanicEntry) (W : World), w.heap.size ≤ D → Ip ch W → W.heap[D]? = some (.deferred (some [])) → Q (.panic ch) { a with defers := { target := .collected D, args := #[] } :: a.defers } W) :
    WpAt F n P fid (Code.rangeFunc g ps assign body) Q a w := by
  obtain ⟨rec, hrec⟩ : ∃ rec : LoopState → Loop, rec = fun st => { state := st, pending := none, fn := fid, tmps := a.tmps, params := ps, assign, body, defers := w.heap.size } := ⟨_, rfl⟩
  obtain ⟨W1, hW1⟩ : ∃ W1, (w.alloc (.deferred (some []))).alloc (.loop (rec .ready)) = W1 := ⟨_, rfl⟩
  have hL1 : W1.heap[w.heap.size + 1]? = some (.loop (rec .ready)) := by
    rw [← hW1]; have := World.alloc_heap_new (w.alloc (.deferred (some []))) (.loop (rec .ready)); rwa [World.size_alloc] at this
  have hK1 : W1.heap[w.heap.size]? = some (.deferred (some [])) := by
    rw [← hW1]; exact (Below.heap_alloc _ _ _ (by simp)).trans (World.alloc_heap_new w _)
  have hI1 : I [] W1 := by rw [← hW1]; exact hI.alloc _ (hI.alloc _ h0)
  have hsz : W1.heap.size = w.heap.size + 1 + 1 := by rw [← hW1]; simp
  have hb1 : Below w0.heap.size w0 W1 := by
    rw [← hW1]; exact hb0.trans ((((Below.refl _ w).alloc (Nat.le_refl _) _).alloc (by simp) _).mono hb0.size)
  refine WpAt.range hro h1 (l := w.heap.size + 1) (mark := [{ target := .collected w.heap.size, args := #[] }]) (w1 := W1) (w1' := W1) (w2 := W1) (d := { target := .fn (.func gf) lb, args := #[.func (.yield (w.heap.size + 1)) #[] #[]] })
    (f := gf) (args := #[.func (.yield (w.heap.size + 1)) #[] #[]] ++ lb) ?_ ?_ ?_ ?_ ?_
  · rw [← hW1, hrec]; exact run_enterLoop_outer _ _ _ _ _
  · simp only [resolve, hg]
    simp [go_sem]
  · intro f' hf'; simp [Target.leads] at hf'; subst hf'; exact hFg
  · simp [invoke, go_sem, eg]
  refine (hseq (w.heap.size + 1)
    (fun pre W => I pre W ∧ W.heap[w.heap.size + 1]? = some (.loop (rec .ready)) ∧ W.heap[w.heap.size]? = some (.deferred (some [])))
    (fun ch W => Ip ch W ∧ W.heap[w.heap.size]? = some (.deferred (some []))) W1 hb1 ?_ (fun s A B hs hst => ⟨hSI s A B hs.1 hst, hSk A B _ _ hst hs.2.1 rfl, hSk A B _ _ hst hs.2.2 rfl⟩) ?_ ⟨hI1, hL1, hK1⟩).mono ?_
  · intro s A B row hs hgr hrow
    have hnw : ∀ r, row = some r → w.heap.size ≤ r ∧ ∃ o : Obj, A.heap[r]? = some o ∧ o.isCells = false := fun r e => by
      obtain ⟨hB, o, ho, hw⟩ := hrow r e
      exact ⟨by omega, o, ho, Obj.not_cells_of_walk hw⟩
    exact ⟨hI s A B row hs.1 hgr hnw, (grownBy_keeps hgr (fun r e => (hrow r e).2) hs.2.1 rfl).trans hs.2.1, (grownBy_keeps hgr (fun r e => (hrow r e).2) hs.2.2 rfl).trans hs.2.2⟩
  · rintro pre x W ⟨hi, hl, hk⟩ hlen
    have hy := run_yield (P := P) (args := encs x) hl (by rw [hrec]; exact hps x)
    rw [hrec] at hy
    refine ⟨fid, _, assign, body, hy, round_pan hFf hfx (hassign _ pre x W _ hi ?_)⟩
    clear hy
    intro a' Wa hka hkp hia hax
    replace hl := hka.same _ _ (by omega) hl rfl
    replace hk := hka.same _ _ (Nat.le_refl _) hk rfl
    have hlt : w.heap.size + 1 < Wa.heap.size := (Array.getElem?_eq_some_iff.1 hl).1
    refine ⟨_, run_beginRound hl (by rw [hrec]), ?_⟩
    obtain ⟨W2, hW2⟩ : ∃ W2, W2 = Wa.putObj (w.heap.size + 1) (.loop { rec .ready with state := .busy }) := ⟨_, rfl⟩
    have hl2 : W2.heap[w.heap.size + 1]? = some (.loop { rec .ready with state := .busy }) := by rw [hW2]; exact World.putObj_heap_same hlt
    have hk2 : W2.heap[w.heap.size]? = some (.deferred (some [])) := by rw [hW2]; exact (World.putObj_heap_other (by omega)).trans hk
    have hw2 : Kp Wa W2 := by rw [hW2]; exact hKb _ _ _ _ (by omega) hl rfl rfl
    have hi2 : I pre W2 := by rw [hW2]; exact hI.putObj _ hia (by omega) hl rfl
    have hx2 : Ax x a' W2 := by rw [hW2]; exact (hAx x a').putObj (s := ()) _ hax (by omega) hl rfl
    rw [← hW2]
    clear hW2
    refine wpIn_mono (hbody _ pre x a' W2 (by omega) ⟨_, hl2⟩ hi2 hx2 hlen) ?_
    rintro e a3 W3 hp
    cases e with
    | normal =>
      obtain ⟨hk3, hkp3, hi3⟩ := hp
      have hl3 := hk3.same _ _ (by omega) hl2 rfl
      have hend := run_endRound (P := P) none hl3
      rw [hrec] at hend hl3
      refine ⟨_, _, hend, .inl ⟨rfl, ⟨hI.putObj _ hi3 (by omega) hl3 rfl, ?_, (World.putObj_heap_other (by omega)).trans (hk3.same _ _ (Nat.le_refl _) hk2 rfl)⟩, hKt hkp (hKt (hKt hw2 hkp3) (hKb _ _ _ _ (by omega) hl3 rfl rfl))⟩⟩
      rw [hrec]
      exact World.putObj_heap_same (Array.getElem?_eq_some_iff.1 hl3).1
    | panic ch =>
      obtain ⟨hd, hk3, hi3⟩ := hp
      exact ⟨hd, .inr ⟨ch, rfl, hi3, hk3.same _ _ (Nat.le_refl _) hk2 rfl⟩⟩
    | ret => exact hp.elim
    | exit id => exact hp.elim
    | goto t => exact hp.elim
    | outgrown => exact hp.elim
  · rintro e W2 (⟨v, rfl, xs, hS, hi, hl, hk⟩ | ⟨ch, rfl, hi, hk⟩)
    · refine ⟨_, by have := run_endLoop (P := P) hl (by rw [hrec]; simp); rw [hrec] at this; exact this, hdone _ xs _ (Nat.le_refl _) hS (hI.putObj _ hi (by omega) hl rfl) ((World.putObj_heap_other (by omega)).trans hk)⟩
    · exact hstop _ ch _ (Nat.le_refl _) hi hk
end
end Go.Proofs.YtadkaplafaeebaaGreatDoor
