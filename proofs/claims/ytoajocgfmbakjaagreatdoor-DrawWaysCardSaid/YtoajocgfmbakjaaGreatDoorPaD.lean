/-
  A range over a function that keeps what it has in cells of its own: whatever the caller says of a world speaks of what lies below the loop.
-/
import Derived.RangeFuncLeaves
import Derived.RangeFuncNested
import Derived.RangeFuncBox
import Derived.RangeFuncBound
import Derived.RangeFuncCalls
import Derived.Shelf.Abstract
import Derived.OwnWalkIn
import Derived.Test.YtoajocgfmbakjaaGreatDoorPbC
import Derived.Test.YtoajocgfmbakjaaGreatDoorPaC
import Derived.TacticsInMore
import Derived.Shelf.RegionOpen
import Derived.RegionIn
import Derived.LoopNIn
import Derived.LoopIn
import Derived.Maps.AppendAt
set_option linter.unusedVariables false
namespace Go.Proofs.YtoajocgfmbakjaaGreatDoor
open Go Go.RowKit Go.Shelf

section
variable {F : Fence} {n m : Nat} {P : Program}

/-- It stands wherever what lies below B stands. -/
def Low {β : Type} (B : Nat) (I : β → World → Prop) : Prop := ∀ s A C, I s A → Below B A C → I s C
theorem below_put {B l : Nat} (W : World) (o : Obj) (h : B ≤ l) : Below B W (W.putObj l o) :=
  ⟨rfl, rfl, rfl, by simp [World.putObj], fun b hb => World.putObj_heap_other (by omega)⟩
theorem Low.up {β : Type} {B C : Nat} {I : β → World → Prop} (h : Low B I) (hc : B ≤ C) : Low C I := fun s A D hs hb => h s A D hs (hb.mono hc)

/-- An iterator that keeps cells of its own beyond what lay when it was called. -/
def SeqB {α : Type} (F : Fence) (n : Nat) (P : Program) (g : Nat) (lb : Array Value) (encs : α → Array Value) (Kp : World → World → Prop) (S Sp : List α → Prop) (N : Nat) (w : World) : Prop :=
  ∀ (l : Nat) (J Jx : List α → World → Prop) (W : World), Below w.heap.size w W → Low W.heap.size J → Low W.heap.size Jx →
    (∀ pre x W1, J pre W1 → pre.length < N → YieldAt F (n - 1) P l (encs x) W1 fun e W' =>
      (e = .returned (.bool true) ∧ J (pre ++ [x]) W' ∧ Kp W1 W') ∨ (e = .returned (.bool false) ∧ Jx (pre ++ [x]) W')) →
    J [] W → CallsIn F n P g (#[.func (.yield l) #[] #[]] ++ lb) W fun e W' => (∃ v, e = .returned v) ∧ ((∃ xs, S xs ∧ J xs W') ∨ (∃ pre, Sp pre ∧ Jx pre W'))

/-- What is no cells, from B on, but one block. -/
def Keeps1 (B l : Nat) (W W' : World) : Prop := ∀ (k : Nat) (o : Obj), B ≤ k → k ≠ l → W.heap[k]? = some o → o.isCells = false → W'.heap[k]? = some o

/-- One round. -/
theorem yield_b {α : Type} {B l N : Nat} {r : Loop} {Kp : World → World → Prop} {I : List α → World → Prop} {Ix : Code → List α → World → Prop} {encs : α → Array Value} {Ax : α → Act → World → Prop}
    (hB : B ≤ l) (hF : F.fn r.fn) (hps : ∀ x, (encs x).size = r.params.size)
    (hKt : ∀ {A B C : World}, Kp A B → Kp B C → Kp A C) (hKb : ∀ (W : World) (o o' : Obj), W.heap[l]? = some o → o.isCells = false → o.isWalk = false → Kp W (W.putObj l o'))
    (hI : Low B I) (hIx : ∀ c, Low B (Ix c))
    (hAx : ∀ (x : α) (a' : Act) (W : World) (o o' : Obj), Ax x a' W → W.heap[l]? = some o → o.isCells = false → Ax x a' (W.putObj l o'))
    (hassign : ∀ (pre : List α) (x : α) (W : World) (K : Act → World → Prop), I pre W → (∀ a' W', KeepsFrom B W W' → Kp W W' → I pre W' → Ax x a' W' → K a' W') →
      r.assign.wpIn (F.inRound l) m P (Exit.then K (fun _ _ _ => False)) { tmps := (r.params.zip (encs x)).foldl (fun t (p, v) => t.setIfInBounds p v) r.tmps, defers := [] } W)
    (hbody : ∀ (pre : List α) (x : α) (a' : Act) (W : World), (∃ q, W.heap[l]? = some (.loop q)) → I pre W → Ax x a' W → pre.length < N → r.body.wpIn (F.inRound l) m P (ownPostG B Kp I Ix (pre ++ [x]) W) a' W)
    (pre : List α) (x : α) (W : World) (hi : I pre W) (hl : W.heap[l]? = some (.loop { r with state := .ready, pending := none })) (hlen : pre.length < N) :
    YieldAt F m P l (encs x) W fun e W' => Keeps1 B l W W' ∧
      ((e = .returned (.bool true) ∧ (I (pre ++ [x]) W' ∧ W'.heap[l]? = some (.loop { r with state := .ready, pending := none })) ∧ Kp W W') ∨
       (e = .returned (.bool false) ∧ ∃ c, Ix c (pre ++ [x]) W' ∧ W'.heap[l]? = some (.loop { r with state := .done, pending := some c }))) := by
  refine ⟨_, _, _, _, run_yield hl (hps x), roundIn_of_wpIn hF (hassign pre x W _ hi ?_)⟩
  intro a1 W1 k1 p1 i1 x1
  have l1 := k1.same l _ hB hl rfl
  refine ⟨_, run_beginRound l1 rfl, ?_⟩
  have lt1 : l < W1.heap.size := (Array.getElem?_eq_some_iff.1 l1).1
  obtain ⟨o2, ho2⟩ : ∃ o2, o2 = Obj.loop { r with state := .busy, pending := none } := ⟨_, rfl⟩
  obtain ⟨W2, hW2⟩ : ∃ W2, W2 = W1.putObj l (.loop { r with state := .busy, pending := none }) := ⟨_, rfl⟩
  have l2 : W2.heap[l]? = some (.loop { r with state := .busy, pending := none }) := by rw [hW2]; exact World.putObj_heap_same lt1
  have i2 : I pre W2 := by rw [hW2]; exact hI _ _ _ i1 (below_put W1 _ hB)
  have x2 : Ax x a1 W2 := by rw [hW2]; exact hAx _ _ _ _ _ x1 l1 rfl
  have p2 : Kp W W2 := by rw [hW2]; exact hKt p1 (hKb _ _ _ l1 rfl rfl)
  have s2 : Keeps1 B l W W2 := fun k o hk hne ho hc => by
    rw [hW2, World.putObj_heap_other hne]
    exact k1.same k o hk ho hc
  show r.body.wpIn (F.inRound l) m P _ a1 (W1.putObj l (.loop { r with state := .busy, pending := none }))
  rw [← hW2]
  refine wpIn_mono (hbody pre x a1 W2 ⟨_, l2⟩ i2 x2 hlen) ?_
  have fin : ∀ (jump : Option Code) (W3 : World), KeepsFrom B W2 W3 →
      (Instr.endRound l jump).run P W3 = .ok (.bool jump.isNone) (W3.putObj l (.loop { r with state := if jump.isNone then .ready else .done, pending := jump })) ∧
      W3.heap[l]? = some (.loop { r with state := .busy, pending := none }) ∧
      (W3.putObj l (.loop { r with state := if jump.isNone then .ready else .done, pending := jump })).heap[l]? = some (.loop { r with state := if jump.isNone then .ready else .done, pending := jump }) ∧
      Keeps1 B l W (W3.putObj l (.loop { r with state := if jump.isNone then .ready else .done, pending := jump })) := fun jump W3 k3 => by
    have l3 := k3.same l _ hB l2 rfl
    refine ⟨run_endRound (r := { r with state := .busy, pending := none }) jump l3, l3, World.putObj_heap_same (Array.getElem?_eq_some_iff.1 l3).1, fun k o hk hne ho hc => ?_⟩
    rw [World.putObj_heap_other hne]
    exact k3.same k o hk (s2 k o hk hne ho hc) hc
  rintro e a3 W3 hp
  cases e with
  | normal =>
    obtain ⟨k3, p3, i3⟩ := hp
    obtain ⟨hr, l3, l4, s4⟩ := fin none W3 k3
    exact ⟨_, _, hr, s4, .inl ⟨rfl, ⟨hI _ _ _ i3 (below_put W3 _ hB), l4⟩, hKt p2 (hKt p3 (hKb _ _ _ l3 rfl rfl))⟩⟩
  | ret =>
    obtain ⟨k3, i3⟩ := hp
    obtain ⟨hr, l3, l4, s4⟩ := fin (some .ret) W3 k3
    exact ⟨_, _, hr, s4, .inr ⟨rfl, _, hIx _ _ _ _ i3 (below_put W3 _ hB), l4⟩⟩
  | exit id =>
    obtain ⟨k3, i3⟩ := hp
    obtain ⟨hr, l3, l4, s4⟩ := fin (some (.exit id)) W3 k3
    exact ⟨_, _, hr, s4, .inr ⟨rfl, _, hIx _ _ _ _ i3 (below_put W3 _ hB), l4⟩⟩
  | goto t =>
    obtain ⟨k3, i3⟩ := hp
    obtain ⟨hr, l3, l4, s4⟩ := fin (some (.goto t)) W3 k3
    exact ⟨_, _, hr, s4, .inr ⟨rfl, _, hIx _ _ _ _ i3 (below_put W3 _ hB), l4⟩⟩
  | panic ch => exact hp.elim
  | outgrown => exact hp.elim
theorem yieldAt_mono {l : Nat} {args : Array Value} {W : World} {R R' : Ending → World → Prop} (h : YieldAt F m P l args W R) (hr : ∀ e W', R e W' → R' e W') : YieldAt F m P l args W R' := by
  obtain ⟨fn, tmps, assign, body, h1, h2⟩ := h
  exact ⟨fn, tmps, assign, body, h1, h2.mono hr⟩

/-- The statement within a round of loop l₀. -/
theorem range_bN {α : Type} {g : Operand} {ps : Array Tmp} {assign body : Code} {Q : Exit → Act → World → Prop} {a : Act} {w : World}
    {l₀ : Nat} {r₀ : Loop} (hro : F.round = some l₀) (hl₀ : w.heap[l₀]? = some (.loop r₀)) (h1 : 1 ≤ n) {gf : Nat} {lb : Array Value} (hg : a.eval g = .func (.func gf) #[] lb) (hFg : F.fn gf) (eg : ∀ args w, (callFunc gf args).run P w = .ok (.enter gf args) w)
    {encs : α → Array Value} {Kp : World → World → Prop} {S Sp : List α → Prop} {N : Nat} {w0 : World} (hseq : SeqB F (n - 1) P gf lb encs Kp S Sp N w0)
    (hKt : ∀ {A B C : World}, Kp A B → Kp B C → Kp A C) (hKb : ∀ (W : World) (l : Nat) (o o' : Obj), w.heap.size ≤ l → W.heap[l]? = some o → o.isCells = false → o.isWalk = false → Kp W (W.putObj l o')) (hb0 : Below w0.heap.size w0 w) (hps : ∀ x, (encs x).size = ps.size)
    (I : List α → World → Prop) (Ix : Code → List α → World → Prop) (hI : Low w.heap.size I) (hIx : ∀ c, Low w.heap.size (Ix c)) (h0 : I [] w) (Ax : α → Act → World → Prop)
    (hAx : ∀ (x : α) (a' : Act) (W : World) (l : Nat) (o o' : Obj), Ax x a' W → W.heap[l]? = some o → o.isCells = false → Ax x a' (W.putObj l o'))
    (hassign : ∀ (l : Nat) (pre : List α) (x : α) (W : World) (K : Act → World → Prop), I pre W → (∀ a' W', KeepsFrom w.heap.size W W' → Kp W W' → I pre W' → Ax x a' W' → K a' W') →
      assign.wpIn (F.inRound l) (n - 1 - 1) P (Exit.then K (fun _ _ _ => False)) { tmps := (ps.zip (encs x)).foldl (fun t (p, v) => t.setIfInBounds p v) a.tmps, defers := [] } W)
    (hbody : ∀ (l : Nat) (pre : List α) (x : α) (a' : Act) (W : World), w.heap.size ≤ l → (∃ r, W.heap[l]? = some (.loop r)) → I pre W → Ax x a' W → pre.length < N → body.wpIn (F.inRound l) (n - 1 - 1) P (ownPostG w.heap.size Kp I Ix (pre ++ [x]) W) a' W)
    (hdone : ∀ (xs : List α) (W : World), S xs → I xs W → Q .normal a W)
    (hstop : ∀ (c : Code) (pre : List α) (W : World), Sp pre → Ix c pre W → c.wpIn F n P Q a W) :
    (Code.rangeFunc g ps assign body).wpIn F n P Q a w := by
  refine wpIn_rangeFunc ?_
  intro fn hfn
  rw [hro]
  obtain ⟨r, hr⟩ : ∃ r : Loop, r = { state := .ready, pending := none, fn, tmps := a.tmps, params := ps, assign, body, defers := r₀.defers } := ⟨_, rfl⟩
  obtain ⟨W1, hW1⟩ : ∃ W1, w.alloc (.loop { r with state := .ready, pending := none }) = W1 := ⟨_, rfl⟩
  have hL1 : W1.heap[w.heap.size]? = some (.loop { r with state := .ready, pending := none }) := by rw [← hW1]; exact World.alloc_heap_new w _
  have hs1 : W1.heap.size = w.heap.size + 1 := by rw [← hW1]; exact World.size_alloc w _
  have hI1 : I [] W1 := hI _ _ _ h0 (by rw [← hW1]; exact (Below.refl _ w).alloc (Nat.le_refl _) _)
  have hb1 : Below w0.heap.size w0 W1 := by
    rw [← hW1]; exact hb0.trans (((Below.refl _ w).alloc (Nat.le_refl _) _).mono hb0.size)
  refine ⟨w.heap.size, [], W1, { target := .fn (.func gf) lb, args := #[.func (.yield w.heap.size) #[] #[]] }, W1, gf,
    #[.func (.yield w.heap.size) #[] #[]] ++ lb, W1, ?_, ?_, ?_, ?_, fun _ => h1, ?_⟩
  · rw [← hW1, hr]; exact run_enterLoop_inner hl₀ _ _ _ _ _
  · simp only [resolve, hg]
    simp [go_sem]
  · intro f' hf'; simp [Target.leads] at hf'; subst hf'; exact hFg
  · simp [invoke, go_sem, eg]
  · refine (hseq w.heap.size
      (fun pre W => I pre W ∧ W.heap[w.heap.size]? = some (.loop { r with state := .ready, pending := none }))
      (fun pre W => ∃ c, Ix c pre W ∧ W.heap[w.heap.size]? = some (.loop { r with state := .done, pending := some c }))
      W1 hb1
      (fun s A C hs hb => ⟨hI s A C hs.1 (hb.mono (by omega)), (hb.block _ (by omega)).trans hs.2⟩)
      (fun s A C hs hb => by
        obtain ⟨c, hc, hl⟩ := hs
        exact ⟨c, hIx c s A C hc (hb.mono (by omega)), (hb.block _ (by omega)).trans hl⟩)
      (fun pre x W hi hlen => yieldAt_mono (yield_b (r := r) (Ax := Ax) (Kp := Kp) (N := N) (Nat.le_refl _) (by rw [hr]; exact hfn) (by rw [hr]; exact hps) hKt (fun W o o' => hKb W _ o o' (Nat.le_refl _)) hI hIx
        (fun x a' W o o' => hAx x a' W _ o o') (by rw [hr]; exact hassign _) (fun pre x a' W => by rw [hr]; exact hbody _ pre x a' W (Nat.le_refl _)) pre x W hi.1 hi.2 hlen) fun e W' h => h.2)
      ⟨hI1, hL1⟩).mono ?_
    rintro e W2 ⟨⟨v, rfl⟩, (⟨xs, hS, hi, hl⟩ | ⟨pre, hSp, c, hi, hl⟩)⟩
    · exact ⟨none, _, run_endLoop hl (by simp), hdone xs _ hS (hI _ _ _ hi (below_put W2 _ (Nat.le_refl _)))⟩
    · exact ⟨some c, _, run_endLoop hl (by simp), hstop c pre _ hSp (hIx c _ _ _ hi (below_put W2 _ (Nat.le_refl _)))⟩

/-- The statement outside of any round. -/
theorem range_b {α : Type} {g : Operand} {ps : Array Tmp} {assign body : Code} {Q : Exit → Act → World → Prop} {a : Act} {w : World}
    (hro : F.round = none) (h1 : 1 ≤ n) {gf : Nat} {lb : Array Value} (hg : a.eval g = .func (.func gf) #[] lb) (hFg : F.fn gf) (eg : ∀ args w, (callFunc gf args).run P w = .ok (.enter gf args) w)
    {encs : α → Array Value} {Kp : World → World → Prop} {S Sp : List α → Prop} {N : Nat} {w0 : World} (hseq : SeqB F (n - 1) P gf lb encs Kp S Sp N w0)
    (hKt : ∀ {A B C : World}, Kp A B → Kp B C → Kp A C) (hKb : ∀ (W : World) (l : Nat) (o o' : Obj), w.heap.size ≤ l → W.heap[l]? = some o → o.isCells = false → o.isWalk = false → Kp W (W.putObj l o')) (hb0 : Below w0.heap.size w0 w) (hps : ∀ x, (encs x).size = ps.size)
    (I : List α → World → Prop) (Ix : Code → List α → World → Prop) (hI : Low w.heap.size I) (hIx : ∀ c, Low w.heap.size (Ix c)) (h0 : I [] w) (Ax : α → Act → World → Prop)
    (hAx : ∀ (x : α) (a' : Act) (W : World) (l : Nat) (o o' : Obj), Ax x a' W → W.heap[l]? = some o → o.isCells = false → Ax x a' (W.putObj l o'))
    (hassign : ∀ (l : Nat) (pre : List α) (x : α) (W : World) (K : Act → World → Prop), I pre W → (∀ a' W', KeepsFrom w.heap.size W W' → Kp W W' → I pre W' → Ax x a' W' → K a' W') →
      assign.wpIn (F.inRound l) (n - 1 - 1) P (Exit.then K (fun _ _ _ => False)) { tmps := (ps.zip (encs x)).foldl (fun t (p, v) => t.setIfInBounds p v) a.tmps, defers := [] } W)
    (hbody : ∀ (l : Nat) (pre : List α) (x : α) (a' : Act) (W : World), w.heap.size ≤ l → (∃ r, W.heap[l]? = some (.loop r)) → I pre W → Ax x a' W → pre.length < N → body.wpIn (F.inRound l) (n - 1 - 1) P (ownPostG w.heap.size Kp I Ix (pre ++ [x]) W) a' W)
    (hdone : ∀ (D : Nat) (xs : List α) (W : World), w.heap.size ≤ D → S xs → I xs W → W.heap[D]? = some (.deferred (some [])) → Q .normal { a with defers := { target := .collected D, args := #[] } :: a.defers } W)
    (hstop : ∀ (D : Nat) (c : Code) (pre : List α) (W : World), w.heap.size ≤ D → Sp pre → Ix c pre W → W.heap[D]? = some (.deferred (some [])) → c.wpIn F n P Q { a with defers := { target := .collected D, args := #[] } :: a.defers } W) :
    (Code.rangeFunc g ps assign body).wpIn F n P Q a w := by
  refine wpIn_rangeFunc ?_
  intro fn hfn
  rw [hro]
  obtain ⟨r, hr⟩ : ∃ r : Loop, r = { state := .ready, pending := none, fn, tmps := a.tmps, params := ps, assign, body, defers := w.heap.size } := ⟨_, rfl⟩
  obtain ⟨W1, hW1⟩ : ∃ W1, (w.alloc (.deferred (some []))).alloc (.loop { r with state := .ready, pending := none }) = W1 := ⟨_, rfl⟩
  have hL1 : W1.heap[w.heap.size + 1]? = some (.loop { r with state := .ready, pending := none }) := by
    rw [← hW1]; have := World.alloc_heap_new (w.alloc (.deferred (some []))) (.loop { r with state := .ready, pending := none }); rwa [World.size_alloc] at this
  have hK1 : W1.heap[w.heap.size]? = some (.deferred (some [])) := by
    rw [← hW1]; exact (Below.heap_alloc _ _ _ (by simp)).trans (World.alloc_heap_new w _)
  have hs1 : W1.heap.size = w.heap.size + 1 + 1 := by rw [← hW1]; simp
  have hbw : Below w.heap.size w W1 := by rw [← hW1]; exact ((Below.refl _ w).alloc (Nat.le_refl _) _).alloc (by simp) _
  have hI1 : I [] W1 := hI _ _ _ h0 hbw
  have hb1 : Below w0.heap.size w0 W1 := hb0.trans (hbw.mono hb0.size)
  refine ⟨w.heap.size + 1, [{ target := .collected w.heap.size, args := #[] }], W1, { target := .fn (.func gf) lb, args := #[.func (.yield (w.heap.size + 1)) #[] #[]] }, W1, gf,
    #[.func (.yield (w.heap.size + 1)) #[] #[]] ++ lb, W1, ?_, ?_, ?_, ?_, fun _ => h1, ?_⟩
  · rw [← hW1, hr]; exact run_enterLoop_outer _ _ _ _ _
  · simp only [resolve, hg]
    simp [go_sem]
  · intro f' hf'; simp [Target.leads] at hf'; subst hf'; exact hFg
  · simp [invoke, go_sem, eg]
  · refine (hseq (w.heap.size + 1)
      (fun pre W => I pre W ∧ W.heap[w.heap.size + 1]? = some (.loop { r with state := .ready, pending := none }) ∧ W.heap[w.heap.size]? = some (.deferred (some [])))
      (fun pre W => ∃ c, Ix c pre W ∧ W.heap[w.heap.size + 1]? = some (.loop { r with state := .done, pending := some c }) ∧ W.heap[w.heap.size]? = some (.deferred (some [])))
      W1 hb1
      (fun s A C hs hb => ⟨hI s A C hs.1 (hb.mono (by omega)), (hb.block _ (by omega)).trans hs.2.1, (hb.block _ (by omega)).trans hs.2.2⟩)
      (fun s A C hs hb => by
        obtain ⟨c, hc, hl, hd⟩ := hs
        exact ⟨c, hIx c s A C hc (hb.mono (by omega)), (hb.block _ (by omega)).trans hl, (hb.block _ (by omega)).trans hd⟩)
      (fun pre x W hi hlen => yieldAt_mono (yield_b (B := w.heap.size) (r := r) (Ax := Ax) (Kp := Kp) (N := N) (Nat.le_succ _) (by rw [hr]; exact hfn) (by rw [hr]; exact hps) hKt (fun W o o' => hKb W _ o o' (Nat.le_succ _)) hI hIx
        (fun x a' W o o' => hAx x a' W _ o o') (by rw [hr]; exact hassign _) (fun pre x a' W => by rw [hr]; exact hbody _ pre x a' W (Nat.le_succ _)) pre x W hi.1 hi.2.1 hlen) fun e W' h => by
          have hd := h.1 _ _ (Nat.le_refl _) (by omega) hi.2.2 rfl
          rcases h.2 with ⟨e1, ⟨i1, l1⟩, p1⟩ | ⟨e1, c, i1, l1⟩
          · exact .inl ⟨e1, ⟨i1, l1, hd⟩, p1⟩
          · exact .inr ⟨e1, c, i1, l1, hd⟩)
      ⟨hI1, hL1, hK1⟩).mono ?_
    rintro e W2 ⟨⟨v, rfl⟩, (⟨xs, hS, hi, hl, hd⟩ | ⟨pre, hSp, c, hi, hl, hd⟩)⟩
    · exact ⟨none, _, run_endLoop hl (by simp), hdone _ xs _ (Nat.le_refl _) hS (hI _ _ _ hi (below_put W2 _ (Nat.le_succ _))) ((World.putObj_heap_other (by omega)).trans hd)⟩
    · exact ⟨some c, _, run_endLoop hl (by simp), hstop _ c pre _ (Nat.le_refl _) hSp (hIx c _ _ _ hi (below_put W2 _ (Nat.le_succ _))) ((World.putObj_heap_other (by omega)).trans hd)⟩
end
end Go.Proofs.YtoajocgfmbakjaaGreatDoor
/-
  On what cells a solid stands on the way of a move, step by step: the list.
-/
set_option linter.unusedVariables false
namespace Go.Proofs.YtoajocgfmbakjaaGreatDoor
open Go Go.RowKit

abbrev SB := Sol × Bool
/-- Straight up, as long as a cell is in the grid. -/
def upsL : Nat → Sol → List SB
  | 0, _ => []
  | k + 1, f => if emptyS f = true then [] else (f, true) :: upsL k (upF f)
/-- Sideways, as long as all cells are in the grid; then straight up. -/
def sideL (s c : Nat) : Nat → Sol → List SB
  | 0, f => upsL 36 (upF f)
  | k + 1, f => if cntF (stepF f s) = c then (stepF f s, true) :: sideL s c k (stepF f s) else [(stepF f s, false)]
def standsL (f : Sol) (s far : Nat) : List SB := sideL s (cntF f) far f
def nz (x : Nat) : Nat := if x = 0 then 0 else 1
/-- How many steps up there are at most. -/
def muF (f : Sol) : Nat := nz (f 0) * 8 + nz (f 1) * 7 + nz (f 2) * 6 + nz (f 3) * 5 + nz (f 4) * 4 + nz (f 5) * 3 + nz (f 6) * 2 + nz (f 7)
theorem nz_le (x : Nat) : nz x ≤ 1 := by unfold nz; split <;> omega
theorem muF_le (f : Sol) : muF f ≤ 36 := by
  have h0 := nz_le (f 0); have h1 := nz_le (f 1); have h2 := nz_le (f 2); have h3 := nz_le (f 3)
  have h4 := nz_le (f 4); have h5 := nz_le (f 5); have h6 := nz_le (f 6); have h7 := nz_le (f 7)
  unfold muF
  omega
theorem muF_up (f : Sol) (h : emptyS f = false) : muF (upF f) < muF f := by
  have hne : ¬ (f 0 = 0 ∧ f 1 = 0 ∧ f 2 = 0 ∧ f 3 = 0 ∧ f 4 = 0 ∧ f 5 = 0 ∧ f 6 = 0 ∧ f 7 = 0) := fun hh => by
    have : emptyS f = true := by unfold emptyS eqS; exact decide_eq_true hh
    rw [this] at h
    cases h
  have e : muF (upF f) = nz (f 0) * 7 + nz (f 1) * 6 + nz (f 2) * 5 + nz (f 3) * 4 + nz (f 4) * 3 + nz (f 5) * 2 + nz (f 6) := by
    unfold muF
    simp only [upF]
    simp [nz]
  rw [e]
  unfold muF
  have k : ∀ x, x ≠ 0 → nz x = 1 := fun x hx => by unfold nz; rw [if_neg hx]
  have : nz (f 0) = 1 ∨ nz (f 1) = 1 ∨ nz (f 2) = 1 ∨ nz (f 3) = 1 ∨ nz (f 4) = 1 ∨ nz (f 5) = 1 ∨ nz (f 6) = 1 ∨ nz (f 7) = 1 := Classical.byContradiction fun hc => by
    refine hne ⟨?_, ?_, ?_, ?_, ?_, ?_, ?_, ?_⟩ <;> refine Classical.byContradiction fun hx => hc ?_ <;> have := k _ hx <;> simp [this]
  omega
theorem upsL_pos {k : Nat} {f : Sol} (hk : muF f ≤ k) (h : emptyS f = false) : ∃ j, k = j + 1 ∧ muF (upF f) ≤ j ∧ upsL k f = (f, true) :: upsL j (upF f) := by
  have := muF_up f h
  obtain ⟨j, rfl⟩ : ∃ j, k = j + 1 := ⟨k - 1, by omega⟩
  exact ⟨j, rfl, by omega, by rw [upsL, if_neg (by rw [h]; exact Bool.false_ne_true)]⟩
theorem upsL_empty (k : Nat) {f : Sol} (h : emptyS f = true) : upsL k f = [] := by
  cases k with
  | zero => rfl
  | succ k => rw [upsL, if_pos h]
/-- That number, off the cells. -/
def cellN (W : World) (A i : Nat) : Nat := match W.cell? ⟨A, i, none⟩ with | some (.int _ v) => v.natAbs | _ => 0
def muW (W : World) (A : Nat) : Nat := nz (cellN W A 0) * 8 + nz (cellN W A 1) * 7 + nz (cellN W A 2) * 6 + nz (cellN W A 3) * 5 + nz (cellN W A 4) * 4 + nz (cellN W A 5) * 3 + nz (cellN W A 6) * 2 + nz (cellN W A 7)
theorem muW_of {W : World} {A : Nat} {f : Sol} (h : BoxD W A f) : muW W A = muF f := by
  have e : ∀ i, i < 8 → cellN W A i = f i := fun i hi => by unfold cellN; rw [h.cell hi]; simp
  unfold muW muF
  rw [e 0 (by omega), e 1 (by omega), e 2 (by omega), e 3 (by omega), e 4 (by omega), e 5 (by omega), e 6 (by omega), e 7 (by omega)]
end Go.Proofs.YtoajocgfmbakjaaGreatDoor
/-
  What a round of a loop over an iterator with cells of its own leaves as it is; a move in its block.
-/
set_option linter.unusedVariables false
namespace Go.Proofs.YtoajocgfmbakjaaGreatDoor
open Go Go.RowKit Go.Shelf

/-- What a body leaves as it is: what lay below, and all cells from a block on. -/
def KeepA (n₀ n₁ : Nat) (W W' : World) : Prop := Below n₀ W W' ∧ ∀ (k : Nat) (o : Obj), n₁ ≤ k → W.heap[k]? = some o → o.isCells = true → W'.heap[k]? = some o
theorem keepA_t {n₀ n₁ : Nat} {A B C : World} (h : KeepA n₀ n₁ A B) (k : KeepA n₀ n₁ B C) : KeepA n₀ n₁ A C := ⟨h.1.trans k.1, fun i o hi ho hc => k.2 i o hi (h.2 i o hi ho hc) hc⟩
theorem keepA_b {n₀ n₁ : Nat} {w : World} (hn : n₀ ≤ w.heap.size) (W : World) (l : Nat) (o o' : Obj) (hl : w.heap.size ≤ l) (h : W.heap[l]? = some o) (h1 : o.isCells = false) (h2 : o.isWalk = false) : KeepA n₀ n₁ W (W.putObj l o') :=
  ⟨belowK_b hn W l o o' hl h h1 h2, fun k x _ hx hc => ((grownBy_putObj' W l o').block k (Array.getElem?_eq_some_iff.1 hx).1 (fun e => by cases e; rw [h] at hx; cases hx; rw [h1] at hc; cases hc)).trans hx⟩
theorem keepA_below {n₀ n₁ : Nat} {W W' : World} (h : Below W.heap.size W W') (hn : n₀ ≤ W.heap.size) : KeepA n₀ n₁ W W' := ⟨h.mono hn, fun k o _ hk _ => (h.block k (Array.getElem?_eq_some_iff.1 hk).1).trans hk⟩
/-- A move. -/
def mv (p s far : Int) : Value := .agg #[.int .i64 p, .int .i64 s, .int .i64 far]
abbrev BoxM (W : World) (b : Nat) (p s far : Int) : Prop := W.heap[b]? = some (.cells #[.int .i64 p, .int .i64 s, .int .i64 far] 40 (0, 0))
theorem BoxM.cells {W : World} {b : Nat} {p s far : Int} (h : BoxM W b p s far) : W.cell? ⟨b, 0, none⟩ = some (.int .i64 p) ∧ W.cell? ⟨b, 1, none⟩ = some (.int .i64 s) ∧ W.cell? ⟨b, 2, none⟩ = some (.int .i64 far) := by
  refine ⟨?_, ?_, ?_⟩ <;> unfold World.cell? <;> rw [h] <;> rfl
theorem BoxM.lt {W : World} {b : Nat} {p s far : Int} (h : BoxM W b p s far) : b < W.heap.size := (Array.getElem?_eq_some_iff.1 h).1
theorem heap_below {W W' : World} {b n : Nat} {o : Obj} (h : W.heap[b]? = some o) (hb : Below n W W') (hlt : b < n) : W'.heap[b]? = some o := (hb.block b hlt).trans h
end Go.Proofs.YtoajocgfmbakjaaGreatDoor
