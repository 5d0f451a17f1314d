/-
  Euler.
-/
import Derived.Test.YtadkaplafaeebaaGreatDoorPkN
set_option linter.unusedVariables false
set_option linter.unusedSimpArgs false
namespace Go.Proofs.YtadkaplafaeebaaGreatDoor
open Go Go.RowKit Go.Shelf

attribute [local go_sem] Oper.semAt_some

def eulP (p : I3) : Bool := (p.1 + p.2.1 + p.2.2).tmod 2 == 0
def eulStep (s : List I3 × Int) (p : I3) : List I3 × Int := if p ∈ s.1 then s else (s.1 ++ [p], if eulP p then s.2 + 1 else s.2 - 1)
def eulI (s : List I3 × Int) (l : List I3) : List I3 × Int := l.foldl eulStep s
def dbl (c : Cl) : I3 := (2 * ((cX c : Nat) : Int) + 1, 2 * ((cY c : Nat) : Int) + 1, 2 * ((cZ c : Nat) : Int) + 1)
def eulN (l : List Cl) : List I3 × Int := l.foldl (fun s c => eulI s (touchL (dbl c))) ([], 0)
theorem eulI_snoc (s : List I3 × Int) (l : List I3) (p : I3) : eulI s (l ++ [p]) = eulStep (eulI s l) p := by simp [eulI]
theorem eulN_snoc (l : List Cl) (c : Cl) : eulN (l ++ [c]) = eulI (eulN l) (touchL (dbl c)) := by simp [eulN]
def EulB (s : List I3 × Int) (n : Nat) : Prop := s.1.length ≤ n ∧ -(n : Int) ≤ s.2 ∧ s.2 ≤ n
theorem eulStep_b {s : List I3 × Int} {n : Nat} (h : EulB s n) (p : I3) : EulB (eulStep s p) (n + 1) := by
  unfold EulB at *
  unfold eulStep
  by_cases e : p ∈ s.1
  · rw [if_pos e]; omega
  · rw [if_neg e]
    cases eulP p <;> simp <;> omega
theorem eulI_b (l : List I3) : ∀ {s : List I3 × Int} {n : Nat}, EulB s n → EulB (eulI s l) (n + l.length) := by
  induction l with
  | nil => intro s n h; exact h
  | cons p l ih =>
    intro s n h
    rw [List.length_cons, show n + (l.length + 1) = n + 1 + l.length by omega]
    exact ih (eulStep_b h p)
theorem eulN_b (l : List Cl) : EulB (eulN l) (27 * l.length) := by
  have key : ∀ (l : List Cl) (s : List I3 × Int) (n : Nat), EulB s n → EulB (l.foldl (fun s c => eulI s (touchL (dbl c))) s) (n + 27 * l.length) := by
    intro l
    induction l with
    | nil => intro s n h; exact h
    | cons c l ih =>
      intro s n h
      rw [List.foldl_cons, List.length_cons, show n + 27 * (l.length + 1) = n + 27 + 27 * l.length by omega]
      refine ih _ _ ?_
      have h2 := eulI_b (touchL (dbl c)) h
      rw [touchL_len] at h2
      exact h2
  have h := key l ([], 0) 0 (by unfold EulB; simp)
  rw [Nat.zero_add] at h
  exact h
theorem dbl_sm (c : Cl) : Sm3 1000 (dbl c) := by
  have h1 := X_le c; have h2 := Y_le c; have h3 := Z_le c
  unfold Sm3 dbl
  simp only
  omega
/-- Euler's number. -/
def eulF (f : Sol) : Int := (eulN (cellsL f)).2
theorem own_seen {β : Type} {b D : Nat} (hb : b < D) (n : β → Nat) (s : β → List I3) : OwnFrom D (fun (x : β) W => Seen W b (n x) (s x)) := fun x X Y row h hg hr =>
  h.kept hg (fun e => by have := (hr b e.symm).1; omega)

set_option maxRecDepth 100000 in
set_option maxHeartbeats 4000000 in
theorem euler_ok (f : Sol) (w : World) (hf : Fit f) (hT : Tab64 w) :
    Calls Tryz.prog 76 #[sol f] w fun e w' => e = .returned (.int .i64 (eulF f)) ∧ Below w.heap.size w w' := by
  have HF := Lib.hid hf
  have HTT := Lib.hid hT
  clear hf hT
  have hmm : ∀ (w : World), (Instr.makeMap 108 none).run Tryz.prog w = .ok (.map (some w.heap.size)) (w.alloc (.map #[] 0)) := fun _ => rfl
  refine (callsIn_wide (n := 7)).1 ?_
  refine callsIn_of_wp_marks Tryz.func76 rfl trivial ?_ rfl
  simp only [Tryz.ntmps76, List.size_toArray, List.length_cons, List.length_nil, Nat.reduceAdd, Nat.reduceSub, Array.replicate_succ, Array.replicate_zero, List.push_toArray, List.append_toArray, List.nil_append, List.cons_append]
  gi_wp2_with (refine ⟨trivial, ?_⟩; gi_at_call 94; refine (cells_in _ f _).mono ?_; rintro e w1 ⟨rfl, rfl⟩)
  have bM : Boxed (((((w.alloc (.cells (solC f) 24)).alloc (.map #[] 0)).alloc (.cells #[.map (some (w.heap.size + 1))] 108)).alloc (.cells #[.int .i64 0] 3)).alloc (.cells (solC f) 24)) (w.heap.size + 1 + 1) 108 (.map (some (w.heap.size + 1))) := ((boxed_at (by simp)).alloc _).alloc _
  have bN : Boxed (((((w.alloc (.cells (solC f) 24)).alloc (.map #[] 0)).alloc (.cells #[.map (some (w.heap.size + 1))] 108)).alloc (.cells #[.int .i64 0] 3)).alloc (.cells (solC f) 24)) (w.heap.size + 1 + 1 + 1) 3 (.int .i64 0) := (boxed_at (by simp)).alloc _
  have bR : BoxS (((((w.alloc (.cells (solC f) 24)).alloc (.map #[] 0)).alloc (.cells #[.map (some (w.heap.size + 1))] 108)).alloc (.cells #[.int .i64 0] 3)).alloc (.cells (solC f) 24)) (w.heap.size + 1 + 1 + 1 + 1) f := BoxS.new' (by simp)
  have sM : Seen (((((w.alloc (.cells (solC f) 24)).alloc (.map #[] 0)).alloc (.cells #[.map (some (w.heap.size + 1))] 108)).alloc (.cells #[.int .i64 0] 3)).alloc (.cells (solC f) 24)) (w.heap.size + 1) 0 [] := by
    have h := Seen.made (w.alloc (.cells (solC f) 24))
    rw [World.size_alloc] at h
    exact ((h.kept (World.grownBy_alloc _ _ none) (by simp)).kept (World.grownBy_alloc _ _ none) (by simp)).kept (World.grownBy_alloc _ _ none) (by simp)
  have hB0 : Below w.heap.size w (((((w.alloc (.cells (solC f) 24)).alloc (.map #[] 0)).alloc (.cells #[.map (some (w.heap.size + 1))] 108)).alloc (.cells #[.int .i64 0] 3)).alloc (.cells (solC f) 24)) := by repeat' (first | (with_reducible exact Below.refl _ _) | (with_reducible assumption) | (with_reducible refine Below.alloc ?_ ?_ _) | (with_reducible refine Below.drew ?_) | (with_reducible refine below_drewN ?_ _) | (with_reducible refine Below.setCell ?_ ?_ _) | go_size)
  have hsz : (((((w.alloc (.cells (solC f) 24)).alloc (.map #[] 0)).alloc (.cells #[.map (some (w.heap.size + 1))] 108)).alloc (.cells #[.int .i64 0] 3)).alloc (.cells (solC f) 24)).heap.size = w.heap.size + 5 := by simp
  obtain ⟨W0, hW0⟩ : ∃ W0, W0 = (((((w.alloc (.cells (solC f) 24)).alloc (.map #[] 0)).alloc (.cells #[.map (some (w.heap.size + 1))] 108)).alloc (.cells #[.int .i64 0] 3)).alloc (.cells (solC f) 24)) := ⟨_, rfl⟩
  rw [← hW0] at bM bN bR sM hB0 hsz ⊢
  clear hW0
  refine wpIn_rangeFunc_ownH rfl (by omega) (gf := 137) (lb := #[.pointer (some ⟨w.heap.size + 1 + 1 + 1 + 1, 0, none⟩)]) rfl trivial (enters_of Tryz.func137 (by kernel_rfl) rfl)
    (cells_stops _ (by omega) (w.heap.size + 1 + 1 + 1 + 1) w.heap.size f HF.out W0 (HTT.out.below hB0 (Nat.le_refl _)) bR HTT.out.pos) belowK_t (belowK_b (by omega)) (Below.refl _ _) (fun _ => rfl)
    (fun (pre : List Cl) W => Boxed W (w.heap.size + 1 + 1) 108 (.map (some (w.heap.size + 1))) ∧ Boxed W (w.heap.size + 1 + 1 + 1) 3 (.int .i64 (eulN pre).2) ∧ Seen W (w.heap.size + 1) (eulN pre).1.length (eulN pre).1 ∧ Below w.heap.size w W)
    (fun _ _ _ => False)
    (OwnFrom.and (own_block _ _ _ rfl) (OwnFrom.and (own_block' _ _ (fun pre : List Cl => .cells #[.int .i64 (eulN pre).2] 3 (0, 0)) fun _ => rfl) (OwnFrom.and (own_seen (by omega) (fun pre : List Cl => (eulN pre).1.length) fun pre => (eulN pre).1) (ownFrom_below (Nat.le_refl _) (by omega)))))
    (fun _ _ _ _ _ hs _ _ => hs)
    ⟨bM, bN, sM, hB0⟩
    (fun (x : Cl) a' W => ∃ Bx, w.heap.size + 1 + 1 + 1 < Bx ∧ BoxC W Bx (cX x : Nat) (cY x : Nat) (cZ x : Nat) ∧ a' = { tmps := #[sol f, .pointer (some ⟨w.heap.size, 0, none⟩), .int .i64 0, .pointer (some ⟨w.heap.size + 1 + 1, 0, none⟩), .pointer (some ⟨w.heap.size + 1 + 1 + 1, 0, none⟩), .pointer (some ⟨Bx, 0, none⟩), undef, .map (some (w.heap.size + 1)), sol f, .func (.func 137) #[] #[.pointer (some ⟨w.heap.size + 1 + 1 + 1 + 1, 0, none⟩)], cell x, undef, undef, undef, undef, undef, undef, undef, undef, undef, undef, undef, undef, undef, undef, undef, undef, undef, undef, undef, undef, undef, undef, undef, undef, undef, undef, undef, undef, undef, undef, undef, undef, undef, undef, undef], defers := [] })
    (fun x a' s X Y row ⟨Bx, h1, h2, h3⟩ hg hr => ⟨Bx, h1, own_block (β := Unit) _ _ _ rfl () X Y row h2 hg hr, h3⟩) ?assign ?body ?done ?stop
  case assign =>
    rintro l pre x W K ⟨i1, i2, i3, i4⟩ hK
    gi_wp2
    have hsW := i4.size
    have lx : w.heap.size + 1 + 1 + 1 < W.heap.size := (Array.getElem?_eq_some_iff.1 i2).1
    exact hK _ _ ((KeepsOthers.alloc _ _).from _) ((Below.refl _ W).alloc hsW _) ⟨i1.alloc _, i2.alloc _, i3.kept (World.grownBy_alloc _ _ none) (by simp), i4.alloc hsW _⟩ ⟨W.heap.size, lx, BoxC.new rfl, rfl⟩
  case body =>
    rintro l pre x a' W hl ⟨r, hr⟩ ⟨i1, i2, i3, i4⟩ ⟨Bx, hBx, bX, rfl⟩ hlt
    have c0 := bX.c0
    have c1 := bX.c1
    have c2 := bX.c2
    have hx := X_le x
    have hy := Y_le x
    have hz := Z_le x
    have hsW := i4.size
    have lB := bX.lt
    have hlen := cellsL_len f
    have hb := eulN_b pre
    have HS := Lib.hid (eulN_snoc pre x)
    obtain ⟨t, ht⟩ : ∃ t, t = eulN pre := ⟨_, rfl⟩
    rw [← ht] at i2 i3 hb HS
    clear ht
    gi_wp2_with (refine ⟨trivial, ?_⟩; gi_at_call 123; refine (CallsIn.inRound l (touching_in _ _ _ _ _)).mono ?_; rintro e w' ⟨rfl, rfl⟩)
    have bY : BoxC (W.alloc (.cells #[.int .i64 (2 * ((cX x : Nat) : Int) + 1), .int .i64 (2 * ((cY x : Nat) : Int) + 1), .int .i64 (2 * ((cZ x : Nat) : Int) + 1)] 26)) W.heap.size (2 * ((cX x : Nat) : Int) + 1) (2 * ((cY x : Nat) : Int) + 1) (2 * ((cZ x : Nat) : Int) + 1) := BoxC.new rfl
    have hr' : (W.alloc (.cells #[.int .i64 (2 * ((cX x : Nat) : Int) + 1), .int .i64 (2 * ((cY x : Nat) : Int) + 1), .int .i64 (2 * ((cZ x : Nat) : Int) + 1)] 26)).heap[l]? = some (.loop r) := (Below.heap_alloc W _ l (Array.getElem?_eq_some_iff.1 hr).1).trans hr
    refine wpIn_rangeFunc_ownN (l₀ := l) (r₀ := r) rfl hr' (by omega) (gf := 152) (lb := #[.pointer (some ⟨W.heap.size, 0, none⟩)]) rfl trivial (enters_of Tryz.func152 (by kernel_rfl) rfl)
      ((touchS_stops _ (by omega) W.heap.size w.heap.size _ _ _ (dbl_sm x) _ bY).inRound l) keepB_t (keepB_b (by simp; omega) (by simp)) (Below.refl _ _) (fun _ => rfl)
      (fun (pre' : List P3) W' => Boxed W' (w.heap.size + 1 + 1) 108 (.map (some (w.heap.size + 1))) ∧ Boxed W' (w.heap.size + 1 + 1 + 1) 3 (.int .i64 (eulI t (pre'.map Subtype.val)).2) ∧ Seen W' (w.heap.size + 1) (eulI t (pre'.map Subtype.val)).1.length (eulI t (pre'.map Subtype.val)).1 ∧ Below w.heap.size W W' ∧ KeepsFrom W0.heap.size W W')
      (fun _ _ _ => False)
      (OwnFrom.and (own_block _ _ _ rfl) (OwnFrom.and (own_block' _ _ (fun pre' : List P3 => .cells #[.int .i64 (eulI t (pre'.map Subtype.val)).2] 3 (0, 0)) fun _ => rfl) (OwnFrom.and (own_seen (by simp; omega) (fun pre' : List P3 => (eulI t (pre'.map Subtype.val)).1.length) fun pre' => (eulI t (pre'.map Subtype.val)).1) (OwnFrom.and (ownFrom_below hsW (by simp; omega)) (ownFrom_keepsFrom (by simp))))))
      (fun _ _ _ _ _ hs _ _ => hs)
      ⟨i1.alloc _, i2.alloc _, i3.kept (World.grownBy_alloc _ _ none) (by simp), (Below.refl _ W).alloc hsW _, (KeepsOthers.alloc _ _).from _⟩
      (fun (y : P3) a'' W' => ∃ By, w.heap.size + 1 + 1 + 1 < By ∧ BoxC W' By y.1.1 y.1.2.1 y.1.2.2 ∧ a'' = { tmps := #[sol f, .pointer (some ⟨w.heap.size, 0, none⟩), .int .i64 0, .pointer (some ⟨w.heap.size + 1 + 1, 0, none⟩), .pointer (some ⟨w.heap.size + 1 + 1 + 1, 0, none⟩), .pointer (some ⟨Bx, 0, none⟩), .pointer (some ⟨By, 0, none⟩), .map (some (w.heap.size + 1)), sol f, .func (.func 137) #[] #[.pointer (some ⟨w.heap.size + 1 + 1 + 1 + 1, 0, none⟩)], cell x,
        .pointer (some ⟨Bx, 0, none⟩), .int .i64 (cX x : Nat), .int .i64 (2 * ((cX x : Nat) : Int)), .int .i64 (2 * ((cX x : Nat) : Int) + 1), .pointer (some ⟨Bx, 1, none⟩), .int .i64 (cY x : Nat), .int .i64 (2 * ((cY x : Nat) : Int)), .int .i64 (2 * ((cY x : Nat) : Int) + 1), .pointer (some ⟨Bx, 2, none⟩), .int .i64 (cZ x : Nat), .int .i64 (2 * ((cZ x : Nat) : Int)), .int .i64 (2 * ((cZ x : Nat) : Int) + 1),
        .agg #[.int .i64 (2 * ((cX x : Nat) : Int) + 1), .int .i64 (2 * ((cY x : Nat) : Int) + 1), .int .i64 (2 * ((cZ x : Nat) : Int) + 1)], .func (.func 152) #[] #[.pointer (some ⟨W.heap.size, 0, none⟩)], encI y.1, undef, undef, undef, undef, undef, undef, undef, undef, undef, undef, undef, undef, undef, undef, undef, undef, undef, undef, undef, undef], defers := [] })
      (fun x a' s X Y row ⟨Bx, h1, h2, h3⟩ hg hr => ⟨Bx, h1, own_block (β := Unit) _ _ _ rfl () X Y row h2 hg hr, h3⟩)
      ?assign2 ?body2 ?done2 ?stop2
    case assign2 =>
      rintro l2 pre' y W' K ⟨j1, j2, j3, j4, j5⟩ hK
      gi_wp2
      have hs' := j4.size
      exact hK _ _ ((KeepsOthers.alloc _ _).from _) ⟨(Below.refl _ W').alloc (by omega) _, fun o ho => (Below.heap_alloc W' _ _ (Array.getElem?_eq_some_iff.1 ho).1).trans ho⟩ ⟨j1.alloc _, j2.alloc _, j3.kept (World.grownBy_alloc _ _ none) (by simp), j4.alloc (by omega) _, j5.trans ((KeepsOthers.alloc _ _).from _)⟩ ⟨W'.heap.size, by omega, BoxC.new rfl, rfl⟩
    case body2 =>
      rintro l2 pre' y a'' W' _ _ ⟨j1, j2, j3, j4, j5⟩ ⟨By, hBy, bY2, rfl⟩ hlt2
      obtain ⟨p, hp⟩ := y
      simp only at bY2
      have d0 := bY2.c0
      have d1 := bY2.c1
      have d2 := bY2.c2
      have cM := j1.cell
      have hb2 := eulI_b (pre'.map Subtype.val) hb
      have HS2 := Lib.hid (show eulI t ((pre' ++ [(⟨p, hp⟩ : P3)]).map Subtype.val) = eulStep (eulI t (pre'.map Subtype.val)) p by rw [List.map_append, List.map_cons, List.map_nil, eulI_snoc])
      rw [List.length_map] at hb2
      obtain ⟨t', ht'⟩ : ∃ t', t' = eulI t (pre'.map Subtype.val) := ⟨_, rfl⟩
      rw [← ht'] at j2 j3 hb2 HS2
      clear ht'
      obtain ⟨sn, nm⟩ := t'
      unfold EulB at hb2
      simp only at j2 j3 hb2
      obtain ⟨hb3, hb4, hb5⟩ := hb2
      have hlk := j3.look hp
      have hs2 := j4.size
      have lM := j3.lt
      have lN : w.heap.size + 1 + 1 + 1 < W'.heap.size := (Array.getElem?_eq_some_iff.1 j2).1
      have lY := bY2.lt
      by_cases hm : p ∈ sn
      · have hd : decide (p ∈ sn) = true := decide_eq_true hm
        rw [hd] at hlk
        have HE := Lib.hid (show eulI t ((pre' ++ [(⟨p, hp⟩ : P3)]).map Subtype.val) = (sn, nm) by rw [HS2.out]; unfold eulStep; rw [if_pos hm])
        clear hd hm
        gi_wp2
        exact ⟨KeepsFrom.refl _ _, ⟨Below.refl _ _, fun _ h => h⟩, j1, by rw [HE.out]; exact j2, by rw [HE.out]; exact j3, j4, j5⟩
      · have hd : decide (p ∈ sn) = false := decide_eq_false hm
        rw [hd] at hlk
        obtain ⟨W2, hput, s2, g2⟩ := j3.put (by simp only [maxLen]; omega) hp
        have cN := (show Boxed W2 (w.heap.size + 1 + 1 + 1) 3 (.int .i64 nm) from (g2.block _ lN (by simp <;> omega)).trans j2)
        have cM2 := (show Boxed W2 (w.heap.size + 1 + 1) 108 (.map (some (w.heap.size + 1))) from (g2.block _ (by omega) (by simp <;> omega)).trans j1)
        have bY3 : BoxC W2 By p.1 p.2.1 p.2.2 := (g2.block _ lY (by simp <;> omega)).trans bY2
        have e0 := bY3.c0
        have e1 := bY3.c1
        have e2 := bY3.c2
        have en := cN.cell
        have fn := cN.frozen
        have hg2 : Below w.heap.size W' W2 := (Below.refl _ W').grown g2 (by omega) (fun j ej => by cases ej; omega)
        have hk2 : ∀ D, w.heap.size + 1 < D → KeepsFrom D W' W2 := fun D hD => KeepsFrom.of_grownBy g2 (fun j ej => by cases ej; omega)
        have hw2 : ∀ o, W'.heap[W.heap.size]? = some o → W2.heap[W.heap.size]? = some o := fun o ho => (g2.block _ (Array.getElem?_eq_some_iff.1 ho).1 (by simp <;> omega)).trans ho
        have hp2 := hp
        unfold Sm3 at hp2
        obtain ⟨q1, q2, q3, q4, q5, q6⟩ := hp2
        have hsn : (sn ++ [p]).length = sn.length + 1 := by simp
        have hlp : (pre'.length : Int) < 27 := by omega
        cases hq : eulP p
        · have hq2 : ((p.1 + p.2.1 + p.2.2).tmod 2 == 0) = false := hq
          have HE := Lib.hid (show eulI t ((pre' ++ [(⟨p, hp⟩ : P3)]).map Subtype.val) = (sn ++ [p], nm - 1) by rw [HS2.out]; unfold eulStep; rw [if_neg hm, hq]; rfl)
          clear hd hm hq
          gi_wp2
          refine ⟨(hk2 _ (by simp <;> omega)).trans ((KeepsOthers.setCell _ _ _).from _), ⟨hg2.setCell (p := ⟨w.heap.size + 1 + 1 + 1, 0, none⟩) (by simp <;> omega) _, fun o ho => (Below.heap_setCell W2 ⟨w.heap.size + 1 + 1 + 1, 0, none⟩ _ _ (by simp <;> omega)).trans (hw2 o ho)⟩, boxed_set cM2 (by omega), by rw [HE.out]; exact cN.set _, ?_, (j4.trans hg2).setCell (p := ⟨w.heap.size + 1 + 1 + 1, 0, none⟩) (by simp <;> omega) _, (j5.trans (hk2 _ (by omega))).trans ((KeepsOthers.setCell _ _ _).from _)⟩
          rw [HE.out]
          simp only [hsn]
          exact s2.kept (grownBy_setCell' W2 (w.heap.size + 1 + 1 + 1) _) (by simp <;> omega)
        · have hq2 : ((p.1 + p.2.1 + p.2.2).tmod 2 == 0) = true := hq
          have HE := Lib.hid (show eulI t ((pre' ++ [(⟨p, hp⟩ : P3)]).map Subtype.val) = (sn ++ [p], nm + 1) by rw [HS2.out]; unfold eulStep; rw [if_neg hm, hq]; rfl)
          clear hd hm hq
          gi_wp2
          refine ⟨(hk2 _ (by simp <;> omega)).trans ((KeepsOthers.setCell _ _ _).from _), ⟨hg2.setCell (p := ⟨w.heap.size + 1 + 1 + 1, 0, none⟩) (by simp <;> omega) _, fun o ho => (Below.heap_setCell W2 ⟨w.heap.size + 1 + 1 + 1, 0, none⟩ _ _ (by simp <;> omega)).trans (hw2 o ho)⟩, boxed_set cM2 (by omega), by rw [HE.out]; exact cN.set _, ?_, (j4.trans hg2).setCell (p := ⟨w.heap.size + 1 + 1 + 1, 0, none⟩) (by simp <;> omega) _, (j5.trans (hk2 _ (by omega))).trans ((KeepsOthers.setCell _ _ _).from _)⟩
          rw [HE.out]
          simp only [hsn]
          exact s2.kept (grownBy_setCell' W2 (w.heap.size + 1 + 1 + 1) _) (by simp <;> omega)
    case done2 =>
      rintro ys' W' hys ⟨j1, j2, j3, j4, j5⟩
      gi_wp2
      have e : eulI t (ys'.map Subtype.val) = eulN (pre ++ [x]) := by rw [HS.out, hys]; rfl
      rw [e] at j2 j3
      exact ⟨j5, j4, j1, j2, j3, i4.trans j4⟩
    case stop2 =>
      rintro c pre' W' _ h
      exact h.elim
  case done =>
    rintro D ys W hD rfl ⟨i1, i2, i3, i4⟩ hK
    have cS := i2.cell
    gi_wp2
    refine ⟨by simp, .inl ⟨_, _, rfl, run_takeDeferred hK, ?_⟩⟩
    exact ⟨_, results_tmp rfl _ _ _, rfl, i4.trans (belowK_b (w := w) (Nat.le_refl _) W D _ _ (by omega) hK rfl rfl)⟩
  case stop =>
    rintro D c pre W _ _ h _
    exact h.elim
end Go.Proofs.YtadkaplafaeebaaGreatDoor
