/-
  When a guarded operation is wanted.
-/
import Derived.Test.YtadkaplafaeebaaGreatDoorPkP
import Derived.BigQuiet
import Derived.Test.YtadkaplafaeebaaGreatDoorPkX
import Derived.Test.YtadkaplafaeebaaGreatDoorPkRB
set_option linter.unusedVariables false
set_option linter.unusedSimpArgs false
namespace Go.Proofs.YtadkaplafaeebaaGreatDoor
open Go Go.RowKit

theorem wanted_at {ops : Array Oper} {o : Oper} {tmps : Array Value} {j t : Nat} {b : Bool} (hg : o.guard = some (j, b)) (hd : dstR ops j = some t) (h : tmps[t]? = some (.bool b)) : Region.wanted o (yielded ops tmps) = true := by
  unfold Region.wanted
  rw [hg]
  have e : yielded ops tmps j = some b := by
    unfold yielded
    rw [show (ops[j]?).bind (·.dst) = some t from hd]
    simp [h]
  simp [e]
end Go.Proofs.YtadkaplafaeebaaGreatDoor
/-
  A drawn region walked once: operations that are passed over, all at once.
-/
set_option linter.unusedVariables false
set_option linter.unusedSimpArgs false
namespace Go.Proofs.YtadkaplafaeebaaGreatDoor
open Go Go.RowKit

section
variable {P : Program} {ops : Array Oper} {C : World → Prop} {Q : Act → Prop}
def offB (j : Nat) (b : Bool) (t : Nat) (l : List Oper) : Bool := l.all fun o => decide (o.guard = some (j, b)) && decide (o.dst ≠ some t)
def putU (l : List Oper) (a : Act) : Act := l.foldl (fun a o => a.put o.dst undef) a
theorem put_keep {a : Act} {d : Option Tmp} {t : Nat} (v : Value) (h : d ≠ some t) : (a.put d v).tmps[t]? = a.tmps[t]? := by
  cases d with
  | none => rfl
  | some d =>
    show (a.tmps.setIfInBounds d v)[t]? = a.tmps[t]?
    rw [Array.getElem?_setIfInBounds]
    rw [if_neg (fun e => h (by rw [e]))]
theorem wpQuiet_offs (j : Nat) (b : Bool) (t : Nat) (hd : dstR ops j = some t) : ∀ (l rest : List Oper) (a : Act), offB j b t l = true → a.tmps[t]? = some (.bool (!b)) → wpQuiet P ops C Q rest (putU l a) → wpQuiet P ops C Q (l ++ rest) a
  | [], rest, a, _, _, h => h
  | o :: l, rest, a, hl, ht, h => by
    unfold offB at hl
    rw [List.all_cons, Bool.and_eq_true, Bool.and_eq_true] at hl
    obtain ⟨⟨h1, h2⟩, h3⟩ := hl
    have h1 := of_decide_eq_true h1
    have h2 := of_decide_eq_true h2
    have e : yielded ops a.tmps j = some (!b) := by
      unfold yielded
      rw [show (ops[j]?).bind (·.dst) = some t from hd]
      simp [ht]
    refine BigFrame.wpQuiet_skip ?_ (wpQuiet_offs j b t hd l rest _ h3 (by rw [put_keep _ h2]; exact ht) h)
    unfold Region.wanted
    rw [h1]
    simp only [e]
    cases b <;> rfl
theorem wpQuiet_off (n j : Nat) (b : Bool) (t : Nat) {L : List Oper} {a : Act} (hd : dstR ops j = some t) (hl : offB j b t (L.take n) = true) (ht : a.tmps[t]? = some (.bool (!b))) (h : wpQuiet P ops C Q (L.drop n) (putU (L.take n) a)) : wpQuiet P ops C Q L a := by
  have := wpQuiet_offs (P := P) (C := C) (Q := Q) j b t hd (L.take n) (L.drop n) a hl ht h
  rwa [List.take_append_drop] at this
end
end Go.Proofs.YtadkaplafaeebaaGreatDoor
/-
  Motions as maps of places; the motion that is told by four points: mathematics.
-/
set_option linter.unusedVariables false
set_option linter.unusedSimpArgs false
namespace Go.Proofs.YtadkaplafaeebaaGreatDoor
open Go Go.RowKit

def mvA (t : Nat) (v p : I3) : I3 := plus (turnI 7 t p) v
theorem mvA_plus {t : Nat} (ht : t < 24) (v p q : I3) : mvA t v (plus p q) = plus (mvA t v p) (turnI 0 t q) := by
  unfold mvA
  rw [turn_plus 7 ht]
  refine I3.ext' ?_ ?_ ?_ <;> simp only <;> omega
theorem mvA_two {t u : Nat} (ht : t < 24) (hu : u < 24) (v1 v2 p : I3) : mvA u v2 (mvA t v1 p) = mvA (compT t u) (plus (turnI 0 u v1) v2) p := by
  unfold mvA
  rw [turn_plus 7 hu, comp_turn 7 ht hu]
  refine I3.ext' ?_ ?_ ?_ <;> simp only <;> omega
abbrev e0 : I3 := (0, 0, 0)
abbrev e1 : I3 := (1, 0, 0)
abbrev e2 : I3 := (0, 1, 0)
abbrev e3 : I3 := (0, 0, 1)
theorem plus_e0 (p : I3) : plus e0 p = p := by refine I3.ext' ?_ ?_ ?_ <;> simp only <;> omega
theorem turn_zero' {t : Nat} (h : t < 24) : turnI 0 t e0 = e0 :=
  (show ∀ k : Fin 24, turnI 0 k.1 e0 = e0 by decide +kernel) ⟨t, h⟩
theorem mv_e {t : Nat} (ht : t < 24) (v p : I3) : mvA t v p = plus (mvA t v e0) (turnI 0 t p) := by
  have := mvA_plus ht v e0 p
  rwa [plus_e0] at this
theorem turn_neg {t : Nat} (h : t < 24) (p : I3) : turnI 0 t (neg p) = neg (turnI 0 t p) := by
  have h1 := turn_plus 0 h p (neg p)
  rw [show plus p (neg p) = e0 by refine I3.ext' ?_ ?_ ?_ <;> simp only <;> omega, turn_zero' h] at h1
  have a := congrArg (·.1) h1
  have b := congrArg (·.2.1) h1
  have c := congrArg (·.2.2) h1
  simp only at a b c
  refine I3.ext' ?_ ?_ ?_ <;> simp only <;> omega
theorem turn_only : ∀ j T : Fin 24, turnI 0 j.1 e1 = turnI 0 T.1 e1 → turnI 0 j.1 e2 = turnI 0 T.1 e2 → turnI 0 j.1 e3 = turnI 0 T.1 e3 → j = T := by decide +kernel
theorem turn_only' {j T : Nat} (hj : j < 24) (hT : T < 24) (h1 : turnI 0 j e1 = turnI 0 T e1) (h2 : turnI 0 j e2 = turnI 0 T e2) (h3 : turnI 0 j e3 = turnI 0 T e3) : j = T :=
  congrArg Fin.val (turn_only ⟨j, hj⟩ ⟨T, hT⟩ h1 h2 h3)
/-- The move with which a turn takes the first point where it is. -/
def ofV (a b : I3) (t : Nat) : I3 := plus b (neg (turnI 7 t a))
def ofOk (a b : Nat → I3) (t : Nat) : Prop := mvA t (ofV (a 0) (b 0) t) (a 1) = b 1 ∧ mvA t (ofV (a 0) (b 0) t) (a 2) = b 2 ∧ mvA t (ofV (a 0) (b 0) t) (a 3) = b 3
abbrev ee (i : Nat) : I3 := match i with | 0 => e0 | 1 => e1 | 2 => e2 | _ => e3
theorem ofV_e {t : Nat} (a b : I3) : mvA t (ofV a b t) a = b := by
  unfold mvA ofV
  refine I3.ext' ?_ ?_ ?_ <;> simp only <;> omega
theorem plus_cancel {p u v : I3} (h : plus p u = plus p v) : u = v := by
  have a := congrArg (·.1) h
  have b := congrArg (·.2.1) h
  have c := congrArg (·.2.2) h
  simp only at a b c
  refine I3.ext' ?_ ?_ ?_ <;> omega
theorem ofV_at {T : Nat} (V a b : I3) (h : mvA T V a = b) : ofV a b T = V := by
  subst h
  unfold mvA ofV
  refine I3.ext' ?_ ?_ ?_ <;> simp only <;> omega
/-- The motion that takes the four points to where T and V take them is T with V alone. -/
theorem of_then {T : Nat} (hT : T < 24) (V : I3) {j : Nat} (hj : j < 24) : ofOk ee (fun i => mvA T V (ee i)) j ↔ j = T := by
  constructor
  · rintro ⟨h1, h2, h3⟩
    have key : ∀ p, mvA j (ofV e0 (mvA T V e0) j) p = mvA T V p → turnI 0 j p = turnI 0 T p := fun p hp => by
      rw [mv_e hj, ofV_e, mv_e hT V p] at hp
      exact plus_cancel hp
    exact turn_only' hj hT (key e1 h1) (key e2 h2) (key e3 h3)
  · rintro rfl
    have : ofV (ee 0) (mvA j V (ee 0)) j = V := ofV_at V _ _ rfl
    unfold ofOk
    simp only [this]
    exact ⟨trivial, trivial, trivial⟩
theorem of_back {t : Nat} (ht : t < 24) (v : I3) {j : Nat} (hj : j < 24) : ofOk (fun i => mvA t v (ee i)) ee j ↔ j = invT t := by
  have hi := inv_lt ht
  have lin : ∀ p, mvA j (ofV (mvA t v e0) e0 j) (mvA t v p) = plus e0 (turnI 0 j (turnI 0 t p)) := fun p => by
    rw [mv_e ht v p, mvA_plus hj, ofV_e]
  constructor
  · rintro ⟨h1, h2, h3⟩
    have key : ∀ p, mvA j (ofV (mvA t v e0) e0 j) (mvA t v p) = p → turnI 0 j (turnI 0 t p) = p := fun p hp => by
      rw [lin, plus_e0] at hp
      exact hp
    have back : ∀ p, turnI 0 j (turnI 0 t p) = p → turnI 0 (compT t j) p = turnI 0 0 p := fun p hp => by
      rw [← comp_turn 0 ht hj, hp]
      rw [turn_ap 0 0 p (by omega)]
      exact (turn_id 0 p).symm
    have h0 : compT t j = 0 := turn_only' (comp_lt ht hj) (by omega) (back e1 (key e1 h1)) (back e2 (key e2 h2)) (back e3 (key e3 h3))
    have hf : ∀ t j : Fin 24, compT t.1 j.1 = 0 → j.1 = invT t.1 := by decide +kernel
    exact hf ⟨t, ht⟩ ⟨j, hj⟩ h0
  · rintro rfl
    have all : ∀ p, mvA (invT t) (ofV (mvA t v e0) e0 (invT t)) (mvA t v p) = p := fun p => by
      rw [lin, plus_e0, inv_turn 0 ht]
    exact ⟨all e1, all e2, all e3⟩
theorem ofV_back {t : Nat} (ht : t < 24) (v : I3) : ofV (mvA t v e0) e0 (invT t) = turnI 0 (invT t) (neg v) := by
  rw [turn_neg (inv_lt ht)]
  refine ofV_at _ _ _ ?_
  unfold mvA
  rw [turn_plus 7 (inv_lt ht), inv_turn 7 ht]
  refine I3.ext' ?_ ?_ ?_ <;> simp only <;> omega
theorem back_to {t : Nat} (ht : t < 24) : toTurn (turnI 0 t (1, 2, 3)) (1, 2, 3) (invT t) :=
  ⟨inv_turn 0 ht _, fun j hj => (show ∀ t : Fin 24, ∀ j : Fin 24, j.1 < invT t.1 → turnI 0 j.1 (turnI 0 t.1 (1, 2, 3)) ≠ (1, 2, 3) by decide +kernel) ⟨t, ht⟩ ⟨j, Nat.lt_trans hj (inv_lt ht)⟩ hj⟩
theorem mvA_back {t : Nat} (ht : t < 24) (v p : I3) : mvA (invT t) (turnI 0 (invT t) (neg v)) (mvA t v p) = p := by
  rw [mvA_two ht (inv_lt ht)]
  rw [show plus (turnI 0 (invT t) v) (turnI 0 (invT t) (neg v)) = e0 by
    rw [turn_neg (inv_lt ht)]
    refine I3.ext' ?_ ?_ ?_ <;> simp only <;> omega]
  unfold mvA
  rw [← comp_turn 7 ht (inv_lt ht), inv_turn 7 ht]
  refine I3.ext' ?_ ?_ ?_ <;> simp only <;> omega
end Go.Proofs.YtadkaplafaeebaaGreatDoor
/-
  The reference's carried and corners.
-/
set_option linter.unusedVariables false
set_option linter.unusedSimpArgs false
namespace Go.Proofs.YtadkaplafaeebaaGreatDoor
open Go Go.RowKit

abbrev Box12 (W : World) (b : Nat) (a0 a1 a2 b0 b1 b2 c0 c1 c2 d0 d1 d2 : Int) : Prop := W.heap[b]? = some (.cells #[.int .i64 (a0), .int .i64 (a1), .int .i64 (a2), .int .i64 (b0), .int .i64 (b1), .int .i64 (b2), .int .i64 (c0), .int .i64 (c1), .int .i64 (c2), .int .i64 (d0), .int .i64 (d1), .int .i64 (d2)] 96 (0, 0))
theorem turnI_sf {p : I3} (h : Sf p) (t : Nat) : Sf (turnI 7 t p) := upN_sf (rollI_sf h _) _
set_option maxRecDepth 100000 in
set_option maxHeartbeats 4000000 in
theorem carried_ok (p : I3) (t : Nat) (x y z : Int) (w : World) (hp : Sf p) (ht : t < 24) (hx : Sm x) (hy : Sm y) (hz : Sm z) :
    Calls Tryz.prog 114 #[encI p, .agg #[.int .i64 (t), .int .i64 (x), .int .i64 (y), .int .i64 (z)]] w fun e w' => e = .returned (encI (plus (turnI 7 t p) (x, y, z))) ∧ Below w.heap.size w w' := by
  have hs := turnI_sf hp t
  have HT := Lib.hid (fun W => rturned_ok t p W ht hp)
  have HM : Hid (∀ W : World, Calls Tryz.prog 104 #[encI (turnI 7 t p), .int .i64 x, .int .i64 y, .int .i64 z] W fun e w' => e = .returned (encI (plus (turnI 7 t p) (x, y, z))) ∧ Below W.heap.size W w') := Lib.hid fun W => by
    unfold Sf at hs
    exact rmoved_ok _ _ _ x y z W (by unfold Sm; omega) (by unfold Sm; omega) (by unfold Sm; omega) hx hy hz
  generalize turnI 7 t p = q at *
  generalize plus q (x, y, z) = r at *
  clear hs
  obtain ⟨p0, p1, p2⟩ := p
  obtain ⟨r0, r1, r2⟩ := r
  have bP : BoxC (((w.alloc (.cells #[.int .i64 (p0), .int .i64 (p1), .int .i64 (p2)] 26)).alloc (.cells #[.int .i64 (t), .int .i64 (x), .int .i64 (y), .int .i64 (z)] 46)).alloc (.cells #[.int .i64 (0), .int .i64 (0), .int .i64 (0)] 26)) w.heap.size p0 p1 p2 := BoxC.alloc (BoxC.alloc (BoxC.new rfl) _) _
  have bM : Q4 (((w.alloc (.cells #[.int .i64 (p0), .int .i64 (p1), .int .i64 (p2)] 26)).alloc (.cells #[.int .i64 (t), .int .i64 (x), .int .i64 (y), .int .i64 (z)] 46)).alloc (.cells #[.int .i64 (0), .int .i64 (0), .int .i64 (0)] 26)) (w.heap.size + 1) t x y z := blk_alloc (blk_new (by simp)) _
  have bR : BoxC (((w.alloc (.cells #[.int .i64 (p0), .int .i64 (p1), .int .i64 (p2)] 26)).alloc (.cells #[.int .i64 (t), .int .i64 (x), .int .i64 (y), .int .i64 (z)] 46)).alloc (.cells #[.int .i64 (0), .int .i64 (0), .int .i64 (0)] 26)) (w.heap.size + 1 + 1) 0 0 0 := BoxC.new (by simp)
  have hB : Below w.heap.size w (((w.alloc (.cells #[.int .i64 (p0), .int .i64 (p1), .int .i64 (p2)] 26)).alloc (.cells #[.int .i64 (t), .int .i64 (x), .int .i64 (y), .int .i64 (z)] 46)).alloc (.cells #[.int .i64 (0), .int .i64 (0), .int .i64 (0)] 26)) := by repeat' (first | (with_reducible exact Below.refl _ _) | (with_reducible assumption) | (with_reducible refine Below.alloc ?_ ?_ _) | (with_reducible refine Below.drew ?_) | (with_reducible refine below_drewN ?_ _) | (with_reducible refine Below.setCell ?_ ?_ _) | go_size)
  go_enter Tryz.func114, Tryz.ntmps114
  go_wp2
  obtain ⟨W, hW⟩ : ∃ W, W = (((w.alloc (.cells #[.int .i64 (p0), .int .i64 (p1), .int .i64 (p2)] 26)).alloc (.cells #[.int .i64 (t), .int .i64 (x), .int .i64 (y), .int .i64 (z)] 46)).alloc (.cells #[.int .i64 (0), .int .i64 (0), .int .i64 (0)] 26)) := ⟨_, rfl⟩
  rw [← hW] at bP bM bR hB ⊢
  clear hW
  have lP := bP.lt
  have lM := blk_lt bM
  have lR := bR.lt
  obtain ⟨a0, a1, a2⟩ := BoxC.cells bP
  obtain ⟨m0, m1, m2, m3⟩ := Q4.cells bM
  (refine wp_region_quiet_tail 11 (fun w' => Below W.heap.size W w') (by kernel_rfl) (by kernel_rfl) (Below.drew (Below.refl _ _)) ?_; simp only [List.take_succ_cons, List.take_zero, List.drop_succ_cons, List.drop_zero]; (iterate 11 (refine wpQuiet_step (fun K hK => ?_); go_simp; first | (refine hK _ ?_; clear hK K) | (apply Exists.intro; refine ⟨fun W' hW' => ?_, hK _ ?_⟩; (focus (first | (with_reducible exact rfl) | (with_reducible exact ⟨rfl, rfl⟩) | (obtain ⟨hcq, hfq⟩ := bcell hW'; have hzq := hW'.size; (try go_simp); first | (with_reducible exact rfl) | (with_reducible exact ⟨rfl, rfl⟩) | (first | ((with_reducible refine Calls.mono (HT.out _) ?_); rintro e w9 ⟨rfl, hb9⟩; exact ⟨rfl, hW'.trans (hb9.mono hW'.size)⟩) | ((with_reducible refine Calls.mono (HM.out _) ?_); rintro e w9 ⟨rfl, hb9⟩; exact ⟨rfl, hW'.trans (hb9.mono hW'.size)⟩))))); clear hK K))); refine wpQuiet_nil ?_; intro w1q hb1q)
  have bR2 := blk_below bR hb1q lR
  have hB2 : Below w.heap.size w w1q := hB.trans (hb1q.mono hB.size)
  clear a0 a1 a2 m0 m1 m2 m3 bP bM bR hB
  obtain ⟨k0, k1, k2⟩ := BoxC.cells bR2
  have f0 := BoxC.free bR2 0
  have f1 := BoxC.free bR2 1
  have f2 := BoxC.free bR2 2
  have bR3 : BoxC (((w1q.setCell ⟨w.heap.size + 1 + 1, 0, none⟩ (.int .i64 r0)).setCell ⟨w.heap.size + 1 + 1, 1, none⟩ (.int .i64 r1)).setCell ⟨w.heap.size + 1 + 1, 2, none⟩ (.int .i64 r2)) (w.heap.size + 1 + 1) r0 r1 r2 := blk_set (k := 2) (blk_set (k := 1) (blk_set (k := 0) bR2 (.int .i64 r0)) (.int .i64 r1)) (.int .i64 r2)
  have hB3 : Below w.heap.size w (((w1q.setCell ⟨w.heap.size + 1 + 1, 0, none⟩ (.int .i64 r0)).setCell ⟨w.heap.size + 1 + 1, 1, none⟩ (.int .i64 r1)).setCell ⟨w.heap.size + 1 + 1, 2, none⟩ (.int .i64 r2)) := ((hB2.setCell (p := ⟨w.heap.size + 1 + 1, 0, none⟩) (by simp; omega) _).setCell (p := ⟨w.heap.size + 1 + 1, 1, none⟩) (by simp; omega) _).setCell (p := ⟨w.heap.size + 1 + 1, 2, none⟩) (by simp; omega) _
  go_wp2
  refine bodyPost_ret (res_3 Tryz.results114 rfl bR3.c0 bR3.c1 bR3.c2) rfl ⟨rfl, hB3⟩
end Go.Proofs.YtadkaplafaeebaaGreatDoor
/-
  The reference's corners and of.
-/
set_option linter.unusedVariables false
set_option linter.unusedSimpArgs false
namespace Go.Proofs.YtadkaplafaeebaaGreatDoor
open Go Go.RowKit

theorem res_12 {fn : Func} {t : Tmp} {tmps : Array Value} {W : World} {B : Nat} {a0 a1 a2 b0 b1 b2 c0 c1 c2 d0 d1 d2 : Int} (hB : Box12 W B a0 a1 a2 b0 b1 b2 c0 c1 c2 d0 d1 d2) (h : fn.results = #[.cell t 96]) (ht : tmps[t]?.getD undef = .pointer (some ⟨B, 0, none⟩)) :
    (results fn tmps).run Tryz.prog W = .ok (.agg #[.int .i64 (a0), .int .i64 (a1), .int .i64 (a2), .int .i64 (b0), .int .i64 (b1), .int .i64 (b2), .int .i64 (c0), .int .i64 (c1), .int .i64 (c2), .int .i64 (d0), .int .i64 (d1), .int .i64 (d2)]) W := by
  have h0 := blk_cell (k := 0) hB; have h1 := blk_cell (k := 1) hB; have h2 := blk_cell (k := 2) hB; have h3 := blk_cell (k := 3) hB
  have h4 := blk_cell (k := 4) hB; have h5 := blk_cell (k := 5) hB; have h6 := blk_cell (k := 6) hB; have h7 := blk_cell (k := 7) hB
  have h8 := blk_cell (k := 8) hB; have h9 := blk_cell (k := 9) hB; have h10 := blk_cell (k := 10) hB; have h11 := blk_cell (k := 11) hB
  simp only [List.getElem?_toArray, List.getElem?_cons_zero, List.getElem?_cons_succ] at h0 h1 h2 h3 h4 h5 h6 h7 h8 h9 h10 h11
  simp [results, h, ht, go_sem, h0, h1, h2, h3, h4, h5, h6, h7, h8, h9, h10, h11]
set_option maxRecDepth 100000 in
set_option maxHeartbeats 4000000 in
theorem corners_ok (w : World) : Calls Tryz.prog 113 #[] w fun e w' => e = .returned (.agg #[.int .i64 (0), .int .i64 (0), .int .i64 (0), .int .i64 (1), .int .i64 (0), .int .i64 (0), .int .i64 (0), .int .i64 (1), .int .i64 (0), .int .i64 (0), .int .i64 (0), .int .i64 (1)]) ∧ Below w.heap.size w w' := by
  go_enter Tryz.func113, Tryz.ntmps113
  go_wp2
  exact bodyPost_ret (res_12 (blk_new rfl) Tryz.results113 rfl) rfl ⟨rfl, by go_grown⟩
abbrev v12 (a : Nat → I3) : Value := .agg #[.int .i64 ((a 0).1), .int .i64 ((a 0).2.1), .int .i64 ((a 0).2.2), .int .i64 ((a 1).1), .int .i64 ((a 1).2.1), .int .i64 ((a 1).2.2), .int .i64 ((a 2).1), .int .i64 ((a 2).2.1), .int .i64 ((a 2).2.2), .int .i64 ((a 3).1), .int .i64 ((a 3).2.1), .int .i64 ((a 3).2.2)]
abbrev B12 (W : World) (b : Nat) (a : Nat → I3) : Prop := Box12 W b (a 0).1 (a 0).2.1 (a 0).2.2 (a 1).1 (a 1).2.1 (a 1).2.2 (a 2).1 (a 2).2.1 (a 2).2.2 (a 3).1 (a 3).2.1 (a 3).2.2
theorem B12.cells {W : World} {b : Nat} {a : Nat → I3} (h : B12 W b a) :
    ((W.cell? ⟨b, 0, none⟩ = some (.int .i64 (a 0).1) ∧ W.cell? ⟨b, 1, none⟩ = some (.int .i64 (a 0).2.1) ∧ W.cell? ⟨b, 2, none⟩ = some (.int .i64 (a 0).2.2)) ∧
    (W.cell? ⟨b, 3, none⟩ = some (.int .i64 (a 1).1) ∧ W.cell? ⟨b, 4, none⟩ = some (.int .i64 (a 1).2.1) ∧ W.cell? ⟨b, 5, none⟩ = some (.int .i64 (a 1).2.2))) ∧
    (W.cell? ⟨b, 6, none⟩ = some (.int .i64 (a 2).1) ∧ W.cell? ⟨b, 7, none⟩ = some (.int .i64 (a 2).2.1) ∧ W.cell? ⟨b, 8, none⟩ = some (.int .i64 (a 2).2.2)) ∧
    (W.cell? ⟨b, 9, none⟩ = some (.int .i64 (a 3).1) ∧ W.cell? ⟨b, 10, none⟩ = some (.int .i64 (a 3).2.1) ∧ W.cell? ⟨b, 11, none⟩ = some (.int .i64 (a 3).2.2)) := by
  have h0 := blk_cell (k := 0) h; have h1 := blk_cell (k := 1) h; have h2 := blk_cell (k := 2) h; have h3 := blk_cell (k := 3) h
  have h4 := blk_cell (k := 4) h; have h5 := blk_cell (k := 5) h; have h6 := blk_cell (k := 6) h; have h7 := blk_cell (k := 7) h
  have h8 := blk_cell (k := 8) h; have h9 := blk_cell (k := 9) h; have h10 := blk_cell (k := 10) h; have h11 := blk_cell (k := 11) h
  simp only [List.getElem?_toArray, List.getElem?_cons_zero, List.getElem?_cons_succ] at h0 h1 h2 h3 h4 h5 h6 h7 h8 h9 h10 h11
  exact ⟨⟨⟨h0, h1, h2⟩, h3, h4, h5⟩, ⟨h6, h7, h8⟩, h9, h10, h11⟩
/-- Whether a turn takes a point where it is to be. -/
def ofB (a b : Nat → I3) (j i : Nat) : Bool := eqC (mvA j (ofV (a 0) (b 0) j) (a i)) (b i)
set_option maxRecDepth 100000 in
set_option maxHeartbeats 4000000 in
theorem rof_ok (a b : Nat → I3) (T : Nat) (w : World) (hT : T < 24) (ha : ∀ i, i < 4 → Sf (a i)) (hb : Sf (b 0)) (h0 : ∀ j, j < T → ¬ ofOk a b j) (h1 : ofOk a b T) :
    Calls Tryz.prog 115 #[v12 a, v12 b] w fun e w' => e = .returned (.tuple #[.agg #[.int .i64 (T), .int .i64 ((ofV (a 0) (b 0) T).1), .int .i64 ((ofV (a 0) (b 0) T).2.1), .int .i64 ((ofV (a 0) (b 0) T).2.2)], .bool true]) ∧ Below w.heap.size w w' := by
  have HA := Lib.hid ha
  have HBB := Lib.hid hb
  have H0 := Lib.hid h0
  have H1 := Lib.hid h1
  clear ha hb h0 h1
  go_enter Tryz.func115, Tryz.ntmps115
  go_wp2_with fail
  go_loopw [6] (fun c wr => ∃ j : Nat, j ≤ T ∧ c = .int .i64 j ∧ B12 wr w.heap.size a ∧ B12 wr (w.heap.size + 1) b ∧ Q4 wr (w.heap.size + 1 + 1) 0 0 0 0 ∧ Below w.heap.size w wr) (fun c _ => 24 - (intOf c).toNat)
  case atStart => exact ⟨0, by omega, rfl, blk_alloc (blk_alloc (blk_new rfl) _) _, blk_alloc (blk_new (by simp)) _, blk_new (by simp), by repeat' (first | (with_reducible exact Below.refl _ _) | (with_reducible assumption) | (with_reducible refine Below.alloc ?_ ?_ _) | (with_reducible refine Below.drew ?_) | (with_reducible refine below_drewN ?_ _) | (with_reducible refine Below.setCell ?_ ?_ _) | go_size)⟩
  case round =>
    obtain ⟨j, hj, rfl, bA, bB, bR, hB⟩ := hrel
    have hj24 : j < 24 := by omega
    have hd : decide ((j : Int) < 24) = true := decide_eq_true (by omega)
    obtain ⟨⟨⟨a0, a1, a2⟩, a3, a4, a5⟩, ⟨a6, a7, a8⟩, a9, a10, a11⟩ := B12.cells bA
    have hs := turnI_sf (HA.out 0 (by omega)) j
    have HT := Lib.hid (fun (W : World) => rturned_ok j (a 0) W hj24 (HA.out 0 (by omega)))
    obtain ⟨q, hq⟩ : ∃ q, q = turnI 7 j (a 0) := ⟨_, rfl⟩
    rw [← hq] at hs HT
    obtain ⟨V, hV⟩ : ∃ V, V = ofV (a 0) (b 0) j := ⟨_, rfl⟩
    have hb0 := HBB.out
    have v0 : (b 0).1 - q.1 = V.1 := by rw [hV, hq]; unfold ofV; simp only; omega
    have v1 : (b 0).2.1 - q.2.1 = V.2.1 := by rw [hV, hq]; unfold ofV; simp only; omega
    have v2 : (b 0).2.2 - q.2.2 = V.2.2 := by rw [hV, hq]; unfold ofV; simp only; omega
    unfold Sf at hs hb0
    have w0 : IntKind.i64.wrap ((b 0).1 - q.1) = V.1 := by rw [IntWalk.i64_in _ (by omega)]; exact v0
    have w1 : IntKind.i64.wrap ((b 0).2.1 - q.2.1) = V.2.1 := by rw [IntWalk.i64_in _ (by omega)]; exact v1
    have w2 : IntKind.i64.wrap ((b 0).2.2 - q.2.2) = V.2.2 := by rw [IntWalk.i64_in _ (by omega)]; exact v2
    have HV := Lib.hid hV
    have HVB : Hid (Sm V.1 ∧ Sm V.2.1 ∧ Sm V.2.2) := Lib.hid (by unfold Sm; omega)
    clear hq hV hb0 v0 v1 v2
    go_wp2_with fail
    (with_reducible refine Calls.mono (HT.out _) ?_)
    rintro e x1 ⟨rfl, hb1⟩
    have bA1 := blk_below bA hb1 (blk_lt bA)
    have bB1 := blk_below bB hb1 (blk_lt bB)
    have bR1 := blk_below bR hb1 (blk_lt bR)
    have hB1 : Below w.heap.size w x1 := up hb1 hB
    clear a0 a1 a2 a3 a4 a5 a6 a7 a8 a9 a10 a11 bA bB bR hB hb1
    obtain ⟨⟨⟨a0, a1, a2⟩, a3, a4, a5⟩, ⟨a6, a7, a8⟩, a9, a10, a11⟩ := B12.cells bA1
    obtain ⟨⟨⟨b0, b1, b2⟩, b3, b4, b5⟩, ⟨b6, b7, b8⟩, b9, b10, b11⟩ := B12.cells bB1
    have lA : w.heap.size < x1.heap.size := blk_lt bA1
    have lB : w.heap.size + 1 < x1.heap.size := blk_lt bB1
    have lR : w.heap.size + 1 + 1 < x1.heap.size := blk_lt bR1
    go_wp2_with fail
    --CASES
    have bA2 := blk_alloc (blk_alloc bA1 (.cells #[.int .i64 (q.1), .int .i64 (q.2.1), .int .i64 (q.2.2)] 26)) (.cells #[.int .i64 (j), .int .i64 (V.1), .int .i64 (V.2.1), .int .i64 (V.2.2)] 46)
    have bB2 := blk_alloc (blk_alloc bB1 (.cells #[.int .i64 (q.1), .int .i64 (q.2.1), .int .i64 (q.2.2)] 26)) (.cells #[.int .i64 (j), .int .i64 (V.1), .int .i64 (V.2.1), .int .i64 (V.2.2)] 46)
    have bR2 := blk_alloc (blk_alloc bR1 (.cells #[.int .i64 (q.1), .int .i64 (q.2.1), .int .i64 (q.2.2)] 26)) (.cells #[.int .i64 (j), .int .i64 (V.1), .int .i64 (V.2.1), .int .i64 (V.2.2)] 46)
    have bM2 : Q4 ((x1.alloc (.cells #[.int .i64 (q.1), .int .i64 (q.2.1), .int .i64 (q.2.2)] 26)).alloc (.cells #[.int .i64 (j), .int .i64 (V.1), .int .i64 (V.2.1), .int .i64 (V.2.2)] 46)) (x1.heap.size + 1) j V.1 V.2.1 V.2.2 := blk_new (by simp)
    have hB2 := (hB1.alloc hB1.size (.cells #[.int .i64 (q.1), .int .i64 (q.2.1), .int .i64 (q.2.2)] 26)).alloc (by simp; have := hB1.size; omega) (.cells #[.int .i64 (j), .int .i64 (V.1), .int .i64 (V.2.1), .int .i64 (V.2.2)] 46)
    obtain ⟨N, hN⟩ : ∃ N, N = x1.heap.size := ⟨_, rfl⟩
    obtain ⟨W, hW⟩ : ∃ W, W = (x1.alloc (.cells #[.int .i64 (q.1), .int .i64 (q.2.1), .int .i64 (q.2.2)] 26)).alloc (.cells #[.int .i64 (j), .int .i64 (V.1), .int .i64 (V.2.1), .int .i64 (V.2.2)] 46) := ⟨_, rfl⟩
    rw [← hW] at bA2 bB2 bR2 bM2 hB2 ⊢
    rw [← hN] at bM2 ⊢
    clear a0 a1 a2 a3 a4 a5 a6 a7 a8 a9 a10 a11 b0 b1 b2 b3 b4 b5 b6 b7 b8 b9 b10 b11 bA1 bB1 bR1 hB1 lA lB lR hW hN w0 w1 w2 hs HT
    obtain ⟨⟨⟨a0, a1, a2⟩, a3, a4, a5⟩, ⟨a6, a7, a8⟩, a9, a10, a11⟩ := B12.cells bA2
    obtain ⟨⟨⟨b0, b1, b2⟩, b3, b4, b5⟩, ⟨b6, b7, b8⟩, b9, b10, b11⟩ := B12.cells bB2
    obtain ⟨m0, m1, m2, m3⟩ := Q4.cells bM2
    have lA : w.heap.size < W.heap.size := blk_lt bA2
    have lB : w.heap.size + 1 < W.heap.size := blk_lt bB2
    have lR : w.heap.size + 1 + 1 < W.heap.size := blk_lt bR2
    have lM : N + 1 < W.heap.size := blk_lt bM2
    have hok : ofOk a b j ↔ (ofB a b j 1 = true ∧ ofB a b j 2 = true ∧ ofB a b j 3 = true) := by unfold ofOk ofB eqC; simp only [decide_eq_true_eq]
    have HOK := Lib.hid hok
    clear hok
    unfold ofB at HOK
    rw [← HV.out] at HOK
    have C1 := Lib.hid (fun (X : World) => carried_ok (a 1) j V.1 V.2.1 V.2.2 X (HA.out 1 (by omega)) hj24 HVB.out.1 HVB.out.2.1 HVB.out.2.2)
    obtain ⟨r1, hr1⟩ : ∃ r, r = mvA j V (a 1) := ⟨_, rfl⟩
    rw [show plus (turnI 7 j (a 1)) (V.1, V.2.1, V.2.2) = mvA j V (a 1) from rfl, ← hr1] at C1
    rw [← hr1] at HOK
    have C2 := Lib.hid (fun (X : World) => carried_ok (a 2) j V.1 V.2.1 V.2.2 X (HA.out 2 (by omega)) hj24 HVB.out.1 HVB.out.2.1 HVB.out.2.2)
    obtain ⟨r2, hr2⟩ : ∃ r, r = mvA j V (a 2) := ⟨_, rfl⟩
    rw [show plus (turnI 7 j (a 2)) (V.1, V.2.1, V.2.2) = mvA j V (a 2) from rfl, ← hr2] at C2
    rw [← hr2] at HOK
    have C3 := Lib.hid (fun (X : World) => carried_ok (a 3) j V.1 V.2.1 V.2.2 X (HA.out 3 (by omega)) hj24 HVB.out.1 HVB.out.2.1 HVB.out.2.2)
    obtain ⟨r3, hr3⟩ : ∃ r, r = mvA j V (a 3) := ⟨_, rfl⟩
    rw [show plus (turnI 7 j (a 3)) (V.1, V.2.1, V.2.2) = mvA j V (a 3) from rfl, ← hr3] at C3
    rw [← hr3] at HOK
    clear hr1 hr2 hr3
    rcases Bool.eq_false_or_eq_true (eqC (r1.1, r1.2.1, r1.2.2) ((b 1).1, (b 1).2.1, (b 1).2.2)) with h1 | h1
    · rcases Bool.eq_false_or_eq_true (eqC (r2.1, r2.2.1, r2.2.2) ((b 2).1, (b 2).2.1, (b 2).2.2)) with h2 | h2
      · rcases Bool.eq_false_or_eq_true (eqC (r3.1, r3.2.1, r3.2.2) ((b 3).1, (b 3).2.1, (b 3).2.2)) with h3 | h3
        · refine wp_region_quiet (C := fun w' => Below W.heap.size W w') (by kernel_rfl) (by kernel_rfl) (Below.drew (Below.refl _ _)) ?_
          iterate 25 (refine wpQuiet_step (fun K hK => ?_); go_simp; first | (refine hK _ ?_; clear hK K) | (apply Exists.intro; refine ⟨fun W' hW' => ?_, hK _ ?_⟩; (focus (first | (with_reducible exact rfl) | (with_reducible exact ⟨rfl, rfl⟩) | (obtain ⟨hcq, hfq⟩ := bcell hW'; have hzq := hW'.size; (try go_simp); first | (with_reducible exact rfl) | (with_reducible exact ⟨rfl, rfl⟩) | (first | ((with_reducible refine Calls.mono (C1.out _) ?_); rintro e w9 ⟨rfl, hb9⟩; exact ⟨rfl, hW'.trans (hb9.mono hW'.size)⟩) | ((with_reducible refine Calls.mono (C2.out _) ?_); rintro e w9 ⟨rfl, hb9⟩; exact ⟨rfl, hW'.trans (hb9.mono hW'.size)⟩) | ((with_reducible refine Calls.mono (C3.out _) ?_); rintro e w9 ⟨rfl, hb9⟩; exact ⟨rfl, hW'.trans (hb9.mono hW'.size)⟩))))); clear hK K))
          refine wpQuiet_nil ?_
          intro w1q hb1q
          have bR3 := blk_below bR2 hb1q lR
          have bM3 := blk_below bM2 hb1q lM
          have hB3 : Below w.heap.size w w1q := up hb1q hB2
          have hjT : j = T := Classical.byContradiction fun e => H0.out j (by omega) (HOK.out.2 ⟨h1, h2, h3⟩)
          subst hjT
          have lR3 := blk_lt bR3
          have lM3 := blk_lt bM3
          clear a0 a1 a2 a3 a4 a5 a6 a7 a8 a9 a10 a11 b0 b1 b2 b3 b4 b5 b6 b7 b8 b9 b10 b11 m0 m1 m2 m3
          obtain ⟨m0, m1, m2, m3⟩ := Q4.cells bM3
          obtain ⟨n0, n1, n2, n3⟩ := Q4.cells bR3
          have f0 := blk_free (k := 0) bR3; have f1 := blk_free (k := 1) bR3; have f2 := blk_free (k := 2) bR3; have f3 := blk_free (k := 3) bR3
          go_wp2_with fail
          have bE := blk_set (k := 3) (blk_set (k := 2) (blk_set (k := 1) (blk_set (k := 0) bR3 (.int .i64 j)) (.int .i64 V.1)) (.int .i64 V.2.1)) (.int .i64 V.2.2)
          refine bodyPost_ret (res_4e Tryz.results115 rfl (blk_cell (k := 0) bE) (blk_cell (k := 1) bE) (blk_cell (k := 2) bE) (blk_cell (k := 3) bE)) rfl ⟨by rw [← HV.out]; rfl, ?_⟩
          repeat' (first | (with_reducible exact Below.refl _ _) | (with_reducible assumption) | (with_reducible refine Below.alloc ?_ ?_ _) | (with_reducible refine Below.drew ?_) | (with_reducible refine below_drewN ?_ _) | (with_reducible refine Below.setCell ?_ ?_ _) | go_size)
        · refine wp_region_quiet (C := fun w' => Below W.heap.size W w') (by kernel_rfl) (by kernel_rfl) (Below.drew (Below.refl _ _)) ?_
          iterate 25 (refine wpQuiet_step (fun K hK => ?_); go_simp; first | (refine hK _ ?_; clear hK K) | (apply Exists.intro; refine ⟨fun W' hW' => ?_, hK _ ?_⟩; (focus (first | (with_reducible exact rfl) | (with_reducible exact ⟨rfl, rfl⟩) | (obtain ⟨hcq, hfq⟩ := bcell hW'; have hzq := hW'.size; (try go_simp); first | (with_reducible exact rfl) | (with_reducible exact ⟨rfl, rfl⟩) | (first | ((with_reducible refine Calls.mono (C1.out _) ?_); rintro e w9 ⟨rfl, hb9⟩; exact ⟨rfl, hW'.trans (hb9.mono hW'.size)⟩) | ((with_reducible refine Calls.mono (C2.out _) ?_); rintro e w9 ⟨rfl, hb9⟩; exact ⟨rfl, hW'.trans (hb9.mono hW'.size)⟩) | ((with_reducible refine Calls.mono (C3.out _) ?_); rintro e w9 ⟨rfl, hb9⟩; exact ⟨rfl, hW'.trans (hb9.mono hW'.size)⟩))))); clear hK K))
          refine wpQuiet_nil ?_
          intro w1q hb1q
          have bA3 := blk_below bA2 hb1q lA
          have bB3 := blk_below bB2 hb1q lB
          have bR3 := blk_below bR2 hb1q lR
          have hB3 : Below w.heap.size w w1q := up hb1q hB2
          have hjT : j < T := Nat.lt_of_le_of_ne hj fun e => by
            have := H1.out
            rw [← e] at this
            have := HOK.out.1 this
            simp_all
          go_wp2_with fail
          go_roundw
          case rel => exact ⟨j + 1, by omega, by go_num, bA3, bB3, bR3, hB3⟩
          case measure => simp [intOf]; omega
      · refine wp_region_quiet (C := fun w' => Below W.heap.size W w') (by kernel_rfl) (by kernel_rfl) (Below.drew (Below.refl _ _)) ?_
        iterate 16 (refine wpQuiet_step (fun K hK => ?_); go_simp; first | (refine hK _ ?_; clear hK K) | (apply Exists.intro; refine ⟨fun W' hW' => ?_, hK _ ?_⟩; (focus (first | (with_reducible exact rfl) | (with_reducible exact ⟨rfl, rfl⟩) | (obtain ⟨hcq, hfq⟩ := bcell hW'; have hzq := hW'.size; (try go_simp); first | (with_reducible exact rfl) | (with_reducible exact ⟨rfl, rfl⟩) | (first | ((with_reducible refine Calls.mono (C1.out _) ?_); rintro e w9 ⟨rfl, hb9⟩; exact ⟨rfl, hW'.trans (hb9.mono hW'.size)⟩) | ((with_reducible refine Calls.mono (C2.out _) ?_); rintro e w9 ⟨rfl, hb9⟩; exact ⟨rfl, hW'.trans (hb9.mono hW'.size)⟩) | ((with_reducible refine Calls.mono (C3.out _) ?_); rintro e w9 ⟨rfl, hb9⟩; exact ⟨rfl, hW'.trans (hb9.mono hW'.size)⟩))))); clear hK K))
        refine wpQuiet_step (fun K hK => ?_)
        go_simp
        first | (generalize hA : (Act.mk _ _ : Act) = A; refine hK A ?_; clear hK K) | (refine ⟨.bool false, fun W' hW' => rfl, ?_⟩; generalize hA : (Act.mk _ _ : Act) = A; refine hK A ?_; clear hK K)
        have hAt : A.tmps[53]? = some (.bool false) := by rw [← hA]; rfl
        refine wpQuiet_off 7 16 true 53 (by kernel_rfl) (by kernel_rfl) hAt ?_
        clear hAt
        subst hA
        simp only [putU, List.take_succ_cons, List.take_zero, List.foldl_cons, List.foldl_nil, Act.put, List.setIfInBounds_toArray, List.set_cons_succ, List.set_cons_zero, List.drop_succ_cons, List.drop_zero]
        iterate 1 (refine wpQuiet_step (fun K hK => ?_); go_simp; first | (refine hK _ ?_; clear hK K) | (apply Exists.intro; refine ⟨fun W' hW' => ?_, hK _ ?_⟩; (focus (first | (with_reducible exact rfl) | (with_reducible exact ⟨rfl, rfl⟩) | (obtain ⟨hcq, hfq⟩ := bcell hW'; have hzq := hW'.size; (try go_simp); first | (with_reducible exact rfl) | (with_reducible exact ⟨rfl, rfl⟩) | (fail)))); clear hK K))
        refine wpQuiet_nil ?_
        intro w1q hb1q
        have bA3 := blk_below bA2 hb1q lA
        have bB3 := blk_below bB2 hb1q lB
        have bR3 := blk_below bR2 hb1q lR
        have hB3 : Below w.heap.size w w1q := up hb1q hB2
        have hjT : j < T := Nat.lt_of_le_of_ne hj fun e => by
          have := H1.out
          rw [← e] at this
          have := HOK.out.1 this
          simp_all
        go_wp2_with fail
        go_roundw
        case rel => exact ⟨j + 1, by omega, by go_num, bA3, bB3, bR3, hB3⟩
        case measure => simp [intOf]; omega
    · refine wp_region_quiet (C := fun w' => Below W.heap.size W w') (by kernel_rfl) (by kernel_rfl) (Below.drew (Below.refl _ _)) ?_
      iterate 7 (refine wpQuiet_step (fun K hK => ?_); go_simp; first | (refine hK _ ?_; clear hK K) | (apply Exists.intro; refine ⟨fun W' hW' => ?_, hK _ ?_⟩; (focus (first | (with_reducible exact rfl) | (with_reducible exact ⟨rfl, rfl⟩) | (obtain ⟨hcq, hfq⟩ := bcell hW'; have hzq := hW'.size; (try go_simp); first | (with_reducible exact rfl) | (with_reducible exact ⟨rfl, rfl⟩) | (first | ((with_reducible refine Calls.mono (C1.out _) ?_); rintro e w9 ⟨rfl, hb9⟩; exact ⟨rfl, hW'.trans (hb9.mono hW'.size)⟩) | ((with_reducible refine Calls.mono (C2.out _) ?_); rintro e w9 ⟨rfl, hb9⟩; exact ⟨rfl, hW'.trans (hb9.mono hW'.size)⟩) | ((with_reducible refine Calls.mono (C3.out _) ?_); rintro e w9 ⟨rfl, hb9⟩; exact ⟨rfl, hW'.trans (hb9.mono hW'.size)⟩))))); clear hK K))
      refine wpQuiet_step (fun K hK => ?_)
      go_simp
      first | (generalize hA : (Act.mk _ _ : Act) = A; refine hK A ?_; clear hK K) | (refine ⟨.bool false, fun W' hW' => rfl, ?_⟩; generalize hA : (Act.mk _ _ : Act) = A; refine hK A ?_; clear hK K)
      have hAt : A.tmps[44]? = some (.bool false) := by rw [← hA]; rfl
      refine wpQuiet_off 7 7 true 44 (by kernel_rfl) (by kernel_rfl) hAt ?_
      clear hAt
      subst hA
      simp only [putU, List.take_succ_cons, List.take_zero, List.foldl_cons, List.foldl_nil, Act.put, List.setIfInBounds_toArray, List.set_cons_succ, List.set_cons_zero, List.drop_succ_cons, List.drop_zero]
      iterate 1 (refine wpQuiet_step (fun K hK => ?_); go_simp; first | (refine hK _ ?_; clear hK K) | (apply Exists.intro; refine ⟨fun W' hW' => ?_, hK _ ?_⟩; (focus (first | (with_reducible exact rfl) | (with_reducible exact ⟨rfl, rfl⟩) | (obtain ⟨hcq, hfq⟩ := bcell hW'; have hzq := hW'.size; (try go_simp); first | (with_reducible exact rfl) | (with_reducible exact ⟨rfl, rfl⟩) | (fail)))); clear hK K))
      refine wpQuiet_step (fun K hK => ?_)
      go_simp
      first | (generalize hA : (Act.mk _ _ : Act) = A; refine hK A ?_; clear hK K) | (refine ⟨.bool false, fun W' hW' => rfl, ?_⟩; generalize hA : (Act.mk _ _ : Act) = A; refine hK A ?_; clear hK K)
      have hAt : A.tmps[53]? = some (.bool false) := by rw [← hA]; rfl
      refine wpQuiet_off 7 16 true 53 (by kernel_rfl) (by kernel_rfl) hAt ?_
      clear hAt
      subst hA
      simp only [putU, List.take_succ_cons, List.take_zero, List.foldl_cons, List.foldl_nil, Act.put, List.setIfInBounds_toArray, List.set_cons_succ, List.set_cons_zero, List.drop_succ_cons, List.drop_zero]
      iterate 1 (refine wpQuiet_step (fun K hK => ?_); go_simp; first | (refine hK _ ?_; clear hK K) | (apply Exists.intro; refine ⟨fun W' hW' => ?_, hK _ ?_⟩; (focus (first | (with_reducible exact rfl) | (with_reducible exact ⟨rfl, rfl⟩) | (obtain ⟨hcq, hfq⟩ := bcell hW'; have hzq := hW'.size; (try go_simp); first | (with_reducible exact rfl) | (with_reducible exact ⟨rfl, rfl⟩) | (fail)))); clear hK K))
      refine wpQuiet_nil ?_
      intro w1q hb1q
      have bA3 := blk_below bA2 hb1q lA
      have bB3 := blk_below bB2 hb1q lB
      have bR3 := blk_below bR2 hb1q lR
      have hB3 : Below w.heap.size w w1q := up hb1q hB2
      have hjT : j < T := Nat.lt_of_le_of_ne hj fun e => by
        have := H1.out
        rw [← e] at this
        have := HOK.out.1 this
        simp_all
      go_wp2_with fail
      go_roundw
      case rel => exact ⟨j + 1, by omega, by go_num, bA3, bB3, bR3, hB3⟩
      case measure => simp [intOf]; omega
end Go.Proofs.YtadkaplafaeebaaGreatDoor
