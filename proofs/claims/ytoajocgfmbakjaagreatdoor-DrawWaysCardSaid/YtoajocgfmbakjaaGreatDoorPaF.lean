/-
  The first move with which a piece can go; the pieces that can go.
-/
import Derived.Test.YtoajocgfmbakjaaGreatDoorPbE
set_option linter.unusedVariables false
set_option linter.unusedSimpArgs false
namespace Go.Proofs.YtoajocgfmbakjaaGreatDoor
open Go Go.RowKit Go.Shelf

/-- A mould that is looked at: its value, in a world. -/
structure Mld (W : World) (v : Value) (b : Nat) (ms : List Sol) (av : Nat → Prop) : Prop where
  sols : SolsAt W v ms
  ways : Ways W b none ms av
/-- What a call that looks at ways leaves. -/
def Kept (b : Nat) (v : Value) (ms : List Sol) (av : Nat → Prop) (w w' : World) : Prop := w.grownBy w' (some b) ∧ Ways w' b none ms av
theorem sols_grown {W W' : World} {v : Value} {ms : List Sol} {av : Nat → Prop} {b : Nat} (h : SolsAt W v ms) (hg : W.grownBy W' (some b)) (hb : ∀ es c, W.heap[b]? = some (.map es c) → True) (hw : Ways W b none ms av) : SolsAt W' v ms := by
  obtain ⟨pa, cap, h1, h2, h3⟩ := h
  refine ⟨pa, cap, h1, h2, h3.imp id ?_⟩
  rintro ⟨b1, o, e1, e2, e3⟩
  refine ⟨b1, o, e1, Nat.lt_of_lt_of_le e2 hg.size, fun i m hm j hj => ?_⟩
  have hc := e3 i m hm j hj
  have hne : b1 ≠ b := fun e => by
    obtain ⟨n, D, ⟨es, clock, hbk, _⟩, _⟩ := hw
    unfold World.cell? at hc
    rw [e] at hc
    simp only [hbk] at hc
    cases hc
  have e4 : W'.heap[b1]? = W.heap[b1]? := hg.block b1 e2 (fun e => hne (by injection e))
  unfold World.cell? at hc ⊢
  rw [e4]
  exact hc
theorem Mld.kept {W W' : World} {v : Value} {b : Nat} {ms : List Sol} {av : Nat → Prop} (h : Mld W v b ms av) (hk : Kept b v ms av W W') : Mld W' v b ms av := ⟨sols_grown h.sols hk.1 (fun _ _ _ => trivial) h.ways, hk.2⟩
theorem Mld.below {W W' : World} {v : Value} {b : Nat} {ms : List Sol} {av : Nat → Prop} (h : Mld W v b ms av) (hb : Below W.heap.size W W') : Mld W' v b ms av := ⟨h.sols.below hb (Nat.le_refl _), h.ways.below hb⟩
theorem kept_trans {b : Nat} {v : Value} {ms : List Sol} {av : Nat → Prop} {A B C : World} (h : Kept b v ms av A B) (k : Kept b v ms av B C) : Kept b v ms av A C :=
  ⟨⟨k.1.os.trans h.1.os, k.1.tape.trans h.1.tape, k.1.output.trans h.1.output, Nat.le_trans h.1.size k.1.size, fun i hi hne => (k.1.block i (Nat.lt_of_lt_of_le hi h.1.size) hne).trans (h.1.block i hi hne)⟩, k.2⟩
theorem kept_below {b : Nat} {v : Value} {ms : List Sol} {av : Nat → Prop} {A B : World} (hw : Ways A b none ms av) (h : Below A.heap.size A B) : Kept b v ms av A B := ⟨grown_of_below h _, hw.below h⟩
/-- Cells lie on. -/
theorem kept_cells {b : Nat} {v : Value} {ms : List Sol} {av : Nat → Prop} {A B : World} (h : Kept b v ms av A B) {k : Nat} {cs : Array Value} {t : TypeId} {fr : Nat × Nat} (hk : A.heap[k]? = some (.cells cs t fr)) (hw : Ways A b none ms av) : B.heap[k]? = some (.cells cs t fr) := by
  refine (h.1.block k (Array.getElem?_eq_some_iff.1 hk).1 (fun e => ?_)).trans hk
  injection e with e
  obtain ⟨n, D, ⟨es, clock, hbk, _⟩, _⟩ := hw
  rw [e, hbk] at hk
  cases hk
/-- The first of some ways that is free. -/
def firstK (gone : Nat) : List Wy → Option SD
  | [] => none
  | y :: l => if andN y.2 gone = 0 then some y.1 else firstK gone l
def firstF (ms : List Sol) (gone p : Nat) (f : Sol) : Option SD := firstK gone (waysL ms p f)
/-- A move, or none. -/
def moveV (p : Nat) : Option SD → Value
  | none => .agg #[.int .i64 (0), .int .i64 (0), .int .i64 (0)]
  | some x => .agg #[.int .i64 (p), .int .i64 (x.1), .int .i64 (x.2)]
/-- An element of a row of ways. -/
theorem rowW_at {W : World} {v : Value} {p : Nat} {l : List Wy} (h : RowW W v p l) (hne : l ≠ []) :
    ∃ g cap, v = .slice (some ⟨g, 0, none⟩) l.length cap ∧ g < W.heap.size ∧ l.length ≤ maxLen ∧ ∀ (i : Nat) (y : Wy), l[i]? = some y →
      W.cell? ⟨g, i * 4 + 0, none⟩ = some (.int .i64 p) ∧ W.cell? ⟨g, i * 4 + 1, none⟩ = some (.int .i64 y.1.1) ∧ W.cell? ⟨g, i * 4 + 2, none⟩ = some (.int .i64 y.1.2) ∧ W.cell? ⟨g, i * 4 + 3, none⟩ = some (.int .u16 y.2) := by
  obtain ⟨b, hr⟩ := h
  obtain ⟨hl, hh | ⟨g, cap, cur, rfl, hb, hg, hcap, hmax, hsz, htk⟩⟩ := id hr
  · exact absurd (List.length_eq_zero_iff.1 hh.2) hne
  refine ⟨g, cap, rfl, (Array.getElem?_eq_some_iff.1 hg).1, by omega, fun i y hy => ?_⟩
  have key : ∀ (k : Nat) (u : Value), k < 4 → (wyC p y)[k]? = some u → W.cell? ⟨g, i * 4 + k, none⟩ = some u := fun k u hk hu => by
    have h1 : (flatW p l)[i * 4 + k]? = some u := flatW_at p l hy hk hu
    have := hr.cells (g := g) rfl (i * 4 + k) u h1
    rwa [show (⟨g, 0, none⟩ : Addr).add (i * 4 + k) = ⟨g, i * 4 + k, none⟩ by simp [Addr.add]; try omega] at this
  exact ⟨key 0 _ (by omega) rfl, key 1 _ (by omega) rfl, key 2 _ (by omega) rfl, key 3 _ (by omega) rfl⟩
end Go.Proofs.YtoajocgfmbakjaaGreatDoor
/-
  The first move with which a piece can go.
-/
set_option linter.unusedVariables false
set_option linter.unusedSimpArgs false
namespace Go.Proofs.YtoajocgfmbakjaaGreatDoor
open Go Go.RowKit Go.Shelf

theorem res_me {fn : Func} {t s : Tmp} {tmps : Array Value} {W : World} {B : Nat} {x y z : Value} (h : fn.results = #[.cell t 40, .tmp s]) (ht : tmps[t]?.getD undef = .pointer (some ⟨B, 0, none⟩)) (h0 : W.cell? ⟨B, 0, none⟩ = some x) (h1 : W.cell? ⟨B, 1, none⟩ = some y) (h2 : W.cell? ⟨B, 2, none⟩ = some z) :
    (results fn tmps).run Tryz.prog W = .ok (.tuple #[.agg #[x, y, z], tmps.getD s undef]) W := by
  simp [results, h, ht, go_sem, h0, h1, h2]
theorem rowW_shape {W : World} {v : Value} {p : Nat} {l : List Wy} (h : RowW W v p l) : ∃ pa cap, v = .slice pa l.length cap ∧ l.length ≤ maxLen := by
  obtain ⟨b, hl, hh | ⟨g, cap, cur, rfl, hb, hg, hcap, hmax, hsz, htk⟩⟩ := h
  · obtain ⟨rfl, h0⟩ := hh
    exact ⟨none, 0, by rw [h0], by omega⟩
  · exact ⟨_, _, rfl, by omega⟩
theorem waysL_len (ms : List Sol) (p : Nat) (f : Sol) : (waysL ms p f).length ≤ 29 := by
  have h1 : (waysL ms p f).length ≤ movesL.length := List.length_filterMap_le _ _
  have h3 : movesL.length = 29 := by decide
  omega
theorem waysL_lt (ms : List Sol) (p : Nat) (f : Sol) (h : ms.length ≤ 16) : ∀ y ∈ waysL ms p f, y.2 < 65536 := by
  intro y hy
  unfold waysL at hy
  obtain ⟨x, _, hx⟩ := List.mem_filterMap.1 hy
  split at hx
  · cases hx
    exact metK_lt ms p h _
  · cases hx
/-- The world behind a store of a move. -/
abbrev putM (W : World) (B : Nat) (x y z : Value) : World := ((W.setCell ⟨B, 0, none⟩ x).setCell ⟨B, 1, none⟩ y).setCell ⟨B, 2, none⟩ z
theorem blk3_set {W : World} {B : Nat} {a b c : Value} {T : TypeId} (h : W.heap[B]? = some (.cells #[a, b, c] T (0, 0))) (x y z : Value) : (putM W B x y z).heap[B]? = some (.cells #[x, y, z] T (0, 0)) := by
  have one : ∀ {V : World} {cs : Array Value} (k : Nat) (v : Value), V.heap[B]? = some (.cells cs T (0, 0)) → (V.setCell ⟨B, k, none⟩ v).heap[B]? = some (.cells (cs.set! k v) T (0, 0)) := fun {V cs} k v hV => by
    obtain ⟨hlt, he⟩ := Array.getElem?_eq_some_iff.1 hV
    show (V.heap.modify B _)[B]? = _
    rw [Array.getElem?_eq_getElem (by rw [Array.size_modify]; exact hlt), Array.getElem_modify_self, he]
    rfl
  exact one 2 z (one 1 y (one 0 x h))
theorem putM_grown (W : World) (B : Nat) (x y z : Value) : W.grownBy (putM W B x y z) (some B) :=
  ⟨rfl, rfl, rfl, by simp, fun i _ hne => by
    have h : i ≠ B := fun e => hne (by rw [e])
    exact ((Below.heap_setCell _ ⟨B, 2, none⟩ z i h).trans (Below.heap_setCell _ ⟨B, 1, none⟩ y i h)).trans (Below.heap_setCell W ⟨B, 0, none⟩ x i h)⟩
theorem cells3 {W : World} {B : Nat} {a b c : Value} {T : TypeId} (h : W.heap[B]? = some (.cells #[a, b, c] T (0, 0))) : W.cell? ⟨B, 0, none⟩ = some a ∧ W.cell? ⟨B, 1, none⟩ = some b ∧ W.cell? ⟨B, 2, none⟩ = some c := by
  refine ⟨?_, ?_, ?_⟩ <;> unfold World.cell? <;> rw [h] <;> rfl
theorem free3 {W : World} {B : Nat} {cs : Array Value} {T : TypeId} (h : W.heap[B]? = some (.cells cs T (0, 0))) (k : Nat) : W.frozen? ⟨B, k, none⟩ = false := by
  unfold World.frozen?
  rw [h]
  simp
theorem RowW.set {W W' : World} {v : Value} {p B : Nat} {l : List Wy} {cs : Array Value} {t : TypeId} {fr : Nat × Nat} (h : RowW W v p l) (hB : W.heap[B]? = some (.cells cs t fr)) (ht : t ≠ 108) (hg : W.grownBy W' (some B)) : RowW W' v p l := by
  obtain ⟨b0, h⟩ := h
  exact ⟨b0, h.kept hg (.inr (fun e => not_row hB ht h e.symm))⟩
theorem Ways.set {W W' : World} {b B : Nat} {q : Option Nat} {ms : List Sol} {av : Nat → Prop} {cs : Array Value} {t : TypeId} {fr : Nat × Nat} (h : Ways W b q ms av) (hB : W.heap[B]? = some (.cells cs t fr)) (ht : t ≠ 108 ∨ av B) (hg : W.grownBy W' (some B)) : Ways W' b q ms av := by
  obtain ⟨n, D, h, hn, hq, k⟩ := h
  have hne : some b ≠ some B := fun e => by
    injection e with e
    obtain ⟨es, clock, hb, _⟩ := h
    rw [e, hB] at hb
    cases hb
  refine ⟨n, D, h.kept hg hne, hn, hq, fun p f hf hh => ?_⟩
  obtain ⟨v, h1, h2, h3⟩ := k p f hf hh
  refine ⟨v, h1, ?_, h3⟩
  rcases ht with ht | ha
  · exact h2.set hB ht hg
  · obtain ⟨b0, h2⟩ := h2
    exact ⟨b0, h2.kept hg (.inr (fun e => h3 B e ha))⟩
/-- A store into a block of one's own. -/
theorem Kept.set {b B : Nat} {v : Value} {ms : List Sol} {av : Nat → Prop} {w W W' : World} {cs : Array Value} {t : TypeId} {fr : Nat × Nat} (h : Kept b v ms av w W) (hl : w.heap.size ≤ B) (hB : W.heap[B]? = some (.cells cs t fr)) (ht : t ≠ 108 ∨ av B) (hg : W.grownBy W' (some B)) : Kept b v ms av w W' :=
  ⟨⟨hg.os.trans h.1.os, hg.tape.trans h.1.tape, hg.output.trans h.1.output, Nat.le_trans h.1.size hg.size, fun i hi hne => (hg.block i (Nat.lt_of_lt_of_le hi h.1.size) (fun e => by injection e with e; omega)).trans (h.1.block i hi hne)⟩, h.2.set hB ht hg⟩
def RetK (r : Value) (b : Nat) (v : Value) (ms : List Sol) (av : Nat → Prop) (w : World) : Ending → World → Prop := fun e w' => e = .returned r ∧ Kept b v ms av w w'
set_option maxRecDepth 100000 in
set_option maxHeartbeats 2000000 in
theorem first_ok (ms : List Sol) (gone p : Nat) (f : Sol) (v : Value) (b : Nat) (w : World) (hf : ms[p]? = some f) (hm : ∀ m ∈ ms, Fit m) (h12 : ms.length ≤ 12) (hg : gone < 65536) (av : Nat → Prop) (hav : ∀ k, av k → k < w.heap.size) (hv : Mld w v b ms av) :
    Calls Tryz.prog 105 #[mldV v b, setV gone, .int .i64 p] w (RetK (.tuple #[moveV p (firstF ms gone p f), .bool (firstF ms gone p f).isSome]) b v ms av w) := by
  have HM := Lib.hid hm
  have HF := Lib.hid hf
  have HV := Lib.hid hv
  have lb := hv.ways.lt
  clear hm hf
  obtain ⟨A, hA⟩ : ∃ A, A = w.heap.size := ⟨_, rfl⟩
  obtain ⟨W1, hW1⟩ : ∃ W1, W1 = (w.alloc (.cells #[v, .map (some b)] 101)).alloc (.cells #[.int .i64 (0), .int .i64 (0), .int .i64 (0)] 40) := ⟨_, rfl⟩
  have hB1 : Below w.heap.size w W1 := by rw [hW1]; exact ((Below.refl _ w).alloc (Nat.le_refl _) _).alloc (by simp) _
  have r1 : BoxM W1 (A + 1) 0 0 0 := by
    rw [hW1, hA]; have := World.alloc_heap_new (w.alloc (.cells #[v, .map (some b)] 101)) (.cells #[.int .i64 (0), .int .i64 (0), .int .i64 (0)] 40); rwa [World.size_alloc] at this
  have hK1 := kept_below (v := v) HV.out.ways hB1
  have hV1 := HV.out.kept hK1
  have H0 := waysOf_ok ms p f v b W1 HF.out HM.out h12 hV1.sols av (fun k hk => Nat.lt_of_lt_of_le (hav k hk) hB1.size) hV1.ways
  rw [hW1] at H0
  have HWO := Lib.hid H0
  clear H0 hV1
  obtain ⟨pa, cap, rfl, hmx, _⟩ := hv.sols
  go_enter Tryz.func105, Tryz.ntmps105
  go_wp2_with fail
  refine (HWO.out).mono ?_
  rw [← hW1, ← hA]
  rintro e w2 ⟨⟨r, rfl, hR, _, hW2⟩, hg2⟩
  have hK2 : Kept b (.slice pa ms.length cap) ms av W1 w2 := ⟨hg2, hW2⟩
  have r2 := kept_cells hK2 r1 (HV.out.kept hK1).ways
  have hK := kept_trans hK1 hK2
  obtain ⟨L, hL⟩ : ∃ L, L = waysL ms p f := ⟨_, rfl⟩
  rw [← hL] at hR
  obtain ⟨pr, cr, rfl, hlm⟩ := rowW_shape hR
  have HL := Lib.hid (show firstF ms gone p f = firstK gone L by rw [hL]; rfl)
  rw [HL.out]
  have HRW := Lib.hid hR
  have hq16 : ∀ y ∈ L, y.2 < 65536 := by rw [hL]; exact waysL_lt ms p f (by omega)
  have hl29 : L.length ≤ 29 := by rw [hL]; exact waysL_len ms p f
  have HK := Lib.hid hK
  have lA : A + 1 < w2.heap.size := (Array.getElem?_eq_some_iff.1 r2).1
  have HLA := Lib.hid (show w.heap.size ≤ A + 1 by omega)
  have HA := Lib.hid hA
  clear hA hW1 hB1 r1 hK1 hK2 hK hg2 hW2 hR hv HWO
  clear hL
  go_wp2_with fail
  go_loopw [14] (fun z wr => ∃ i : Nat, i ≤ L.length ∧ z = .int .i64 i ∧ Hid (firstK gone L = firstK gone (L.drop i)) ∧ BoxM wr (A + 1) 0 0 0 ∧ Hid (Below w2.heap.size w2 wr)) (fun z _ => L.length - (intOf z).toNat)
  case atStart => exact ⟨0, by omega, rfl, Lib.hid rfl, r2, Lib.hid (Below.refl _ _)⟩
  case round =>
    clear r2
    obtain ⟨i, hi, rfl, HT, r3, HB⟩ := hrel
    by_cases hlt : i < L.length
    · have di : decide ((i : Int) < (L.length : Int)) = true := decide_eq_true (by omega)
      have hii : (i : Int) < (L.length : Int) := by omega
      have hne : L ≠ [] := fun e => by rw [e] at hlt; cases hlt
      obtain ⟨y, hy⟩ : ∃ y, L[i]? = some y := ⟨_, List.getElem?_eq_getElem hlt⟩
      obtain ⟨g, cr', he, hgl, hlm', hat⟩ := rowW_at (HRW.out.below HB.out) hne
      obtain ⟨rfl, rfl⟩ : pr = some ⟨g, 0, none⟩ ∧ cr = cr' := by injection he with e1 e2 e3; exact ⟨e1, e3⟩
      obtain ⟨x0, x1, x2, x3⟩ := hat i y hy
      rw [Nat.add_zero] at x0
      obtain ⟨⟨ys, yf⟩, yq⟩ := y
      have hyq : yq < 65536 := hq16 _ (List.mem_of_getElem? hy)
      have HIN := Lib.hid (fun W => in_ok yq gone hyq hg W)
      have HE := Lib.hid (show firstK gone (L.drop i) = if andN yq gone = 0 then some (ys, yf) else firstK gone (L.drop (i + 1)) by
        rw [List.drop_eq_getElem_cons hlt]
        have : L[i] = ((ys, yf), yq) := by rw [List.getElem?_eq_getElem hlt] at hy; exact Option.some.inj hy
        rw [this]; rfl)
      have hBa : Below w2.heap.size w2 (wr.alloc (.cells #[.int .i64 p, .int .i64 ys, .int .i64 yf, .int .u16 yq] 108)) := HB.out.alloc HB.out.size _
      have r4 : BoxM (wr.alloc (.cells #[.int .i64 p, .int .i64 ys, .int .i64 yf, .int .u16 yq] 108)) (A + 1) 0 0 0 := (Below.heap_alloc wr _ _ (Array.getElem?_eq_some_iff.1 r3).1).trans r3
      have q4 : (wr.alloc (.cells #[.int .i64 p, .int .i64 ys, .int .i64 yf, .int .u16 yq] 108)).heap[wr.heap.size]? = some (.cells #[.int .i64 p, .int .i64 ys, .int .i64 yf, .int .u16 yq] 108 (0, 0)) := World.alloc_heap_new wr _
      clear hat he hy
      go_wp2_with fail
      refine (HIN.out _).mono ?_
      rintro e w5 ⟨rfl, hb5⟩
      have r5 := heap_below r4 hb5 (Array.getElem?_eq_some_iff.1 r4).1
      have q5 := heap_below q4 hb5 (Array.getElem?_eq_some_iff.1 q4).1
      have HB5 := Lib.hid (hBa.trans (hb5.mono hBa.size))
      clear r3 r4 q4 x0 x1 x2 x3 hBa hb5 HIN
      by_cases hin : andN yq gone = 0
      · have hd : decide (andN yq gone = 0) = true := decide_eq_true hin
        have HR := Lib.hid (show firstK gone L = some (ys, yf) by rw [HT.out, HE.out, if_pos hin])
        have y0 := way_cells (x := (ys, yf)) q5 0 _ rfl
        have y1 := way_cells (x := (ys, yf)) q5 1 _ rfl
        have y2 := way_cells (x := (ys, yf)) q5 2 _ rfl
        obtain ⟨c0, c1, c2⟩ := BoxM.cells r5
        have f0 := free3 r5 0
        have f1 := free3 r5 1
        have f2 := free3 r5 2
        go_wp2_with fail
        have b6 := blk3_set r5 (.int .i64 p) (.int .i64 ys) (.int .i64 yf)
        obtain ⟨d0, d1, d2⟩ := cells3 b6
        refine bodyPost_ret (res_me Tryz.results105 rfl d0 d1 d2) rfl ⟨by rw [HL.out, HR.out]; rfl, ?_⟩
        exact (kept_trans HK.out (kept_below HK.out.2 HB5.out)).set HLA.out r5 (.inl (by decide)) (putM_grown _ _ _ _ _)
      · have hd : decide (andN yq gone = 0) = false := decide_eq_false hin
        have HN := Lib.hid (show firstK gone L = firstK gone (L.drop (i + 1)) by rw [HT.out, HE.out, if_neg hin])
        go_wp2_with fail
        case roundEnd => exact ⟨⟨i + 1, by omega, by go_num, HN, r5, HB5⟩, by simp [intOf]; omega⟩
    · obtain rfl : i = L.length := by omega
      have di : decide ((L.length : Int) < (L.length : Int)) = false := decide_eq_false (by omega)
      have HR := Lib.hid (show firstK gone L = none by rw [HT.out, List.drop_length]; rfl)
      obtain ⟨c0, c1, c2⟩ := BoxM.cells r3
      have f0 := free3 r3 0
      have f1 := free3 r3 1
      have f2 := free3 r3 2
      go_wp2_with fail
      have b6 := blk3_set r3 (.int .i64 0) (.int .i64 0) (.int .i64 0)
      obtain ⟨d0, d1, d2⟩ := cells3 b6
      refine bodyPost_ret (res_me Tryz.results105 rfl d0 d1 d2) rfl ⟨by rw [HL.out, HR.out]; rfl, ?_⟩
      exact (kept_trans HK.out (kept_below HK.out.2 HB.out)).set HLA.out r3 (.inl (by decide)) (putM_grown _ _ _ _ _)
end Go.Proofs.YtoajocgfmbakjaaGreatDoor
/-
  The pieces that can go, some having gone.
-/
set_option linter.unusedVariables false
set_option linter.unusedSimpArgs false
namespace Go.Proofs.YtoajocgfmbakjaaGreatDoor
open Go Go.RowKit Go.Shelf

def readyK (ms : List Sol) (gone : Nat) : Nat → Nat
  | 0 => 0
  | i + 1 => match ms[i]? with
    | some f => if gone.testBit i = false ∧ (firstF ms gone i f).isSome = true then readyK ms gone i ||| 2 ^ i else readyK ms gone i
    | none => readyK ms gone i
def readyF (ms : List Sol) (gone : Nat) : Nat := readyK ms gone ms.length
theorem readyK_lt (ms : List Sol) (gone : Nat) : ∀ i, i ≤ 16 → readyK ms gone i < 65536
  | 0, _ => Nat.zero_lt_succ _
  | i + 1, h => by
    have ih := readyK_lt ms gone i (by omega)
    unfold readyK
    split
    · split
      · exact or16 ih (pow16_lt (by omega))
      · exact ih
    · exact ih
theorem moveV_agg (p : Nat) (o : Option SD) : ∃ a b c : Int, moveV p o = .agg #[.int .i64 (a), .int .i64 (b), .int .i64 (c)] := by
  cases o with
  | none => exact ⟨_, _, _, rfl⟩
  | some x => exact ⟨_, _, _, rfl⟩
set_option maxRecDepth 100000 in
set_option maxHeartbeats 2000000 in
theorem ready_ok (ms : List Sol) (gone : Nat) (v : Value) (b : Nat) (w : World) (hm : ∀ m ∈ ms, Fit m) (h12 : ms.length ≤ 12) (hg : gone < 65536) (av : Nat → Prop) (hav : ∀ k, av k → k < w.heap.size) (hv : Mld w v b ms av) :
    Calls Tryz.prog 108 #[mldV v b, setV gone] w (RetK (setV (readyF ms gone)) b v ms av w) := by
  have HM := Lib.hid hm
  have HV := Lib.hid hv
  have lb := hv.ways.lt
  clear hm
  obtain ⟨A, hA⟩ : ∃ A, A = w.heap.size := ⟨_, rfl⟩
  obtain ⟨W1, hW1⟩ : ∃ W1, W1 = w.alloc (.cells #[v, .map (some b)] 101) := ⟨_, rfl⟩
  have hB1 : Below w.heap.size w W1 := by rw [hW1]; exact (Below.refl _ w).alloc (Nat.le_refl _) _
  have m1 : W1.heap[A]? = some (.cells #[v, .map (some b)] 101 (0, 0)) := by rw [hW1, hA]; exact World.alloc_heap_new w _
  have HK1 := Lib.hid (kept_below (v := v) HV.out.ways hB1)
  obtain ⟨pa, cap, rfl, hmx, _⟩ := hv.sols
  have c0 : W1.cell? ⟨A, 0, none⟩ = some (.slice pa ms.length cap) := by unfold World.cell?; rw [m1]; rfl
  rw [hW1] at c0
  rw [hA] at c0
  have HA := Lib.hid hA
  clear hA
  go_enter Tryz.func108, Tryz.ntmps108
  go_wp2_with fail
  rw [← hW1, ← HA.out]
  clear c0 hv hB1 hW1
  go_loopw [5, 12] (fun s z wr => ∃ i : Nat, i ≤ ms.length ∧ z = .int .i64 i ∧ s = setV (readyK ms gone i) ∧ wr.heap[A]? = some (.cells #[.slice pa ms.length cap, .map (some b)] 101 (0, 0)) ∧ Hid (Kept b (.slice pa ms.length cap) ms av w wr)) (fun _ z _ => ms.length - (intOf z).toNat)
  case atStart => exact ⟨0, by omega, rfl, rfl, m1, HK1⟩
  case round =>
    clear m1 HK1
    obtain ⟨i, hi, rfl, rfl, mr, HK⟩ := hrel
    have c0 : wr.cell? ⟨A, 0, none⟩ = some (.slice pa ms.length cap) := by unfold World.cell?; rw [mr]; rfl
    have c1 : wr.cell? ⟨A, 1, none⟩ = some (.map (some b)) := by unfold World.cell?; rw [mr]; rfl
    by_cases hlt : i < ms.length
    · have di : decide ((i : Int) < (ms.length : Int)) = true := decide_eq_true (by omega)
      obtain ⟨f, hf⟩ : ∃ f, ms[i]? = some f := ⟨_, List.getElem?_eq_getElem hlt⟩
      have HH := Lib.hid (fun W => has_ok gone i hg (by omega) W)
      have hql := readyK_lt ms gone i (by omega)
      have HS := Lib.hid (show readyK ms gone (i + 1) = if gone.testBit i = false ∧ (firstF ms gone i f).isSome = true then readyK ms gone i ||| 2 ^ i else readyK ms gone i by rw [readyK, hf])
      have HWI := Lib.hid (fun W => with_ok (readyK ms gone i) i hql (by omega) W)
      obtain ⟨q, hq⟩ : ∃ q, q = readyK ms gone i := ⟨_, rfl⟩
      rw [← hq] at HS HWI hql ⊢
      have HFI := Lib.hid (fun W (hsz : w.heap.size ≤ W.heap.size) (h : Mld W (.slice pa ms.length cap) b ms av) => first_ok ms gone i f (.slice pa ms.length cap) b W hf HM.out h12 hg av (fun k hk => Nat.lt_of_lt_of_le (hav k hk) hsz) h)
      clear hf hq
      go_wp2_with fail
      refine (HH.out _).mono ?_
      rintro e w2 ⟨rfl, hb2⟩
      have m2 := heap_below mr hb2 (Array.getElem?_eq_some_iff.1 mr).1
      have HK2 := Lib.hid (kept_trans HK.out (kept_below (v := .slice pa ms.length cap) HK.out.2 hb2))
      clear c0 c1 mr hb2
      cases hbit : gone.testBit i with
      | true =>
        have HN := Lib.hid (show readyK ms gone (i + 1) = q by rw [HS.out, if_neg (fun h => by rw [hbit] at h; cases h.1)])
        go_wp2_with fail
        case roundEnd => exact ⟨⟨i + 1, by omega, by go_num, by rw [HN.out], m2, HK2⟩, by simp [intOf]; omega⟩
      | false =>
        have c0 : w2.cell? ⟨A, 0, none⟩ = some (.slice pa ms.length cap) := by unfold World.cell?; rw [m2]; rfl
        have c1 : w2.cell? ⟨A, 1, none⟩ = some (.map (some b)) := by unfold World.cell?; rw [m2]; rfl
        have HMW := Lib.hid (HV.out.kept HK2.out)
        go_wp2_with fail
        refine (HFI.out _ HK2.out.1.size HMW.out).mono ?_
        rintro e w3 ⟨rfl, hk3⟩
        have m3 := kept_cells hk3 m2 HMW.out.ways
        have HK3 := Lib.hid (kept_trans HK2.out hk3)
        clear c0 c1 m2 hk3
        obtain ⟨o, ho⟩ : ∃ o, o = firstF ms gone i f := ⟨_, rfl⟩
        rw [← ho] at HS ⊢
        obtain ⟨x, y, z, hmv⟩ := moveV_agg i o
        rw [hmv]
        clear ho hmv
        have HK4 := Lib.hid (fun (u : Obj) => kept_trans HK3.out (kept_below (v := .slice pa ms.length cap) HK3.out.2 ((Below.refl _ w3).alloc (Nat.le_refl _) u)))
        have HM4 := Lib.hid (fun (u : Obj) => (Below.heap_alloc w3 u A (Array.getElem?_eq_some_iff.1 m3).1).trans m3)
        cases hso : o.isSome with
        | true =>
          have HN := Lib.hid (show readyK ms gone (i + 1) = q ||| 2 ^ i by rw [HS.out, if_pos ⟨hbit, hso⟩])
          go_wp2_with fail
          refine (HWI.out _).mono ?_
          rintro e w5 ⟨rfl, hb5⟩
          have m5 := heap_below (HM4.out _) hb5 (Array.getElem?_eq_some_iff.1 (HM4.out _)).1
          have HK5 := Lib.hid (kept_trans (HK4.out _) (kept_below (v := .slice pa ms.length cap) (HK4.out _).2 hb5))
          go_wp2_with fail
          case roundEnd => exact ⟨⟨i + 1, by omega, by go_num, by rw [HN.out], m5, HK5⟩, by simp [intOf]; omega⟩
        | false =>
          have HN := Lib.hid (show readyK ms gone (i + 1) = q by rw [HS.out, if_neg (fun h => by rw [hso] at h; cases h.2)])
          go_wp2_with fail
          case roundEnd => exact ⟨⟨i + 1, by omega, by go_num, by rw [HN.out], HM4.out _, Lib.hid (HK4.out _)⟩, by simp [intOf]; omega⟩
    · obtain rfl : i = ms.length := by omega
      have di : decide ((ms.length : Int) < (ms.length : Int)) = false := decide_eq_false (by omega)
      go_wp2
      go_ret
      exact ⟨rfl, HK.out⟩
end Go.Proofs.YtoajocgfmbakjaaGreatDoor
/-
  Moves of a mould; the way of a move; whether a piece can go with a move.
-/
set_option linter.unusedVariables false
set_option linter.unusedSimpArgs false
namespace Go.Proofs.YtoajocgfmbakjaaGreatDoor
open Go Go.RowKit Go.Shelf

/-- A move of a piece. -/
def moveB (n : Nat) (p s far : Int) : Bool := decide (0 ≤ p ∧ p < n) && wayB s far
set_option maxRecDepth 100000 in
set_option maxHeartbeats 1000000 in
theorem isMove_ok (pa : Option Addr) (n c : Nat) (p s far : Int) (w : World) : Calls Tryz.prog 90 #[.slice pa n c, .agg #[.int .i64 (p), .int .i64 (s), .int .i64 (far)]] w (RetB (.bool (moveB n p s far)) w) := by
  have HP := Lib.hid (fun W => isPiece_ok pa n c p W)
  have HW := Lib.hid (fun W => isWay_ok p s far W)
  have bM : BoxM (w.alloc (.cells #[.int .i64 (p), .int .i64 (s), .int .i64 (far)] 40)) w.heap.size p s far := World.alloc_heap_new w _
  have hB0 : Below w.heap.size w (w.alloc (.cells #[.int .i64 (p), .int .i64 (s), .int .i64 (far)] 40)) := (Below.refl _ w).alloc (Nat.le_refl _) _
  obtain ⟨c0, c1, c2⟩ := BoxM.cells bM
  go_enter Tryz.func90, Tryz.ntmps90
  go_wp2_with fail
  refine (HP.out _).mono ?_
  rintro e w1 ⟨rfl, hb1⟩
  have b1 := heap_below bM hb1 (Array.getElem?_eq_some_iff.1 bM).1
  have hB1 := up hb1 hB0
  have HB1 := Lib.hid hB1
  clear c0 c1 c2 bM hB0 hb1 hB1
  obtain ⟨d0, d1, d2⟩ := BoxM.cells b1
  have HMB := Lib.hid (show moveB n p s far = (decide (0 ≤ p ∧ p < (n : Int)) && wayB s far) from rfl)
  cases hp : decide (0 ≤ p ∧ p < (n : Int)) with
  | true =>
    rw [hp] at HMB
    go_wp2_with fail
    refine (HW.out _).mono ?_
    rintro e w2 ⟨rfl, hb2⟩
    go_wp2
    go_ret
    exact ⟨by rw [HMB.out]; rfl, up hb2 HB1.out⟩
  | false =>
    rw [hp] at HMB
    go_wp2
    go_ret
    exact ⟨by rw [HMB.out]; rfl, HB1.out⟩
/-- The way of a move among some ways. -/
def wayK (x : SD) : List Wy → Option Nat
  | [] => none
  | y :: l => if y.1 = x then some y.2 else wayK x l
theorem wayK_lt {ms : List Sol} {p : Nat} {f : Sol} (h : ms.length ≤ 16) {x : SD} {q : Nat} (hq : wayK x (waysL ms p f) = some q) : q < 65536 := by
  have key : ∀ l : List Wy, (∀ y ∈ l, y.2 < 65536) → wayK x l = some q → q < 65536 := by
    intro l
    induction l with
    | nil => intro _ h; cases h
    | cons y l ih =>
      intro hy h
      unfold wayK at h
      split at h
      · cases h; exact hy y (by simp)
      · exact ih (fun z hz => hy z (by simp [hz])) h
  exact key _ (waysL_lt ms p f h) hq
/-- The way of a move. -/
def wayF (ms : List Sol) (p : Nat) (f : Sol) (x : SD) : Option Nat := wayK x (waysL ms p f)
/-- A way, or none. -/
def wayV (p : Nat) (x : SD) : Option Nat → Value
  | none => .agg #[.int .i64 0, .int .i64 0, .int .i64 0, .int .u16 0]
  | some q => .agg #[.int .i64 p, .int .i64 x.1, .int .i64 x.2, .int .u16 q]
theorem res_we {fn : Func} {t s : Tmp} {tmps : Array Value} {W : World} {B : Nat} {x y z u : Value} (h : fn.results = #[.cell t 108, .tmp s]) (ht : tmps[t]?.getD undef = .pointer (some ⟨B, 0, none⟩)) (h0 : W.cell? ⟨B, 0, none⟩ = some x) (h1 : W.cell? ⟨B, 1, none⟩ = some y) (h2 : W.cell? ⟨B, 2, none⟩ = some z) (h3 : W.cell? ⟨B, 3, none⟩ = some u) :
    (results fn tmps).run Tryz.prog W = .ok (.tuple #[.agg #[x, y, z, u], tmps.getD s undef]) W := by
  simp [results, h, ht, go_sem, h0, h1, h2, h3]
end Go.Proofs.YtoajocgfmbakjaaGreatDoor
