/-
  Whether a piece can go with a move.
-/
import Derived.Test.YtoajocgfmbakjaaGreatDoorPbF
set_option linter.unusedVariables false
set_option linter.unusedSimpArgs false
namespace Go.Proofs.YtoajocgfmbakjaaGreatDoor
open Go Go.RowKit Go.Shelf

def canGoF (ms : List Sol) (gone p : Nat) (f : Sol) (x : SD) : Bool := match wayF ms p f x with
  | some q => decide (andN q gone = 0)
  | none => false
set_option maxRecDepth 100000 in
set_option maxHeartbeats 2000000 in
theorem canGo_ok (ms : List Sol) (gone p : Nat) (x : SD) (f : Sol) (v : Value) (b : Nat) (w : World) (hf : ms[p]? = some f) (hm : ∀ m ∈ ms, Fit m) (h12 : ms.length ≤ 12) (hg : gone < 65536) (av : Nat → Prop) (hav : ∀ k, av k → k < w.heap.size) (hv : Mld w v b ms av) :
    Calls Tryz.prog 104 #[mldV v b, setV gone, .agg #[.int .i64 (p), .int .i64 (x.1), .int .i64 (x.2)]] w (RetK (.bool (canGoF ms gone p f x)) b v ms av w) := by
  have HV := Lib.hid hv
  obtain ⟨W1, hW1⟩ : ∃ W1, W1 = (w.alloc (.cells #[v, .map (some b)] 101)).alloc (.cells #[.int .i64 (p), .int .i64 (x.1), .int .i64 (x.2)] 40) := ⟨_, rfl⟩
  have hB1 : Below w.heap.size w W1 := by rw [hW1]; exact ((Below.refl _ w).alloc (Nat.le_refl _) _).alloc (by simp) _
  have hK1 := kept_below (v := v) HV.out.ways hB1
  have H0 := wayOf_ok ms p x f v b W1 hf hm h12 av (fun k hk => Nat.lt_of_lt_of_le (hav k hk) hB1.size) (HV.out.kept hK1)
  have HK1 := Lib.hid hK1
  have hq : ∀ q, wayF ms p f x = some q → q < 65536 := fun q h => wayK_lt (by omega) h
  have HE := Lib.hid (show canGoF ms gone p f x = match wayF ms p f x with | some q => decide (andN q gone = 0) | none => false from rfl)
  obtain ⟨o, ho⟩ : ∃ o, o = wayF ms p f x := ⟨_, rfl⟩
  rw [← ho] at H0 hq HE
  rw [hW1] at H0
  have HWO := Lib.hid H0
  clear H0 hK1 ho hf hm hv
  go_enter Tryz.func104, Tryz.ntmps104
  cases o with
  | none =>
    have H0 := HWO.out
    rw [show wayV p x none = .agg #[.int .i64 0, .int .i64 0, .int .i64 0, .int .u16 0] from rfl] at H0
    clear HWO
    have HWO := Lib.hid H0
    clear H0
    go_wp2_with fail
    refine HWO.out.mono ?_
    rw [← hW1]
    rintro e w2 ⟨rfl, hk2⟩
    have HK2 := Lib.hid (kept_trans HK1.out hk2)
    have HK3 := Lib.hid (fun u : Obj => kept_trans HK2.out (kept_below (v := v) HK2.out.2 ((Below.refl _ w2).alloc (Nat.le_refl _) u)))
    clear hk2 hW1 hB1 HWO HK1
    go_wp2
    go_ret
    exact ⟨by rw [HE.out]; rfl, HK3.out _⟩
  | some q =>
    have HIN := Lib.hid (fun W => in_ok q gone (hq q rfl) hg W)
    have H0 := HWO.out
    rw [show wayV p x (some q) = .agg #[.int .i64 p, .int .i64 x.1, .int .i64 x.2, .int .u16 q] from rfl] at H0
    clear HWO
    have HWO := Lib.hid H0
    clear H0
    go_wp2_with fail
    refine HWO.out.mono ?_
    rw [← hW1]
    rintro e w2 ⟨rfl, hk2⟩
    have HK2 := Lib.hid (kept_trans HK1.out hk2)
    have HK3 := Lib.hid (fun u : Obj => kept_trans HK2.out (kept_below (v := v) HK2.out.2 ((Below.refl _ w2).alloc (Nat.le_refl _) u)))
    have q4 : (w2.alloc (.cells #[.int .i64 p, .int .i64 x.1, .int .i64 x.2, .int .u16 q] 108)).heap[w2.heap.size]? = some (.cells #[.int .i64 p, .int .i64 x.1, .int .i64 x.2, .int .u16 q] 108 (0, 0)) := World.alloc_heap_new w2 _
    have y3 := way_cells (x := x) q4 3 _ rfl
    clear hk2 hW1 hB1 HWO HK1 q4
    go_wp2_with fail
    refine (HIN.out _).mono ?_
    rintro e w5 ⟨rfl, hb5⟩
    go_wp2
    go_ret
    exact ⟨by rw [HE.out]; rfl, kept_trans (HK3.out _) (kept_below (HK3.out _).2 hb5)⟩
end Go.Proofs.YtoajocgfmbakjaaGreatDoor
/-
  Whether a list of any moves is an order.
-/
set_option linter.unusedVariables false
set_option linter.unusedSimpArgs false
namespace Go.Proofs.YtoajocgfmbakjaaGreatDoor
open Go Go.RowKit Go.Shelf

abbrev Mo := Int × Int × Int
/-- A row of moves, wherever it lies. -/
def MovsAt (W : World) (v : Value) (l : List Mo) : Prop := ∃ pa cap, v = .slice pa l.length cap ∧ l.length ≤ maxLen ∧
  (l = [] ∨ ∃ b o, pa = some ⟨b, o, none⟩ ∧ b < W.heap.size ∧ ∀ i m, l[i]? = some m →
    W.cell? ⟨b, o + i * 3, none⟩ = some (.int .i64 m.1) ∧ W.cell? ⟨b, o + i * 3 + 1, none⟩ = some (.int .i64 m.2.1) ∧ W.cell? ⟨b, o + i * 3 + 2, none⟩ = some (.int .i64 m.2.2))
theorem MovsAt.at {W : World} {v : Value} {l : List Mo} (h : MovsAt W v l) {i : Nat} {m : Mo} (hm : l[i]? = some m) :
    ∃ b o cap, v = .slice (some ⟨b, o, none⟩) l.length cap ∧ b < W.heap.size ∧ W.cell? ⟨b, o + i * 3, none⟩ = some (.int .i64 m.1) ∧ W.cell? ⟨b, o + i * 3 + 1, none⟩ = some (.int .i64 m.2.1) ∧ W.cell? ⟨b, o + i * 3 + 2, none⟩ = some (.int .i64 m.2.2) := by
  obtain ⟨pa, cap, rfl, h2, h3⟩ := h
  rcases h3 with rfl | ⟨b, o, rfl, hb, hc⟩
  · simp at hm
  · exact ⟨b, o, cap, rfl, hb, hc i m hm⟩
/-- Whether a move may come next. -/
def nextB (ms : List Sol) (gone : Nat) (m : Mo) : Bool := moveB ms.length m.1 m.2.1 m.2.2 && (!gone.testBit m.1.toNat && match ms[m.1.toNat]? with
  | some f => canGoF ms gone m.1.toNat f (m.2.1.toNat, m.2.2.toNat)
  | none => false)
def ordK (ms : List Sol) (gone : Nat) : List Mo → Bool
  | [] => true
  | m :: l => nextB ms gone m && ordK ms (gone ||| 2 ^ m.1.toNat) l
theorem kept_cell {b : Nat} {v : Value} {ms : List Sol} {av : Nat → Prop} {A B : World} (h : Kept b v ms av A B) (hw : Ways A b none ms av) {p : Addr} {u : Value} (hs : p.spot = none) (hc : A.cell? p = some u) : B.cell? p = some u := by
  have hlt : p.block < A.heap.size := by
    rcases Nat.lt_or_ge p.block A.heap.size with h1 | h1
    · exact h1
    · unfold World.cell? at hc
      rw [Array.getElem?_eq_none h1] at hc
      cases hc
  have hne : p.block ≠ b := fun e => by
    obtain ⟨n, D, ⟨es, clock, hbk, _⟩, _⟩ := hw
    unfold World.cell? at hc
    rw [e, hbk] at hc
    cases hc
  unfold World.cell? at hc ⊢
  rw [h.1.block p.block hlt (fun e => hne (by injection e))]
  exact hc
end Go.Proofs.YtoajocgfmbakjaaGreatDoor
/-
  isOrder.
-/
set_option linter.unusedVariables false
set_option linter.unusedSimpArgs false
namespace Go.Proofs.YtoajocgfmbakjaaGreatDoor
open Go Go.RowKit Go.Shelf

theorem moveB_ok {n : Nat} {p s far : Int} (h : moveB n p s far = true) : ∃ (p' : Nat) (x : SD), p = p' ∧ s = x.1 ∧ far = x.2 ∧ p' < n ∧ p.toNat = p' ∧ (s.toNat, far.toNat) = x := by
  unfold moveB wayB at h
  simp only [Bool.and_eq_true, decide_eq_true_eq] at h
  obtain ⟨⟨h1, h2⟩, h3⟩ := h
  refine ⟨p.toNat, (s.toNat, far.toNat), by omega, ?_, ?_, by omega, rfl, rfl⟩
  · show s = (s.toNat : Int); omega
  · show far = (far.toNat : Int); omega
set_option maxRecDepth 100000 in
set_option maxHeartbeats 4000000 in
theorem isOrder_ok (ms : List Sol) (l : List Mo) (v lv : Value) (b : Nat) (w : World) (hm : ∀ m ∈ ms, Fit m) (h12 : ms.length ≤ 12) (h20 : l.length ≤ 100) (hl : MovsAt w lv l) (av : Nat → Prop) (hav : ∀ k, av k → k < w.heap.size) (hv : Mld w v b ms av) :
    Calls Tryz.prog 115 #[mldV v b, lv] w (RetK (.bool (ordK ms 0 l)) b v ms av w) := by
  have HM := Lib.hid hm
  have HV := Lib.hid hv
  have HLV := Lib.hid hl
  have lb := hv.ways.lt
  clear hm
  obtain ⟨A, hA⟩ : ∃ A, A = w.heap.size := ⟨_, rfl⟩
  obtain ⟨W1, hW1⟩ : ∃ W1, W1 = w.alloc (.cells #[v, .map (some b)] 101) := ⟨_, rfl⟩
  have hB1 : Below w.heap.size w W1 := by rw [hW1]; exact (Below.refl _ w).alloc (Nat.le_refl _) _
  have m1 : W1.heap[A]? = some (.cells #[v, .map (some b)] 101 (0, 0)) := by rw [hW1, hA]; exact World.alloc_heap_new w _
  have HK1 := Lib.hid (kept_below (v := v) HV.out.ways hB1)
  obtain ⟨pa, cap, rfl, hmx, _⟩ := hv.sols
  obtain ⟨pl, cl, rfl, hlx, _⟩ := hl
  have HA := Lib.hid hA
  clear hA
  go_enter Tryz.func115, Tryz.ntmps115
  go_wp2_with fail
  rw [← hW1, ← HA.out]
  clear hv hB1 hW1
  go_loopw [5, 10] (fun s z wr => ∃ (i g : Nat), i ≤ l.length ∧ z = .int .i64 i ∧ s = setV g ∧ g < 65536 ∧ Hid (ordK ms 0 l = ordK ms g (l.drop i)) ∧ wr.heap[A]? = some (.cells #[.slice pa ms.length cap, .map (some b)] 101 (0, 0)) ∧ Hid (Kept b (.slice pa ms.length cap) ms av w wr)) (fun _ z _ => l.length - (intOf z).toNat)
  case atStart => exact ⟨0, 0, by omega, rfl, rfl, by omega, Lib.hid rfl, m1, HK1⟩
  case round =>
    clear m1 HK1
    obtain ⟨i, g, hi, rfl, rfl, hg, HT, mr, HK⟩ := hrel
    by_cases hlt : i < l.length
    · have di : decide ((i : Int) < (l.length : Int)) = true := decide_eq_true (by omega)
      have hii : (i : Int) < (l.length : Int) := by omega
      obtain ⟨m, hmi⟩ : ∃ m, l[i]? = some m := ⟨_, List.getElem?_eq_getElem hlt⟩
      obtain ⟨b1, o1, cl', he, hb1, x0, x1, x2⟩ := HLV.out.at hmi
      obtain ⟨rfl, rfl⟩ : pl = some ⟨b1, o1, none⟩ ∧ cl = cl' := by injection he with e1 e2 e3; exact ⟨e1, e3⟩
      have y0 := kept_cell HK.out HV.out.ways rfl x0
      have y1 := kept_cell HK.out HV.out.ways rfl x1
      have y2 := kept_cell HK.out HV.out.ways rfl x2
      have HE := Lib.hid (show ordK ms g (l.drop i) = (nextB ms g m && ordK ms (g ||| 2 ^ m.1.toNat) (l.drop (i + 1))) by
        rw [List.drop_eq_getElem_cons hlt]
        have : l[i] = m := by rw [List.getElem?_eq_getElem hlt] at hmi; exact Option.some.inj hmi
        rw [this]; rfl)
      obtain ⟨p, s, far⟩ := m
      have q1 : BoxM (wr.alloc (.cells #[.int .i64 (p), .int .i64 (s), .int .i64 (far)] 40)) wr.heap.size p s far := World.alloc_heap_new wr _
      have m4 := (Below.heap_alloc wr (.cells #[.int .i64 (p), .int .i64 (s), .int .i64 (far)] 40) A (Array.getElem?_eq_some_iff.1 mr).1).trans mr
      have HK4 := Lib.hid (kept_trans HK.out (kept_below (v := .slice pa ms.length cap) HK.out.2 ((Below.refl _ wr).alloc (Nat.le_refl _) (.cells #[.int .i64 (p), .int .i64 (s), .int .i64 (far)] 40))))
      have HIM := Lib.hid (fun W => isMove_ok pa ms.length cap p s far W)
      obtain ⟨c0, c1, c2⟩ := BoxM.cells q1
      have cA : (wr.alloc (.cells #[.int .i64 (p), .int .i64 (s), .int .i64 (far)] 40)).cell? ⟨A, 0, none⟩ = some (.slice pa ms.length cap) := by unfold World.cell?; rw [m4]; rfl
      clear x0 x1 x2 he hmi mr
      go_wp2_with fail
      refine (HIM.out _).mono ?_
      rintro e w5 ⟨rfl, hb5⟩
      have q5 := heap_below q1 hb5 (Array.getElem?_eq_some_iff.1 q1).1
      have m5 := heap_below m4 hb5 (Array.getElem?_eq_some_iff.1 m4).1
      have HK5 := Lib.hid (kept_trans HK4.out (kept_below (v := .slice pa ms.length cap) HK4.out.2 hb5))
      clear c0 c1 c2 cA q1 m4 hb5 y0 y1 y2
      cases hmv : moveB ms.length p s far with
      | false =>
        have HR := Lib.hid (show ordK ms 0 l = false by rw [HT.out, HE.out]; unfold nextB; rw [hmv]; rfl)
        go_wp2_with fail
        go_ret
        exact ⟨by rw [HR.out]; rfl, HK5.out⟩
      | true =>
        obtain ⟨p', x, rfl, rfl, rfl, hp', ht, hx⟩ := moveB_ok hmv
        obtain ⟨f, hf⟩ : ∃ f, ms[p']? = some f := ⟨_, List.getElem?_eq_getElem hp'⟩
        have HX := Lib.hid (show nextB ms g ((p' : Int), (x.1 : Int), (x.2 : Int)) = (!g.testBit p' && canGoF ms g p' f x) by
          unfold nextB
          dsimp only
          rw [hmv, ht, hx, hf, Bool.true_and])
        have HT2 := Lib.hid ht
        have HH := Lib.hid (fun W => has_ok g p' hg (by omega) W)
        have HC := Lib.hid (fun W (hsz : w.heap.size ≤ W.heap.size) (h : Mld W (.slice pa ms.length cap) b ms av) => canGo_ok ms g p' x f (.slice pa ms.length cap) b W hf HM.out h12 hg av (fun k hk => Nat.lt_of_lt_of_le (hav k hk) hsz) h)
        have HWI := Lib.hid (fun W => with_ok g p' hg (by omega) W)
        have hg2 := or16 hg (pow16_lt (p := p') (by omega))
        clear hf ht hx hmv
        obtain ⟨c0, c1, c2⟩ := BoxM.cells q5
        go_wp2_with fail
        refine (HH.out _).mono ?_
        rintro e w6 ⟨rfl, hb6⟩
        have q6 := heap_below q5 hb6 (Array.getElem?_eq_some_iff.1 q5).1
        have m6 := heap_below m5 hb6 (Array.getElem?_eq_some_iff.1 m5).1
        have HK6 := Lib.hid (kept_trans HK5.out (kept_below (v := .slice pa ms.length cap) HK5.out.2 hb6))
        clear c0 c1 c2 q5 m5 hb6
        cases hbit : g.testBit p' with
        | true =>
          have HR := Lib.hid (show ordK ms 0 l = false by rw [HT.out, HE.out, HX.out, hbit]; rfl)
          go_wp2_with fail
          go_ret
          exact ⟨by rw [HR.out]; rfl, HK6.out⟩
        | false =>
          obtain ⟨c0, c1, c2⟩ := BoxM.cells q6
          have cA : w6.cell? ⟨A, 0, none⟩ = some (.slice pa ms.length cap) := by unfold World.cell?; rw [m6]; rfl
          have cB : w6.cell? ⟨A, 1, none⟩ = some (.map (some b)) := by unfold World.cell?; rw [m6]; rfl
          have HM6 := Lib.hid (HV.out.kept HK6.out)
          go_wp2_with fail
          refine (HC.out _ HK6.out.1.size HM6.out).mono ?_
          rintro e w7 ⟨rfl, hk7⟩
          have q7 := kept_cells hk7 q6 HM6.out.ways
          have m7 := kept_cells hk7 m6 HM6.out.ways
          have HK7 := Lib.hid (kept_trans HK6.out hk7)
          clear c0 c1 c2 cA cB q6 m6 hk7
          cases hcg : canGoF ms g p' f x with
          | false =>
            have HR := Lib.hid (show ordK ms 0 l = false by rw [HT.out, HE.out, HX.out, hbit, hcg]; rfl)
            go_wp2_with fail
            go_ret
            exact ⟨by rw [HR.out]; rfl, HK7.out⟩
          | true =>
            have HR := Lib.hid (show ordK ms 0 l = ordK ms (g ||| 2 ^ p') (l.drop (i + 1)) by rw [HT.out, HE.out, HX.out, hbit, hcg, HT2.out]; rfl)
            obtain ⟨c0, c1, c2⟩ := cells3 q7
            go_wp2_with fail
            refine (HWI.out _).mono ?_
            rintro e w8 ⟨rfl, hb8⟩
            have m8 := heap_below m7 hb8 (Array.getElem?_eq_some_iff.1 m7).1
            have HK8 := Lib.hid (kept_trans HK7.out (kept_below (v := .slice pa ms.length cap) HK7.out.2 hb8))
            go_wp2_with fail
            case roundEnd => exact ⟨⟨i + 1, _, by omega, by go_num, rfl, hg2, HR, m8, HK8⟩, by simp [intOf]; omega⟩
    · obtain rfl : i = l.length := by omega
      have di : decide ((l.length : Int) < (l.length : Int)) = false := decide_eq_false (by omega)
      have HR := Lib.hid (show ordK ms 0 l = true by rw [HT.out, List.drop_length]; rfl)
      go_wp2
      go_ret
      exact ⟨by rw [HR.out]; rfl, HK.out⟩
end Go.Proofs.YtoajocgfmbakjaaGreatDoor
/-
  A mould is looked at; CheckMould; CheckOrder.
-/
set_option linter.unusedVariables false
set_option linter.unusedSimpArgs false
namespace Go.Proofs.YtoajocgfmbakjaaGreatDoor
open Go Go.RowKit Go.Shelf

theorem checkMould_ok (ms : List Sol) (v : Value) (w : World) (hv : SolsAt w v ms) (hm : ∀ m ∈ ms, Fit m) : Calls Tryz.prog 28 #[v] w (RetB (.int .i64 (chkM ms)) w) := by
  have HC := Lib.hid (check_ok ms v w hv hm)
  go_enter Tryz.func28, Tryz.ntmps28
  go_wp2_with fail
  refine HC.out.mono ?_
  rintro e w1 ⟨rfl, hb1⟩
  go_wp2
  go_ret
  exact ⟨rfl, hb1⟩
theorem res_lo {fn : Func} {t s : Tmp} {tmps : Array Value} {W : World} {B : Nat} {x y : Value} (h : fn.results = #[.cell t 101, .tmp s]) (ht : tmps[t]?.getD undef = .pointer (some ⟨B, 0, none⟩)) (h0 : W.cell? ⟨B, 0, none⟩ = some x) (h1 : W.cell? ⟨B, 1, none⟩ = some y) :
    (results fn tmps).run Tryz.prog W = .ok (.tuple #[.agg #[x, y], tmps.getD s undef]) W := by
  simp [results, h, ht, go_sem, h0, h1]
/-- The world behind a store of two cells. -/
abbrev put2 (W : World) (B : Nat) (x y : Value) : World := (W.setCell ⟨B, 0, none⟩ x).setCell ⟨B, 1, none⟩ y
theorem blk2_set {W : World} {B : Nat} {a b : Value} {T : TypeId} (h : W.heap[B]? = some (.cells #[a, b] T (0, 0))) (x y : Value) : (put2 W B x y).heap[B]? = some (.cells #[x, y] T (0, 0)) := by
  have one : ∀ {V : World} {cs : Array Value} (k : Nat) (v : Value), V.heap[B]? = some (.cells cs T (0, 0)) → (V.setCell ⟨B, k, none⟩ v).heap[B]? = some (.cells (cs.set! k v) T (0, 0)) := fun {V cs} k v hV => by
    obtain ⟨hlt, he⟩ := Array.getElem?_eq_some_iff.1 hV
    show (V.heap.modify B _)[B]? = _
    rw [Array.getElem?_eq_getElem (by rw [Array.size_modify]; exact hlt), Array.getElem_modify_self, he]
    rfl
  exact one 1 y (one 0 x h)
theorem put2_grown (W : World) (B : Nat) (x y : Value) : W.grownBy (put2 W B x y) (some B) :=
  ⟨rfl, rfl, rfl, by simp, fun i _ hne => by
    have h : i ≠ B := fun e => hne (by rw [e])
    exact (Below.heap_setCell _ ⟨B, 1, none⟩ y i h).trans (Below.heap_setCell W ⟨B, 0, none⟩ x i h)⟩
/-- No block. -/
abbrev noBlk : Nat → Prop := fun _ => False
set_option maxRecDepth 100000 in
set_option maxHeartbeats 2000000 in
theorem look_yes (ms : List Sol) (v : Value) (w : World) (hv : SolsAt w v ms) (hm : ∀ m ∈ ms, Fit m) (hc : chkM ms = 0) :
    Calls Tryz.prog 89 #[v] w fun e w' => ∃ b, e = .returned (.tuple #[mldV v b, .int .i64 0]) ∧ w.heap.size ≤ b ∧ Mld w' v b ms noBlk ∧ Below w.heap.size w w' := by
  have HV := Lib.hid hv
  have hB0 : Below w.heap.size w (w.alloc (.cells #[.slice none 0 0, .map none] 101)) := (Below.refl _ w).alloc (Nat.le_refl _) _
  have HC := checkMould_ok ms v (w.alloc (.cells #[.slice none 0 0, .map none] 101)) (hv.below hB0 (Nat.le_refl _)) hm
  rw [hc] at HC
  have HCC := Lib.hid HC
  have r0 : (w.alloc (.cells #[.slice none 0 0, .map none] 101)).heap[w.heap.size]? = some (.cells #[.slice none 0 0, .map none] 101 (0, 0)) := World.alloc_heap_new w _
  obtain ⟨pa, cap, rfl, _, _⟩ := hv
  clear HC hc hm
  have hmm := @run_makeMap Tryz.prog
  go_enter Tryz.func89, Tryz.ntmps89
  go_wp2_with fail
  refine HCC.out.mono ?_
  rintro e w1 ⟨rfl, hb1⟩
  have hB1 := up hb1 hB0
  have r1 := heap_below r0 hb1 (Array.getElem?_eq_some_iff.1 r0).1
  have r2 := (Below.heap_alloc w1 (.map #[] 0) _ (Array.getElem?_eq_some_iff.1 r1).1).trans r1
  have hB2 : Below w.heap.size w (w1.alloc (.map #[] 0)) := hB1.alloc hB1.size _
  have c0 := cells4 r2 0 _ rfl
  have c1 := cells4 r2 1 _ rfl
  have f0 := free3 r2 0
  have f1 := free3 r2 1
  have HW := Lib.hid (Ways.made w1 ms noBlk)
  have HB2 := Lib.hid hB2
  have HR := Lib.hid r2
  have HS := Lib.hid hB1.size
  clear r0 hB0 hb1 HCC r1 hB1 hB2 r2
  go_wp2_with fail
  have b3 := blk2_set HR.out (.slice pa ms.length cap) (.map (some w1.heap.size))
  have g3 := put2_grown (w1.alloc (.map #[] 0)) w.heap.size (.slice pa ms.length cap) (.map (some w1.heap.size))
  have hBf : Below w.heap.size w (put2 (w1.alloc (.map #[] 0)) w.heap.size (.slice pa ms.length cap) (.map (some w1.heap.size))) :=
    ⟨g3.os.trans HB2.out.os, g3.tape.trans HB2.out.tape, g3.output.trans HB2.out.output, Nat.le_trans HB2.out.size g3.size, fun k hk => (g3.block k (Nat.lt_of_lt_of_le hk HB2.out.size) (fun e => by injection e with e; omega)).trans (HB2.out.block k hk)⟩
  refine bodyPost_ret (res_lo Tryz.results89 rfl (cells4 b3 0 _ rfl) (cells4 b3 1 _ rfl)) rfl ⟨w1.heap.size, rfl, HS.out, ⟨HV.out.below hBf (Nat.le_refl _), HW.out.set HR.out (.inl (by decide)) g3⟩, hBf⟩
set_option maxRecDepth 100000 in
set_option maxHeartbeats 2000000 in
theorem look_no (ms : List Sol) (v : Value) (w : World) (hv : SolsAt w v ms) (hm : ∀ m ∈ ms, Fit m) (hc : chkM ms ≠ 0) :
    Calls Tryz.prog 89 #[v] w (RetB (.tuple #[.agg #[.slice none 0 0, .map none], .int .i64 (chkM ms)]) w) := by
  have hB0 : Below w.heap.size w (w.alloc (.cells #[.slice none 0 0, .map none] 101)) := (Below.refl _ w).alloc (Nat.le_refl _) _
  have HC := checkMould_ok ms v (w.alloc (.cells #[.slice none 0 0, .map none] 101)) (hv.below hB0 (Nat.le_refl _)) hm
  obtain ⟨c, hcc⟩ : ∃ c, c = chkM ms := ⟨_, rfl⟩
  rw [← hcc] at HC hc ⊢
  have hne : (c != 0) = true := by simpa using hc
  have HCC := Lib.hid HC
  have r0 : (w.alloc (.cells #[.slice none 0 0, .map none] 101)).heap[w.heap.size]? = some (.cells #[.slice none 0 0, .map none] 101 (0, 0)) := World.alloc_heap_new w _
  obtain ⟨pa, cap, rfl, _, _⟩ := hv
  clear HC hm hcc hc
  go_enter Tryz.func89, Tryz.ntmps89
  go_wp2_with fail
  refine HCC.out.mono ?_
  rintro e w1 ⟨rfl, hb1⟩
  have hB1 := up hb1 hB0
  have r1 := heap_below r0 hb1 (Array.getElem?_eq_some_iff.1 r0).1
  have c0 := cells4 r1 0 _ rfl
  have c1 := cells4 r1 1 _ rfl
  have f0 := free3 r1 0
  have f1 := free3 r1 1
  have HB1 := Lib.hid hB1
  have HR := Lib.hid r1
  clear r0 hB0 hb1 HCC r1 hB1
  go_wp2_with fail
  have b3 := blk2_set HR.out (.slice none 0 0) (.map none)
  have g3 := put2_grown w1 w.heap.size (.slice none 0 0) (.map none)
  have hBf : Below w.heap.size w (put2 w1 w.heap.size (.slice none 0 0) (.map none)) :=
    ⟨g3.os.trans HB1.out.os, g3.tape.trans HB1.out.tape, g3.output.trans HB1.out.output, Nat.le_trans HB1.out.size g3.size, fun k hk => (g3.block k (Nat.lt_of_lt_of_le hk HB1.out.size) (fun e => by injection e with e; omega)).trans (HB1.out.block k hk)⟩
  refine bodyPost_ret (res_lo Tryz.results89 rfl (cells4 b3 0 _ rfl) (cells4 b3 1 _ rfl)) rfl ⟨rfl, hBf⟩
/-- What CheckOrder says. -/
def chkO (ms : List Sol) (l : List Mo) : Bool := if chkM ms = 0 then ordK ms 0 l else false
end Go.Proofs.YtoajocgfmbakjaaGreatDoor
/-
  CheckOrder.
-/
set_option linter.unusedVariables false
set_option linter.unusedSimpArgs false
namespace Go.Proofs.YtoajocgfmbakjaaGreatDoor
open Go Go.RowKit Go.Shelf

theorem kept_out {b : Nat} {v : Value} {ms : List Sol} {av : Nat → Prop} {w A B : World} (h : Kept b v ms av A B) (hb : w.heap.size ≤ b) (hA : Below w.heap.size w A) : Below w.heap.size w B :=
  ⟨h.1.os.trans hA.os, h.1.tape.trans hA.tape, h.1.output.trans hA.output, Nat.le_trans hA.size h.1.size, fun k hk => (h.1.block k (Nat.lt_of_lt_of_le hk hA.size) (fun e => by injection e with e; omega)).trans (hA.block k hk)⟩
theorem MovsAt.below {n : Nat} {W W' : World} {v : Value} {l : List Mo} (h : MovsAt W v l) (hb : Below n W W') (hn : W.heap.size ≤ n) : MovsAt W' v l := by
  obtain ⟨pa, cap, rfl, h2, h3⟩ := h
  refine ⟨pa, cap, rfl, h2, h3.imp id ?_⟩
  rintro ⟨b, o, e1, e2, e3⟩
  refine ⟨b, o, e1, Nat.lt_of_lt_of_le e2 hb.size, fun i m hm => ?_⟩
  obtain ⟨x0, x1, x2⟩ := e3 i m hm
  have k : ∀ j, W'.cell? ⟨b, j, none⟩ = W.cell? ⟨b, j, none⟩ := fun j => hb.cell (p := ⟨b, j, none⟩) (Nat.lt_of_lt_of_le e2 hn)
  exact ⟨(k _).trans x0, (k _).trans x1, (k _).trans x2⟩
theorem chkM_len {ms : List Sol} (h : chkM ms = 0) : ms.length ≤ 12 := by
  unfold chkM at h
  split at h
  · cases h
  · omega
set_option maxRecDepth 100000 in
set_option maxHeartbeats 2000000 in
theorem checkOrder_ok (ms : List Sol) (l : List Mo) (v lv : Value) (w : World) (hv : SolsAt w v ms) (hl : MovsAt w lv l) (hm : ∀ m ∈ ms, Fit m) (h20 : l.length ≤ 100) :
    Calls Tryz.prog 47 #[v, lv] w (RetB (.tuple #[.bool (chkO ms l), .int .i64 (chkM ms)]) w) := by
  by_cases hc : chkM ms = 0
  · have HY := Lib.hid (look_yes ms v w hv hm hc)
    have HLV := Lib.hid hl
    have h12 := chkM_len hc
    have HM := Lib.hid hm
    have HO := Lib.hid (show chkO ms l = ordK ms 0 l from if_pos hc)
    rw [hc, HO.out]
    obtain ⟨pa, cap, rfl, _, _⟩ := hv
    clear hl hm hc
    go_enter Tryz.func47, Tryz.ntmps47
    go_wp2_with fail
    refine HY.out.mono ?_
    rintro e w1 ⟨b, rfl, hb, hM1, hB1⟩
    have q1 : (w1.alloc (.cells #[.slice pa ms.length cap, .map (some b)] 101)).heap[w1.heap.size]? = some (.cells #[.slice pa ms.length cap, .map (some b)] 101 (0, 0)) := World.alloc_heap_new w1 _
    have hA := (Below.refl _ w1).alloc (Nat.le_refl _) (.cells #[.slice pa ms.length cap, .map (some b)] 101)
    have hB2 : Below w.heap.size w (w1.alloc (.cells #[.slice pa ms.length cap, .map (some b)] 101)) := hB1.trans (hA.mono hB1.size)
    have c0 := cells4 q1 0 _ rfl
    have c1 := cells4 q1 1 _ rfl
    have HIO := Lib.hid (isOrder_ok ms l (.slice pa ms.length cap) lv b _ HM.out h12 h20 (HLV.out.below hB2 (Nat.le_refl _)) noBlk (fun _ h => h.elim) (hM1.below hA))
    have HB2 := Lib.hid hB2
    have HB := Lib.hid hb
    clear q1 hA hB2 hM1 hB1 hb
    go_wp2_with fail
    refine HIO.out.mono ?_
    rintro e w3 ⟨rfl, hk3⟩
    go_wp2
    go_returns
    exact ⟨rfl, kept_out hk3 HB.out HB2.out⟩
  · have HN := Lib.hid (look_no ms v w hv hm hc)
    have HO := Lib.hid (show chkO ms l = false from if_neg hc)
    rw [HO.out]
    obtain ⟨c, hcc⟩ : ∃ c, c = chkM ms := ⟨_, rfl⟩
    rw [← hcc] at HN hc ⊢
    have hne : (c != 0) = true := by simpa using hc
    clear hcc hc hm hl
    go_enter Tryz.func47, Tryz.ntmps47
    go_wp2_with fail
    refine HN.out.mono ?_
    rintro e w1 ⟨rfl, hB1⟩
    go_wp2
    go_returns
    exact ⟨rfl, hB1.alloc hB1.size _⟩
end Go.Proofs.YtoajocgfmbakjaaGreatDoor
