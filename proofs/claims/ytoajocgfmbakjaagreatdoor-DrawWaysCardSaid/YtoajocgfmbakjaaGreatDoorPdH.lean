/-
  slices.SortFunc of one element; sorted of one set.
-/
import Derived.Test.YtoajocgfmbakjaaGreatDoorPdC
import Derived.Test.YtoajocgfmbakjaaGreatDoorPdG
import Derived.Test.YtoajocgfmbakjaaGreatDoorPdB
set_option linter.unusedVariables false
set_option linter.unusedSimpArgs false
namespace Go.Proofs.YtoajocgfmbakjaaGreatDoor
open Go Go.RowKit Go.Shelf

set_option maxRecDepth 100000 in
theorem len64_1 (w : World) : Calls Tryz.prog 206 #[.int .u64 1] w (fun e w' => (∃ l : Int, e = .returned (.int .i64 l)) ∧ Below w.heap.size w w') := by
  go_enter Tryz.func206, Tryz.ntmps206
  go_wp2
  go_ret
  exact ⟨⟨_, rfl⟩, Below.refl _ _⟩
theorem len_1 (w : World) : Calls Tryz.prog 185 #[.int .u64 1] w (fun e w' => (∃ l : Int, e = .returned (.int .i64 l)) ∧ Below w.heap.size w w') := by
  have HL := Lib.hid (len64_1 w)
  go_enter Tryz.func185, Tryz.ntmps185
  go_wp2_with fail
  refine HL.out.mono ?_
  rintro e w1 ⟨⟨l, rfl⟩, hb⟩
  go_wp2
  go_ret
  exact ⟨⟨_, rfl⟩, hb⟩
theorem ins_1 (x f : Value) (w : World) : Calls Tryz.prog 197 #[x, .int .i64 0, .int .i64 1, f] w (RetB (.tuple #[]) w) := by
  go_enter Tryz.func197, Tryz.ntmps197
  go_wp2_with fail
  go_loopw [8] (fun z wr => z = .int .i64 1 ∧ wr = w) (fun _ _ => 0)
  case atStart => exact ⟨rfl, rfl⟩
  case round =>
    obtain ⟨rfl, rfl⟩ := hrel
    go_wp2
    go_end0
    exact ⟨rfl, Below.refl _ _⟩
theorem pdq_1 (x f : Value) (l : Int) (w : World) : Calls Tryz.prog 184 #[x, .int .i64 0, .int .i64 1, .int .i64 l, f] w (RetB (.tuple #[]) w) := by
  have HI := Lib.hid (ins_1 x f w)
  go_enter Tryz.func184, Tryz.ntmps184
  go_wp2_with fail
  go_loopw [1, 2] (fun a b wr => a = .int .i64 0 ∧ b = .int .i64 1 ∧ wr = w) (fun _ _ _ => 0)
  case atStart => exact ⟨rfl, rfl, rfl⟩
  case round =>
    obtain ⟨rfl, rfl, rfl⟩ := hrel
    go_wp2_with fail
    refine HI.out.mono ?_
    rintro e w1 ⟨rfl, hb⟩
    go_wp2
    refine bodyPost_ret (results_none rfl _ _ _) rfl ?_
    exact ⟨rfl, hb⟩
theorem sortFunc_1 (pa : Option Addr) (c : Nat) (f : Value) (w : World) : Calls Tryz.prog 175 #[.slice pa 1 c, f] w (RetB (.tuple #[]) w) := by
  have HL := Lib.hid (len_1 w)
  have HP := Lib.hid (fun l w' => pdq_1 (.slice pa 1 c) f l w')
  go_enter Tryz.func175, Tryz.ntmps175
  go_wp2_with fail
  refine HL.out.mono ?_
  rintro e w1 ⟨⟨l, rfl⟩, hb1⟩
  go_wp2_with fail
  refine (HP.out _ _).mono ?_
  rintro e w2 ⟨rfl, hb2⟩
  go_wp2
  go_end0
  exact ⟨rfl, hb1.trans (hb2.mono hb1.size)⟩
theorem sorted_1 (pa : Option Addr) (c : Nat) (w : World) : Calls Tryz.prog 162 #[.slice pa 1 c] w (RetB (.slice pa 1 c) w) := by
  have hmf : ∀ (fn : Fn) (first cap : Array Value) (w : World), (Instr.makeFunc fn first cap).run Tryz.prog w = .ok (.func fn first cap) w := fun _ _ _ _ => rfl
  have HS := Lib.hid (fun f w' => sortFunc_1 pa c f w')
  go_enter Tryz.func162, Tryz.ntmps162
  go_wp2_with fail
  refine (HS.out _ _).mono ?_
  rintro e w1 ⟨rfl, hb⟩
  go_wp2
  go_ret
  exact ⟨rfl, hb⟩
end Go.Proofs.YtoajocgfmbakjaaGreatDoor
/-
  The search for paths, where there is one way: the closure that calls itself.
-/
set_option linter.unusedVariables false
set_option linter.unusedSimpArgs false
namespace Go.Proofs.YtoajocgfmbakjaaGreatDoor
open Go Go.RowKit Go.Shelf

/-- One piece can go each time, until the piece has gone. -/
def chainP (ms : List Sol) (p : Nat) : Nat → List Nat → Prop
  | g, [] => g.testBit p = true
  | g, q :: r => g.testBit p = false ∧ readyF ms g = 2 ^ q ∧ chainP ms p (g ||| 2 ^ q) r
abbrev tryF (Kb Pb Fo A Tb : Nat) : Value := .func (.func 160) #[] #[.pointer (some ⟨Kb, 0, none⟩), .pointer (some ⟨Pb, 0, none⟩), .pointer (some ⟨Fo, 0, none⟩), .pointer (some ⟨A, 0, none⟩), .pointer (some ⟨Tb, 0, none⟩)]
abbrev triedV : Nat → Value := fun _ => .bool true
/-- What the search has captured. -/
structure TSt (W : World) (Kb Pb Fo A Tb K b p : Nat) (v : Value) (ms : List Sol) (T : Nat → Prop) : Prop where
  mld : Mld W v b ms noBlk
  kn : KnownM W K triedV T
  hA : W.heap[A]? = some (.cells #[v, .map (some b)] 101 (0, 0))
  hK : W.heap[Kb]? = some (.cells #[.map (some K)] 184 (0, 0))
  hP : W.heap[Pb]? = some (.cells #[.int .i64 p] 3 (0, 0))
  hT : W.heap[Tb]? = some (.cells #[tryF Kb Pb Fo A Tb] 185 (0, 0))
  ne : K ≠ b
  nf : Fo ≠ A ∧ Fo ≠ Kb ∧ Fo ≠ Pb ∧ Fo ≠ Tb
/-- All blocks but three lie as they lay. -/
def KeptP (b K Fo : Nat) (W W' : World) : Prop := W'.os = W.os ∧ W'.tape = W.tape ∧ W'.output = W.output ∧ W.heap.size ≤ W'.heap.size ∧ ∀ i, i < W.heap.size → i ≠ b → i ≠ K → i ≠ Fo → W'.heap[i]? = W.heap[i]?
theorem keptP_t {b K Fo : Nat} {X Y Z : World} (h : KeptP b K Fo X Y) (k : KeptP b K Fo Y Z) : KeptP b K Fo X Z :=
  ⟨k.1.trans h.1, k.2.1.trans h.2.1, k.2.2.1.trans h.2.2.1, Nat.le_trans h.2.2.2.1 k.2.2.2.1, fun i hi h1 h2 h3 => (k.2.2.2.2 i (Nat.lt_of_lt_of_le hi h.2.2.2.1) h1 h2 h3).trans (h.2.2.2.2 i hi h1 h2 h3)⟩
theorem keptP_O {b K Fo : Nat} {X Y : World} (h : KeptO b K X Y) : KeptP b K Fo X Y := ⟨h.1, h.2.1, h.2.2.1, h.2.2.2.1, fun i hi h1 h2 _ => h.2.2.2.2 i hi h1 h2⟩
theorem keptP_set {b K Fo : Nat} (W : World) (x : Value) : KeptP b K Fo W (W.setCell ⟨Fo, 0, none⟩ x) := ⟨rfl, rfl, rfl, by simp, fun i _ _ _ h => Below.heap_setCell W ⟨Fo, 0, none⟩ x i h⟩
theorem keptP_out {b K Fo : Nat} {w X Y : World} (h : KeptP b K Fo X Y) (hb : w.heap.size ≤ b) (hK : w.heap.size ≤ K) (hF : w.heap.size ≤ Fo) (hA : Below w.heap.size w X) : Below w.heap.size w Y :=
  ⟨h.1.trans hA.os, h.2.1.trans hA.tape, h.2.2.1.trans hA.output, Nat.le_trans hA.size h.2.2.2.1, fun k hk => (h.2.2.2.2 k (Nat.lt_of_lt_of_le hk hA.size) (by omega) (by omega) (by omega)).trans (hA.block k hk)⟩
section
variable {W W' : World} {Kb Pb Fo A Tb K b p : Nat} {v : Value} {ms : List Sol} {T : Nat → Prop}
theorem TSt.below (h : TSt W Kb Pb Fo A Tb K b p v ms T) (hb : Below W.heap.size W W') : TSt W' Kb Pb Fo A Tb K b p v ms T :=
  have hp : ∀ {k : Nat} {o : Obj}, W.heap[k]? = some o → W'.heap[k]? = some o := fun hk => heap_below hk hb (Array.getElem?_eq_some_iff.1 hk).1
  ⟨h.mld.below hb, h.kn.below hb, hp h.hA, hp h.hK, hp h.hP, hp h.hT, h.ne, h.nf⟩
theorem TSt.kept (h : TSt W Kb Pb Fo A Tb K b p v ms T) (hk : Kept b v ms noBlk W W') : TSt W' Kb Pb Fo A Tb K b p v ms T :=
  ⟨h.mld.kept hk, h.kn.kept hk.1 (fun e => by injection e with e; exact h.ne e), kept_cells hk h.hA h.mld.ways, kept_cells hk h.hK h.mld.ways, kept_cells hk h.hP h.mld.ways, kept_cells hk h.hT h.mld.ways, h.ne, h.nf⟩
theorem TSt.put (h : TSt W Kb Pb Fo A Tb K b p v ms T) {T' : Nat → Prop} (hg : W.grownBy W' (some K)) (hk : KnownM W' K triedV T') : TSt W' Kb Pb Fo A Tb K b p v ms T' := by
  obtain ⟨es, c, hb⟩ := h.kn.map
  have ne : ∀ {k : Nat} {cs : Array Value} {t : TypeId}, W.heap[k]? = some (.cells cs t (0, 0)) → W'.heap[k]? = some (.cells cs t (0, 0)) := fun {k cs t} hk => (hg.block k (Array.getElem?_eq_some_iff.1 hk).1 (fun e => by injection e with e; rw [e, hb] at hk; cases hk)).trans hk
  exact ⟨mld_grown h.mld hg h.ne ⟨_, hb, rfl⟩, hk, ne h.hA, ne h.hK, ne h.hP, ne h.hT, h.ne, h.nf⟩
end
theorem KnownM.look {W : World} {K : Nat} {val : Nat → Value} {T : Nat → Prop} (h : KnownM W K val T) {t e : TypeId} (ht : Tryz.prog.underlying t = some (.map 106 e)) {z : Value} (hz : (zeroValue e).run Tryz.prog W = .ok z W) {g : Nat} (hg : g < 65536) (hT : ¬ T g) :
    (Instr.lookup t (.map (some K)) (setV g) false).run Tryz.prog W = .ok z W := by
  obtain ⟨n, D, h, hn, h1, h2⟩ := h
  obtain ⟨v, ps, hrun, hv⟩ := h.lookup set_key ht hz (zd := .held z) (zp := []) rfl (key_set hg)
  have hf : Go.Maps.has D (kS g) = false := by
    cases hh : Go.Maps.has D (kS g) with
    | false => rfl
    | true => exact absurd ((h1 g hg).1 hh) hT
  rw [Go.Maps.atKey_of_not_has hf] at hv
  simp only [heldV, Option.some.injEq, Prod.mk.injEq] at hv
  have : v = z := by have := hv.1; injection this
  rw [hrun, this]
/-- How it ends: the one set is found. -/
def SPost (Fo K b : Nat) (s : Nat) (W : World) : Ending → World → Prop := fun e W' =>
  e = .returned (.tuple #[]) ∧ KeptP b K Fo W W' ∧ ∃ u, W'.heap[Fo]? = some (.cells #[u] 142 (0, 0)) ∧ W'.ownsRow W.heap.size 106 1 u 1 (flatU [s])
set_option maxRecDepth 100000 in
set_option maxHeartbeats 2000000 in
theorem search_end (ms : List Sol) (g Kb Pb Fo A Tb K b p : Nat) (v : Value) (T : Nat → Prop) (w : World) (hg : g < 65536) (hp16 : p < 16) (hgp : g.testBit p = true) (hnT : ¬ T g) (hS : TSt w Kb Pb Fo A Tb K b p v ms T) (hF : w.heap[Fo]? = some (.cells #[.slice none 0 0] 142 (0, 0))) :
    Calls Tryz.prog 160 #[setV g, .pointer (some ⟨Kb, 0, none⟩), .pointer (some ⟨Pb, 0, none⟩), .pointer (some ⟨Fo, 0, none⟩), .pointer (some ⟨A, 0, none⟩), .pointer (some ⟨Tb, 0, none⟩)] w (SPost Fo K b g w) := by
  have HS := Lib.hid hS
  have hrun := hS.kn.look under_tried (zero_bool' w) hg hnT
  obtain ⟨W1, hrun1, hk1, hg1⟩ := hS.kn.put under_tried hg hnT
  have HS1 := Lib.hid (hS.put hg1 hk1)
  have HK1 := Lib.hid (keptO_grown (b := b) hg1)
  obtain ⟨es, c, hb⟩ := hS.kn.map
  have F1 : W1.heap[Fo]? = some (.cells #[.slice none 0 0] 142 (0, 0)) := (hg1.block Fo (Array.getElem?_eq_some_iff.1 hF).1 (fun e => by injection e with e; rw [e, hb] at hF; cases hF)).trans hF
  have k0 := cells4 hS.hK 0 _ rfl
  have k1 := cells4 HS1.out.hK 0 _ rfl
  have p1 := cells4 HS1.out.hP 0 _ rfl
  have HHA := Lib.hid (fun w' => has_ok g p hg hp16 w')
  have HSZ := Lib.hid hg1.size
  obtain ⟨i0, hi0, hz0, hz1, hz2⟩ := info_parts info_set
  have HFW := Lib.hid (Array.getElem?_eq_some_iff.1 hF).1
  clear hS hk1 hg1 hb hF
  go_enter Tryz.func160, Tryz.ntmps160
  go_wp2_with fail
  refine (HHA.out _).mono ?_
  rw [hgp]
  rintro e w2 ⟨rfl, hb2⟩
  have F2 := heap_below F1 hb2 (Array.getElem?_eq_some_iff.1 F1).1
  have HK2 := Lib.hid (keptO_t HK1.out (keptO_below hb2))
  have hsz2 := Nat.le_trans HSZ.out hb2.size
  have f0 := cells4 F2 0 _ rfl
  have lF := (Array.getElem?_eq_some_iff.1 F2).1
  have HF2 := Lib.hid F2
  clear k0 k1 p1 hrun hrun1 F1 hb2
  go_wp2_with (at_builtin; refine wpList_append_own _ rfl _ _ 142 rfl w.heap.size 106 i0 (.int .u16 0) 1 2 under_sets hi0 hz0 hz1 hz2 rfl (by decide) (.slice none 0 0) _ _ rfl (World.ownsRow_nil _ _ _ _) ⟨w2.heap.size, 0, none⟩ 1 1 [.int .u16 (g : Int)] rfl rfl (set_new _ rfl _) (by simp [Value.oneCell']) (by simp [maxLen]) (by omega) (by simp; omega) ?_; intro v' w5 hown' hgrow _; obtain ⟨g', cap', rfl⟩ := ownsRow_succ hown'; have F5 := (hgrow.block Fo (by simp; omega) (by simp [Value.ownBlock])).trans ((Below.heap_alloc w2 (.cells #[.int .u16 (g : Int)] 106) Fo lF).trans HF2.out); have e0 := cells4 F5 0 _ rfl; have fr0 := free3 F5 0; have HG5 := Lib.hid hgrow)
  have hb5 : Below w2.heap.size w2 w5 := ((Below.refl _ w2).alloc (Nat.le_refl _) (.cells #[.int .u16 (g : Int)] 106)).grown HG5.out (by simp) fun j ej => by cases ej
  have hFg : Fo ≠ g' := fun e => by have := (hown'.lt g' rfl).1; have := HFW.out; omega
  refine bodyPost_ret (results_none rfl _ _ _) rfl ⟨rfl, keptP_t (keptP_O (keptO_t HK2.out (keptO_below hb5))) (keptP_set _ _), _, blk1_set F5 _, ?_⟩
  obtain ⟨h1, h2⟩ := hown'
  refine ⟨h1, h2.imp id ?_⟩
  rintro ⟨gg, cap, cur, e1, e2, e3, e4⟩
  obtain rfl : gg = g' := by injection e1 with e1; injection e1 with e1; injection e1 with e1; exact e1.symm
  exact ⟨gg, cap, cur, e1, e2, heap_set e3 (fun e => hFg e.symm) _, e4⟩
set_option maxRecDepth 100000 in
set_option maxHeartbeats 2000000 in
theorem search_step (ms : List Sol) (g q s Kb Pb Fo A Tb K b p : Nat) (v : Value) (T : Nat → Prop) (w : World) (hm : ∀ m ∈ ms, Fit m) (h12 : ms.length ≤ 12) (hg : g < 65536) (hp16 : p < 16) (hgp : g.testBit p = false) (hrd : readyF ms g = 2 ^ q) (hq12 : q < 12) (hnT : ¬ T g) (hTab : Tab32 w) (hS : TSt w Kb Pb Fo A Tb K b p v ms T) (hF : w.heap[Fo]? = some (.cells #[.slice none 0 0] 142 (0, 0)))
    (hIH : ∀ (w' : World), w.heap.size ≤ w'.heap.size → Tab32 w' → TSt w' Kb Pb Fo A Tb K b p v ms (fun x => T x ∨ x = g) → w'.heap[Fo]? = some (.cells #[.slice none 0 0] 142 (0, 0)) →
      Calls Tryz.prog 160 #[setV (g ||| 2 ^ q), .pointer (some ⟨Kb, 0, none⟩), .pointer (some ⟨Pb, 0, none⟩), .pointer (some ⟨Fo, 0, none⟩), .pointer (some ⟨A, 0, none⟩), .pointer (some ⟨Tb, 0, none⟩)] w' (SPost Fo K b s w')) :
    Calls Tryz.prog 160 #[setV g, .pointer (some ⟨Kb, 0, none⟩), .pointer (some ⟨Pb, 0, none⟩), .pointer (some ⟨Fo, 0, none⟩), .pointer (some ⟨A, 0, none⟩), .pointer (some ⟨Tb, 0, none⟩)] w (SPost Fo K b s w) := by
  have HS := Lib.hid hS
  have HM := Lib.hid hm
  have HIH := Lib.hid hIH
  have HT := Lib.hid hTab
  have hrun := hS.kn.look under_tried (zero_bool' w) hg hnT
  obtain ⟨W1, hrun1, hk1, hg1⟩ := hS.kn.put under_tried hg hnT
  have HS1 := Lib.hid (hS.put hg1 hk1)
  have HK1 := Lib.hid (keptO_grown (b := b) hg1)
  obtain ⟨es, c, hb⟩ := hS.kn.map
  have F1 : W1.heap[Fo]? = some (.cells #[.slice none 0 0] 142 (0, 0)) := (hg1.block Fo (Array.getElem?_eq_some_iff.1 hF).1 (fun e => by injection e with e; rw [e, hb] at hF; cases hF)).trans hF
  have no1 : ∃ o : Obj, w.heap[b]? = some o ∧ o.isCells = false := by
    obtain ⟨n, D, ⟨es, clock, hbk, _⟩, _⟩ := hS.mld.ways
    exact ⟨_, hbk, rfl⟩
  have no2 : ∃ o : Obj, w.heap[K]? = some o ∧ o.isCells = false := ⟨_, hb, rfl⟩
  have HNO := Lib.hid no1
  have HNO2 := Lib.hid no2
  have T1 : Tab32 W1 := fun j hj => tab_kO HK1.out no1 no2 (hTab j hj)
  have k0 := cells4 hS.hK 0 _ rfl
  have k1 := cells4 HS1.out.hK 0 _ rfl
  have p1 := cells4 HS1.out.hP 0 _ rfl
  have HHA := Lib.hid (fun w' => has_ok g p hg hp16 w')
  have HSZ := Lib.hid hg1.size
  obtain ⟨pa, cap, rfl, _, _⟩ := hS.mld.sols
  have hrd16 : readyF ms g < 65536 := readyK_lt ms g ms.length (by omega)
  have HRD := Lib.hid (fun w' (h : Mld w' (.slice pa ms.length cap) b ms noBlk) => ready_ok ms g (.slice pa ms.length cap) b w' HM.out h12 hg noBlk (fun _ h => h.elim) h)
  have HLQ := Lib.hid (show listS (2 ^ q) = [q] from by
    have := list_setL (l := [q]) (by simp) (fun x hx => by simp at hx; omega)
    unfold setL setL at this
    rwa [Nat.zero_or] at this)
  rw [hrd] at HRD hrd16
  have HT1 := Lib.hid T1
  clear hS hk1 hg1 hb hF hm hIH hTab hrd no1 no2 T1
  go_enter Tryz.func160, Tryz.ntmps160
  go_wp2_with fail
  refine (HHA.out _).mono ?_
  rw [hgp]
  rintro e w2 ⟨rfl, hb2⟩
  have F2 := heap_below F1 hb2 (Array.getElem?_eq_some_iff.1 F1).1
  have HS2 := Lib.hid (HS1.out.below hb2)
  have HK2 := Lib.hid (keptO_t HK1.out (keptO_below hb2))
  have HT2 := Lib.hid (HT1.out.below hb2 (Nat.le_refl _))
  have a0 := cells4 HS2.out.hA 0 _ rfl
  have a1 := cells4 HS2.out.hA 1 _ rfl
  clear k0 k1 p1 hrun hrun1 F1 hb2
  go_wp2_with fail
  refine (HRD.out _ HS2.out.mld).mono ?_
  rintro e w3 ⟨rfl, hk3⟩
  have F3 := kept_cells hk3 F2 HS2.out.mld.ways
  have HS3 := Lib.hid (HS2.out.kept hk3)
  have HK3 := Lib.hid (keptO_t HK2.out (keptO_kept (K := K) hk3))
  have HT3 := Lib.hid (show Tab32 w3 from fun j hj => kept_cell hk3 HS2.out.mld.ways rfl (HT2.out j hj))
  have HLI := Lib.hid (list_ok (2 ^ q) w3 hrd16 HT3.out)
  clear a0 a1 F2 hk3
  go_wp2_with fail
  refine HLI.out.mono ?_
  rw [HLQ.out]
  rintro e w4 ⟨⟨u, rfl, hrow, hnil⟩, hb4⟩
  have F4 := heap_below F3 hb4 (Array.getElem?_eq_some_iff.1 F3).1
  have HS4 := Lib.hid (HS3.out.below hb4)
  have HK4 := Lib.hid (keptO_t HK3.out (keptO_below hb4))
  have HT4 := Lib.hid (HT3.out.below hb4 (Nat.le_refl _))
  have HI4 := Lib.hid (intsAt_own hrow)
  obtain ⟨pu, cu, rfl⟩ := row_shape hrow
  obtain ⟨b1, o1, cl', he, hb1, e0⟩ := HI4.out.at (i := 0) (x := (q : Int)) rfl
  obtain ⟨rfl, rfl⟩ : pu = some ⟨b1, o1, none⟩ ∧ cu = cl' := by injection he with e1 e2 e3; exact ⟨e1, e3⟩
  have hlq : ([q] : List Nat).length = 1 := rfl
  rw [hlq]
  rw [Nat.add_zero] at e0
  have HF4 := Lib.hid F4
  have HE0 := Lib.hid e0
  clear hrow hnil hb4 HLI F3 he F4 e0
  have HWI := Lib.hid (fun w' => with_ok g q hg (by omega) w')
  go_wp2_with fail
  go_loopw [26] (fun z wr => (z = .int .i64 0 ∧ wr = w4) ∨ (z = .int .i64 1 ∧ Hid (SPost Fo K b s w (.returned (.tuple #[])) wr))) (fun z _ => 1 - (intOf z).toNat)
  case atStart => exact .inl ⟨rfl, rfl⟩
  case round =>
    rcases hrel with ⟨rfl, rfl⟩ | ⟨rfl, HSP⟩
    · have f0 := cells4 HS4.out.hT 0 _ rfl
      have lF := (Array.getElem?_eq_some_iff.1 HS4.out.hT).1
      have e0 := HE0.out
      go_wp2_with fail
      (refine wp_region_quiet_tail 4 (fun w' => Below wr.heap.size wr w') (by kernel_rfl) (by kernel_rfl) (Below.drew (Below.refl _ _)) ?_; simp only [List.take_succ_cons, List.take_zero, List.drop_succ_cons, List.drop_zero]; (iterate 4 (refine wpQuiet_step (fun K hK => ?_); go_simp; first | (refine hK _ ?_; clear hK K) | (apply Exists.intro; refine ⟨fun W' hW' => ?_, hK _ ?_⟩; (focus (first | (with_reducible exact rfl) | (with_reducible exact ⟨rfl, rfl⟩) | (obtain ⟨hcq, hfq⟩ := bcell hW'; have hzq := hW'.size; (try go_simp); first | (with_reducible exact rfl) | (with_reducible exact ⟨rfl, rfl⟩) | (first | ((with_reducible refine Calls.mono (HWI.out _) ?_); rintro e w9 ⟨rfl, hb9⟩; exact ⟨rfl, hW'.trans (hb9.mono hW'.size)⟩))))); clear hK K))); refine wpQuiet_nil ?_; intro w1q hb1q)
      have HS5 := Lib.hid (HS4.out.below hb1q)
      have HK5 := Lib.hid (keptO_t HK4.out (keptO_below hb1q))
      have HT5 := Lib.hid (HT4.out.below hb1q (Nat.le_refl _))
      have HF5 := Lib.hid (heap_below HF4.out hb1q (Array.getElem?_eq_some_iff.1 HF4.out).1)
      clear f0 lF e0 hb1q
      go_wp2_with fail
      refine (HIH.out _ HK5.out.2.2.2.1 HT5.out HS5.out HF5.out).mono ?_
      rintro e w6 ⟨rfl, hk6, u, hu, hrow⟩
      have HSP := Lib.hid (show SPost Fo K b s w (.returned (.tuple #[])) w6 from ⟨rfl, keptP_t (keptP_O HK5.out) hk6, u, hu, row_base hrow HK5.out.2.2.2.1⟩)
      go_wp2_with fail
      case roundEnd => exact ⟨.inr ⟨by go_num, HSP⟩, by simp [intOf]⟩
    · go_wp2_with fail
      go_end0
      exact HSP.out
theorem search_ok (ms : List Sol) (Kb Pb Fo A Tb K b p : Nat) (v : Value) (hm : ∀ m ∈ ms, Fit m) (h12 : ms.length ≤ 12) (hp16 : p < 16) : ∀ (r : List Nat) (g : Nat) (T : Nat → Prop) (w : World), chainP ms p g r → g < 65536 → (∀ x, T x → x < g) → Tab32 w → TSt w Kb Pb Fo A Tb K b p v ms T → w.heap[Fo]? = some (.cells #[.slice none 0 0] 142 (0, 0)) →
    Calls Tryz.prog 160 #[setV g, .pointer (some ⟨Kb, 0, none⟩), .pointer (some ⟨Pb, 0, none⟩), .pointer (some ⟨Fo, 0, none⟩), .pointer (some ⟨A, 0, none⟩), .pointer (some ⟨Tb, 0, none⟩)] w (SPost Fo K b (setL g r) w)
  | [], g, T, w, hc, hg, hT, hTab, hS, hF => search_end ms g Kb Pb Fo A Tb K b p v T w hg hp16 hc (fun h => by have := hT g h; omega) hS hF
  | q :: r, g, T, w, hc, hg, hT, hTab, hS, hF => by
    obtain ⟨h1, h2, h3⟩ := hc
    have hq := ready_bit.1 (show (readyF ms g).testBit q = true by rw [h2]; exact pow_bit_self q)
    have hgt := or_gt hq.2.1
    exact search_step ms g q _ Kb Pb Fo A Tb K b p v T w hm h12 hg hp16 h1 h2 (by omega) (fun h => by have := hT g h; omega) hTab hS hF
      (fun w' _ hT' hS' hF' => search_ok ms Kb Pb Fo A Tb K b p v hm h12 hp16 r (g ||| 2 ^ q) _ w' h3 (or16 hg (pow16_lt (by omega))) (fun x hx => hx.elim (fun h => by have := hT x h; omega) (fun h => by omega)) hT' hS' hF')
end Go.Proofs.YtoajocgfmbakjaaGreatDoor
/-
  The smallest of one set; the paths where there is one way; Paths.
-/
set_option linter.unusedVariables false
set_option linter.unusedSimpArgs false
namespace Go.Proofs.YtoajocgfmbakjaaGreatDoor
open Go Go.RowKit Go.Shelf
attribute [local go_sem] Oper.semAt_some

set_option maxRecDepth 100000 in
set_option maxHeartbeats 1000000 in
theorem smallest_1 (s : Nat) (v : Value) (w : World) (hv : SetsAt w v [s]) : Calls Tryz.prog 161 #[v] w fun e w' => (∃ u, e = .returned u ∧ w'.ownsRow w.heap.size 106 1 u 1 (flatU [s])) ∧ Below w.heap.size w w' := by
  obtain ⟨i0, hi0, hz0, hz1, hz2⟩ := info_parts info_set
  obtain ⟨b1, o1, cl, rfl, hb1, e0⟩ := hv.at (i := 0) (x := s) rfl
  rw [Nat.add_zero] at e0
  have hl1 : ([s] : List Nat).length = 1 := rfl
  rw [hl1]
  clear hv hl1
  refine (callsIn_wide (n := 9)).1 ?_
  refine callsIn_of_wp_marks Tryz.func161 rfl trivial ?_ rfl
  simp only [Tryz.ntmps161, List.size_toArray, List.length_cons, List.length_nil, Nat.reduceAdd, Nat.reduceSub, Array.replicate_succ, Array.replicate_zero, List.push_toArray, List.append_toArray, List.nil_append, List.cons_append]
  refine wpIn_wide.2 ?_
  go_wp2_with fail
  go_step3
  go_wp2_with fail
  go_step3
  go_wp2_with fail
  go_loopw [3, 10] (fun k z wr => (k = .slice none 0 0 ∧ z = .int .i64 0 ∧ wr = w) ∨ (z = .int .i64 1 ∧ wr.ownsRow w.heap.size 106 1 k 1 (flatU [s]) ∧ Below w.heap.size w wr)) (fun _ z _ => 1 - (intOf z).toNat)
  case atStart => exact .inl ⟨rfl, rfl, rfl⟩
  case round =>
    rcases hrel with ⟨rfl, rfl, rfl⟩ | ⟨rfl, hrow, hB⟩
    · go_wp2_with fail
      obtain ⟨wo, hwo⟩ : ∃ wo, wo = wr := ⟨_, rfl⟩
      go_loopw [16] (fun z wi => z = .int .i64 0 ∧ wi = wo) (fun _ _ => 0)
      case atStart => exact ⟨rfl, hwo.symm⟩
      case round =>
        obtain ⟨rfl, rfl⟩ := hrel
        subst hwo
        go_wp2_with (at_builtin; refine wpList_append_own _ rfl _ _ 142 rfl wr.heap.size 106 i0 (.int .u16 0) 1 2 under_sets hi0 hz0 hz1 hz2 rfl (by decide) (.slice none 0 0) _ _ rfl (World.ownsRow_nil _ _ _ _) ⟨wr.heap.size, 0, none⟩ 1 1 [.int .u16 (s : Int)] rfl rfl (set_new _ rfl _) (by simp [Value.oneCell']) (by simp [maxLen]) (by omega) (by simp) ?_; intro v' w5 hown' hgrow _; obtain ⟨g', cap', rfl⟩ := ownsRow_succ hown')
        case roundEnd =>
          have hb5 : Below wr.heap.size wr w5 := ((Below.refl _ wr).alloc (Nat.le_refl _) (.cells #[.int .u16 (s : Int)] 106)).grown hgrow (by simp) fun j ej => by cases ej
          exact ⟨.inr ⟨by go_num, hown', hb5⟩, by simp [intOf]⟩
    · go_wp2_with fail
      rw [Exit.noGoto_ret]
      refine ⟨_, results_tmp rfl _ _ _, ⟨_, rfl, ?_⟩, hB⟩
      exact hrow
/-- The set found, where there is one way. -/
theorem paths_1 (ms : List Sol) (p : Nat) (r : List Nat) (v : Value) (b : Nat) (w0 w : World) (hm : ∀ m ∈ ms, Fit m) (h12 : ms.length ≤ 12) (hp16 : p < 16) (hc : chainP ms p 0 r) (hT : Tab32 w) (hv : Mld w v b ms noBlk) (hw0 : Below w0.heap.size w0 w) (hb0 : w0.heap.size ≤ b) :
    Calls Tryz.prog 135 #[mldV v b, .int .i64 p] w fun e w' => (∃ u, e = .returned u ∧ w'.ownsRow w0.heap.size 106 1 u 1 (flatU [setL 0 r])) ∧ Below w0.heap.size w0 w' := by
  have hmm := @run_makeMap Tryz.prog
  have HV := Lib.hid hv
  have HT := Lib.hid hT
  have HM := Lib.hid hm
  have HC := Lib.hid hc
  have HW0 := Lib.hid hw0
  have HB0 := Lib.hid hb0
  obtain ⟨A, hA⟩ : ∃ A, A = w.heap.size := ⟨_, rfl⟩
  obtain ⟨Pb, hPb⟩ : ∃ Pb, Pb = w.heap.size + 1 := ⟨_, rfl⟩
  obtain ⟨K, hK⟩ : ∃ K, K = w.heap.size + 1 + 1 := ⟨_, rfl⟩
  obtain ⟨Kb, hKb⟩ : ∃ Kb, Kb = w.heap.size + 1 + 1 + 1 := ⟨_, rfl⟩
  obtain ⟨Fo, hFo⟩ : ∃ Fo, Fo = w.heap.size + 1 + 1 + 1 + 1 := ⟨_, rfl⟩
  obtain ⟨Tb, hTb⟩ : ∃ Tb, Tb = w.heap.size + 1 + 1 + 1 + 1 + 1 := ⟨_, rfl⟩
  obtain ⟨pa, cap, rfl, _, _⟩ := hv.sols
  obtain ⟨U, hU⟩ : ∃ U, U = (((((w.alloc (.cells #[.slice pa ms.length cap, .map (some b)] 101)).alloc (.cells #[.int .i64 p] 3)).alloc (.map #[] 0)).alloc (.cells #[.map (some K)] 184)).alloc (.cells #[.slice none 0 0] 142)).alloc (.cells #[tryF Kb Pb Fo A Tb] 185) := ⟨_, rfl⟩
  have new : ∀ (X : World) (o : Obj) (n : Nat), n = X.heap.size → (X.alloc o).heap[n]? = some o := fun X o n h => by subst h; exact World.alloc_heap_new X o
  have old : ∀ {X : World} {o : Obj} {n : Nat} {x : Obj}, X.heap[n]? = some x → (X.alloc o).heap[n]? = some x := fun {X o n x} h => (Below.heap_alloc X o n (Array.getElem?_eq_some_iff.1 h).1).trans h
  have hBU : Below w.heap.size w U := by
    rw [hU]
    exact ((((((Below.refl _ w).alloc (Nat.le_refl _) _).alloc (by simp) _).alloc (by simp; omega) _).alloc (by simp; omega) _).alloc (by simp; omega) _).alloc (by simp; omega) _
  have aU : U.heap[A]? = some (.cells #[.slice pa ms.length cap, .map (some b)] 101 (0, 0)) := by rw [hU]; exact old (old (old (old (old (new _ _ _ hA)))))
  have pU : U.heap[Pb]? = some (.cells #[.int .i64 p] 3 (0, 0)) := by rw [hU]; exact old (old (old (old (new _ _ _ (by simp [hPb])))))
  have kU : U.heap[Kb]? = some (.cells #[.map (some K)] 184 (0, 0)) := by rw [hU]; exact old (old (new _ _ _ (by simp [hKb])))
  have fU : U.heap[Fo]? = some (.cells #[.slice none 0 0] 142 (0, 0)) := by rw [hU]; exact old (new _ _ _ (by simp [hFo]))
  have tU : U.heap[Tb]? = some (.cells #[tryF Kb Pb Fo A Tb] 185 (0, 0)) := by rw [hU]; exact new _ _ _ (by simp [hTb])
  have knU : KnownM U K triedV (fun _ => False) := by
    have h := KnownM.made ((w.alloc (.cells #[.slice pa ms.length cap, .map (some b)] 101)).alloc (.cells #[.int .i64 p] 3)) triedV
    rw [show ((w.alloc (.cells #[.slice pa ms.length cap, .map (some b)] 101)).alloc (.cells #[.int .i64 p] 3)).heap.size = K by simp [hK]] at h
    rw [hU]
    have b1 := fun (X : World) (o : Obj) => (Below.refl X.heap.size X).alloc (Nat.le_refl _) o
    exact ((h.below (b1 _ _)).below (b1 _ _)).below (b1 _ _)
  have lb := hv.ways.lt
  have HTS := Lib.hid (show TSt U Kb Pb Fo A Tb K b p (.slice pa ms.length cap) ms (fun _ => False) from ⟨HV.out.below hBU, knU, aU, kU, pU, tU, by omega, by omega, by omega, by omega, by omega⟩)
  have HFU := Lib.hid fU
  have HSO := Lib.hid (search_ok ms Kb Pb Fo A Tb K b p (.slice pa ms.length cap) HM.out h12 hp16 r 0 (fun _ => False) U HC.out (by omega) (fun _ h => h.elim) (HT.out.below hBU (Nat.le_refl _)) HTS.out HFU.out)
  have HBU := Lib.hid (HW0.out.trans (hBU.mono HW0.out.size))
  have HSZ := Lib.hid hBU.size
  have HKS := Lib.hid (show w0.heap.size ≤ K by have := HW0.out.size; omega)
  have HFS := Lib.hid (show w0.heap.size ≤ Fo by have := HW0.out.size; omega)
  clear hv hT hm hc hw0 hb0 aU pU kU fU tU knU hBU new old
  go_enter Tryz.func135, Tryz.ntmps135
  go_wp2_with fail
  rw [← hTb, ← hFo, ← hKb, ← hK, ← hPb, ← hA]
  rw [← hU]
  clear hU hTb hFo hKb hK hPb hA
  refine HSO.out.mono ?_
  rintro e w1 ⟨rfl, hk1, u, hu, hrow⟩
  have HB1 := Lib.hid (keptP_out hk1 HB0.out HKS.out HFS.out HBU.out)
  have HR1 := Lib.hid hrow
  obtain ⟨pu, cu, rfl⟩ := row_shape hrow
  have f0 := cells4 hu 0 _ rfl
  have HS1 := Lib.hid (fun w' => sorted_1 pu cu w')
  clear hk1 hu hrow
  go_wp2_with fail
  refine (HS1.out _).mono ?_
  rintro e w2 ⟨rfl, hb2⟩
  have HB2 := Lib.hid (up hb2 HB1.out)
  have hr2 := row_below HR1.out hb2
  have HSM := Lib.hid (smallest_1 (setL 0 r) (.slice pu 1 cu) w2 (setsAt_own (l := [setL 0 r]) hr2))
  clear f0 hb2 hr2
  go_wp2_with fail
  refine HSM.out.mono ?_
  rintro e w3 ⟨⟨x, rfl, hrx⟩, hb3⟩
  go_wp2
  go_ret
  exact ⟨⟨x, rfl, row_base hrx HB2.out.size⟩, up hb3 HB2.out⟩
end Go.Proofs.YtoajocgfmbakjaaGreatDoor
/-
  Paths where there is one way.
-/
set_option linter.unusedVariables false
set_option linter.unusedSimpArgs false
namespace Go.Proofs.YtoajocgfmbakjaaGreatDoor
open Go Go.RowKit Go.Shelf

set_option maxRecDepth 100000 in
set_option maxHeartbeats 1000000 in
theorem pathsT_1 (ms : List Sol) (p : Nat) (r : List Nat) (v : Value) (w : World) (hv : SolsAt w v ms) (hm : ∀ m ∈ ms, Fit m) (hT : Tab32 w) (hE : errA ms p = 0) (hc : chainP ms p 0 r) (hs : setL 0 r < 65536) :
    Calls Tryz.prog 67 #[v, .int .i64 p] w fun e w' => (∃ u, e = .returned (.tuple #[u, .int .i64 0]) ∧ RowsI w' w.heap.size u [listS (setL 0 r)]) ∧ Below w.heap.size w w' := by
  have HT := Lib.hid hT
  have HM := Lib.hid hm
  have HC := Lib.hid hc
  obtain ⟨hcm, hp⟩ := errA_zero.1 hE
  have h12 := chkM_len hcm
  have HLA0 := lookAt_ok ms p v w hv hm
  rw [hE] at HLA0
  have HLA := Lib.hid HLA0
  obtain ⟨pa, cap, rfl, _, _⟩ := hv
  clear hT hm hc hE hcm HLA0
  go_enter Tryz.func67, Tryz.ntmps67
  go_wp2_with fail
  refine HLA.out.mono ?_
  rintro e w1 ⟨⟨xa, xn, xc, y, rfl, hxy⟩, hB1⟩
  obtain ⟨b, hx, rfl, hb, hM1⟩ := hxy trivial
  cases hx
  have q2 : (w1.alloc (.cells #[.slice pa ms.length cap, .map (some b)] 101)).heap[w1.heap.size]? = some (.cells #[.slice pa ms.length cap, .map (some b)] 101 (0, 0)) := World.alloc_heap_new w1 _
  have hA := (Below.refl _ w1).alloc (Nat.le_refl _) (.cells #[.slice pa ms.length cap, .map (some b)] 101)
  have c0 := cells4 q2 0 _ rfl
  have c1 := cells4 q2 1 _ rfl
  have hB2 := hB1.trans (hA.mono hB1.size)
  have HP := Lib.hid (paths_1 ms p r (.slice pa ms.length cap) b w _ HM.out h12 (by omega) HC.out (HT.out.below hB2 (Nat.le_refl _)) (hM1.below hA) hB2 hb)
  clear hA hM1 hB1 hb q2 hB2
  go_wp2_with fail
  refine HP.out.mono ?_
  rintro e w3 ⟨⟨u, rfl, hrow⟩, hB3⟩
  have HL := Lib.hid (lists_ok [setL 0 r] u w3 (setsAt_own (l := [setL 0 r]) hrow) (fun s h => by simp at h; subst h; exact hs) (by simp) (HT.out.below hB3 (Nat.le_refl _)))
  have HB3 := Lib.hid hB3
  clear c0 c1 hrow hB3 HP
  go_wp2_with fail
  refine HL.out.mono ?_
  rintro e w4 ⟨⟨x, rfl, hrows, _⟩, hb4⟩
  go_wp2
  go_returns
  exact ⟨⟨x, rfl, hrows.base HB3.out.size⟩, up hb4 HB3.out⟩
end Go.Proofs.YtoajocgfmbakjaaGreatDoor
