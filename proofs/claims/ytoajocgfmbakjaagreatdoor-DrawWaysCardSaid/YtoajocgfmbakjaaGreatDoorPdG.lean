/-
  A map from sets to numbers, or to bools: what it has.
-/
import Derived.Test.YtoajocgfmbakjaaGreatDoorPdB
import Derived.Test.YtoajocgfmbakjaaGreatDoorPdE
import Derived.Test.YtoajocgfmbakjaaGreatDoorPdC
import Derived.Test.YtoajocgfmbakjaaGreatDoorPdF
set_option linter.unusedVariables false
set_option linter.unusedSimpArgs false
namespace Go.Proofs.YtoajocgfmbakjaaGreatDoor
open Go Go.RowKit Go.Shelf
open Go.Maps (Keyed)

theorem set_key : Keyed Tryz.prog 106 := Go.Maps.int_keyed Tryz.underlying106
def kS (g : Nat) : Lit := .int .u16 (g : Int)
theorem wf_set {x : Nat} (h : x < 65536) : (Lit.int .u16 (x : Int)).wf = true := by
  have h1 : IntKind.u16.min = 0 := by decide
  have h2 : IntKind.u16.max = 65535 := by decide
  simp only [Lit.wf, h1, h2, Bool.and_eq_true, decide_eq_true_eq]
  omega
theorem key_set {g : Nat} (h : g < 65536) : keyOf Tryz.prog 106 (setV g) = some (kS g) := Go.Maps.keyOf_int_mk Tryz.underlying106 (wf_set h)
theorem kS_inj {q p : Nat} (h : kS q = kS p) : q = p := by
  have h2 : (q : Int) = (p : Int) := by unfold kS at h; injection h
  exact Int.ofNat.inj h2
theorem under_known : Tryz.prog.underlying 146 = some (.map 106 3) := by kernel_rfl
theorem under_tried : Tryz.prog.underlying 184 = some (.map 106 4) := by kernel_rfl
theorem zero_int' (w : World) : (zeroValue 3).run Tryz.prog w = .ok (.int .i64 0) w := by kernel_rfl
theorem zero_bool' (w : World) : (zeroValue 4).run Tryz.prog w = .ok (.bool false) w := by kernel_rfl
/-- How many of the first k sets are there. -/
def hasS (D : DataW Value) : Nat → Nat
  | 0 => 0
  | k + 1 => hasS D k + if Go.Maps.has D (kS k) = true then 1 else 0
theorem hasS_le (D : DataW Value) : ∀ k, hasS D k ≤ k
  | 0 => Nat.le_refl _
  | k + 1 => by
    have := hasS_le D k
    unfold hasS
    split <;> omega
theorem hasS_put {D D' : DataW Value} {p : Nat} (h0 : Go.Maps.has D (kS p) = false) (h1 : Go.Maps.has D' (kS p) = true) (h : ∀ q : Nat, q ≠ p → Go.Maps.has D' (kS q) = Go.Maps.has D (kS q)) :
    ∀ k, hasS D k + (if p < k then 1 else 0) ≤ hasS D' k
  | 0 => by simp [hasS]
  | k + 1 => by
    have ih := hasS_put h0 h1 h k
    unfold hasS
    by_cases e : k = p
    · subst e
      rw [h0, h1]
      simp at ih ⊢
      exact ih
    · rw [h k e]
      have e1 : (p < k + 1) = (p < k) := propext ⟨fun _ => by omega, fun _ => by omega⟩
      simp only [e1]
      omega
/-- What is known of some sets: a value each; some are not there yet. -/
def KnownM (W : World) (K : Nat) (val : Nat → Value) (T : Nat → Prop) : Prop :=
  ∃ (n : Nat) (D : DataW Value), W.ownsMap Tryz.prog 106 heldV K n D ∧ n ≤ hasS D 65536 ∧ (∀ g, g < 65536 → (Go.Maps.has D (kS g) = true ↔ T g)) ∧ ∀ g, g < 65536 → T g → ∀ z, D.atKey (kS g) z = .held (val g)
section
variable {W W' : World} {K : Nat} {val : Nat → Value} {T : Nat → Prop}
theorem KnownM.made (w : World) (val : Nat → Value) : KnownM (w.alloc (.map #[] 0)) w.heap.size val (fun _ => False) :=
  ⟨0, _, World.ownsMap_made w _ _ _, Nat.zero_le _, fun g _ => ⟨fun h => by simp [Go.Maps.has] at h, fun h => h.elim⟩, fun g _ h => h.elim⟩
theorem KnownM.lt (h : KnownM W K val T) : K < W.heap.size := by
  obtain ⟨n, D, h, _⟩ := h
  exact h.lt
theorem KnownM.kept (h : KnownM W K val T) {row : Option Nat} (hg : W.grownBy W' row) (hne : some K ≠ row) : KnownM W' K val T := by
  obtain ⟨n, D, h, k⟩ := h
  exact ⟨n, D, h.kept hg hne, k⟩
theorem KnownM.below (h : KnownM W K val T) (hb : Below W.heap.size W W') : KnownM W' K val T :=
  h.kept (row := none) ⟨hb.os, hb.tape, hb.output, hb.size, fun i hi _ => hb.block i hi⟩ (by simp)
theorem KnownM.map (h : KnownM W K val T) : ∃ es c, W.heap[K]? = some (.map es c) := by
  obtain ⟨n, D, ⟨es, clock, hb, _⟩, _⟩ := h
  exact ⟨es, clock, hb⟩
theorem KnownM.look_ok (h : KnownM W K val T) {t e : TypeId} (ht : Tryz.prog.underlying t = some (.map 106 e)) {z : Value} (hz : (zeroValue e).run Tryz.prog W = .ok z W) {g : Nat} (hg : g < 65536) :
    ∃ v ok, (Instr.lookup t (.map (some K)) (setV g) true).run Tryz.prog W = .ok (.tuple #[v, .bool ok]) W ∧ (ok = true ↔ T g) ∧ (T g → v = val g) ∧ (¬ T g → v = z) := by
  obtain ⟨n, D, h, hn, h1, h2⟩ := h
  obtain ⟨v, ps, hrun, hv⟩ := h.look_ok set_key ht hz (zd := .held z) (zp := []) rfl (key_set hg)
  simp only [heldV, Option.some.injEq, Prod.mk.injEq] at hv
  refine ⟨v, _, hrun, h1 g hg, fun ho => ?_, fun ho => ?_⟩
  · rw [h2 g hg ho] at hv
    have := hv.1
    injection this
  · have hf : Go.Maps.has D (kS g) = false := by
      cases hh : Go.Maps.has D (kS g) with
      | false => rfl
      | true => exact absurd ((h1 g hg).1 hh) ho
    rw [Go.Maps.atKey_of_not_has hf] at hv
    have := hv.1
    injection this
theorem KnownM.put (h : KnownM W K val T) {t e : TypeId} (ht : Tryz.prog.underlying t = some (.map 106 e)) {g : Nat} (hg : g < 65536) (hT : ¬ T g) :
    ∃ W', (Instr.mapUpdate t (.map (some K)) (setV g) (val g)).run Tryz.prog W = .ok () W' ∧ KnownM W' K val (fun x => T x ∨ x = g) ∧ W.grownBy W' (some K) := by
  obtain ⟨n, D, h, hn, h1, h2⟩ := h
  have hf : Go.Maps.has D (kS g) = false := by
    cases hh : Go.Maps.has D (kS g) with
    | false => rfl
    | true => exact absurd ((h1 g hg).1 hh) hT
  obtain ⟨W', hrun, h3, h4⟩ := h.update set_key ht (by have := hasS_le D 65536; simp only [maxLen]; omega) (key_set hg) (val := val g) (d := .held (val g)) (ps := []) rfl
  have hpk := set_key.key (key_set hg)
  have hne : ∀ q : Nat, q ≠ g → kS q ≠ kS g := fun q e hc => e (kS_inj hc)
  refine ⟨W', hrun, ⟨_, _, h3, ?_, fun q hq => ?_, fun q hq ho z => ?_⟩, h4⟩
  · have := hasS_put hf (Go.Maps.has_put_same h.isMap hpk (.held (val g))) (fun q e => Go.Maps.has_put_other (hne q e) _) 65536
    rw [if_pos hg] at this
    omega
  · by_cases e : q = g
    · subst e
      rw [Go.Maps.has_put_same h.isMap hpk]
      simp
    · rw [Go.Maps.has_put_other (hne q e), h1 q hq]
      simp [e]
  · by_cases e : q = g
    · subst e
      exact Go.Maps.atKey_put_same h.isMap hpk _ _
    · rw [Go.Maps.atKey_put_other (hne q e)]
      exact h2 q hq (ho.resolve_right e) z
end
end Go.Proofs.YtoajocgfmbakjaaGreatDoor
/-
  In how many sequences all pieces go: the closure that calls itself.
-/
set_option linter.unusedVariables false
set_option linter.unusedSimpArgs false
namespace Go.Proofs.YtoajocgfmbakjaaGreatDoor
open Go Go.RowKit Go.Shelf

abbrev seqV (ms : List Sol) (g : Nat) : Value := .int .i64 ((seqN ms g : Nat) : Int)
/-- What ways has captured, and what it knows. -/
structure OSt (W : World) (A Kb Fb K b : Nat) (v : Value) (ms : List Sol) (T : Nat → Prop) : Prop where
  mld : Mld W v b ms noBlk
  kn : KnownM W K (seqV ms) T
  hA : W.heap[A]? = some (.cells #[v, .map (some b)] 101 (0, 0))
  hK : W.heap[Kb]? = some (.cells #[.map (some K)] 146 (0, 0))
  hF : W.heap[Fb]? = some (.cells #[.func (.func 118) #[] #[.pointer (some ⟨Kb, 0, none⟩), .pointer (some ⟨A, 0, none⟩), .pointer (some ⟨Fb, 0, none⟩)]] 147 (0, 0))
  ne : K ≠ b
/-- All blocks but two lie as they lay. -/
def KeptO (b K : Nat) (W W' : World) : Prop := W'.os = W.os ∧ W'.tape = W.tape ∧ W'.output = W.output ∧ W.heap.size ≤ W'.heap.size ∧ ∀ i, i < W.heap.size → i ≠ b → i ≠ K → W'.heap[i]? = W.heap[i]?
theorem keptO_refl (b K : Nat) (W : World) : KeptO b K W W := ⟨rfl, rfl, rfl, Nat.le_refl _, fun _ _ _ _ => rfl⟩
theorem keptO_t {b K : Nat} {X Y Z : World} (h : KeptO b K X Y) (k : KeptO b K Y Z) : KeptO b K X Z :=
  ⟨k.1.trans h.1, k.2.1.trans h.2.1, k.2.2.1.trans h.2.2.1, Nat.le_trans h.2.2.2.1 k.2.2.2.1, fun i hi h1 h2 => (k.2.2.2.2 i (Nat.lt_of_lt_of_le hi h.2.2.2.1) h1 h2).trans (h.2.2.2.2 i hi h1 h2)⟩
theorem keptO_below {b K : Nat} {X Y : World} (h : Below X.heap.size X Y) : KeptO b K X Y := ⟨h.os, h.tape, h.output, h.size, fun i hi _ _ => h.block i hi⟩
theorem keptO_kept {b K : Nat} {v : Value} {ms : List Sol} {av : Nat → Prop} {X Y : World} (h : Kept b v ms av X Y) : KeptO b K X Y := ⟨h.1.os, h.1.tape, h.1.output, h.1.size, fun i hi h1 _ => h.1.block i hi (fun e => by injection e with e; exact h1 e)⟩
theorem keptO_grown {b K : Nat} {X Y : World} (h : X.grownBy Y (some K)) : KeptO b K X Y := ⟨h.os, h.tape, h.output, h.size, fun i hi _ h1 => h.block i hi (fun e => by injection e with e; exact h1 e)⟩
theorem keptO_out {b K : Nat} {w X Y : World} (h : KeptO b K X Y) (hb : w.heap.size ≤ b) (hK : w.heap.size ≤ K) (hA : Below w.heap.size w X) : Below w.heap.size w Y :=
  ⟨h.1.trans hA.os, h.2.1.trans hA.tape, h.2.2.1.trans hA.output, Nat.le_trans hA.size h.2.2.2.1, fun k hk => (h.2.2.2.2 k (Nat.lt_of_lt_of_le hk hA.size) (by omega) (by omega)).trans (hA.block k hk)⟩
theorem mld_grown {W W' : World} {v : Value} {b K : Nat} {ms : List Sol} {av : Nat → Prop} (h : Mld W v b ms av) (hg : W.grownBy W' (some K)) (hne : K ≠ b) (hK : ∃ o : Obj, W.heap[K]? = some o ∧ o.isCells = false) : Mld W' v b ms av := by
  refine ⟨?_, h.ways.kept hg (fun e => by injection e with e; exact hne e.symm) (fun r e => by injection e with e; subst e; exact hK)⟩
  obtain ⟨pa, cap, h1, h2, h3⟩ := h.sols
  refine ⟨pa, cap, h1, h2, h3.imp id ?_⟩
  rintro ⟨b1, o, e1, e2, e3⟩
  refine ⟨b1, o, e1, Nat.lt_of_lt_of_le e2 hg.size, fun i m hm j hj => ?_⟩
  have hc := e3 i m hm j hj
  have hbk : b1 ≠ K := fun e => by
    obtain ⟨ob, ho, hcc⟩ := hK
    unfold World.cell? at hc
    rw [e] at hc
    simp only [ho] at hc
    cases ob <;> simp_all [Obj.isCells]
  have e4 : W'.heap[b1]? = W.heap[b1]? := hg.block b1 e2 (fun e => hbk (by injection e))
  unfold World.cell? at hc ⊢
  rw [e4]
  exact hc
section
variable {W W' : World} {A Kb Fb K b : Nat} {v : Value} {ms : List Sol} {T : Nat → Prop}
theorem OSt.below (h : OSt W A Kb Fb K b v ms T) (hb : Below W.heap.size W W') : OSt W' A Kb Fb K b v ms T :=
  ⟨h.mld.below hb, h.kn.below hb, heap_below h.hA hb (Array.getElem?_eq_some_iff.1 h.hA).1, heap_below h.hK hb (Array.getElem?_eq_some_iff.1 h.hK).1, heap_below h.hF hb (Array.getElem?_eq_some_iff.1 h.hF).1, h.ne⟩
theorem OSt.kept (h : OSt W A Kb Fb K b v ms T) (hk : Kept b v ms noBlk W W') : OSt W' A Kb Fb K b v ms T :=
  ⟨h.mld.kept hk, h.kn.kept hk.1 (fun e => by injection e with e; exact h.ne e), kept_cells hk h.hA h.mld.ways, kept_cells hk h.hK h.mld.ways, kept_cells hk h.hF h.mld.ways, h.ne⟩
theorem OSt.put (h : OSt W A Kb Fb K b v ms T) {T' : Nat → Prop} (hg : W.grownBy W' (some K)) (hk : KnownM W' K (seqV ms) T') : OSt W' A Kb Fb K b v ms T' := by
  obtain ⟨es, c, hb⟩ := h.kn.map
  have ne : ∀ {k : Nat} {cs : Array Value} {t : TypeId}, W.heap[k]? = some (.cells cs t (0, 0)) → W'.heap[k]? = some (.cells cs t (0, 0)) := fun {k cs t} hk => (hg.block k (Array.getElem?_eq_some_iff.1 hk).1 (fun e => by injection e with e; rw [e, hb] at hk; cases hk)).trans hk
  exact ⟨mld_grown h.mld hg h.ne ⟨_, hb, rfl⟩, hk, ne h.hA, ne h.hK, ne h.hF, h.ne⟩
end
theorem intsAt_kO {b K : Nat} {W W' : World} {u : Value} {l : List Int} (h : IntsAt W u l) (hk : KeptO b K W W') (h1 : ∃ o : Obj, W.heap[b]? = some o ∧ o.isCells = false) (h2 : ∃ o : Obj, W.heap[K]? = some o ∧ o.isCells = false) : IntsAt W' u l := by
  obtain ⟨pa, cap, rfl, h3, h4⟩ := h
  refine ⟨pa, cap, rfl, h3, h4.imp id ?_⟩
  rintro ⟨b1, o, e1, e2, e3⟩
  refine ⟨b1, o, e1, Nat.lt_of_lt_of_le e2 hk.2.2.2.1, fun i x hx => ?_⟩
  have hc := e3 i x hx
  have no : ∀ {k : Nat}, (∃ o : Obj, W.heap[k]? = some o ∧ o.isCells = false) → b1 ≠ k := fun {k} ⟨ob, ho, hcc⟩ e => by
    unfold World.cell? at hc
    rw [e] at hc
    simp only [ho] at hc
    cases ob <;> simp_all [Obj.isCells]
  unfold World.cell? at hc ⊢
  rw [hk.2.2.2.2 b1 e2 (no h1) (no h2)]
  exact hc
theorem tab_kO {b K : Nat} {W W' : World} {a o : Nat} {u : Value} (hk : KeptO b K W W') (h1 : ∃ o : Obj, W.heap[b]? = some o ∧ o.isCells = false) (h2 : ∃ o : Obj, W.heap[K]? = some o ∧ o.isCells = false) (hc : W.cell? ⟨a, o, none⟩ = some u) : W'.cell? ⟨a, o, none⟩ = some u := by
  have no : ∀ {k : Nat}, (∃ o : Obj, W.heap[k]? = some o ∧ o.isCells = false) → a ≠ k := fun {k} ⟨ob, ho, hcc⟩ e => by
    unfold World.cell? at hc
    rw [e] at hc
    simp only [ho] at hc
    cases ob <;> simp_all [Obj.isCells]
  have hlt : a < W.heap.size := by
    unfold World.cell? at hc
    rcases Nat.lt_or_ge a W.heap.size with h | h
    · exact h
    · simp [Array.getElem?_eq_none h] at hc
  unfold World.cell? at hc ⊢
  rw [hk.2.2.2.2 a hlt (no h1) (no h2)]
  exact hc
/-- How it ends. -/
def OPost (b K A Kb Fb : Nat) (v : Value) (ms : List Sol) (T : Nat → Prop) (g : Nat) (W : World) : Ending → World → Prop := fun e W' =>
  e = .returned (seqV ms g) ∧ KeptO b K W W' ∧ ∃ T', OSt W' A Kb Fb K b v ms T' ∧ (∀ x, T x → T' x) ∧ ∀ x, T' x → T x ∨ g ≤ x
set_option maxRecDepth 100000 in
set_option maxHeartbeats 2000000 in
theorem ords_step (ms : List Sol) (g A Kb Fb K b : Nat) (v : Value) (T : Nat → Prop) (w : World) (hm : ∀ m ∈ ms, Fit m) (h12 : ms.length ≤ 12) (hg : g < 65536) (hT : Tab32 w) (hall : T (allN ms.length)) (hS : OSt w A Kb Fb K b v ms T)
    (hIH : ∀ (q : Nat) (T' : Nat → Prop) (w' : World), g < q → q < 65536 → Tab32 w' → T' (allN ms.length) → OSt w' A Kb Fb K b v ms T' →
      Calls Tryz.prog 118 #[setV q, .pointer (some ⟨Kb, 0, none⟩), .pointer (some ⟨A, 0, none⟩), .pointer (some ⟨Fb, 0, none⟩)] w' (OPost b K A Kb Fb v ms T' q w')) :
    Calls Tryz.prog 118 #[setV g, .pointer (some ⟨Kb, 0, none⟩), .pointer (some ⟨A, 0, none⟩), .pointer (some ⟨Fb, 0, none⟩)] w (OPost b K A Kb Fb v ms T g w) := by
  have HS := Lib.hid hS
  have HM := Lib.hid hm
  have HT := Lib.hid hT
  have HIH := Lib.hid hIH
  have HAL := Lib.hid hall
  have k0 := cells4 hS.hK 0 _ rfl
  obtain ⟨lv, ok, hrun, hok, hyes, hno⟩ := hS.kn.look_ok under_known (zero_int' w) hg
  obtain ⟨pa, cap, rfl, _, _⟩ := hS.mld.sols
  have HOK := Lib.hid hok
  have HYES := Lib.hid hyes
  have HNO := Lib.hid hno
  clear hm hT hS hIH hall hok hyes hno
  cases ok with
  | true =>
    have HG := Lib.hid (HOK.out.1 rfl)
    obtain rfl : lv = seqV ms g := HYES.out HG.out
    go_enter Tryz.func118, Tryz.ntmps118
    go_wp2_with fail
    go_ret
    exact ⟨rfl, keptO_refl _ _ _, T, HS.out, fun x h => h, fun x h => .inl h⟩
  | false =>
    have HG := Lib.hid (show ¬ T g from fun h => by have := HOK.out.2 h; cases this)
    obtain rfl : lv = .int .i64 0 := HNO.out HG.out
    have HRD := Lib.hid (ready_ok ms g (.slice pa ms.length cap) b w HM.out h12 hg noBlk (fun _ h => h.elim) HS.out.mld)
    have a0 := cells4 HS.out.hA 0 _ rfl
    have a1 := cells4 HS.out.hA 1 _ rfl
    have hr16 := readyK_lt ms g ms.length (by omega)
    have HR16 := Lib.hid (show readyF ms g < 65536 from hr16)
    go_enter Tryz.func118, Tryz.ntmps118
    go_wp2_with fail
    refine HRD.out.mono ?_
    rintro e w1 ⟨rfl, hk1⟩
    have HS1 := Lib.hid (HS.out.kept hk1)
    have HK1 := Lib.hid (keptO_kept (K := K) hk1)
    have HT1 := Lib.hid (show Tab32 w1 from fun j hj => kept_cell hk1 HS.out.mld.ways rfl (HT.out j hj))
    have HLI := Lib.hid (list_ok (readyF ms g) w1 HR16.out HT1.out)
    clear k0 hrun a0 a1 hk1 HRD hr16
    go_wp2_with fail
    refine HLI.out.mono ?_
    rintro e w2 ⟨⟨u, rfl, hrow, hnil⟩, hb2⟩
    have HS2 := Lib.hid (HS1.out.below hb2)
    have HK2 := Lib.hid (keptO_t HK1.out (keptO_below hb2))
    have HT2 := Lib.hid (HT1.out.below hb2 (Nat.le_refl _))
    have HI2 := Lib.hid (intsAt_own hrow)
    obtain ⟨pu, cu, rfl⟩ := row_shape hrow
    obtain ⟨L, hL⟩ : ∃ L, L = listS (readyF ms g) := ⟨_, rfl⟩
    have HLm := Lib.hid (show ∀ q ∈ L, (readyF ms g).testBit q = true from fun q hq => (mem_listS HR16.out).1 (by rw [← hL]; exact hq))
    have hl16 : L.length ≤ 16 := by rw [hL]; exact listS_len HR16.out
    have HNE := Lib.hid (show g ≠ allN ms.length from fun e => HG.out (by rw [e]; exact HAL.out))
    have HSEQ := Lib.hid (show seqN ms g = L.foldl (fun n q => min (n + seqN ms (g ||| 2 ^ q)) 1000000000) 0 by rw [hL, seqN_eq h12 hg, if_neg HNE.out])
    rw [← hL] at HI2 ⊢
    clear hrow hnil hb2 hL HLI
    go_wp2_with fail
    go_loopw [8, 25] (fun nv z wr => ∃ (i nn : Nat) (T' : Nat → Prop), i ≤ L.length ∧ nv = .int .i64 nn ∧ nn ≤ 1000000000 ∧ z = .int .i64 i ∧ Hid (seqN ms g = (L.drop i).foldl (fun n q => min (n + seqN ms (g ||| 2 ^ q)) 1000000000) nn) ∧ Hid (OSt wr A Kb Fb K b (.slice pa ms.length cap) ms T') ∧ Hid (∀ x, T x → T' x) ∧ Hid (∀ x, T' x → T x ∨ g < x) ∧ Hid (KeptO b K w wr) ∧ Hid (IntsAt wr (.slice pu L.length cu) (L.map fun x : Nat => (x : Int)))) (fun _ z _ => L.length - (intOf z).toNat)
    case atStart => exact ⟨0, 0, T, by omega, rfl, by omega, rfl, HSEQ, HS2, Lib.hid (fun x h => h), Lib.hid (fun x h => .inl h), HK2, HI2⟩
    case round =>
      obtain ⟨i, nn, T', hi, rfl, hnn, rfl, HE, HSr, HT1', HT2', HKr, HIr⟩ := hrel
      have HTr := Lib.hid (show Tab32 wr from fun j hj => by
        have hno1 : ∃ o : Obj, w.heap[b]? = some o ∧ o.isCells = false := by
          obtain ⟨n, D, ⟨es, clock, hbk, _⟩, _⟩ := HS.out.mld.ways
          exact ⟨_, hbk, rfl⟩
        have hno2 : ∃ o : Obj, w.heap[K]? = some o ∧ o.isCells = false := by
          obtain ⟨es, c, hbk⟩ := HS.out.kn.map
          exact ⟨_, hbk, rfl⟩
        exact tab_kO HKr.out hno1 hno2 (HT.out j hj))
      have f0 := cells4 HSr.out.hF 0 _ rfl
      have k0 := cells4 HSr.out.hK 0 _ rfl
      have lF := (Array.getElem?_eq_some_iff.1 HSr.out.hF).1
      by_cases hlt : i < L.length
      · have di : decide ((i : Int) < (L.length : Int)) = true := decide_eq_true (by omega)
        have hii : (i : Int) < (L.length : Int) := by omega
        obtain ⟨q, hq⟩ : ∃ q, L[i]? = some q := ⟨_, List.getElem?_eq_getElem hlt⟩
        have hqm := HLm.out q (List.mem_of_getElem? hq)
        obtain ⟨hq1, hq2, _⟩ := ready_bit.1 hqm
        have hgt := or_gt hq2
        have hg2 := or16 hg (pow16_lt (p := q) (by omega))
        obtain ⟨b1, o1, cl', he, hb1, e0⟩ := HIr.out.at (i := i) (x := (q : Int)) (by rw [List.getElem?_map, hq]; rfl)
        rw [List.length_map] at he
        obtain ⟨rfl, rfl⟩ : pu = some ⟨b1, o1, none⟩ ∧ cu = cl' := by injection he with e1 e2 e3; exact ⟨e1, e3⟩
        have HE2 := Lib.hid (show seqN ms g = (L.drop (i + 1)).foldl (fun n q => min (n + seqN ms (g ||| 2 ^ q)) 1000000000) (min (nn + seqN ms (g ||| 2 ^ q)) 1000000000) by
          rw [HE.out, List.drop_eq_getElem_cons hlt, List.foldl_cons]
          have : L[i] = q := by rw [List.getElem?_eq_getElem hlt] at hq; exact Option.some.inj hq
          rw [this])
        have hsq := seqN_le h12 hg2 (ms := ms)
        have HWI := Lib.hid (fun w' => with_ok g q hg (by omega) w')
        have HGT := Lib.hid hgt
        obtain ⟨sq, hsqq⟩ : ∃ sq, sq = seqN ms (g ||| 2 ^ q) := ⟨_, rfl⟩
        have HSQ := Lib.hid hsqq
        rw [← hsqq] at HE2 hsq
        have hws : IntKind.i64.wrap ((nn : Int) + (sq : Int)) = (nn : Int) + sq := by rw [IntWalk.i64_in] <;> omega
        obtain ⟨mn, hmn⟩ : ∃ mn, mn = min (nn + sq) 1000000000 := ⟨_, rfl⟩
        have hmn1 : mn ≤ 1000000000 := by rw [hmn]; exact Nat.min_le_right _ _
        have hmin : (if (1000000000 : Int) < (nn : Int) + (sq : Int) then (1000000000 : Int) else (nn : Int) + sq) = (mn : Int) := by rw [hmn]; split <;> omega
        rw [← hmn] at HE2
        clear he hq hqm hq1 hq2 hgt k0 hsqq hmn
        go_wp2_with fail
        (refine wp_region_quiet_tail 4 (fun w' => Below wr.heap.size wr w') (by kernel_rfl) (by kernel_rfl) (Below.drew (Below.refl _ _)) ?_; simp only [List.take_succ_cons, List.take_zero, List.drop_succ_cons, List.drop_zero]; (iterate 4 (refine wpQuiet_step (fun K hK => ?_); go_simp; first | (refine hK _ ?_; clear hK K) | (apply Exists.intro; refine ⟨fun W' hW' => ?_, hK _ ?_⟩; (focus (first | (with_reducible exact rfl) | (with_reducible exact ⟨rfl, rfl⟩) | (obtain ⟨hcq, hfq⟩ := bcell hW'; have hzq := hW'.size; (try go_simp); first | (with_reducible exact rfl) | (with_reducible exact ⟨rfl, rfl⟩) | (first | ((with_reducible refine Calls.mono (HWI.out _) ?_); rintro e w9 ⟨rfl, hb9⟩; exact ⟨rfl, hW'.trans (hb9.mono hW'.size)⟩))))); clear hK K))); refine wpQuiet_nil ?_; intro w1q hb1q)
        have HS3 := Lib.hid (HSr.out.below hb1q)
        have HK3 := Lib.hid (keptO_t HKr.out (keptO_below hb1q))
        have HT3 := Lib.hid (HTr.out.below hb1q (Nat.le_refl _))
        have HI3 := Lib.hid (HIr.out.below hb1q (Nat.le_refl _))
        clear f0 e0 hb1q lF
        go_wp2_with fail
        refine (HIH.out (g ||| 2 ^ q) T' _ HGT.out hg2 HT3.out (HT1'.out _ HAL.out) HS3.out).mono ?_
        rintro e w5 ⟨rfl, hk5, T5, hS5, h5a, h5b⟩
        rw [show seqV ms (g ||| 2 ^ q) = .int .i64 (sq : Int) by rw [HSQ.out]]
        have HS5 := Lib.hid hS5
        have HK5 := Lib.hid (keptO_t HK3.out hk5)
        have HTa := Lib.hid (fun x (h : T x) => h5a x (HT1'.out x h))
        have HTb := Lib.hid (show ∀ x, T5 x → T x ∨ g < x from fun x h => by
          rcases h5b x h with h | h
          · exact HT2'.out x h
          · right; have := HGT.out; omega)
        have HI5 := Lib.hid (by
          obtain ⟨n, D, ⟨es, clock, hbk, _⟩, _⟩ := HS3.out.mld.ways
          obtain ⟨es2, c2, hbk2⟩ := HS3.out.kn.map
          exact intsAt_kO HI3.out hk5 ⟨_, hbk, rfl⟩ ⟨_, hbk2, rfl⟩)
        clear hS5 hk5 h5a h5b
        go_wp2_with fail
        case roundEnd => exact ⟨⟨i + 1, mn, T5, by omega, rfl, hmn1, by go_num, HE2, HS5, HTa, HTb, HK5, HI5⟩, by simp [intOf]; omega⟩
      · obtain rfl : i = L.length := by omega
        have di : decide ((L.length : Int) < (L.length : Int)) = false := decide_eq_false (by omega)
        have HNN := Lib.hid (show seqN ms g = nn by rw [HE.out, List.drop_length]; rfl)
        have hnT : ¬ T' g := fun h => by
          rcases HT2'.out g h with h | h
          · exact HG.out h
          · omega
        obtain ⟨W', hrun, hk', hg'⟩ := HSr.out.kn.put under_known hg hnT
        have HS' := Lib.hid (HSr.out.put hg' hk')
        have HK' := Lib.hid (keptO_t HKr.out (keptO_grown hg'))
        rw [show seqV ms g = .int .i64 (nn : Int) by rw [← HNN.out]] at hrun
        clear f0 lF hk' hg'
        go_wp2_with fail
        go_ret
        refine ⟨by rw [show seqV ms g = .int .i64 (nn : Int) by rw [← HNN.out]]; rfl, HK'.out, _, HS'.out, fun x h => .inl (HT1'.out x h), fun x h => ?_⟩
        rcases h with h | rfl
        · rcases HT2'.out x h with h | h
          · exact .inl h
          · right; omega
        · right; omega
end Go.Proofs.YtoajocgfmbakjaaGreatDoor
/-
  Orders.
-/
set_option linter.unusedVariables false
set_option linter.unusedSimpArgs false
namespace Go.Proofs.YtoajocgfmbakjaaGreatDoor
open Go Go.RowKit Go.Shelf

theorem ords_ok (ms : List Sol) (A Kb Fb K b : Nat) (v : Value) (hm : ∀ m ∈ ms, Fit m) (h12 : ms.length ≤ 12) : ∀ (d g : Nat) (T : Nat → Prop) (w : World), 65536 - g ≤ d → g < 65536 → Tab32 w → T (allN ms.length) → OSt w A Kb Fb K b v ms T →
    Calls Tryz.prog 118 #[setV g, .pointer (some ⟨Kb, 0, none⟩), .pointer (some ⟨A, 0, none⟩), .pointer (some ⟨Fb, 0, none⟩)] w (OPost b K A Kb Fb v ms T g w)
  | 0, g, T, w, hd, hg, _, _, _ => by omega
  | d + 1, g, T, w, hd, hg, hT, hall, hS => ords_step ms g A Kb Fb K b v T w hm h12 hg hT hall hS fun q T' w' h1 h2 h3 h4 h5 => ords_ok ms A Kb Fb K b v hm h12 d q T' w' (by omega) h2 h3 h4 h5
/-- What Orders says. -/
def ordersN (ms : List Sol) : Nat := if chkM ms = 0 then seqN ms 0 else 0
set_option maxRecDepth 100000 in
set_option maxHeartbeats 2000000 in
theorem orders_ok (ms : List Sol) (v : Value) (w : World) (hv : SolsAt w v ms) (hm : ∀ m ∈ ms, Fit m) (hT : Tab32 w) :
    Calls Tryz.prog 52 #[v] w (RetB (.tuple #[.int .i64 ((ordersN ms : Nat) : Int), .int .i64 (chkM ms)]) w) := by
  by_cases hc : chkM ms = 0
  · have HY := Lib.hid (look_yes ms v w hv hm hc)
    have h12 := chkM_len hc
    have HM := Lib.hid hm
    have HT := Lib.hid hT
    have HO := Lib.hid (show ordersN ms = seqN ms 0 from if_pos hc)
    rw [hc, HO.out]
    obtain ⟨pa, cap, rfl, _, _⟩ := hv
    have hmm := @run_makeMap Tryz.prog
    have HAL := Lib.hid (fun W => all_ok pa ms.length cap (by omega) W)
    have hal := allN_lt (n := ms.length) (by omega)
    clear hm hc hT
    go_enter Tryz.func52, Tryz.ntmps52
    go_wp2_with fail
    refine HY.out.mono ?_
    rintro e w1 ⟨b, rfl, hb, hM1, hB1⟩
    have q1 : (w1.alloc (.cells #[.slice pa ms.length cap, .map (some b)] 101)).heap[w1.heap.size]? = some (.cells #[.slice pa ms.length cap, .map (some b)] 101 (0, 0)) := World.alloc_heap_new w1 _
    have hA := (Below.refl _ w1).alloc (Nat.le_refl _) (.cells #[.slice pa ms.length cap, .map (some b)] 101)
    obtain ⟨A, hAA⟩ : ∃ A, A = w1.heap.size := ⟨_, rfl⟩
    obtain ⟨W2, hW2⟩ : ∃ W2, W2 = w1.alloc (.cells #[.slice pa ms.length cap, .map (some b)] 101) := ⟨_, rfl⟩
    rw [← hW2] at q1 hA
    rw [← hAA] at q1
    have HB2 := Lib.hid (hB1.trans (hA.mono hB1.size))
    have HM2 := Lib.hid (hM1.below hA)
    have HBB := Lib.hid hb
    obtain ⟨K, hK1⟩ : ∃ K, K = w1.heap.size + 1 := ⟨_, rfl⟩
    have hK : K = W2.heap.size := by rw [hK1, hW2]; simp
    obtain ⟨W3, hW3⟩ : ∃ W3, W3 = W2.alloc (.map #[] 0) := ⟨_, rfl⟩
    have hA3 : Below W2.heap.size W2 W3 := by rw [hW3]; exact (Below.refl _ W2).alloc (Nat.le_refl _) _
    have HKN := Lib.hid (show KnownM W3 K (seqV ms) (fun _ => False) by rw [hW3, hK]; exact KnownM.made W2 _)
    have q3 := heap_below q1 hA3 (Array.getElem?_eq_some_iff.1 q1).1
    have c0 := cells4 q3 0 _ rfl
    have HNE := Lib.hid (show K ≠ b by have := HM2.out.ways.lt; omega)
    have HKS := Lib.hid (show w.heap.size ≤ K by rw [hK]; exact HB2.out.size)
    have c1 := cells4 q1 0 _ rfl
    rw [hW3, hW2, hAA] at c0
    rw [hW2, hAA] at c1
    clear hA hM1 hB1 hb
    go_wp2_with fail
    refine (HAL.out _).mono ?_
    rintro e w4 ⟨rfl, hb4⟩
    rw [← hW2, ← hW3] at hb4
    rw [← hK1, ← hAA]
    have HB4 := Lib.hid (up hb4 (hA3.trans ((Below.refl _ W3).mono hA3.size)))
    have q4 := heap_below q3 hb4 (Array.getElem?_eq_some_iff.1 q3).1
    obtain ⟨W5, hrun, hk5, hg5⟩ := (HKN.out.below hb4).put under_known hal (fun h => h)
    rw [show seqV ms (allN ms.length) = .int .i64 1 by unfold seqV; rw [seqN_eq h12 hal, if_pos rfl]; rfl] at hrun
    have HM4 := Lib.hid ((HM2.out.below hA3).below hb4)
    obtain ⟨es, cc, hmap⟩ := (HKN.out.below hb4).map
    have HM5 := Lib.hid (mld_grown HM4.out hg5 HNE.out ⟨_, hmap, rfl⟩)
    have q5 := (hg5.block A (Array.getElem?_eq_some_iff.1 q4).1 (fun e => by injection e with e; rw [e, hmap] at q4; cases q4)).trans q4
    have HK5 := Lib.hid hk5
    have HB5 := Lib.hid (show Below w.heap.size w W5 from by
      have h := HB2.out.trans (HB4.out.mono HB2.out.size)
      exact ⟨hg5.os.trans h.os, hg5.tape.trans h.tape, hg5.output.trans h.output, Nat.le_trans h.size hg5.size, fun k hk => (hg5.block k (Nat.lt_of_lt_of_le hk h.size) (fun e => by injection e with e; have := HKS.out; omega)).trans (h.block k hk)⟩)
    clear c0 c1 q1 q3 hb4 hW2 hW3 hK hK1 hAA q4 hk5 hg5 hmap hA3 hmm
    go_wp2_with fail
    obtain ⟨Kb, hKb⟩ : ∃ Kb, Kb = W5.heap.size := ⟨_, rfl⟩
    obtain ⟨Fb, hFb⟩ : ∃ Fb, Fb = W5.heap.size + 1 := ⟨_, rfl⟩
    rw [← hFb, ← hKb]
    obtain ⟨W6, hW6⟩ : ∃ W6, W6 = (W5.alloc (.cells #[.map (some K)] 146)).alloc (.cells #[.func (.func 118) #[] #[.pointer (some ⟨Kb, 0, none⟩), .pointer (some ⟨A, 0, none⟩), .pointer (some ⟨Fb, 0, none⟩)]] 147) := ⟨_, rfl⟩
    rw [← hW6]
    have hA6 : Below W5.heap.size W5 W6 := by rw [hW6]; exact ((Below.refl _ W5).alloc (Nat.le_refl _) _).alloc (by simp) _
    have k6 : W6.heap[Kb]? = some (.cells #[.map (some K)] 146 (0, 0)) := by
      rw [hW6, hKb]; exact (Below.heap_alloc _ _ _ (by simp)).trans (World.alloc_heap_new W5 _)
    have f6 : W6.heap[Fb]? = some (.cells #[.func (.func 118) #[] #[.pointer (some ⟨Kb, 0, none⟩), .pointer (some ⟨A, 0, none⟩), .pointer (some ⟨Fb, 0, none⟩)]] 147 (0, 0)) := by
      rw [hW6]; have := World.alloc_heap_new (W5.alloc (.cells #[.map (some K)] 146)) (.cells #[.func (.func 118) #[] #[.pointer (some ⟨Kb, 0, none⟩), .pointer (some ⟨A, 0, none⟩), .pointer (some ⟨Fb, 0, none⟩)]] 147); rwa [World.size_alloc, ← hFb] at this
    have HS6 := Lib.hid (show OSt W6 A Kb Fb K b (.slice pa ms.length cap) ms (fun x => False ∨ x = allN ms.length) from ⟨HM5.out.below hA6, HK5.out.below hA6, heap_below q5 hA6 (Array.getElem?_eq_some_iff.1 q5).1, k6, f6, HNE.out⟩)
    have HB6 := Lib.hid (HB5.out.trans (hA6.mono HB5.out.size))
    clear hW6 hA6 k6 f6 q5 hKb hFb hrun
    refine (ords_ok ms A Kb Fb K b (.slice pa ms.length cap) HM.out h12 65536 0 _ W6 (by omega) (by omega) (HT.out.below HB6.out (Nat.le_refl _)) (.inr rfl) HS6.out).mono ?_
    rintro e w7 ⟨rfl, hk7, _⟩
    go_wp2
    go_returns
    exact ⟨rfl, keptO_out hk7 HBB.out HKS.out HB6.out⟩
  · have HN := Lib.hid (look_no ms v w hv hm hc)
    have HO := Lib.hid (show ordersN ms = 0 from if_neg hc)
    rw [HO.out]
    obtain ⟨c, hcc⟩ : ∃ c, c = chkM ms := ⟨_, rfl⟩
    rw [← hcc] at HN hc ⊢
    have hne : (c != 0) = true := by simpa using hc
    clear hcc hc hm
    go_enter Tryz.func52, Tryz.ntmps52
    go_wp2_with fail
    refine HN.out.mono ?_
    rintro e w1 ⟨rfl, hB1⟩
    go_wp2
    go_returns
    exact ⟨rfl, hB1.alloc hB1.size _⟩
end Go.Proofs.YtoajocgfmbakjaaGreatDoor
