/-
  A region that draws its order, inside a round of a range over a function, whose operations compute from one another and from memory and end in two stores, the first of which may come ahead of operations that it does not touch: whatever the order, one frame and one world.
-/
import Derived.Test.YtgonaamjjhhiiaaDoorStillIn
set_option linter.unusedVariables false
set_option linter.unusedSimpArgs false
namespace Go.Proofs.YtgonaamjjhhiiaaDoor
open Go

def opSel : Op → Bool
  | .select _ _ => true
  | .defer _ => true
  | _ => false
/-- Each operation waits for what makes its operands; the last one for all; two have no result: s and the last one. -/
def flowB (md : Region.Mode) (ops : Array Oper) (s : Nat) : Bool :=
  decide (s + 1 < ops.size) &&
  (List.range ops.size).all fun i => match ops[i]? with
    | none => true
    | some o =>
      (o.after.all fun e => !Region.binds md e || decide (e.on < i)) && o.guard.isNone && !opSel o.op && (i == ops.size - 1 || Region.waitsFor md ops (ops.size - 1) i) &&
      (o.looksAt ops).all (fun d => (List.range ops.size).all fun j => match ops[j]? with
        | none => true
        | some oj => oj.dst != some d || Region.waitsFor md ops i j) &&
      ((i == s || i == ops.size - 1) == o.dst.isNone) &&
      ((List.range ops.size).all fun j => j == i || match ops[j]? with
        | none => true
        | some oj => oj.dst.isNone || oj.dst != o.dst)

structure FlowAt (md : Region.Mode) (ops : Array Oper) (s i : Nat) (o : Oper) : Prop where
  before : ∀ e ∈ o.after, Region.binds md e = true → e.on < i
  guard : o.guard = none
  sel : opSel o.op = false
  last : i ≠ ops.size - 1 → Region.waitsFor md ops (ops.size - 1) i = true
  data : ∀ d ∈ o.looksAt ops, ∀ (j : Nat) (oj : Oper), ops[j]? = some oj → oj.dst = some d → Region.waitsFor md ops i j = true
  none : (i = s ∨ i = ops.size - 1) ↔ o.dst = none
  one : ∀ (j : Nat) (oj : Oper), ops[j]? = some oj → j ≠ i → ∀ d, oj.dst = some d → o.dst ≠ some d

theorem flow_at {md : Region.Mode} {ops : Array Oper} {s : Nat} (h : flowB md ops s = true) {i : Nat} {o : Oper} (ho : ops[i]? = some o) : FlowAt md ops s i o := by
  unfold flowB at h
  rw [Bool.and_eq_true] at h
  have hlt := (Array.getElem?_eq_some_iff.1 ho).1
  have h1 := List.all_eq_true.1 h.2 i (List.mem_range.2 hlt)
  simp only [ho, Bool.and_eq_true] at h1
  obtain ⟨⟨⟨⟨⟨⟨g0, g1⟩, g2⟩, g3⟩, g4⟩, g5⟩, g6⟩ := h1
  refine ⟨fun e he hb => ?_, by simpa using g1, by simpa using g2, fun hne => ?_, fun d hd j oj hj he => ?_, ?_, fun j oj hj hne d he => ?_⟩
  · have := Array.all_eq_true_iff_forall_mem.1 g0 e he
    simpa [hb] using this
  · rcases Bool.or_eq_true _ _ ▸ g3 with h | h
    · exact absurd (by simpa using h) hne
    · exact h
  · have h2 := List.all_eq_true.1 (List.all_eq_true.1 g4 d hd) j (List.mem_range.2 (Array.getElem?_eq_some_iff.1 hj).1)
    simp only [hj, he, bne_self_eq_false, Bool.false_or] at h2
    exact h2
  · have h3 : (i == s || i == ops.size - 1) = o.dst.isNone := by simpa using g5
    cases hd : o.dst with
    | none => rw [hd] at h3; simpa using h3
    | some d => rw [hd] at h3; simp at h3; simp; exact h3
  · have h4 := List.all_eq_true.1 g6 j (List.mem_range.2 (Array.getElem?_eq_some_iff.1 hj).1)
    simp only [hj, he, Option.isNone_some, Bool.false_or, Bool.or_eq_true, beq_iff_eq, hne, false_or] at h4
    intro hc
    rw [hc] at h4
    simp at h4

def putAll : List Oper → List Value → Act → Act
  | o :: os, v :: vs, a => putAll os vs (a.put o.dst v)
  | _, _, a => a
theorem put_size (a : Act) (d : Option Tmp) (v : Value) : (a.put d v).tmps.size = a.tmps.size := by cases d <;> simp [Act.put]
theorem put_defers (a : Act) (d : Option Tmp) (v : Value) : (a.put d v).defers = a.defers := by cases d <;> rfl
theorem put_other (a : Act) (d : Option Tmp) (v : Value) (e : Nat) (h : d ≠ some e) : (a.put d v).tmps.getD e undef = a.tmps.getD e undef := by
  cases d with
  | none => rfl
  | some d =>
    have : d ≠ e := fun hh => h (by rw [hh])
    simp [Act.put, Array.getD_eq_getD_getElem?, Array.getElem?_setIfInBounds, this]
theorem put_at (a : Act) (d : Nat) (v : Value) (h : d < a.tmps.size) : (a.put (some d) v).tmps.getD d undef = v := by
  simp [Act.put, Array.getD_eq_getD_getElem?, h]
theorem putAll_size : ∀ (os : List Oper) (vs : List Value) (a : Act), (putAll os vs a).tmps.size = a.tmps.size
  | [], _, _ => rfl
  | _ :: _, [], _ => rfl
  | o :: os, v :: vs, a => by rw [putAll, putAll_size os vs, put_size]
theorem putAll_defers : ∀ (os : List Oper) (vs : List Value) (a : Act), (putAll os vs a).defers = a.defers
  | [], _, _ => rfl
  | _ :: _, [], _ => rfl
  | o :: os, v :: vs, a => by rw [putAll, putAll_defers os vs, put_defers]
theorem putAll_other (d : Nat) : ∀ (os : List Oper) (vs : List Value) (a : Act), (∀ (j : Nat) (o : Oper), os[j]? = some o → o.dst ≠ some d) → (putAll os vs a).tmps.getD d undef = a.tmps.getD d undef
  | [], _, _, _ => rfl
  | _ :: _, [], _, _ => rfl
  | o :: os, v :: vs, a, h => by
    rw [putAll, putAll_other d os vs _ (fun j o hj => h (j + 1) o (by simpa using hj)), put_other _ _ _ _ (h 0 o rfl)]
theorem putAll_at (d : Nat) : ∀ (os : List Oper) (vs : List Value) (a : Act) (i : Nat) (o : Oper) (v : Value), os[i]? = some o → vs[i]? = some v → o.dst = some d → d < a.tmps.size →
    (∀ (j : Nat) (oj : Oper), os[j]? = some oj → j ≠ i → oj.dst ≠ some d) → (putAll os vs a).tmps.getD d undef = v
  | [], _, _, _, _, _, h, _, _, _, _ => by simp at h
  | _ :: _, [], _, _, _, _, _, h, _, _, _ => by simp at h
  | o' :: os, v' :: vs, a, 0, o, v, ho, hv, hd, hs, hu => by
    simp only [List.getElem?_cons_zero, Option.some.injEq] at ho hv
    subst ho hv
    rw [putAll, putAll_other d os vs _ (fun j oj hj => hu (j + 1) oj (by simpa using hj) (by omega)), hd, put_at _ _ _ hs]
  | o' :: os, v' :: vs, a, i + 1, o, v, ho, hv, hd, hs, hu => by
    rw [putAll]
    exact putAll_at d os vs _ i o v (by simpa using ho) (by simpa using hv) hd (by rw [put_size]; exact hs) (fun j oj hj hne => hu (j + 1) oj (by simpa using hj) (by omega))

/-- What holds when some operations have been carried out. -/
structure Flow (md : Region.Mode) (ops : Array Oper) (s : Nat) (a0 A : Act) (w1 w2 w3 : World) (listed : Array Bool) (a : Act) (w : World) : Prop where
  lsize : listed.size = ops.size
  closed : ∀ (j : Nat) (oj : Oper), ops[j]? = some oj → listed.getD j false = true → ∀ e ∈ oj.after, Region.binds md e = true → listed.getD e.on false = true
  size : a.tmps.size = a0.tmps.size
  defs : a.defers = a0.defers
  past : ∀ (d j : Nat) (o : Oper), ops[j]? = some o → o.dst = some d → listed.getD j false = true → a.tmps.getD d undef = A.tmps.getD d undef
  rest : ∀ d : Nat, (∀ (j : Nat) (o : Oper), ops[j]? = some o → o.dst = some d → listed.getD j false = false) → a.tmps.getD d undef = a0.tmps.getD d undef
  world : w = if listed.getD (ops.size - 1) false = true then w3 else if listed.getD s false = true then w2 else w1

theorem getD_f {listed : Array Bool} {i : Nat} (h : listed.getD i true = false) : listed.getD i false = false := by
  simp only [Array.getD_eq_getD_getElem?] at *
  cases hl : listed[i]? with
  | none => rw [hl] at h; simp at h
  | some b => rw [hl] at h; simpa using h
theorem getD_lt {listed : Array Bool} {i : Nat} (h : listed.getD i true = false) : i < listed.size := by
  rcases Nat.lt_or_ge i listed.size with h1 | h1
  · exact h1
  · simp [Array.getD_eq_getD_getElem?, Array.getElem?_eq_none h1] at h
theorem getD_set {listed : Array Bool} {i j : Nat} (hi : i < listed.size) : (listed.setIfInBounds i true).getD j false = if j = i then true else listed.getD j false := by
  simp only [Array.getD_eq_getD_getElem?, Array.getElem?_setIfInBounds]
  by_cases h : i = j
  · subst h; simp [hi]
  · rw [if_neg h, if_neg (fun hh => h hh.symm)]

section
variable {lr m : Nat} {P : Program} {md : Region.Mode} {ops : Array Oper} {Q : Exit → Act → World → Prop} {s : Nat} {a0 A : Act} {w1 w2 w3 : World}

theorem Flow.evals {listed : Array Bool} {a : Act} {w : World} (hf : flowB md ops s = true) (hA : ∀ d : Nat, (∀ (j : Nat) (o : Oper), ops[j]? = some o → o.dst ≠ some d) → A.tmps.getD d undef = a0.tmps.getD d undef)
    (h : Flow md ops s a0 A w1 w2 w3 listed a w) {i : Nat} {o : Oper} (ho : ops[i]? = some o) (hd : ∀ e ∈ o.after, Region.binds md e = true → listed.getD e.on false = true) : execOp a.eval o = execOp A.eval o := by
  have fa := flow_at hf ho
  refine execOp_congr o (fun cs b hc => by have := fa.sel; rw [hc] at this; exact absurd this (by simp [opSel])) fun x hx => ?_
  cases x with
  | tmp d =>
    show a.tmps.getD d undef = A.tmps.getD d undef
    have hl : d ∈ o.looksAt ops := List.mem_append_left _ (List.mem_filterMap.2 ⟨.tmp d, by simpa using hx, rfl⟩)
    by_cases hw : ∃ (j : Nat) (oj : Oper), ops[j]? = some oj ∧ oj.dst = some d
    · obtain ⟨j, oj, hj, hdj⟩ := hw
      obtain ⟨o', ho', e, he, hb, hon⟩ := Region.waitsFor_spec (fa.data d hl j oj hj hdj)
      rw [ho] at ho'
      obtain rfl : o = o' := Option.some.inj ho'
      have := hd e he hb
      rw [hon] at this
      exact h.past d j oj hj hdj this
    · rw [h.rest d (fun j o' hj he => absurd ⟨j, o', hj, he⟩ hw), hA d fun j o' hj he => hw ⟨j, o', hj, he⟩]
  | const v => rfl
  | global g => rfl
  | func f => rfl

theorem Flow.step {listed : Array Bool} {a : Act} {w w' : World} (hf : flowB md ops s = true) (h : Flow md ops s a0 A w1 w2 w3 listed a w) {i : Nat} {o : Oper} (ho : ops[i]? = some o) (hun : listed.getD i true = false)
    (hd : ∀ e ∈ o.after, Region.binds md e = true → listed.getD e.on false = true) (v : Value) (hv : ∀ d, o.dst = some d → d < a0.tmps.size ∧ A.tmps.getD d undef = v)
    (hw : w' = if (listed.setIfInBounds i true).getD (ops.size - 1) false = true then w3 else if (listed.setIfInBounds i true).getD s false = true then w2 else w1) :
    Flow md ops s a0 A w1 w2 w3 (listed.setIfInBounds i true) (a.put o.dst v) w' := by
  have fa := flow_at hf ho
  have hi := getD_lt hun
  refine ⟨by rw [Array.size_setIfInBounds]; exact h.lsize, fun j oj hj hl e he hb => ?_, by rw [put_size]; exact h.size, by rw [put_defers]; exact h.defs, fun d j oj hj hdj hl => ?_, fun d hall => ?_, hw⟩
  · rw [getD_set hi] at hl ⊢
    by_cases hei : e.on = i
    · rw [if_pos hei]
    · rw [if_neg hei]
      by_cases hji : j = i
      · subst hji
        rw [ho] at hj
        obtain rfl : o = oj := Option.some.inj hj
        exact hd e he hb
      · rw [if_neg hji] at hl
        exact h.closed j oj hj hl e he hb
  · rw [getD_set hi] at hl
    by_cases hji : j = i
    · subst hji
      rw [ho] at hj
      obtain rfl : o = oj := Option.some.inj hj
      obtain ⟨k1, k2⟩ := hv d hdj
      rw [hdj, put_at _ _ _ (by rw [h.size]; exact k1), k2]
    · rw [if_neg hji] at hl
      rw [put_other _ _ _ _ (fa.one j oj hj hji d hdj)]
      exact h.past d j oj hj hdj hl
  · have hne : o.dst ≠ some d := fun hc => by
      have := hall i o ho hc
      rw [getD_set hi, if_pos rfl] at this
      exact absurd this (by simp)
    rw [put_other _ _ _ _ hne]
    refine h.rest d fun j oj hj hdj => ?_
    have := hall j oj hj hdj
    rw [getD_set hi] at this
    by_cases hji : j = i
    · rw [if_pos hji] at this; exact absurd this (by simp)
    · rwa [if_neg hji] at this

theorem Flow.full {listed : Array Bool} {a : Act} {w : World} (hA1 : A.tmps.size = a0.tmps.size) (hA2 : A.defers = a0.defers) (hA : ∀ d : Nat, (∀ (j : Nat) (o : Oper), ops[j]? = some o → o.dst ≠ some d) → A.tmps.getD d undef = a0.tmps.getD d undef)
    (hn : 0 < ops.size) (h : Flow md ops s a0 A w1 w2 w3 listed a w) (hall : ∀ i, i < ops.size → listed.getD i false = true) : a = A ∧ w = w3 := by
  refine ⟨?_, by rw [h.world, if_pos (hall _ (by omega))]⟩
  have ht : a.tmps = A.tmps := by
    refine Array.ext (by rw [h.size, hA1]) fun d h1 h2 => ?_
    have : a.tmps.getD d undef = A.tmps.getD d undef := by
      by_cases hw : ∃ (j : Nat) (oj : Oper), ops[j]? = some oj ∧ oj.dst = some d
      · obtain ⟨j, oj, hj, hdj⟩ := hw
        exact h.past d j oj hj hdj (hall j (Array.getElem?_eq_some_iff.1 hj).1)
      · rw [h.rest d (fun j o' hj he => absurd ⟨j, o', hj, he⟩ hw), hA d fun j o' hj he => hw ⟨j, o', hj, he⟩]
    simpa [Array.getD_eq_getD_getElem?, h1, h2] using this
  have hd : a.defers = A.defers := by rw [h.defs, hA2]
  cases a; cases A
  simp only at ht hd
  subst ht hd
  rfl

theorem all_listed {listed : Array Bool} (hf : flowB md ops s = true) (hl : listed.size = ops.size) (hr : Region.ready md ops listed = []) : ∀ (n i : Nat), i < n → i < ops.size → listed.getD i false = true := by
  intro n
  induction n with
  | zero => intro i h; omega
  | succ n ih =>
    intro i hi hlt
    cases hc : listed.getD i false with
    | true => rfl
    | false =>
      have h1 : listed.getD i true = false := by
        simp only [Array.getD_eq_getD_getElem?] at *
        rw [Array.getElem?_eq_getElem (by omega)] at hc ⊢
        simpa using hc
      obtain ⟨o, ho⟩ : ∃ o, ops[i]? = some o := ⟨_, Array.getElem?_eq_getElem hlt⟩
      have fa := flow_at hf ho
      have : i ∈ Region.ready md ops listed := mem_ready.2 ⟨h1, o, ho, fun e he hb => by
        have := fa.before e he hb
        exact ih e.on (by omega) (by omega)⟩
      rw [hr] at this
      cases this

theorem flow_any (hf : flowB md ops s = true) (hA1 : A.tmps.size = a0.tmps.size) (hA2 : A.defers = a0.defers) (hA : ∀ d : Nat, (∀ (j : Nat) (o : Oper), ops[j]? = some o → o.dst ≠ some d) → A.tmps.getD d undef = a0.tmps.getD d undef)
    (hrun : ∀ (i : Nat) (o : Oper), ops[i]? = some o → i ≠ s → i ≠ ops.size - 1 → ∃ v, (∀ d, o.dst = some d → d < a0.tmps.size ∧ A.tmps.getD d undef = v) ∧ (execOp A.eval o).run P w1 = .ok (.value v) w1 ∧ (Region.waitsFor md ops s i = false → (execOp A.eval o).run P w2 = .ok (.value v) w2))
    (hs1 : ∀ o, ops[s]? = some o → (execOp A.eval o).run P w1 = .ok .skip w2) (hs2 : ∀ o, ops[ops.size - 1]? = some o → (execOp A.eval o).run P w2 = .ok .skip w3) (hQ : Q .normal A w3) :
    ∀ (fuel : Nat) (listed : Array Bool) (a : Act) (w : World) (l : List Nat), (∀ i, listed.getD i true = false → i ∈ l) → l.length ≤ fuel → Flow md ops s a0 A w1 w2 w3 listed a w → wpAnyIn (Fence.wide.inRound lr) m P md ops Q fuel listed a w := by
  have hs : s + 1 < ops.size := by
    unfold flowB at hf
    rw [Bool.and_eq_true] at hf
    exact of_decide_eq_true hf.1
  intro fuel
  induction fuel with
  | zero =>
    intro listed a w l hl hlen h
    have h0 : l = [] := List.length_eq_zero_iff.1 (by omega)
    subst h0
    have hr : Region.ready md ops listed = [] := by
      rw [List.eq_nil_iff_forall_not_mem]
      intro i hi
      exact absurd (hl i (mem_ready.1 hi).1) (by simp)
    obtain ⟨rfl, rfl⟩ := h.full hA1 hA2 hA (by omega) (fun i hi => all_listed hf h.lsize hr (i + 1) i (by omega) hi)
    exact ⟨hr, hQ⟩
  | succ fuel ih =>
    intro listed a w l hl hlen h
    refine ⟨fun hr => ?_, fun i hi => ?_⟩
    · obtain ⟨rfl, rfl⟩ := h.full hA1 hA2 hA (by omega) (fun i hi => all_listed hf h.lsize hr (i + 1) i (by omega) hi)
      exact hQ
    · obtain ⟨hun, o, ho, hd⟩ := mem_ready.1 hi
      have fa := flow_at hf ho
      have hi' := getD_lt hun
      have hf' := getD_f hun
      have hex := Flow.evals hf hA h ho hd
      have hnd : ∀ c, o.op ≠ .defer c := fun c hc => by have := fa.sel; rw [hc] at this; exact absurd this (by simp [opSel])
      have hwant : ∀ y, Region.wanted o y = true := fun y => by unfold Region.wanted; rw [fa.guard]
      have next : ∀ (v : Value) (w' : World), (∀ d, o.dst = some d → d < a0.tmps.size ∧ A.tmps.getD d undef = v) →
          (w' = if (listed.setIfInBounds i true).getD (ops.size - 1) false = true then w3 else if (listed.setIfInBounds i true).getD s false = true then w2 else w1) →
          wpAnyIn (Fence.wide.inRound lr) m P md ops Q fuel (listed.setIfInBounds i true) (a.put o.dst v) w' := fun v w' hv hw => by
        refine ih _ _ _ (l.erase i) (fun j hj => ?_) (by rw [List.length_erase_of_mem (hl i hun)]; omega) (h.step hf ho hun hd v hv hw)
        have hji : j ≠ i := by
          rintro rfl
          simp [Array.getD_eq_getD_getElem?, hi'] at hj
        refine (List.mem_erase_of_ne hji).2 (hl j ?_)
        rw [Array.getD_eq_getD_getElem?, Array.getElem?_setIfInBounds, if_neg (fun hh : i = j => hji hh.symm), ← Array.getD_eq_getD_getElem?] at hj
        exact hj
      unfold wpOpIn
      simp only [ho, hwant, if_true]
      refine ⟨fun _ _ => trivial, ?_⟩
      rw [Oper.semAt_plain _ _ _ hnd, hex]
      have hlast : i ≠ ops.size - 1 → listed.getD (ops.size - 1) false = false := fun hne => by
        cases hc : listed.getD (ops.size - 1) false with
        | false => rfl
        | true =>
          obtain ⟨oj, hj, e, he, hb, hon⟩ := Region.waitsFor_spec (fa.last hne)
          have := h.closed _ oj hj hc e he hb
          rw [hon, hf'] at this
          exact absurd this (by simp)
      by_cases his : i = s
      · subst his
        have hdn : o.dst = none := fa.none.1 (.inl rfl)
        have hw : w = w1 := by rw [h.world, if_neg (by rw [hlast (by omega)]; simp), if_neg (by rw [hf']; simp)]
        subst hw
        rw [hs1 o ho]
        exact next undef w2 (fun d hd' => by rw [hdn] at hd'; cases hd') (by
          have e1 : (listed.setIfInBounds i true).getD (ops.size - 1) false = false := by rw [getD_set hi', if_neg (by omega)]; exact hlast (by omega)
          have e2 : (listed.setIfInBounds i true).getD i false = true := by rw [getD_set hi', if_pos rfl]
          rw [e1, e2]; rfl)
      · by_cases hil : i = ops.size - 1
        · subst hil
          have hdn : o.dst = none := fa.none.1 (.inr rfl)
          have hls : listed.getD s false = true := by
            obtain ⟨os, hos⟩ : ∃ os, ops[s]? = some os := ⟨_, Array.getElem?_eq_getElem (by omega)⟩
            obtain ⟨o', ho', e, he, hb, hon⟩ := Region.waitsFor_spec ((flow_at hf hos).last (by omega))
            rw [ho] at ho'
            obtain rfl : o = o' := Option.some.inj ho'
            rw [← hon]
            exact hd e he hb
          have hw : w = w2 := by rw [h.world, if_neg (by rw [hf']; simp), if_pos hls]
          subst hw
          rw [hs2 o ho]
          exact next undef w3 (fun d hd' => by rw [hdn] at hd'; cases hd') (by
            have e1 : (listed.setIfInBounds (ops.size - 1) true).getD (ops.size - 1) false = true := by rw [getD_set hi', if_pos rfl]
            rw [e1]; rfl)
        · obtain ⟨v, hv, r1, r2⟩ := hrun i o ho his hil
          cases hls : listed.getD s false with
          | false =>
            have hw : w = w1 := by rw [h.world, if_neg (by rw [hlast hil]; simp), if_neg (by rw [hls]; simp)]
            subst hw
            rw [r1]
            exact next v w hv (by
              have e1 : (listed.setIfInBounds i true).getD (ops.size - 1) false = false := by rw [getD_set hi', if_neg (fun hh => hil hh.symm)]; exact hlast hil
              have e2 : (listed.setIfInBounds i true).getD s false = false := by rw [getD_set hi', if_neg (fun hh => his hh.symm)]; exact hls
              rw [e1, e2]; rfl)
          | true =>
            have hw : w = w2 := by rw [h.world, if_neg (by rw [hlast hil]; simp), if_pos hls]
            subst hw
            have hws : Region.waitsFor md ops s i = false := by
              cases hc : Region.waitsFor md ops s i with
              | false => rfl
              | true =>
                obtain ⟨oj, hj, e, he, hb, hon⟩ := Region.waitsFor_spec hc
                have := h.closed s oj hj hls e he hb
                rw [hon, hf'] at this
                exact absurd this (by simp)
            rw [r2 hws]
            exact next v w hv (by
              have e1 : (listed.setIfInBounds i true).getD (ops.size - 1) false = false := by rw [getD_set hi', if_neg (fun hh => hil hh.symm)]; exact hlast hil
              have e2 : (listed.setIfInBounds i true).getD s false = true := by rw [getD_set hi', if_neg (fun hh => his hh.symm)]; exact hls
              rw [e1, e2]; rfl)
end

/-- The law, for a region that is written out. -/
theorem wpIn_round_flow {lr m : Nat} {P : Program} {id : Nat} {Q : Exit → Act → World → Prop} {a0 : Act} {w w2 w3 : World} {l : List Oper} (s : Nat) (vs : List Value) (A : Act) (hm : P.follows .mixedOrders = true) (hf : flowB .any l.toArray s = true)
    (hA : A = putAll l vs a0) (hds : ∀ (i : Nat) (o : Oper), l[i]? = some o → ∀ d, o.dst = some d → d < a0.tmps.size)
    (hrun : ∀ (i : Nat) (o : Oper), l[i]? = some o → i ≠ s → i ≠ l.length - 1 → ∃ v, vs[i]? = some v ∧ (execOp A.eval o).run P w.drew = .ok (.value v) w.drew ∧ (Region.waitsFor .any l.toArray s i = false → (execOp A.eval o).run P w2 = .ok (.value v) w2))
    (hs1 : ∀ o, l[s]? = some o → (execOp A.eval o).run P w.drew = .ok .skip w2) (hs2 : ∀ o, l[l.length - 1]? = some o → (execOp A.eval o).run P w2 = .ok .skip w3) (hQ : Q .normal A w3) :
    (Code.region id l.toArray true).wpIn (Fence.wide.inRound lr) m P Q a0 w := by
  refine wpIn_region_any hm ?_
  refine flow_any (a0 := a0) (A := A) (w1 := w.drew) (w2 := w2) (w3 := w3) hf (by rw [hA, putAll_size]) (by rw [hA, putAll_defers]) (fun d hd => by rw [hA]; exact putAll_other d l vs a0 fun j o hj => hd j o (by simpa using hj))
    (fun i o ho h1 h2 => ?_) (fun o ho => hs1 o (by simpa using ho)) (fun o ho => hs2 o (by simpa using ho)) hQ _ _ _ _ (List.range l.toArray.size) (fun i hi => by
      have := getD_lt hi
      rw [Array.size_replicate] at this
      exact List.mem_range.2 this) (by simp) ⟨by simp, fun j oj _ hl => ?_, rfl, rfl, fun d j o _ _ hl => ?_, fun d _ => rfl, ?_⟩
  · obtain ⟨v, k1, k2, k3⟩ := hrun i o (by simpa using ho) h1 (by simpa using h2)
    refine ⟨v, fun d hd => ⟨hds i o (by simpa using ho) d hd, ?_⟩, k2, k3⟩
    rw [hA]
    have fa := flow_at hf ho
    exact putAll_at d l vs a0 i o v (by simpa using ho) k1 hd (hds i o (by simpa using ho) d hd) (fun j oj hj hne hc => fa.one j oj (by simpa using hj) hne d hc hd)
  · rw [getD_replicate_false] at hl; cases hl
  · rw [getD_replicate_false] at hl; cases hl
  · rw [getD_replicate_false, getD_replicate_false]; rfl

def RunsAll (P : Program) (A : Act) (w w2 : World) (ops : Array Oper) (s : Nat) : Nat → List Oper → List Value → Prop
  | _, [], _ => True
  | k, o :: os, vs => (k = s ∨ os = [] ∨ ∃ v, vs.head? = some v ∧ (execOp A.eval o).run P w = .ok (.value v) w ∧ (Region.waitsFor .any ops s k = true ∨ (execOp A.eval o).run P w2 = .ok (.value v) w2)) ∧ RunsAll P A w w2 ops s (k + 1) os vs.tail
theorem RunsAll.at {P : Program} {A : Act} {w w2 : World} {ops : Array Oper} {s : Nat} : ∀ (l : List Oper) (vs : List Value) (k i : Nat) (o : Oper), RunsAll P A w w2 ops s k l vs → l[i]? = some o → k + i ≠ s → i ≠ l.length - 1 →
    ∃ v, vs[i]? = some v ∧ (execOp A.eval o).run P w = .ok (.value v) w ∧ (Region.waitsFor .any ops s (k + i) = false → (execOp A.eval o).run P w2 = .ok (.value v) w2)
  | [], _, _, _, _, _, h, _, _ => by simp at h
  | o' :: os, vs, k, 0, o, h, ho, h1, h2 => by
    simp only [List.getElem?_cons_zero, Option.some.injEq] at ho
    subst ho
    rcases h.1 with h | h | ⟨v, h3, h4, h5⟩
    · exact absurd h h1
    · subst h; exact absurd rfl h2
    · refine ⟨v, by rw [← List.head?_eq_getElem?]; exact h3, h4, fun hw => ?_⟩
      rcases h5 with h5 | h5
      · rw [Nat.add_zero, h5] at hw; cases hw
      · exact h5
  | o' :: os, vs, k, i + 1, o, h, ho, h1, h2 => by
    obtain ⟨v, h3, h4, h5⟩ := RunsAll.at os vs.tail (k + 1) i o h.2 (by simpa using ho) (fun hh => h1 (by omega)) (fun hh => h2 (by rw [List.length_cons, hh]; have := (List.getElem?_eq_some_iff.1 (show os[i]? = some o by simpa using ho)).1; omega))
    refine ⟨v, ?_, h4, ?_⟩
    · cases vs with
      | nil => simp at h3
      | cons v' vs => simpa using h3
    · rw [show k + (i + 1) = k + 1 + i by omega]; exact h5
def dstB (l : List Oper) (n : Nat) : Bool := l.all fun o => match o.dst with
  | none => true
  | some d => decide (d < n)
theorem dst_at {l : List Oper} {n : Nat} (h : dstB l n = true) (i : Nat) (o : Oper) (ho : l[i]? = some o) (d : Nat) (hd : o.dst = some d) : d < n := by
  have := List.all_eq_true.1 h o (List.mem_of_getElem? ho)
  rw [hd] at this
  exact of_decide_eq_true this
theorem wpIn_round_runs {lr m : Nat} {P : Program} {id : Nat} {Q : Exit → Act → World → Prop} {a0 : Act} {w : World} {l : List Oper} (w2 w3 : World) (s n : Nat) (vs : List Value) (A : Act) (hm : P.follows .mixedOrders = true) (hf : flowB .any l.toArray s = true)
    (hA : A = putAll l vs a0) (hn : a0.tmps.size = n) (hds : dstB l n = true) (hrun : RunsAll P A w.drew w2 l.toArray s 0 l vs)
    (hs1 : ∀ o, l[s]? = some o → (execOp A.eval o).run P w.drew = .ok .skip w2) (hs2 : ∀ o, l[l.length - 1]? = some o → (execOp A.eval o).run P w2 = .ok .skip w3) (hQ : Q .normal A w3) :
    (Code.region id l.toArray true).wpIn (Fence.wide.inRound lr) m P Q a0 w :=
  wpIn_round_flow s vs A hm hf hA (fun i o ho d hd => by rw [hn]; exact dst_at hds i o ho d hd) (fun i o ho h1 h2 => by
    have := RunsAll.at l vs 0 i o hrun ho (by omega) h2
    rwa [Nat.zero_add] at this) hs1 hs2 hQ
end Go.Proofs.YtgonaamjjhhiiaaDoor
