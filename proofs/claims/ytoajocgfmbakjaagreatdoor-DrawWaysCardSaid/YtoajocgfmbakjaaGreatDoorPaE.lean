/-
  A region that draws its order: first operations that only read, or call what leaves a class of worlds as it is; behind them all, in their order, the rest (a store, an assignment). One walk in the order of the text serves every order: the head in each world of the class, the rest in whatever world of the class the head has ended in.
-/
import Derived.Deep.QuietTactic
import Derived.BigQuiet
import Derived.StillTail
import Derived.Test.YtoajocgfmbakjaaGreatDoorPbA
import Derived.Sort.QuietThIn
import Derived.OwnWalkIn
import Derived.TacticsInMore
set_option linter.unusedVariables false
set_option linter.unusedSimpArgs false
namespace Go.Proofs.YtoajocgfmbakjaaGreatDoor
open Go Go.RowKit

section
variable {P : Program} {md : Region.Mode} {ops : Array Oper} {C : World → Prop}
/-- Some operations of the head, in whatever order; then L. -/
def headAny (P : Program) (md : Region.Mode) (ops : Array Oper) (C : World → Prop) (n : Nat) (L : Array Bool → Act → Prop) : Nat → Array Bool → Act → Prop
  | 0, l, a => L l a
  | k + 1, l, a => Region.ready md ops l ≠ [] ∧ ∀ i, i ∈ Region.ready md ops l → i < n ∧ qOp P ops C i (headAny P md ops C n L k (l.setIfInBounds i true)) a
theorem any_of_headAny {n g : Nat} {L : Array Bool → Act → Prop} {Q : Exit → Act → World → Prop} (hL : ∀ l a w, C w → L l a → wpAny P md ops Q g l a w) :
    ∀ (k : Nat) (l : Array Bool) (a : Act) (w : World), C w → headAny P md ops C n L k l a → wpAny P md ops Q (k + g) l a w := by
  intro k
  induction k with
  | zero => intro l a w hw h; simpa using hL l a w hw h
  | succ k ih =>
    intro l a w hw h
    have e : k + 1 + g = k + g + 1 := by omega
    rw [e]
    refine ⟨fun h0 => absurd h0 h.1, fun i hi => ?_⟩
    exact wpOp_of_qOp hw (fun a' w' hw' hk => ih _ a' w' hw' hk) (h.2 i hi).2
/-- If one operation that is ready may come first, all may. -/
theorem headAny_one {n i : Nat} {oi : Oper} {v : Value} {L : Array Bool → Act → Prop} (ho : ops[i]? = some oi) (hsel : ∀ (j : Nat) (o : Oper) cs b, ops[j]? = some o → o.op ≠ .select cs b)
    (hs : Region.sinkB md ops n = true) (hc : Region.chainB md ops n = true) (hn : n < ops.size) (hin : i < n)
    (hend : ∀ l a, L l a → ∀ j ∈ Region.ready md ops l, n ≤ j) (k : Nat) :
    ∀ (l : Array Bool) (a : Act), HeadInv md ops n l →
      (∀ j oj, ops[j]? = some oj → j ≠ i → l.getD j true = false → (∀ e ∈ oj.after, Region.binds md e = true → e.on ≠ i) → oi.apart ops oj = true) →
      i ∈ Region.ready md ops l → YieldsIn P ops C oi v a → headAny P md ops C n L k (l.setIfInBounds i true) (a.put oi.dst v) → headAny P md ops C n L (k + 1) l a := by
  induction k with
  | zero =>
    intro l a inv _ hr hy H
    refine ⟨List.ne_nil_of_mem hr, fun j hj => ?_⟩
    have hjn : j < n := Classical.byContradiction fun hge => tail_waits hs hc hn inv _ i rfl hin (mem_ready.1 hr).1 j (by omega) hj
    refine ⟨hjn, ?_⟩
    by_cases e : j = i
    · subst e; exact hy.qOp ho H
    · exact absurd (hend _ _ H j (ready_mono hj e)) (by omega)
  | succ k ih =>
    intro l a inv hap hr hy H
    refine ⟨List.ne_nil_of_mem hr, fun j hj => ?_⟩
    have hjn : j < n := Classical.byContradiction fun hge => tail_waits hs hc hn inv _ i rfl hin (mem_ready.1 hr).1 j (by omega) hj
    refine ⟨hjn, ?_⟩
    by_cases e : j = i
    · subst e; exact hy.qOp ho H
    · obtain ⟨hju, oj, hoj, hall⟩ := mem_ready.1 hj
      have hno : ∀ x ∈ oj.after, Region.binds md x = true → x.on ≠ i := by
        intro x hx hb he
        have h1 := hall x hx hb
        rw [he, getD_both (mem_ready.1 hr).1] at h1
        cases h1
      have hq := qOp_put hoj (hap j oj hoj e hju hno) (fun cs b => hsel i oi cs b ho) (fun cs b => hsel j oj cs b hoj) hy (H.2 j (ready_mono hj e)).2
      refine qOp_mono (fun a' hh => ?_) hq
      refine ih _ a' (inv.set hj hjn) ?_ (ready_mono hr (Ne.symm e)) hh.1 ?_
      · intro x ox hox hxi hxu hxno
        refine hap x ox hox hxi ?_ hxno
        by_cases hjx : j = x
        · subst hjx; exact hju
        · rwa [getD_set_ne true hjx] at hxu
      · rw [Array.setIfInBounds_comm _ _ e]
        exact hh.2
theorem headAny_lex {n g : Nat} {R : Act → Prop} (hsel : Region.noSelect ops = true) (hs : Region.sinkB md ops n = true) (hc : Region.chainB md ops n = true) (hn : n < ops.size) (m : List Oper) :
    ∀ (k : Nat) (l : Array Bool) (a : Act), (∀ j, j < m.length → m[j]? = ops[k + j]?) → k + m.length = n → HeadInv md ops n l →
      Region.lexHead md ops g m.length k l = true → wpQuiet P ops C R m a → headAny P md ops C n (fun l' a' => Region.seqB md ops g n l' = true ∧ R a') m.length l a := by
  induction m with
  | nil =>
    intro k l a _ hk _ hB h
    obtain rfl : k = n := by simpa using hk
    exact ⟨by simpa [Region.lexHead] using hB, h⟩
  | cons o m ih =>
    intro k l a hm hk inv hB h
    have h0 : ops[k]? = some o := by have := hm 0 (by simp); simpa using this.symm
    simp only [List.length_cons, Region.lexHead, Bool.and_eq_true] at hB hk
    have hr : k ∈ Region.ready md ops l := by simpa using hB.1.1
    have hq : qOp P ops C k (wpQuiet P ops C R m) a := by unfold qOp; simp only [h0]; exact h
    obtain ⟨v, hy, hK⟩ := yieldsIn_of_qOp h0 hq
    refine headAny_one h0 (Region.noSelect_spec hsel) hs hc hn (by omega) (fun l' a' hL => seqB_ready hL.1) m.length l a inv (Region.free_spec h0 hB.1.2) hr hy ?_
    refine ih (k + 1) _ _ (fun j hj => ?_) (by omega) (inv.set hr (by omega)) hB.2 hK
    have := hm (j + 1) (by simp; omega)
    simpa [Nat.add_assoc, Nat.add_comm 1 j] using this
/-- The law. -/
theorem wp_region_quiet_tail {id : Nat} {Q : Exit → Act → World → Prop} {a : Act} {w : World} {m : List Oper} (n : Nat) (C : World → Prop) (hm : P.follows .mixedOrders = true) (hB : Region.lexTailB .any m.toArray n = true) (hC : C w.drew)
    (h : wpQuiet P m.toArray C (fun a' => ∀ w', C w' → wpList P m.toArray Q (m.drop n) a' w') (m.take n) a) : (Code.region id m.toArray true).wp P Q a w := by
  simp only [Region.lexTailB, Bool.and_eq_true, decide_eq_true_eq] at hB
  obtain ⟨⟨⟨⟨hsel, hn⟩, hs⟩, hc⟩, hlex⟩ := hB
  have hn1 : n < m.length := by simpa using hn
  have ht : (m.take n).length = n := by simp; omega
  have hd : (m.drop n).length = m.toArray.size - n := by simp
  have inv : HeadInv .any m.toArray n (Array.replicate m.toArray.size false) :=
    ⟨by simp, fun j oj _ hl => absurd hl (by rw [getD_replicate_false]; exact Bool.false_ne_true), fun t _ ht => getD_in (by simpa using ht) (getD_replicate_false _ _)⟩
  have H := headAny_lex (g := m.toArray.size - n) hsel hs hc hn (m.take n) 0 _ a (fun j hj => by rw [ht] at hj; simp [hj]) (by simpa using ht) inv (by rw [ht]; exact hlex) h
  refine wp_region_any hm ?_
  have K := any_of_headAny (Q := Q) (g := m.toArray.size - n) (fun l a' w' hw' hL => by
    have := wpAny_of_seq (md := .any) (Q' := Q) (m.drop n) n l a' w' (fun j => by simp [List.getElem?_drop]) (by rw [hd]; exact hL.1) (hL.2 w' hw')
    rwa [hd] at this) _ _ _ _ hC H
  rwa [ht, show n + (m.toArray.size - n) = m.toArray.size by omega] at K
end
end Go.Proofs.YtoajocgfmbakjaaGreatDoor
/-
  A region that draws its order, within a round: first operations that only read, or call what leaves a class of worlds as it is; behind them all, in their order, the rest. As XTail; no operation defers.
-/
set_option linter.unusedVariables false
set_option linter.unusedSimpArgs false
namespace Go.Proofs.YtoajocgfmbakjaaGreatDoor
open Go Go.RowKit

section
variable {F : Fence} {f : Nat} {P : Program} {md : Region.Mode} {ops : Array Oper} {C : World → Prop}
def plainB (o : Oper) : Bool := match o.op with | .defer _ => false | _ => true
theorem plainB_ne {o : Oper} (h : plainB o = true) : ∀ c, o.op ≠ .defer c := fun c e => by
  unfold plainB at h
  rw [e] at h
  cases h
theorem opIn_quiet {o : Oper} {a : Act} {K : Act → Prop} {K' : Act → World → Prop} {Q' : Exit → Act → World → Prop} {w : World} (hp : plainB o = true) (hw : C w) (h : ∀ a w', C w' → K a → K' a w')
    (ha : o.askedIn F P a C) (hh : o.quietIn F f P a C K) : o.wpIn F f P a w K' Q' := by
  obtain ⟨v, h1, h2⟩ := hh
  have h3 := h1 w hw
  unfold Oper.quietAtIn at h3
  unfold Oper.wpIn
  refine ⟨ha w hw, ?_⟩
  rw [Oper.semAt_plain F _ _ (plainB_ne hp)]
  generalize (execOp a.eval o).run P w = r at *
  cases r with
  | ok x w' =>
    cases x <;> simp only [Oper.quietUponIn] at h3 <;> simp only [Oper.uponIn]
    · rw [h3.1, h3.2]
      exact h _ _ hw h2
    · rw [h3.1, ← h3.2]
      exact h _ _ hw h2
    · rw [h3.1]
      exact ⟨h3.2.1, h3.2.2.mono fun e w'' ⟨he, hw''⟩ => by subst he; exact h _ _ hw'' h2⟩
  | halt x w' => simp only [Oper.quietUponIn] at h3
theorem wpOpIn_quiet {i : Nat} {a : Act} {K : Act → Prop} {K' : Act → World → Prop} {Q' : Exit → Act → World → Prop} {w : World} (hp : ∀ o, ops[i]? = some o → plainB o = true) (hC : C w) (h : ∀ a w', C w' → K a → K' a w')
    (hh : qOpIn F f P ops C i K a) : wpOpIn F f P ops Q' i K' a w := by
  unfold qOpIn at hh
  unfold wpOpIn
  split
  · rename_i ho; simp only [ho] at hh; exact h _ _ hC hh
  · rename_i o ho
    simp only [ho] at hh
    obtain ⟨ha, hh⟩ := hh
    split
    · rename_i hw; simp only [hw, if_true] at hh; exact opIn_quiet (hp o ho) hC h ha hh
    · rename_i hw; simp only [hw] at hh; exact ⟨ha w hC, h _ _ hC hh⟩
def headIn (F : Fence) (f : Nat) (P : Program) (md : Region.Mode) (ops : Array Oper) (C : World → Prop) (n : Nat) (L : Array Bool → Act → Prop) : Nat → Array Bool → Act → Prop
  | 0, l, a => L l a
  | k + 1, l, a => Region.ready md ops l ≠ [] ∧ ∀ i, i ∈ Region.ready md ops l → i < n ∧ qOpIn F f P ops C i (headIn F f P md ops C n L k (l.setIfInBounds i true)) a
theorem any_of_headIn {n g : Nat} {L : Array Bool → Act → Prop} {Q : Exit → Act → World → Prop} (hp : ∀ (i : Nat) (o : Oper), ops[i]? = some o → plainB o = true) (hL : ∀ l a w, C w → L l a → wpAnyIn F f P md ops Q g l a w) :
    ∀ (k : Nat) (l : Array Bool) (a : Act) (w : World), C w → headIn F f P md ops C n L k l a → wpAnyIn F f P md ops Q (k + g) l a w := by
  intro k
  induction k with
  | zero => intro l a w hw h; simpa using hL l a w hw h
  | succ k ih =>
    intro l a w hw h
    have e : k + 1 + g = k + g + 1 := by omega
    rw [e]
    refine ⟨fun h0 => absurd h0 h.1, fun i hi => ?_⟩
    exact wpOpIn_quiet (hp i) hw (fun a' w' hw' hk => ih _ a' w' hw' hk) (h.2 i hi).2
theorem headIn_one {n i : Nat} {oi : Oper} {v : Value} {L : Array Bool → Act → Prop} (ho : ops[i]? = some oi) (hsel : ∀ (j : Nat) (o : Oper) cs b, ops[j]? = some o → o.op ≠ .select cs b)
    (hs : Region.sinkB md ops n = true) (hc : Region.chainB md ops n = true) (hn : n < ops.size) (hin : i < n)
    (hend : ∀ l a, L l a → ∀ j ∈ Region.ready md ops l, n ≤ j) (k : Nat) :
    ∀ (l : Array Bool) (a : Act), HeadInv md ops n l →
      (∀ j oj, ops[j]? = some oj → j ≠ i → l.getD j true = false → (∀ e ∈ oj.after, Region.binds md e = true → e.on ≠ i) → oi.apart ops oj = true) →
      i ∈ Region.ready md ops l → YieldsQuiet F f P ops C oi v a → headIn F f P md ops C n L k (l.setIfInBounds i true) (a.put oi.dst v) → headIn F f P md ops C n L (k + 1) l a := by
  induction k with
  | zero =>
    intro l a inv _ hr hy H
    refine ⟨List.ne_nil_of_mem hr, fun j hj => ?_⟩
    have hjn : j < n := Classical.byContradiction fun hge => tail_waits hs hc hn inv _ i rfl hin (mem_ready.1 hr).1 j (by omega) hj
    refine ⟨hjn, ?_⟩
    by_cases e : j = i
    · subst e; exact hy.qOpIn ho H
    · exact absurd (hend _ _ H j (ready_mono hj e)) (by omega)
  | succ k ih =>
    intro l a inv hap hr hy H
    refine ⟨List.ne_nil_of_mem hr, fun j hj => ?_⟩
    have hjn : j < n := Classical.byContradiction fun hge => tail_waits hs hc hn inv _ i rfl hin (mem_ready.1 hr).1 j (by omega) hj
    refine ⟨hjn, ?_⟩
    by_cases e : j = i
    · subst e; exact hy.qOpIn ho H
    · obtain ⟨hju, oj, hoj, hall⟩ := mem_ready.1 hj
      have hno : ∀ x ∈ oj.after, Region.binds md x = true → x.on ≠ i := by
        intro x hx hb he
        have h1 := hall x hx hb
        rw [he, getD_both (mem_ready.1 hr).1] at h1
        cases h1
      have hq := qOpIn_put hoj (hap j oj hoj e hju hno) (fun cs b => hsel i oi cs b ho) (fun cs b => hsel j oj cs b hoj) hy (H.2 j (ready_mono hj e)).2
      refine qOpIn_mono (fun a' hh => ?_) hq
      refine ih _ a' (inv.set hj hjn) ?_ (ready_mono hr (Ne.symm e)) hh.1 ?_
      · intro x ox hox hxi hxu hxno
        refine hap x ox hox hxi ?_ hxno
        by_cases hjx : j = x
        · subst hjx; exact hju
        · rwa [getD_set_ne true hjx] at hxu
      · rw [Array.setIfInBounds_comm _ _ e]
        exact hh.2
theorem headIn_lex {n g : Nat} {R : Act → Prop} (hsel : Region.noSelect ops = true) (hs : Region.sinkB md ops n = true) (hc : Region.chainB md ops n = true) (hn : n < ops.size) (m : List Oper) :
    ∀ (k : Nat) (l : Array Bool) (a : Act), (∀ j, j < m.length → m[j]? = ops[k + j]?) → k + m.length = n → HeadInv md ops n l →
      Region.lexHead md ops g m.length k l = true → wpQuietIn F f P ops C R m a → headIn F f P md ops C n (fun l' a' => Region.seqB md ops g n l' = true ∧ R a') m.length l a := by
  induction m with
  | nil =>
    intro k l a _ hk _ hB h
    obtain rfl : k = n := by simpa using hk
    exact ⟨by simpa [Region.lexHead] using hB, h⟩
  | cons o m ih =>
    intro k l a hm hk inv hB h
    have h0 : ops[k]? = some o := by have := hm 0 (by simp); simpa using this.symm
    simp only [List.length_cons, Region.lexHead, Bool.and_eq_true] at hB hk
    have hr : k ∈ Region.ready md ops l := by simpa using hB.1.1
    have hq : qOpIn F f P ops C k (wpQuietIn F f P ops C R m) a := by unfold qOpIn; simp only [h0]; exact h
    obtain ⟨v, hy, hK⟩ := yieldsQuiet_of_qOpIn h0 hq
    refine headIn_one h0 (Region.noSelect_spec hsel) hs hc hn (by omega) (fun l' a' hL => seqB_ready hL.1) m.length l a inv (Region.free_spec h0 hB.1.2) hr hy ?_
    refine ih (k + 1) _ _ (fun j hj => ?_) (by omega) (inv.set hr (by omega)) hB.2 hK
    have := hm (j + 1) (by simp; omega)
    simpa [Nat.add_assoc, Nat.add_comm 1 j] using this
theorem anyIn_of_seq {Q' : Exit → Act → World → Prop} : ∀ (l : List Oper) (k : Nat) (listed : Array Bool) (a : Act) (w : World), (∀ j, l[j]? = ops[k + j]?) →
    Region.seqB md ops l.length k listed = true → wpListIn F f P ops Q' l a w → wpAnyIn F f P md ops Q' l.length listed a w
  | [], _, _, _, _, _, hB, h => ⟨by simpa [Region.seqB] using hB, h⟩
  | o :: l, k, listed, a, w, hl, hB, h => by
    have h0 : ops[k]? = some o := by simpa using (hl 0).symm
    simp only [List.length_cons, Region.seqB, Bool.and_eq_true, decide_eq_true_eq] at hB
    refine ⟨fun h1 => (by rw [hB.1] at h1; cases h1), fun i hi => ?_⟩
    rw [hB.1] at hi
    have hik : i = k := by simpa using hi
    subst hik
    have hw : wpOpIn F f P ops Q' i (wpListIn F f P ops Q' l) a w := by unfold wpOpIn; simp only [h0]; exact h
    exact wpOpIn_mono (fun a' w' h' => anyIn_of_seq l (i + 1) _ a' w' (fun j => by have := hl (j + 1); simpa [Nat.add_assoc, Nat.add_comm 1 j] using this) hB.2 h') hw
/-- The law. -/
theorem region_tailIn {id : Nat} {Q : Exit → Act → World → Prop} {a : Act} {w : World} {m : List Oper} (n : Nat) (C : World → Prop) (hp : m.all plainB = true) (hm : P.follows .mixedOrders = true) (hB : Region.lexTailB .any m.toArray n = true) (hC : C w.drew)
    (h : wpQuietIn F f P m.toArray C (fun a' => ∀ w', C w' → wpListIn F f P m.toArray Q (m.drop n) a' w') (m.take n) a) : (Code.region id m.toArray true).wpIn F f P Q a w := by
  simp only [Region.lexTailB, Bool.and_eq_true, decide_eq_true_eq] at hB
  obtain ⟨⟨⟨⟨hsel, hn⟩, hs⟩, hc⟩, hlex⟩ := hB
  have hn1 : n < m.length := by simpa using hn
  have ht : (m.take n).length = n := by simp; omega
  have hd : (m.drop n).length = m.toArray.size - n := by simp
  have hpl : ∀ (i : Nat) (o : Oper), m.toArray[i]? = some o → plainB o = true := fun i o ho => List.all_eq_true.1 hp o (List.mem_of_getElem? (by simpa using ho))
  have inv : HeadInv .any m.toArray n (Array.replicate m.toArray.size false) :=
    ⟨by simp, fun j oj _ hl => absurd hl (by rw [getD_replicate_false]; exact Bool.false_ne_true), fun t _ ht => getD_in (by simpa using ht) (getD_replicate_false _ _)⟩
  have H := headIn_lex (g := m.toArray.size - n) hsel hs hc hn (m.take n) 0 _ a (fun j hj => by rw [ht] at hj; simp [hj]) (by simpa using ht) inv (by rw [ht]; exact hlex) h
  refine wpIn_region_any hm ?_
  have K := any_of_headIn (Q := Q) (g := m.toArray.size - n) hpl (fun l a' w' hw' hL => by
    have := anyIn_of_seq (md := .any) (Q' := Q) (m.drop n) n l a' w' (fun j => by simp [List.getElem?_drop]) (by rw [hd]; exact hL.1) (hL.2 w' hw')
    rwa [hd] at this) _ _ _ _ hC H
  rwa [ht, show n + (m.toArray.size - n) = m.toArray.size by omega] at K
theorem anyQ_quiet {Q : Act → Prop} {Q' : Exit → Act → World → Prop} (hp : ∀ (i : Nat) (o : Oper), ops[i]? = some o → plainB o = true) (hQ : ∀ a w, C w → Q a → Q' .normal a w) : ∀ (fuel : Nat) (listed : Array Bool) (a : Act) (w : World), C w →
    wpAnyQIn F f P md ops C Q fuel listed a → wpAnyIn F f P md ops Q' fuel listed a w
  | 0, _, _, _, hw, h => ⟨h.1, hQ _ _ hw h.2⟩
  | fuel + 1, _, _, _, hw, h => ⟨fun h0 => hQ _ _ hw (h.1 h0), fun i hi => wpOpIn_quiet (hp i) hw (fun a' w' hw' => anyQ_quiet hp hQ fuel _ a' w' hw') (h.2 i hi)⟩
/-- A region that only reads, and calls what leaves a class of worlds as it is. -/
theorem region_quietIn {id : Nat} {Q : Exit → Act → World → Prop} {a : Act} {w : World} (C : World → Prop) (hp : ops.toList.all plainB = true) (hm : P.follows .mixedOrders = true) (hB : Region.lexB .any ops = true) (hC : C w.drew)
    (h : wpQuietIn F f P ops C (fun a' => ∀ w', C w' → Q .normal a' w') ops.toList a) : (Code.region id ops true).wpIn F f P Q a w := by
  simp only [Region.lexB, Bool.and_eq_true] at hB
  refine wpIn_region_any hm (anyQ_quiet (Q := fun a' => ∀ w', C w' → Q .normal a' w') (fun i o ho => List.all_eq_true.1 hp o (by obtain ⟨h1, h2⟩ := Array.getElem?_eq_some_iff.1 ho; rw [← h2]; simp)) (fun _ w' hw' h => h w' hw') _ _ _ _ hC ?_)
  have := wpAnyQIn_lex (F := F) (n := f) (C := C) (md := .any) hB.1 ops.toList 0 (Array.replicate ops.size false) a (by simp) (by simpa using hB.2) h
  simpa using this
end
end Go.Proofs.YtoajocgfmbakjaaGreatDoor
