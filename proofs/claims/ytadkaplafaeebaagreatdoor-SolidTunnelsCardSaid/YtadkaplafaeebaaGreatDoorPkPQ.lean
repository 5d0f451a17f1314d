/-
  A region that draws its order: a law for values that are known by a relation alone (a slice that a callee lays, an address). What each operation yields is told beforehand; each one is run once, in whatever frame and world the others have left.
-/
import Derived.Test.YtadkaplafaeebaaGreatDoorPkAQ
import Derived.Test.YtadkaplafaeebaaGreatDoorPkFQ
import Derived.Test.YtadkaplafaeebaaGreatDoorPkLQ
import Derived.Test.YtadkaplafaeebaaGreatDoorPkNQ
import Derived.Test.YtadkaplafaeebaaGreatDoorPkGQ
set_option linter.unusedVariables false
set_option linter.unusedSimpArgs false
namespace Go.Proofs.YtadkaplafaeebaaGreatDoor
open Go Go.RowKit

section
variable {P : Program} {ops : Array Oper}
abbrev dstR (ops : Array Oper) (j : Nat) : Option Tmp := (ops[j]?).bind (·.dst)
def dstB (ops : Array Oper) : Bool := (List.range ops.size).all fun i => (List.range ops.size).all fun j => decide (i = j) || (dstR ops i).isNone || decide (dstR ops i ≠ dstR ops j)
def backB (ops : Array Oper) : Bool := (List.range ops.size).all fun i => ((ops[i]?).map fun o => o.after.all fun e => !Region.binds .any e || decide (e.on < i)).getD true
theorem dst_ne (h : dstB ops = true) {i j : Nat} (hij : i ≠ j) : ∀ d, dstR ops i = some d → dstR ops j ≠ some d := by
  intro d hi hj
  have hi' : i < ops.size := by
    rcases Nat.lt_or_ge i ops.size with h' | h'
    · exact h'
    · simp [dstR, Array.getElem?_eq_none h'] at hi
  have hj' : j < ops.size := by
    rcases Nat.lt_or_ge j ops.size with h' | h'
    · exact h'
    · simp [dstR, Array.getElem?_eq_none h'] at hj
  have h1 := List.all_eq_true.1 (List.all_eq_true.1 h i (List.mem_range.2 hi')) j (List.mem_range.2 hj')
  rw [hi, hj] at h1
  simp [hij] at h1
def szB (ops : Array Oper) (n : Nat) : Bool := (List.range ops.size).all fun i => (dstR ops i).all fun t => decide (t < n)
def fixB (ops : Array Oper) (t : Nat) : Bool := (List.range ops.size).all fun j => decide (dstR ops j ≠ some t)
def preB (ops : Array Oper) (i j : Nat) : Bool := ((ops[i]?).map fun o => o.after.any fun e => Region.binds .any e && decide (e.on = j)).getD false
def freeB (ops : Array Oper) : Bool := ops.all fun o => o.guard.isNone
def putL (ops : Array Oper) (l : Array Bool) (vals : Nat → Value) (js : List Nat) (a : Act) : Act :=
  js.foldl (fun a j => if l.getD j false = true then a.put (dstR ops j) (vals j) else a) a
def putA (ops : Array Oper) (vals : Nat → Value) (js : List Nat) (a : Act) : Act := js.foldl (fun a j => a.put (dstR ops j) (vals j)) a
def upd (vals : Nat → Value) (i : Nat) (v : Value) : Nat → Value := fun j => if j = i then v else vals j
theorem getD_other (l : Array Bool) {i j : Nat} (h : j ≠ i) (d : Bool) : (l.setIfInBounds i true).getD j d = l.getD j d := by
  simp [Array.getD_eq_getD_getElem?, Array.getElem?_setIfInBounds, Ne.symm h]
theorem getD_self (l : Array Bool) {i : Nat} (h : i < l.size) (d : Bool) : (l.setIfInBounds i true).getD i d = true := by
  simp [Array.getD_eq_getD_getElem?, Array.getElem?_setIfInBounds, h]
theorem putL_cons (l : Array Bool) (vals : Nat → Value) (j : Nat) (js : List Nat) (a : Act) : putL ops l vals (j :: js) a = putL ops l vals js (if l.getD j false = true then a.put (dstR ops j) (vals j) else a) := rfl
theorem putL_skip (l : Array Bool) (vals : Nat → Value) (i : Nat) (v : Value) : ∀ (js : List Nat) (a : Act), i ∉ js → putL ops (l.setIfInBounds i true) (upd vals i v) js a = putL ops l vals js a
  | [], _, _ => rfl
  | j :: js, a, h => by
    have hj : j ≠ i := fun e => h (by simp [e])
    rw [putL_cons, putL_cons, getD_other l hj, putL_skip l vals i v js _ (fun hm => h (by simp [hm]))]
    simp [upd, hj]
theorem putL_put (hD : dstB ops = true) (l : Array Bool) (vals : Nat → Value) (i : Nat) (v : Value) : ∀ (js : List Nat) (a : Act), i ∉ js → putL ops l vals js (a.put (dstR ops i) v) = (putL ops l vals js a).put (dstR ops i) v
  | [], _, _ => rfl
  | j :: js, a, h => by
    have hj : i ≠ j := fun e => h (by simp [e])
    rw [putL_cons, putL_cons, ← putL_put hD l vals i v js _ (fun hm => h (by simp [hm]))]
    congr 1
    split
    · exact Act.put_comm a _ _ (dst_ne hD hj)
    · rfl
theorem putL_step (hD : dstB ops = true) (l : Array Bool) (vals : Nat → Value) (i : Nat) (v : Value) (a : Act) (hi : i < l.size) (h0 : l.getD i false = false) (n : Nat) (hn : i < n) :
    putL ops (l.setIfInBounds i true) (upd vals i v) (List.range n) a = (putL ops l vals (List.range n) a).put (dstR ops i) v := by
  obtain ⟨s, t, hst⟩ := List.append_of_mem (List.mem_range.2 hn)
  have hnd := List.nodup_range (n := n)
  rw [hst, List.nodup_append] at hnd
  have hs : i ∉ s := fun hm => hnd.2.2 i hm i (by simp) rfl
  have ht : i ∉ t := (List.nodup_cons.1 hnd.2.1).1
  have e : ∀ (l : Array Bool) (vals : Nat → Value), putL ops l vals (s ++ i :: t) a = putL ops l vals (i :: t) (putL ops l vals s a) := fun l vals => by unfold putL; rw [List.foldl_append]
  rw [hst, e, e, putL_skip l vals i v s a hs, putL_cons, putL_cons, getD_self l hi, if_pos rfl, h0, if_neg Bool.false_ne_true, putL_skip l vals i v t _ ht, putL_put hD l vals i _ t _ ht]
  simp [upd]
theorem putL_all (l : Array Bool) (vals : Nat → Value) : ∀ (js : List Nat) (a : Act), (∀ j ∈ js, l.getD j false = true) → putL ops l vals js a = putA ops vals js a
  | [], _, _ => rfl
  | j :: js, a, h => by
    rw [putL_cons, h j (by simp), if_pos rfl, putL_all l vals js _ fun k hk => h k (by simp [hk])]
    rfl
theorem putL_none (l : Array Bool) (vals : Nat → Value) : ∀ (js : List Nat) (a : Act), (∀ j ∈ js, l.getD j false = false) → putL ops l vals js a = a
  | [], _, _ => rfl
  | j :: js, a, h => by
    rw [putL_cons, h j (by simp), if_neg Bool.false_ne_true, putL_none l vals js _ fun k hk => h k (by simp [hk])]
theorem putL_size (l : Array Bool) (vals : Nat → Value) : ∀ (js : List Nat) (a : Act), (putL ops l vals js a).tmps.size = a.tmps.size
  | [], _ => rfl
  | j :: js, a => by
    rw [putL_cons, putL_size l vals js]
    split
    · cases dstR ops j <;> simp [Act.put]
    · rfl
theorem put_slot (a : Act) (d : Option Tmp) (v : Value) {t : Tmp} (h : d ≠ some t) : (a.put d v).tmps[t]? = a.tmps[t]? := by
  cases d with
  | none => rfl
  | some e =>
    have : e ≠ t := fun he => h (by rw [he])
    simp [Act.put, Array.getElem?_setIfInBounds, this]
theorem putL_other (l : Array Bool) (vals : Nat → Value) {t : Tmp} : ∀ (js : List Nat) (a : Act), (∀ j ∈ js, dstR ops j ≠ some t) → (putL ops l vals js a).tmps[t]? = a.tmps[t]?
  | [], _, _ => rfl
  | j :: js, a, h => by
    rw [putL_cons, putL_other l vals js _ fun k hk => h k (by simp [hk])]
    split
    · exact put_slot a _ _ (h j (by simp))
    · rfl
theorem putL_slot (hD : dstB ops = true) (l : Array Bool) (vals : Nat → Value) {t : Tmp} {i : Nat} (hi : dstR ops i = some t) (hl : l.getD i false = true) (a : Act) (ht : t < a.tmps.size) (n : Nat) (hn : i < n) :
    (putL ops l vals (List.range n) a).tmps[t]? = some (vals i) := by
  obtain ⟨s, u, hst⟩ := List.append_of_mem (List.mem_range.2 hn)
  have hnd := List.nodup_range (n := n)
  rw [hst, List.nodup_append] at hnd
  have hu : i ∉ u := (List.nodup_cons.1 hnd.2.1).1
  have e : putL ops l vals (s ++ i :: u) a = putL ops l vals (i :: u) (putL ops l vals s a) := by unfold putL; rw [List.foldl_append]
  rw [hst, e, putL_cons, hl, if_pos rfl, putL_other l vals u _ (fun j hj hd => dst_ne hD (fun e => hu (by rw [e]; exact hj)) t hi hd), hi]
  have hs : t < (putL ops l vals s a).tmps.size := by rw [putL_size]; exact ht
  simp [Act.put, hs]
theorem wp_region_rel {id : Nat} {Q : Exit → Act → World → Prop} {a : Act} {w : World} (V : Nat → Value → Prop) (C : World → Prop) (hm : P.follows .mixedOrders = true) (hD : dstB ops = true) (hB : backB ops = true) (hC : C w.drew)
    (hS : szB ops a.tmps.size = true) (hG : freeB ops = true)
    (hop : ∀ i o, ops[i]? = some o → ∀ (a' : Act) (w' : World), C w' → (∀ j t, preB ops i j = true → dstR ops j = some t → ∃ v, V j v ∧ a'.tmps[t]? = some v) → (∀ t, fixB ops t = true → a'.tmps[t]? = a.tmps[t]?) →
      ∀ K : Act → World → Prop, (∀ v w'', V i v → C w'' → K (a'.put o.dst v) w'') → o.wp P a' w' K Q)
    (hend : ∀ (vals : Nat → Value) (w' : World), C w' → (∀ i, i < ops.size → V i (vals i)) → Q .normal (putA ops vals (List.range ops.size) a) w') : (Code.region id ops true).wp P Q a w := by
  have hsz : ∀ i t, dstR ops i = some t → t < a.tmps.size := fun i t hd => by
    have hi : i < ops.size := by
      rcases Nat.lt_or_ge i ops.size with h' | h'
      · exact h'
      · simp [dstR, Array.getElem?_eq_none h'] at hd
    have h1 := List.all_eq_true.1 hS i (List.mem_range.2 hi)
    rw [hd] at h1
    simpa using h1
  refine wp_region_any hm ?_
  have all : ∀ (l : Array Bool) (vals : Nat → Value) (w' : World), C w' → (∀ j, l.getD j false = true → V j (vals j)) → (∀ j, j < ops.size → l.getD j false = true) → Q .normal (putL ops l vals (List.range ops.size) a) w' := fun l vals w' hC hV hl => by
    rw [putL_all l vals _ _ fun j hj => hl j (List.mem_range.1 hj)]
    exact hend vals w' hC fun i hi => hV i (hl i hi)
  have key : ∀ (fuel : Nat) (l : Array Bool) (vals : Nat → Value) (w' : World), l.size = ops.size → C w' → (∀ j, l.getD j false = true → V j (vals j)) → l.toList.count false ≤ fuel → wpAny P .any ops Q fuel l (putL ops l vals (List.range ops.size) a) w' := by
    have gd : ∀ (l : Array Bool) (j : Nat), l.size = ops.size → j < ops.size → l.getD j true = l.getD j false := fun l j hs hj => by
      have : j < l.size := by omega
      simp [Array.getD, this]
    have done : ∀ (l : Array Bool), l.size = ops.size → Region.ready .any ops l = [] → ∀ j, j < ops.size → l.getD j false = true := fun l hs hr j => by
      induction j using Nat.strongRecOn with
      | ind j ih =>
        intro hj
        refine Classical.byContradiction fun hc => ?_
        have hc : l.getD j false = false := by simpa using hc
        have hm : j ∈ Region.ready .any ops l := mem_ready.2 ⟨by rw [gd l j hs hj]; exact hc, ops[j], Array.getElem?_eq_getElem hj, fun e he hb => by
          have h1 := List.all_eq_true.1 hB j (List.mem_range.2 hj)
          rw [Array.getElem?_eq_getElem hj] at h1
          have h2 := Array.all_eq_true_iff_forall_mem.1 h1 e he
          have h3 : e.on < j := by simpa [hb] using h2
          exact ih _ h3 (by omega)⟩
        rw [hr] at hm
        cases hm
    intro fuel
    induction fuel with
    | zero =>
      intro l vals w' hs hC hV hc
      have hl : ∀ j, j < ops.size → l.getD j false = true := fun j hj => by
        have h0 : l.toList.count false = 0 := by omega
        have h1 := List.count_eq_zero.1 h0
        have hjl : j < l.size := by omega
        have h2 : l[j] ≠ false := fun e => h1 (by rw [← e]; exact Array.getElem_mem_toList hjl)
        simpa [Array.getD, hjl] using h2
      refine ⟨List.eq_nil_iff_forall_not_mem.2 fun j hj => ?_, all l vals w' hC hV hl⟩
      obtain ⟨h1, o, ho, _⟩ := mem_ready.1 hj
      have hj' : j < ops.size := (Array.getElem?_eq_some_iff.1 ho).1
      rw [gd l j hs hj', hl j hj'] at h1
      cases h1
    | succ fuel ih =>
      intro l vals w' hs hC hV hc
      refine ⟨fun hr => all l vals w' hC hV (done l hs hr), fun i hi => ?_⟩
      obtain ⟨h1, o, ho, hall⟩ := mem_ready.1 hi
      have hi' : i < ops.size := (Array.getElem?_eq_some_iff.1 ho).1
      rw [gd l i hs hi'] at h1
      have hg : o.guard = none := by
        have h := Array.all_eq_true_iff_forall_mem.1 hG o (Array.mem_of_getElem? ho)
        simpa using h
      have hwt : Region.wanted o (yielded ops (putL ops l vals (List.range ops.size) a).tmps) = true := by unfold Region.wanted; rw [hg]
      unfold wpOp
      rw [ho]
      simp only [hwt, if_true]
      refine .inl (hop i o ho _ w' hC ?_ (fun t ht => putL_other l vals _ _ fun j hj => by simpa using List.all_eq_true.1 ht j hj) _ ?_)
      · intro j t hp hd
        unfold preB at hp
        rw [ho] at hp
        obtain ⟨k, hk, hbe⟩ := Array.any_eq_true.1 (show (o.after.any fun e => Region.binds .any e && decide (e.on = j)) = true from hp)
        have he : o.after[k] ∈ o.after := Array.getElem_mem hk
        generalize o.after[k] = e at hbe he
        simp only [Bool.and_eq_true, decide_eq_true_eq] at hbe
        obtain ⟨hb, rfl⟩ := hbe
        have hl := hall e he hb
        have hj' : e.on < ops.size := by
          rcases Nat.lt_or_ge e.on ops.size with h' | h'
          · exact h'
          · simp [dstR, Array.getElem?_eq_none h'] at hd
        exact ⟨vals e.on, hV _ hl, putL_slot hD l vals hd hl a (hsz _ _ hd) _ hj'⟩
      · intro v w'' hv hC'
        have hdo : o.dst = dstR ops i := by simp [dstR, ho]
        rw [hdo, ← putL_step hD l vals i v a (by omega) h1 _ hi']
        refine ih _ _ w'' (by simpa using hs) hC' (fun j hj => ?_) ?_
        · by_cases e : j = i
          · subst e; simp [upd, hv]
          · rw [getD_other l e] at hj
            simp [upd, e, hV j hj]
        · have hil : i < l.toList.length := by simpa using (by omega : i < l.size)
          have h2 : l.toList[i] = false := by
            have hil' : i < l.size := by omega
            simpa [Array.getD, hil'] using h1
          have h3 : l.toList.count false = (l.toList.set i true).count false + 1 := by
            have h4 : 0 < l.toList.count false := List.count_pos_iff.2 (by rw [← h2]; exact List.getElem_mem hil)
            rw [List.count_set hil, h2, if_pos (by decide), if_neg (by decide)]
            omega
          rw [Array.toList_setIfInBounds]
          omega
  have h0 : ∀ j, (Array.replicate ops.size false).getD j false = false := by
    intro j
    rw [Array.getD_eq_getD_getElem?, Array.getElem?_replicate]
    split <;> rfl
  have h := key ops.size (Array.replicate ops.size false) (fun _ => undef) w.drew (by simp) hC (fun j hj => by rw [h0] at hj; cases hj) (Nat.le_trans List.count_le_length (by simp))
  rwa [putL_none _ _ _ _ fun j _ => h0 j] at h
end
end Go.Proofs.YtadkaplafaeebaaGreatDoor
/-
  The law of Rel with a tail (stores, assignments) behind a head that draws its order, and with relations that also speak of the world (a block that has been laid).
-/
set_option linter.unusedVariables false
set_option linter.unusedSimpArgs false
namespace Go.Proofs.YtadkaplafaeebaaGreatDoor
open Go Go.RowKit

section
variable {P : Program} {ops : Array Oper}
def tailB (ops : Array Oper) (n : Nat) : Bool := (List.range ops.size).all fun t => decide (t < n) || (List.range n).all fun j => preB ops t j
theorem wp_region_relT {id : Nat} {Q : Exit → Act → World → Prop} {a : Act} {w : World} (n : Nat) (V : Nat → Value → World → Prop) (C : World → Prop) (hm : P.follows .mixedOrders = true) (hD : dstB ops = true) (hB : backB ops = true)
    (hS : szB ops a.tmps.size = true) (hG : freeB ops = true) (hn : decide (n ≤ ops.size) = true) (hTl : tailB ops n = true) (hseq : Region.seqB .any ops (ops.size - n) n (Array.replicate n true ++ Array.replicate (ops.size - n) false) = true) (hC : C w.drew)
    (hst : ∀ j v w w', Below w.heap.size w w' → V j v w → V j v w')
    (hop : ∀ i o, i < n → ops[i]? = some o → ∀ (a' : Act) (w' : World), C w' → (∀ j t, preB ops i j = true → dstR ops j = some t → ∃ v, V j v w' ∧ a'.tmps[t]? = some v) → (∀ t, fixB ops t = true → a'.tmps[t]? = a.tmps[t]?) →
      ∀ K : Act → World → Prop, (∀ v w'', V i v w'' → C w'' → Below w'.heap.size w' w'' → K (a'.put o.dst v) w'') → o.wp P a' w' K Q)
    (hend : ∀ (vals : Nat → Value) (w' : World), C w' → (∀ i, i < n → V i (vals i) w') → wpList P ops Q (ops.toList.drop n) (putA ops vals (List.range n) a) w') : (Code.region id ops true).wp P Q a w := by
  have hsz : ∀ i t, dstR ops i = some t → t < a.tmps.size := fun i t hd => by
    have hi : i < ops.size := by
      rcases Nat.lt_or_ge i ops.size with h' | h'
      · exact h'
      · simp [dstR, Array.getElem?_eq_none h'] at hd
    have h1 := List.all_eq_true.1 hS i (List.mem_range.2 hi)
    rw [hd] at h1
    simpa using h1
  have hn : n ≤ ops.size := of_decide_eq_true hn
  refine wp_region_any hm ?_
  have gd : ∀ (l : Array Bool) (j : Nat), l.size = ops.size → j < ops.size → l.getD j true = l.getD j false := fun l j hs hj => by
    have : j < l.size := by omega
    simp [Array.getD, this]
  -- the list of those that are through, parted in head and tail
  have parts : ∀ l : Array Bool, l.size = ops.size → (∀ t, n ≤ t → l.getD t false = false) → (∀ j, j < n → l.getD j false = true) → l = Array.replicate n true ++ Array.replicate (ops.size - n) false := fun l hs ht hh => by
    apply Array.ext
    · simp; omega
    · intro j h1 h2
      have e : l.getD j false = l[j] := by simp [Array.getD, h1]
      by_cases hj : j < n
      · rw [← e, hh j hj, Array.getElem_append_left (by simpa using hj)]; simp
      · rw [← e, ht j (by omega), Array.getElem_append_right (by simp; omega)]; simp
  have key : ∀ (fuel : Nat) (l : Array Bool) (vals : Nat → Value) (w' : World), l.size = ops.size → (∀ t, n ≤ t → l.getD t false = false) → C w' → (∀ j, l.getD j false = true → V j (vals j) w') → l.toList.count false = fuel + (ops.size - n) →
      wpAny P .any ops Q (fuel + (ops.size - n)) l (putL ops l vals (List.range n) a) w' := by
    have cnt : ∀ l : Array Bool, l = Array.replicate n true ++ Array.replicate (ops.size - n) false → l.toList.count false = ops.size - n := fun l e => by
      rw [e]
      simp [List.count_replicate]
    intro fuel
    induction fuel with
    | zero =>
      intro l vals w' hs ht hC hV hc
      rw [Nat.zero_add] at hc ⊢
      have hl : ∀ j, j < n → l.getD j false = true := fun j hj => Classical.byContradiction fun hne => by
        have hne : l.getD j false = false := by simpa using hne
        have hjl : j < l.toList.length := by simp; omega
        have hdrop : (l.toList.drop n).count false = ops.size - n := by
          rw [List.count_eq_length.2, List.length_drop]
          · simp; omega
          · intro b hb
            obtain ⟨k, hk, rfl⟩ := List.getElem_of_mem hb
            rw [List.getElem_drop]
            have h1 := ht (n + k) (by omega)
            rw [List.length_drop] at hk
            have hk' : n + k < l.size := by simpa using (by omega : n + k < l.toList.length)
            simpa [Array.getD, hk'] using h1.symm
        have htake : 0 < (l.toList.take n).count false := List.count_pos_iff.2 (by
          have hjl' : j < l.size := by simpa using hjl
          have e : l.getD j false = l[j] := by simp [Array.getD, hjl']
          refine List.mem_iff_getElem.2 ⟨j, by simp; omega, ?_⟩
          rw [List.getElem_take, Array.getElem_toList, ← e, hne])
        have hsum : l.toList.count false = (l.toList.take n).count false + (l.toList.drop n).count false := by rw [← List.count_append, List.take_append_drop]
        omega
      have e := parts l hs ht hl
      rw [putL_all l vals _ _ fun j hj => hl j (List.mem_range.1 hj)]
      have h := wpAny_of_seq (md := .any) (Q' := Q) (ops.toList.drop n) n l (putA ops vals (List.range n) a) w' (fun j => by rw [List.getElem?_drop, Array.getElem?_toList]) (by rw [List.length_drop, Array.length_toList, e]; exact hseq) (hend vals w' hC fun i hi => hV i (hl i hi))
      rwa [List.length_drop, Array.length_toList] at h
    | succ fuel ih =>
      intro l vals w' hs ht hC hV hc
      -- a head operation that is not through
      have hex : ∃ j, j < n ∧ l.getD j false = false := Classical.byContradiction fun hne => by
        have hl : ∀ j, j < n → l.getD j false = true := fun j hj => Classical.byContradiction fun h1 => hne ⟨j, hj, by simpa using h1⟩
        have := cnt l (parts l hs ht hl)
        omega
      have hrd : Region.ready .any ops l ≠ [] := by
        obtain ⟨j, hj, h0⟩ := hex
        induction j using Nat.strongRecOn with
        | ind j ihj =>
          by_cases hp : ∃ k, k < j ∧ l.getD k false = false
          · obtain ⟨k, hk, hk0⟩ := hp
            exact ihj k hk (by omega) hk0
          · have hj' : j < ops.size := by omega
            have hmr : j ∈ Region.ready .any ops l := mem_ready.2 ⟨by rw [gd l j hs hj']; exact h0, ops[j], Array.getElem?_eq_getElem hj', fun e he hb => by
              have h1 := List.all_eq_true.1 hB j (List.mem_range.2 hj')
              rw [Array.getElem?_eq_getElem hj'] at h1
              have h2 := Array.all_eq_true_iff_forall_mem.1 h1 e he
              have h3 : e.on < j := by simpa [hb] using h2
              exact Classical.byContradiction fun h4 => hp ⟨e.on, h3, by simpa using h4⟩⟩
            exact List.ne_nil_of_mem hmr
      rw [show fuel + 1 + (ops.size - n) = fuel + (ops.size - n) + 1 by omega]
      refine ⟨fun hr => absurd hr hrd, fun i hi => ?_⟩
      obtain ⟨h1, o, ho, hall⟩ := mem_ready.1 hi
      have hi' : i < ops.size := (Array.getElem?_eq_some_iff.1 ho).1
      rw [gd l i hs hi'] at h1
      have hin : i < n := Classical.byContradiction fun hge => by
        obtain ⟨j, hj, h0⟩ := hex
        have h2 := List.all_eq_true.1 hTl i (List.mem_range.2 hi')
        have h3 : (List.range n).all (fun j => preB ops i j) = true := by simpa [hge] using h2
        have h4 := List.all_eq_true.1 h3 j (List.mem_range.2 hj)
        unfold preB at h4
        rw [ho] at h4
        obtain ⟨k, hk, hbe⟩ := Array.any_eq_true.1 (show (o.after.any fun e => Region.binds .any e && decide (e.on = j)) = true from h4)
        have he : o.after[k] ∈ o.after := Array.getElem_mem hk
        generalize o.after[k] = e at hbe he
        simp only [Bool.and_eq_true, decide_eq_true_eq] at hbe
        have h5 := hall e he hbe.1
        rw [hbe.2, h0] at h5
        cases h5
      have hg : o.guard = none := by
        have h := Array.all_eq_true_iff_forall_mem.1 hG o (Array.mem_of_getElem? ho)
        simpa using h
      have hwt : Region.wanted o (yielded ops (putL ops l vals (List.range n) a).tmps) = true := by unfold Region.wanted; rw [hg]
      unfold wpOp
      rw [ho]
      simp only [hwt, if_true]
      refine .inl (hop i o hin ho _ w' hC ?_ (fun t ht => putL_other l vals _ _ fun j hj => by simpa using List.all_eq_true.1 ht j (List.mem_range.2 (Nat.lt_of_lt_of_le (List.mem_range.1 hj) hn))) _ ?_)
      · intro j t hp hd
        unfold preB at hp
        rw [ho] at hp
        obtain ⟨k, hk, hbe⟩ := Array.any_eq_true.1 (show (o.after.any fun e => Region.binds .any e && decide (e.on = j)) = true from hp)
        have he : o.after[k] ∈ o.after := Array.getElem_mem hk
        generalize o.after[k] = e at hbe he
        simp only [Bool.and_eq_true, decide_eq_true_eq] at hbe
        obtain ⟨hb, rfl⟩ := hbe
        have hl := hall e he hb
        have hj' : e.on < n := Classical.byContradiction fun hge => by rw [ht e.on (by omega)] at hl; cases hl
        exact ⟨vals e.on, hV _ hl, putL_slot hD l vals hd hl a (hsz _ _ hd) _ hj'⟩
      · intro v w'' hv hC' hbl
        have hdo : o.dst = dstR ops i := by simp [dstR, ho]
        rw [hdo, ← putL_step hD l vals i v a (by omega) h1 _ hin]
        refine ih _ _ w'' (by simpa using hs) (fun t htn => by rw [getD_other l (by omega)]; exact ht t htn) hC' (fun j hj => ?_) ?_
        · by_cases e : j = i
          · subst e; simp [upd, hv]
          · rw [getD_other l e] at hj
            simpa [upd, e] using hst j _ w' w'' hbl (hV j hj)
        · have hil : i < l.toList.length := by simpa using (by omega : i < l.size)
          have h2 : l.toList[i] = false := by
            have hil' : i < l.size := by omega
            simpa [Array.getD, hil'] using h1
          have h3 : l.toList.count false = (l.toList.set i true).count false + 1 := by
            have h4 : 0 < l.toList.count false := List.count_pos_iff.2 (by rw [← h2]; exact List.getElem_mem hil)
            rw [List.count_set hil, h2, if_pos (by decide), if_neg (by decide)]
            omega
          rw [Array.toList_setIfInBounds]
          omega
  have h0 : ∀ j, (Array.replicate ops.size false).getD j false = false := by
    intro j
    rw [Array.getD_eq_getD_getElem?, Array.getElem?_replicate]
    split <;> rfl
  have h := key n (Array.replicate ops.size false) (fun _ => undef) w.drew (by simp) (fun t _ => h0 t) hC (fun j hj => by rw [h0] at hj; cases hj) (by rw [Array.toList_replicate, List.count_replicate_self]; omega)
  rw [putL_none _ _ _ _ fun j _ => h0 j, show n + (ops.size - n) = ops.size by omega] at h
  exact h
end
end Go.Proofs.YtadkaplafaeebaaGreatDoor
/-
  The law of Rel where operations are guarded: each one is told to be wanted.
-/
set_option linter.unusedVariables false
set_option linter.unusedSimpArgs false
namespace Go.Proofs.YtadkaplafaeebaaGreatDoor
open Go Go.RowKit

section
variable {P : Program} {ops : Array Oper}
end
end Go.Proofs.YtadkaplafaeebaaGreatDoor
/-
  Tunnels.
-/
set_option linter.unusedVariables false
set_option linter.unusedSimpArgs false
namespace Go.Proofs.YtadkaplafaeebaaGreatDoor
open Go Go.RowKit Go.Shelf

theorem own_slice {w W : World} {v : Value} {l : List Sol} (h : OwnSols w W v l) : ∃ p cap, v = .slice p l.length cap := by
  rcases h.1.2 with ⟨h1, h2⟩ | ⟨g, cap, cur, h1, _⟩
  · exact ⟨none, 0, by rw [h1, h2]⟩
  · exact ⟨_, _, h1⟩
set_option maxRecDepth 100000 in
set_option maxHeartbeats 4000000 in
theorem tunnels_ok (f : Sol) (a b : Nat) (c : Int) (w : World) (hf : Fit f) (hT : Tab64 w) (ha : (partsF f).length = a) (hb : (cavF f).length = b) (hc : eulF f = c) (ba : a ≤ 100000) (bb : b ≤ 100000) (bc : -100000 ≤ c ∧ c ≤ 100000) :
    Calls Tryz.prog 78 #[sol f] w fun e w' => e = .returned (.int .i64 ((a : Int) + (b : Int) - c)) ∧ Below w.heap.size w w' := by
  have HP : ∀ W, Tab64 W → Calls Tryz.prog 72 #[sol f] W fun e w' => (∃ p cap, e = .returned (.slice p a cap)) ∧ Below W.heap.size W w' := fun W hT => (parts_ok f W hf hT).mono fun e w' ⟨v, he, ho, hb⟩ => by
    obtain ⟨p, cap, rfl⟩ := own_slice ho
    rw [ha] at he
    exact ⟨⟨p, cap, he⟩, hb⟩
  have HC : ∀ W, Tab64 W → Calls Tryz.prog 74 #[sol f] W fun e w' => (∃ p cap, e = .returned (.slice p b cap)) ∧ Below W.heap.size W w' := fun W hT => (cav_ok f W hf hT).mono fun e w' ⟨v, he, ho, hbb⟩ => by
    obtain ⟨p, cap, rfl⟩ := own_slice ho
    rw [hb] at he
    exact ⟨⟨p, cap, he⟩, hbb⟩
  have HE0 : ∀ W, Tab64 W → Calls Tryz.prog 76 #[sol f] W fun e w' => e = .returned (.int .i64 c) ∧ Below W.heap.size W w' := fun W hT => by
    have := euler_ok f W hf hT
    rwa [hc] at this
  have HPP := Lib.hid HP
  have HCC := Lib.hid HC
  have HE := Lib.hid HE0
  have HT := Lib.hid hT
  clear HP HC HE0 hf hT ha hb hc
  obtain ⟨bc1, bc2⟩ := bc
  have b1 : BoxS (w.alloc (.cells (solC f) 24)) w.heap.size f := BoxS.new w f
  have hA : Below w.heap.size w (w.alloc (.cells (solC f) 24)) := by repeat' (first | (with_reducible exact Below.refl _ _) | (with_reducible assumption) | (with_reducible refine Below.alloc ?_ ?_ _) | (with_reducible refine Below.drew ?_) | (with_reducible refine below_drewN ?_ _) | (with_reducible refine Below.setCell ?_ ?_ _) | go_size)
  have hT0 := Lib.hid (HT.out.below hA (Nat.le_refl _))
  go_enter Tryz.func78, Tryz.ntmps78
  go_wp2
  obtain ⟨W0, hW0⟩ : ∃ W0, W0 = w.alloc (.cells (solC f) 24) := ⟨_, rfl⟩
  rw [← hW0] at b1 hA hT0 ⊢
  have hA0 : Below w.heap.size w W0.drew := hA.drew
  have hs := hA.size
  have l0 := b1.lt
  clear hW0
  have hCd : Below W0.heap.size W0 W0.drew := Below.drew (Below.refl _ _)
  refine wp_region_rel (fun i v => match i with
    | 0 => v = sol f | 1 => ∃ p cap, v = .slice p a cap | 2 => v = .int .i64 a | 3 => v = sol f | 4 => ∃ p cap, v = .slice p b cap | 5 => v = .int .i64 b
    | 6 => v = .int .i64 ((a : Int) + b) | 7 => v = sol f | 8 => v = .int .i64 c | _ => v = .int .i64 ((a : Int) + b - c)) (fun W => Below W0.heap.size W0 W) (by kernel_rfl) (by kernel_rfl) (by kernel_rfl) hCd (by kernel_rfl) (by kernel_rfl) ?hop ?hend
  case hop =>
    intro i o ho a' W hC hin hfix K hK
    have bS := b1.below hC l0
    have hT1 := Lib.hid (hT0.out.below hC (Nat.le_refl _))
    have hi : i < 11 := (Array.getElem?_eq_some_iff.1 ho).1
    have q1 : a'.tmps[1]? = some (.pointer (some ⟨w.heap.size, 0, none⟩)) := hfix 1 (by kernel_rfl)
    have wk1 : IntKind.i64.wrap ((a : Int) + b) = (a : Int) + b := IntWalk.i64_in _ (by omega)
    have wk2 : IntKind.i64.wrap ((a : Int) + b - c) = (a : Int) + b - c := IntWalk.i64_in _ (by omega)
    have d0 := (bS).cell (k := 0) (by omega); have d1 := (bS).cell (k := 1) (by omega); have d2 := (bS).cell (k := 2) (by omega); have d3 := (bS).cell (k := 3) (by omega); have d4 := (bS).cell (k := 4) (by omega); have d5 := (bS).cell (k := 5) (by omega); have d6 := (bS).cell (k := 6) (by omega); have d7 := (bS).cell (k := 7) (by omega)
    rcases (show i = 0 ∨ i = 1 ∨ i = 2 ∨ i = 3 ∨ i = 4 ∨ i = 5 ∨ i = 6 ∨ i = 7 ∨ i = 8 ∨ i = 9 ∨ i = 10 by omega) with rfl | rfl | rfl | rfl | rfl | rfl | rfl | rfl | rfl | rfl | rfl
    · obtain rfl := Option.some.inj ho
      clear hin hfix ho
      go_simp
      exact hK _ _ rfl hC
    · obtain ⟨v0, rfl, h0⟩ := hin 0 3 (by kernel_rfl) (by kernel_rfl)
      obtain rfl := Option.some.inj ho
      clear hin hfix ho
      go_simp
      refine (HPP.out W hT1.out).mono ?_
      rintro e W2 ⟨he, hb⟩
      obtain ⟨p, cap, rfl⟩ := he
      exact hK _ _ ⟨p, cap, rfl⟩ (hC.trans (hb.mono hC.size))
    · obtain ⟨v1, ⟨p1, cap1, rfl⟩, h1⟩ := hin 1 4 (by kernel_rfl) (by kernel_rfl)
      obtain rfl := Option.some.inj ho
      clear hin hfix ho
      go_simp
      exact hK _ _ rfl hC
    · obtain rfl := Option.some.inj ho
      clear hin hfix ho
      go_simp
      exact hK _ _ rfl hC
    · obtain ⟨v3, rfl, h3⟩ := hin 3 6 (by kernel_rfl) (by kernel_rfl)
      obtain rfl := Option.some.inj ho
      clear hin hfix ho
      go_simp
      refine (HCC.out W hT1.out).mono ?_
      rintro e W2 ⟨he, hb⟩
      obtain ⟨p, cap, rfl⟩ := he
      exact hK _ _ ⟨p, cap, rfl⟩ (hC.trans (hb.mono hC.size))
    · obtain ⟨v4, ⟨p4, cap4, rfl⟩, h4⟩ := hin 4 7 (by kernel_rfl) (by kernel_rfl)
      obtain rfl := Option.some.inj ho
      clear hin hfix ho
      go_simp
      exact hK _ _ rfl hC
    · obtain ⟨v2, rfl, h2⟩ := hin 2 5 (by kernel_rfl) (by kernel_rfl)
      obtain ⟨v5, rfl, h5⟩ := hin 5 8 (by kernel_rfl) (by kernel_rfl)
      obtain rfl := Option.some.inj ho
      clear hin hfix ho
      go_simp
      exact hK _ _ rfl hC
    · obtain rfl := Option.some.inj ho
      clear hin hfix ho
      go_simp
      exact hK _ _ rfl hC
    · obtain ⟨v7, rfl, h7⟩ := hin 7 10 (by kernel_rfl) (by kernel_rfl)
      obtain rfl := Option.some.inj ho
      clear hin hfix ho
      go_simp
      refine (HE.out W hT1.out).mono ?_
      rintro e W2 ⟨he, hb⟩
      subst he
      exact hK _ _ rfl (hC.trans (hb.mono hC.size))
    · obtain ⟨v6, rfl, h6⟩ := hin 6 9 (by kernel_rfl) (by kernel_rfl)
      obtain ⟨v8, rfl, h8⟩ := hin 8 11 (by kernel_rfl) (by kernel_rfl)
      obtain rfl := Option.some.inj ho
      clear hin hfix ho
      go_simp
      exact hK _ _ rfl hC
    · obtain ⟨v9, rfl, h9⟩ := hin 9 12 (by kernel_rfl) (by kernel_rfl)
      obtain rfl := Option.some.inj ho
      clear hin hfix ho
      go_simp
      exact hK _ _ rfl hC
  case hend =>
    intro vals W hC hV
    have r0 := hV 0 (by decide)
    obtain ⟨p1, cap1, r1⟩ := hV 1 (by decide)
    have r2 := hV 2 (by decide)
    have r3 := hV 3 (by decide)
    obtain ⟨p4, cap4, r4⟩ := hV 4 (by decide)
    have r5 := hV 5 (by decide)
    have r6 := hV 6 (by decide)
    have r7 := hV 7 (by decide)
    have r8 := hV 8 (by decide)
    have r9 := hV 9 (by decide)
    have r10 := hV 10 (by decide)
    generalize hA2 : putA _ vals _ _ = A
    have eA : A = { tmps := #[sol f, .pointer (some ⟨w.heap.size, 0, none⟩), vals 10, vals 0, vals 1, vals 2, vals 3, vals 4, vals 5, vals 6, vals 7, vals 8, vals 9], defers := [] } := hA2.symm.trans (by kernel_rfl)
    rw [eA]
    clear hA2 eA
    simp only at r0 r2 r3 r5 r6 r7 r8 r9 r10
    rw [r0, r1, r2, r3, r4, r5, r6, r7, r8, r9, r10]
    clear A hV r0 r1 r2 r3 r4 r5 r6 r7 r8 r9 r10
    go_wp2
    go_ret
    exact ⟨rfl, hA.trans (hC.mono hA.size)⟩
end Go.Proofs.YtadkaplafaeebaaGreatDoor
/-
  Then.
-/
set_option linter.unusedVariables false
set_option linter.unusedSimpArgs false
namespace Go.Proofs.YtadkaplafaeebaaGreatDoor
open Go Go.RowKit

/-- A variable that has just been made. -/
def NewC (B : Nat) (v : Value) (W : World) : Prop := ∃ g, v = .pointer (some ⟨g, 0, none⟩) ∧ B ≤ g ∧ BoxC W g 0 0 0
theorem NewC.below {B : Nat} {v : Value} {W W' : World} (h : NewC B v W) (hb : Below W.heap.size W W') : NewC B v W' := by
  obtain ⟨g, e, h1, h2⟩ := h
  exact ⟨g, e, h1, h2.below hb h2.lt⟩
def V7 (B A : Nat) (t1 : Nat) (a b c : Int) (i : Nat) (v : Value) (W : World) : Prop := match i with
  | 0 => v = .agg #[.int .i64 (1), .int .i64 (2), .int .i64 (3)] | 1 => v = .pointer (some ⟨A, 0, none⟩) | 2 => v = .int .i64 t1 | 3 => v = .agg #[.int .i64 (a), .int .i64 (b), .int .i64 (c)] | 4 => NewC B v W | _ => True
def V3 (B A : Nat) (t1 t2 : Nat) (x y z a b c : Int) (i : Nat) (v : Value) (W : World) : Prop := match i with
  | 0 => v = .agg #[.int .i64 (t1), .int .i64 (x), .int .i64 (y), .int .i64 (z)] | 1 => v = .agg #[.int .i64 (x), .int .i64 (y), .int .i64 (z)] | 2 => v = .pointer (some ⟨A, 0, none⟩) | 3 => v = .int .i64 t2 | 4 => v = .agg #[.int .i64 (a), .int .i64 (b), .int .i64 (c)] | 5 => NewC B v W | _ => True
set_option maxRecDepth 100000 in
set_option maxHeartbeats 4000000 in
theorem then_in (t1 t2 : Nat) (x1 y1 z1 x2 y2 z2 a b c X Y Z : Int) (T : Nat) (w : World) (h1 : t1 < 24) (h2 : t2 < 24) (m1 : mvB x1 y1 z1 = true) (m2 : mvB x2 y2 z2 = true) (hT : T < 24)
    (ha : turnI 0 t2 (x1, y1, z1) = (a, b, c)) (hX : X = a + x2) (hY : Y = b + y2) (hZ : Z = c + z2) (hm : mvB X Y Z = true) (hto : toTurn (1, 2, 3) (turnI 0 t2 (turnI 0 t1 (1, 2, 3))) T) :
    Calls Tryz.prog 50 #[.agg #[.int .i64 (t1), .int .i64 (x1), .int .i64 (y1), .int .i64 (z1)], .agg #[.int .i64 (t2), .int .i64 (x2), .int .i64 (y2), .int .i64 (z2)]] w fun e w' => e = .returned (.tuple #[.agg #[.int .i64 (T), .int .i64 (X), .int .i64 (Y), .int .i64 (Z)], .int .i64 0]) ∧ Below w.heap.size w w' := by
  have H1 := Lib.hid (show motB t1 x1 y1 z1 = true by unfold motB; rw [decide_eq_true (by omega), m1]; rfl)
  have H2 := Lib.hid (show motB t2 x2 y2 z2 = true by unfold motB; rw [decide_eq_true (by omega), m2]; rfl)
  have s1 : Sm3 30 (x1, y1, z1) := by have := of_decide_eq_true m1; unfold Sm3; simp only; omega
  have HX := Lib.hid hX
  have HY := Lib.hid hY
  have HZ := Lib.hid hZ
  have HA := Lib.hid ha
  have HM := Lib.hid hm
  have HTH := fun W => turn_ok 0 t2 x1 y1 z1 W h2 (by omega) (by omega) s1
  rw [ha] at HTH
  have HTU := Lib.hid HTH
  clear HTH
  have s0 : Sm3 30 (1, 2, 3) := by unfold Sm3; simp only; omega
  have sp : Sm3 30 (turnI 0 t1 (1, 2, 3)) := turnI0_sm s0 t1
  obtain ⟨p, hp⟩ : ∃ p, p = turnI 0 t1 (1, 2, 3) := ⟨_, rfl⟩
  have HT1 := fun W => turn_ok 0 t1 1 2 3 W h1 (by omega) (by omega) s0
  rw [← hp] at hto sp HT1
  obtain ⟨p1, p2, p3⟩ := p
  have sr : Sm3 30 (turnI 0 t2 (p1, p2, p3)) := turnI0_sm sp t2
  obtain ⟨r, hr⟩ : ∃ r, r = turnI 0 t2 (p1, p2, p3) := ⟨_, rfl⟩
  have HT2 := fun W => turn_ok 0 t2 p1 p2 p3 W h2 (by omega) (by omega) sp
  rw [← hr] at hto sr HT2
  obtain ⟨r1, r2, r3⟩ := r
  have HTA := Lib.hid HT1
  have HTB := Lib.hid HT2
  have HTO := Lib.hid hto
  clear HT1 HT2 hp hr sp sr
  have b2 := of_decide_eq_true m2
  have bX := of_decide_eq_true hm
  have ba : -30 ≤ a ∧ a ≤ 30 ∧ -30 ≤ b ∧ b ≤ 30 ∧ -30 ≤ c ∧ c ≤ 30 := by omega
  clear hX hY hZ ha hm hto m1 m2
  go_enter Tryz.func50, Tryz.ntmps50
  go_wp2_with fail
  refine (isMotion_is H1.out _).mono ?_
  rintro e w1 ⟨rfl, hb1⟩
  have M1 : Q4 w1 w.heap.size t1 x1 y1 z1 := blk_below (blk_alloc (blk_alloc (blk_new rfl) _) _) hb1 (by simp <;> omega)
  have N1 : Q4 w1 (w.heap.size + 1) t2 x2 y2 z2 := blk_below (blk_alloc (blk_new (by simp)) _) hb1 (by simp <;> omega)
  have R1 : Q4 w1 (w.heap.size + 1 + 1) 0 0 0 0 := blk_below (blk_new (by simp)) hb1 (by simp <;> omega)
  have hB1 : Below w.heap.size w w1 := up hb1 (by repeat' (first | (with_reducible exact Below.refl _ _) | (with_reducible assumption) | (with_reducible refine Below.alloc ?_ ?_ _) | (with_reducible refine Below.drew ?_) | (with_reducible refine below_drewN ?_ _) | (with_reducible refine Below.setCell ?_ ?_ _) | go_size))
  obtain ⟨n0, n1, n2, n3⟩ := N1.cells
  have lM := blk_lt M1
  have lN := blk_lt N1
  have lR := blk_lt R1
  go_wp2_with fail
  refine (isMotion_is H2.out _).mono ?_
  rintro e w2 ⟨rfl, hb2⟩
  have M2 := blk_below M1 hb2 lM
  have N2 := blk_below N1 hb2 lN
  have R2 := blk_below R1 hb2 lR
  have hB2 : Below w.heap.size w w2 := up hb2 hB1
  clear M1 N1 R1 n0 n1 n2 n3 lM lN lR hb1
  obtain ⟨m0', m1', m2', m3'⟩ := Q4.cells M2
  obtain ⟨n0, n1, n2, n3⟩ := Q4.cells N2
  have lM := blk_lt M2
  have lN := blk_lt N2
  have lR := blk_lt R2
  go_wp2_with fail
  have hC2 : Below w2.heap.size w2 w2.drew := Below.drew (Below.refl _ _)
  refine wp_region_relT 6 (V3 w2.heap.size (w.heap.size + 1) t1 t2 x1 y1 z1 a b c) (fun W => Below w2.heap.size w2 W) (by kernel_rfl) (by kernel_rfl) (by kernel_rfl) (by kernel_rfl) (by kernel_rfl) (by kernel_rfl) (by kernel_rfl) (by kernel_rfl) hC2 ?hst ?hop ?hend
  case hst =>
    intro j v W W' hb hv
    rcases j with _ | _ | _ | _ | _ | _ | j
    all_goals first | exact hv | exact NewC.below hv hb
  case hop =>
    intro i o hi ho a' W hC hin hfix K hK
    have M3 := blk_below M2 hC lM
    have N3 := blk_below N2 hC lN
    obtain ⟨m0', m1', m2', m3'⟩ := Q4.cells M3
    obtain ⟨n0, n1, n2, n3⟩ := Q4.cells N3
    have q2 : a'.tmps[2]? = some (.pointer (some ⟨w.heap.size, 0, none⟩)) := hfix 2 (by kernel_rfl)
    have q3 : a'.tmps[3]? = some (.pointer (some ⟨w.heap.size + 1, 0, none⟩)) := hfix 3 (by kernel_rfl)
    rcases (show i = 0 ∨ i = 1 ∨ i = 2 ∨ i = 3 ∨ i = 4 ∨ i = 5 by omega) with rfl | rfl | rfl | rfl | rfl | rfl
    · obtain rfl := Option.some.inj ho
      clear hin hfix ho
      go_simp
      exact hK _ _ rfl hC (Below.refl _ _)
    · obtain ⟨v0, rfl, h0⟩ := hin 0 18 (by kernel_rfl) (by kernel_rfl)
      obtain rfl := Option.some.inj ho
      clear hin hfix ho
      go_simp
      refine (moveOf_ok t1 x1 y1 z1 _).mono ?_
      rintro e W2 ⟨rfl, hb⟩
      exact hK _ _ rfl (hC.trans (hb.mono hC.size)) hb
    · obtain rfl := Option.some.inj ho
      clear hin hfix ho
      go_simp
      exact hK _ _ rfl hC (Below.refl _ _)
    · obtain ⟨v0, rfl, h0⟩ := hin 2 20 (by kernel_rfl) (by kernel_rfl)
      obtain rfl := Option.some.inj ho
      clear hin hfix ho
      go_simp
      exact hK _ _ rfl hC (Below.refl _ _)
    · obtain ⟨v1, rfl, h1⟩ := hin 1 19 (by kernel_rfl) (by kernel_rfl)
      obtain ⟨v3, rfl, h3⟩ := hin 3 21 (by kernel_rfl) (by kernel_rfl)
      obtain rfl := Option.some.inj ho
      clear hin hfix ho
      go_simp
      refine (HTU.out _).mono ?_
      rintro e W2 ⟨rfl, hb⟩
      exact hK _ _ rfl (hC.trans (hb.mono hC.size)) hb
    · obtain rfl := Option.some.inj ho
      clear hin hfix ho
      go_simp
      exact hK _ _ ⟨W.heap.size, rfl, hC.size, World.alloc_heap_new W _⟩ (hC.alloc hC.size _) ((Below.refl _ W).alloc (Nat.le_refl _) _)
  case hend =>
    intro vals W hC hV
    have z0 := hV 0 (by decide)
    have z1 := hV 1 (by decide)
    have z2 := hV 2 (by decide)
    have z3 := hV 3 (by decide)
    have z4 := hV 4 (by decide)
    obtain ⟨g, z5, hg, bG⟩ := hV 5 (by decide)
    clear hV
    simp only [V3] at z0 z1 z2 z3 z4
    have hr : List.range 6 = [0, 1, 2, 3, 4, 5] := rfl
    simp only [List.drop_succ_cons, List.drop_zero, putA, hr, List.foldl_cons, List.foldl_nil, dstR, List.getElem?_toArray, List.getElem?_cons_succ, List.getElem?_cons_zero, Option.bind_some, Act.put, List.setIfInBounds_toArray, List.set_cons_succ, List.set_cons_zero, z0, z1, z2, z3, z4, z5]
    clear hr z0 z1 z2 z3 z4 z5 vals
    have M3 := blk_below M2 hC lM
    have N3 := blk_below N2 hC lN
    have R3 := blk_below R2 hC lR
    have hB3 : Below w.heap.size w W := up hC hB2
    have g0 := bG.c0
    have g1 := bG.c1
    have g2 := bG.c2
    have gl := bG.lt
    have f0 := blk_free (k := 0) bG; have f1 := blk_free (k := 1) bG; have f2 := blk_free (k := 2) bG
    have s2 := hC.size
    have hlN : w.heap.size + 1 < w2.heap.size := lN
    have hlM : w.heap.size < w2.heap.size := lM
    have hlR : w.heap.size + 1 + 1 < w2.heap.size := lR
    have bG3 : BoxC (((W.setCell ⟨g, 0, none⟩ (.int .i64 a)).setCell ⟨g, 1, none⟩ (.int .i64 b)).setCell ⟨g, 2, none⟩ (.int .i64 c)) g a b c := blk_set (k := 2) (blk_set (k := 1) (blk_set (k := 0) bG (.int .i64 a)) (.int .i64 b)) (.int .i64 c)
    have o3 : ∀ {B : Nat} {o : Obj}, W.heap[B]? = some o → B < w2.heap.size → (((W.setCell ⟨g, 0, none⟩ (.int .i64 a)).setCell ⟨g, 1, none⟩ (.int .i64 b)).setCell ⟨g, 2, none⟩ (.int .i64 c)).heap[B]? = some o := fun h hl => blk_other (blk_other (blk_other h (by omega) _) (by omega) _) (by omega) _
    have N4 := o3 N3 hlN
    have M4 := o3 M3 hlM
    have R4 := o3 R3 hlR
    have HO3 := Lib.hid hC
    clear o3
    obtain ⟨n0, n1, n2, n3⟩ := Q4.cells N4
    have k0 := bG3.c0
    have k1 := bG3.c1
    have k2 := bG3.c2
    have e0 := blk_free (k := 0) bG3; have e1 := blk_free (k := 1) bG3; have e2 := blk_free (k := 2) bG3
    have hB4 : Below w.heap.size w (((W.setCell ⟨g, 0, none⟩ (.int .i64 a)).setCell ⟨g, 1, none⟩ (.int .i64 b)).setCell ⟨g, 2, none⟩ (.int .i64 c)) := ((hB3.setCell (p := ⟨g, 0, none⟩) (by simp; omega) _).setCell (p := ⟨g, 1, none⟩) (by simp; omega) _).setCell (p := ⟨g, 2, none⟩) (by simp; omega) _
    go_wp2_with fail
    clear n0 n1 n2 n3 k0 k1 k2 e0 e1 e2 g0 g1 g2 f0 f1 f2
    have bG5 : BoxC ((((((W.setCell ⟨g, 0, none⟩ (.int .i64 a)).setCell ⟨g, 1, none⟩ (.int .i64 b)).setCell ⟨g, 2, none⟩ (.int .i64 c)).setCell ⟨g, 0, none⟩ (.int .i64 (a + x2))).setCell ⟨g, 1, none⟩ (.int .i64 (b + y2))).setCell ⟨g, 2, none⟩ (.int .i64 (c + z2))) g (a + x2) (b + y2) (c + z2) := blk_set (k := 2) (blk_set (k := 1) (blk_set (k := 0) bG3 (.int .i64 (a + x2))) (.int .i64 (b + y2))) (.int .i64 (c + z2))
    have o5 : ∀ {B : Nat} {o : Obj}, (((W.setCell ⟨g, 0, none⟩ (.int .i64 a)).setCell ⟨g, 1, none⟩ (.int .i64 b)).setCell ⟨g, 2, none⟩ (.int .i64 c)).heap[B]? = some o → B < w2.heap.size → ((((((W.setCell ⟨g, 0, none⟩ (.int .i64 a)).setCell ⟨g, 1, none⟩ (.int .i64 b)).setCell ⟨g, 2, none⟩ (.int .i64 c)).setCell ⟨g, 0, none⟩ (.int .i64 (a + x2))).setCell ⟨g, 1, none⟩ (.int .i64 (b + y2))).setCell ⟨g, 2, none⟩ (.int .i64 (c + z2))).heap[B]? = some o := fun h hl => blk_other (blk_other (blk_other h (by omega) _) (by omega) _) (by omega) _
    have N5 := o5 N4 hlN
    have M5 := o5 M4 hlM
    have R5 := o5 R4 hlR
    have hB5 : Below w.heap.size w ((((((W.setCell ⟨g, 0, none⟩ (.int .i64 a)).setCell ⟨g, 1, none⟩ (.int .i64 b)).setCell ⟨g, 2, none⟩ (.int .i64 c)).setCell ⟨g, 0, none⟩ (.int .i64 (a + x2))).setCell ⟨g, 1, none⟩ (.int .i64 (b + y2))).setCell ⟨g, 2, none⟩ (.int .i64 (c + z2))) := ((hB4.setCell (p := ⟨g, 0, none⟩) (by simp; omega) _).setCell (p := ⟨g, 1, none⟩) (by simp; omega) _).setCell (p := ⟨g, 2, none⟩) (by simp; omega) _
    have hs5 : ((((((W.setCell ⟨g, 0, none⟩ (.int .i64 a)).setCell ⟨g, 1, none⟩ (.int .i64 b)).setCell ⟨g, 2, none⟩ (.int .i64 c)).setCell ⟨g, 0, none⟩ (.int .i64 (a + x2))).setCell ⟨g, 1, none⟩ (.int .i64 (b + y2))).setCell ⟨g, 2, none⟩ (.int .i64 (c + z2))).heap.size = W.heap.size := by simp
    obtain ⟨U, hU⟩ : ∃ U, U = ((((((W.setCell ⟨g, 0, none⟩ (.int .i64 a)).setCell ⟨g, 1, none⟩ (.int .i64 b)).setCell ⟨g, 2, none⟩ (.int .i64 c)).setCell ⟨g, 0, none⟩ (.int .i64 (a + x2))).setCell ⟨g, 1, none⟩ (.int .i64 (b + y2))).setCell ⟨g, 2, none⟩ (.int .i64 (c + z2))) := ⟨_, rfl⟩
    rw [← hU] at bG5 N5 M5 R5 hB5 hs5 ⊢
    rw [← HX.out, ← HY.out, ← HZ.out] at bG5 ⊢
    clear o5 hU N4 M4 R4 N3 M3 R3 hB3 hB4 bG3 bG M2 N2 R2 hB2 HO3 hC s2
    have hmv := isMove_ok X Y Z U
    rw [HM.out] at hmv
    refine hmv.mono ?_
    clear hmv
    rintro e w6 ⟨rfl, hb6⟩
    have N6 := blk_below N5 hb6 (blk_lt N5)
    have M6 := blk_below M5 hb6 (blk_lt M5)
    have R6 := blk_below R5 hb6 (blk_lt R5)
    have bG6 : BoxC w6 g X Y Z := blk_below bG5 hb6 (blk_lt bG5)
    have hB6 : Below w.heap.size w w6 := up hb6 hB5
    clear N5 M5 R5 bG5 hB5 hs5 hb6 gl
    have lM6 := blk_lt M6
    have lN6 := blk_lt N6
    have lR6 := blk_lt R6
    have lG6 := blk_lt bG6
    go_wp2_with fail
    have hC6 : Below w6.heap.size w6 w6.drew := Below.drew (Below.refl _ _)
    refine wp_region_relT 5 (V7 w6.heap.size w.heap.size t1 p1 p2 p3) (fun W => Below w6.heap.size w6 W) (by kernel_rfl) (by kernel_rfl) (by kernel_rfl) (by kernel_rfl) (by kernel_rfl) (by kernel_rfl) (by kernel_rfl) (by kernel_rfl) hC6 ?hst2 ?hop2 ?hend2
    case hst2 =>
      intro j v W W' hb hv
      rcases j with _ | _ | _ | _ | _ | j
      all_goals first | exact hv | exact NewC.below hv hb
    case hop2 =>
      intro i o hi ho a' W hC hin hfix K hK
      have M7 := blk_below M6 hC lM6
      obtain ⟨m0', m1', m2', m3'⟩ := Q4.cells M7
      have q2 : a'.tmps[2]? = some (.pointer (some ⟨w.heap.size, 0, none⟩)) := hfix 2 (by kernel_rfl)
      rcases (show i = 0 ∨ i = 1 ∨ i = 2 ∨ i = 3 ∨ i = 4 by omega) with rfl | rfl | rfl | rfl | rfl
      · obtain rfl := Option.some.inj ho
        clear hin hfix ho
        go_simp
        refine (lopsided_ok _).mono ?_
        rintro e W2 ⟨rfl, hb⟩
        exact hK _ _ rfl (hC.trans (hb.mono hC.size)) hb
      · obtain rfl := Option.some.inj ho
        clear hin hfix ho
        go_simp
        exact hK _ _ rfl hC (Below.refl _ _)
      · obtain ⟨v0, rfl, h0⟩ := hin 1 44 (by kernel_rfl) (by kernel_rfl)
        obtain rfl := Option.some.inj ho
        clear hin hfix ho
        go_simp
        exact hK _ _ rfl hC (Below.refl _ _)
      · obtain ⟨v1, rfl, h1⟩ := hin 0 43 (by kernel_rfl) (by kernel_rfl)
        obtain ⟨v3, rfl, h3⟩ := hin 2 45 (by kernel_rfl) (by kernel_rfl)
        obtain rfl := Option.some.inj ho
        clear hin hfix ho
        go_simp
        refine (HTA.out _).mono ?_
        rintro e W2 ⟨rfl, hb⟩
        exact hK _ _ rfl (hC.trans (hb.mono hC.size)) hb
      · obtain rfl := Option.some.inj ho
        clear hin hfix ho
        go_simp
        exact hK _ _ ⟨W.heap.size, rfl, hC.size, World.alloc_heap_new W _⟩ (hC.alloc hC.size _) ((Below.refl _ W).alloc (Nat.le_refl _) _)
    case hend2 =>
      intro vals W hC hV
      have z0 := hV 0 (by decide)
      have z1 := hV 1 (by decide)
      have z2 := hV 2 (by decide)
      have z3 := hV 3 (by decide)
      obtain ⟨h, z4, hg7, bH⟩ := hV 4 (by decide)
      clear hV
      simp only [V7] at z0 z1 z2 z3
      have hr : List.range 5 = [0, 1, 2, 3, 4] := rfl
      simp only [List.drop_succ_cons, List.drop_zero, putA, hr, List.foldl_cons, List.foldl_nil, dstR, List.getElem?_toArray, List.getElem?_cons_succ, List.getElem?_cons_zero, Option.bind_some, Act.put, List.setIfInBounds_toArray, List.set_cons_succ, List.set_cons_zero, z0, z1, z2, z3, z4]
      clear hr z0 z1 z2 z3 z4 vals
      have N7 := blk_below N6 hC lN6
      have R7 := blk_below R6 hC lR6
      have bG7 : BoxC W g X Y Z := blk_below bG6 hC lG6
      have hB7 : Below w.heap.size w W := up hC hB6
      clear N6 R6 bG6 M6 hB6
      have g0 := bH.c0
      have g1 := bH.c1
      have g2 := bH.c2
      have f0 := blk_free (k := 0) bH; have f1 := blk_free (k := 1) bH; have f2 := blk_free (k := 2) bH
      have hgh : g < h := by omega
      have bH3 : BoxC (((W.setCell ⟨h, 0, none⟩ (.int .i64 p1)).setCell ⟨h, 1, none⟩ (.int .i64 p2)).setCell ⟨h, 2, none⟩ (.int .i64 p3)) h p1 p2 p3 := blk_set (k := 2) (blk_set (k := 1) (blk_set (k := 0) bH (.int .i64 p1)) (.int .i64 p2)) (.int .i64 p3)
      have o7 : ∀ {B : Nat} {o : Obj}, W.heap[B]? = some o → B < w6.heap.size → (((W.setCell ⟨h, 0, none⟩ (.int .i64 p1)).setCell ⟨h, 1, none⟩ (.int .i64 p2)).setCell ⟨h, 2, none⟩ (.int .i64 p3)).heap[B]? = some o := fun h hl => blk_other (blk_other (blk_other h (by omega) _) (by omega) _) (by omega) _
      have N8 := o7 N7 lN6
      have R8 := o7 R7 lR6
      have bG8 : BoxC _ g X Y Z := o7 bG7 lG6
      have hB8 : Below w.heap.size w (((W.setCell ⟨h, 0, none⟩ (.int .i64 p1)).setCell ⟨h, 1, none⟩ (.int .i64 p2)).setCell ⟨h, 2, none⟩ (.int .i64 p3)) := ((hB7.setCell (p := ⟨h, 0, none⟩) (by simp; omega) _).setCell (p := ⟨h, 1, none⟩) (by simp; omega) _).setCell (p := ⟨h, 2, none⟩) (by simp; omega) _
      obtain ⟨n0, n1, n2, n3⟩ := Q4.cells N8
      have k0 := bH3.c0
      have k1 := bH3.c1
      have k2 := bH3.c2
      clear o7
      go_wp2_with fail
      clear n0 n1 n2 n3 k0 k1 k2 g0 g1 g2 f0 f1 f2
      have lR8 := blk_lt R8
      have lG8 := blk_lt bG8
      refine (HTB.out _).mono ?_
      rintro e w9 ⟨rfl, hb9⟩
      have R9 := blk_below R8 hb9 lR8
      have bG9 : BoxC w9 g X Y Z := blk_below bG8 hb9 lG8
      have hB9 : Below w.heap.size w w9 := up hb9 hB8
      clear R8 bG8 hB8 N8 bH3 bH N7 R7 bG7 hB7 hb9 lR8 lG8 hC
      have hB10 : Below w.heap.size w (w9.alloc (.cells #[.int .i64 (r1), .int .i64 (r2), .int .i64 (r3)] 26)) := hB9.alloc hB9.size _
      have bN : BoxC (w9.alloc (.cells #[.int .i64 (r1), .int .i64 (r2), .int .i64 (r3)] 26)) w9.heap.size r1 r2 r3 := World.alloc_heap_new w9 _
      have R10 := blk_alloc R9 (.cells #[.int .i64 (r1), .int .i64 (r2), .int .i64 (r3)] 26)
      have bG10 : BoxC (w9.alloc (.cells #[.int .i64 (r1), .int .i64 (r2), .int .i64 (r3)] 26)) g X Y Z := blk_alloc bG9 _
      go_wp2_with fail
      obtain ⟨U, hU⟩ : ∃ U, U = w9.alloc (.cells #[.int .i64 (r1), .int .i64 (r2), .int .i64 (r3)] 26) := ⟨_, rfl⟩
      rw [← hU] at hB10 bN R10 bG10 ⊢
      clear hU hB9 R9 bG9
      have lN10 := blk_lt bN
      have lR10 := blk_lt R10
      have lG10 := blk_lt bG10
      have k0 := bN.c0
      have k1 := bN.c1
      have k2 := bN.c2
      have g0 := bG10.c0
      have g1 := bG10.c1
      have g2 := bG10.c2
      (refine wp_region_quiet_tail 5 (fun w' => Below U.heap.size U w') (by kernel_rfl) (by kernel_rfl) (Below.drew (Below.refl _ _)) ?_; simp only [List.take_succ_cons, List.take_zero, List.drop_succ_cons, List.drop_zero]; (iterate 5 (refine wpQuiet_step (fun K hK => ?_); go_simp; first | (refine hK _ ?_; clear hK K) | (apply Exists.intro; refine ⟨fun W' hW' => ?_, hK _ ?_⟩; (focus (first | (with_reducible exact rfl) | (with_reducible exact ⟨rfl, rfl⟩) | (obtain ⟨hcq, hfq⟩ := bcell hW'; have hzq := hW'.size; (try go_simp); first | (with_reducible exact rfl) | (with_reducible exact ⟨rfl, rfl⟩) | (first | (refine (lopsided_ok _).mono ?_; rintro e w9 ⟨rfl, hb9⟩; exact ⟨rfl, hW'.trans (hb9.mono hW'.size)⟩) | (refine (turnTo_ok 1 2 3 r1 r2 r3 T _ hT HTO.out s0).mono ?_; rintro e w9 ⟨rfl, hb9⟩; exact ⟨rfl, hW'.trans (hb9.mono hW'.size)⟩) | (refine (motionOf_ok (T : Int) X Y Z _).mono ?_; rintro e w9 ⟨rfl, hb9⟩; exact ⟨rfl, hW'.trans (hb9.mono hW'.size)⟩))))); clear hK K))); refine wpQuiet_nil ?_; intro w1q hb1q)
      have R4 := blk_below R10 hb1q lR10
      have hB4 : Below w.heap.size w w1q := up hb1q hB10
      have lR4 := blk_lt R4
      obtain ⟨n0, n1, n2, n3⟩ := Q4.cells R4
      have f0 := blk_free (k := 0) R4; have f1 := blk_free (k := 1) R4; have f2 := blk_free (k := 2) R4; have f3 := blk_free (k := 3) R4
      go_wp2_with fail
      have bE := blk_set (k := 3) (blk_set (k := 2) (blk_set (k := 1) (blk_set (k := 0) R4 (.int .i64 T)) (.int .i64 X)) (.int .i64 Y)) (.int .i64 Z)
      refine bodyPost_ret (res_4e Tryz.results50 rfl (blk_cell (k := 0) bE) (blk_cell (k := 1) bE) (blk_cell (k := 2) bE) (blk_cell (k := 3) bE)) rfl ⟨rfl, ?_⟩
      repeat' (first | (with_reducible exact Below.refl _ _) | (with_reducible assumption) | (with_reducible refine Below.alloc ?_ ?_ _) | (with_reducible refine Below.drew ?_) | (with_reducible refine below_drewN ?_ _) | (with_reducible refine Below.setCell ?_ ?_ _) | go_size)
end Go.Proofs.YtadkaplafaeebaaGreatDoor
