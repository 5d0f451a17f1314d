/-
  A region that draws its order: a law for values that are known by a relation alone (a slice that a callee lays, an address). What each operation yields is told beforehand; each one is run once, in whatever frame and world the others have left.
-/
import Derived.Test.YtadkaplafaeebaaGreatDoorPkA
import Derived.Test.YtadkaplafaeebaaGreatDoorPkF
import Derived.Test.YtadkaplafaeebaaGreatDoorPkL
import Derived.Test.YtadkaplafaeebaaGreatDoorEuler
set_option linter.unusedVariables false
set_option linter.unusedSimpArgs false
namespace Go.Proofs.YtadkaplafaeebaaGreatDoor
open Go Go.RowKit

section
variable {P : Program} {ops : Array Oper}
abbrev dstR (ops : Array Oper) (j : Nat) : Option Tmp := (ops[j]?).bind (·.dst)
def dstB (ops : Array Oper) : Bool := (List.range ops.size).all fun i => (List.range ops.size).all fun j => decide (i = j) || (dstR ops i).isNone || decide (dstR ops i ≠ dstR ops j)
def backB (ops : Array Oper) : Bool := (List.range ops.size).all fun i => ((ops[i]?).map fun o => o.after.all fun e => !Region.binds .any e || decide (e.on < i)).getD true
theorem dst_ne (h : dstB ops = true) {i j : Nat} (hij : i ≠ j) : ∀ d, dstR ops i = some d → dstR ops j ≠ some d := by
  intro d hi hj
  have hi' : i < ops.size := by
    rcases Nat.lt_or_ge i ops.size with h' | h'
    · exact h'
    · simp [dstR, Array.getElem?_eq_none h'] at hi
  have hj' : j < ops.size := by
    rcases Nat.lt_or_ge j ops.size with h' | h'
    · exact h'
    · simp [dstR, Array.getElem?_eq_none h'] at hj
  have h1 := List.all_eq_true.1 (List.all_eq_true.1 h i (List.mem_range.2 hi')) j (List.mem_range.2 hj')
  rw [hi, hj] at h1
  simp [hij] at h1
def szB (ops : Array Oper) (n : Nat) : Bool := (List.range ops.size).all fun i => (dstR ops i).all fun t => decide (t < n)
def fixB (ops : Array Oper) (t : Nat) : Bool := (List.range ops.size).all fun j => decide (dstR ops j ≠ some t)
def preB (ops : Array Oper) (i j : Nat) : Bool := ((ops[i]?).map fun o => o.after.any fun e => Region.binds .any e && decide (e.on = j)).getD false
def freeB (ops : Array Oper) : Bool := ops.all fun o => o.guard.isNone
def putL (ops : Array Oper) (l : Array Bool) (vals : Nat → Value) (js : List Nat) (a : Act) : Act :=
  js.foldl (fun a j => if l.getD j false = true then a.put (dstR ops j) (vals j) else a) a
def putA (ops : Array Oper) (vals : Nat → Value) (js : List Nat) (a : Act) : Act := js.foldl (fun a j => a.put (dstR ops j) (vals j)) a
def upd (vals : Nat → Value) (i : Nat) (v : Value) : Nat → Value := fun j => if j = i then v else vals j
theorem getD_other (l : Array Bool) {i j : Nat} (h : j ≠ i) (d : Bool) : (l.setIfInBounds i true).getD j d = l.getD j d := by
  simp [Array.getD_eq_getD_getElem?, Array.getElem?_setIfInBounds, Ne.symm h]
theorem getD_self (l : Array Bool) {i : Nat} (h : i < l.size) (d : Bool) : (l.setIfInBounds i true).getD i d = true := by
  simp [Array.getD_eq_getD_getElem?, Array.getElem?_setIfInBounds, h]
theorem putL_cons (l : Array Bool) (vals : Nat → Value) (j : Nat) (js : List Nat) (a : Act) : putL ops l vals (j :: js) a = putL ops l vals js (if l.getD j false = true then a.put (dstR ops j) (vals j) else a) := rfl
theorem putL_skip (l : Array Bool) (vals : Nat → Value) (i : Nat) (v : Value) : ∀ (js : List Nat) (a : Act), i ∉ js → putL ops (l.setIfInBounds i true) (upd vals i v) js a = putL ops l vals js a
  | [], _, _ => rfl
  | j :: js, a, h => by
    have hj : j ≠ i := fun e => h (by simp [e])
    rw [putL_cons, putL_cons, getD_other l hj, putL_skip l vals i v js _ (fun hm => h (by simp [hm]))]
    simp [upd, hj]
theorem putL_put (hD : dstB ops = true) (l : Array Bool) (vals : Nat → Value) (i : Nat) (v : Value) : ∀ (js : List Nat) (a : Act), i ∉ js → putL ops l vals js (a.put (dstR ops i) v) = (putL ops l vals js a).put (dstR ops i) v
  | [], _, _ => rfl
  | j :: js, a, h => by
    have hj : i ≠ j := fun e => h (by simp [e])
    rw [putL_cons, putL_cons, ← putL_put hD l vals i v js _ (fun hm => h (by simp [hm]))]
    congr 1
    split
    · exact Act.put_comm a _ _ (dst_ne hD hj)
    · rfl
theorem putL_step (hD : dstB ops = true) (l : Array Bool) (vals : Nat → Value) (i : Nat) (v : Value) (a : Act) (hi : i < l.size) (h0 : l.getD i false = false) (n : Nat) (hn : i < n) :
    putL ops (l.setIfInBounds i true) (upd vals i v) (List.range n) a = (putL ops l vals (List.range n) a).put (dstR ops i) v := by
  obtain ⟨s, t, hst⟩ := List.append_of_mem (List.mem_range.2 hn)
  have hnd := List.nodup_range (n := n)
  rw [hst, List.nodup_append] at hnd
  have hs : i ∉ s := fun hm => hnd.2.2 i hm i (by simp) rfl
  have ht : i ∉ t := (List.nodup_cons.1 hnd.2.1).1
  have e : ∀ (l : Array Bool) (vals : Nat → Value), putL ops l vals (s ++ i :: t) a = putL ops l vals (i :: t) (putL ops l vals s a) := fun l vals => by unfold putL; rw [List.foldl_append]
  rw [hst, e, e, putL_skip l vals i v s a hs, putL_cons, putL_cons, getD_self l hi, if_pos rfl, h0, if_neg Bool.false_ne_true, putL_skip l vals i v t _ ht, putL_put hD l vals i _ t _ ht]
  simp [upd]
theorem putL_all (l : Array Bool) (vals : Nat → Value) : ∀ (js : List Nat) (a : Act), (∀ j ∈ js, l.getD j false = true) → putL ops l vals js a = putA ops vals js a
  | [], _, _ => rfl
  | j :: js, a, h => by
    rw [putL_cons, h j (by simp), if_pos rfl, putL_all l vals js _ fun k hk => h k (by simp [hk])]
    rfl
theorem putL_none (l : Array Bool) (vals : Nat → Value) : ∀ (js : List Nat) (a : Act), (∀ j ∈ js, l.getD j false = false) → putL ops l vals js a = a
  | [], _, _ => rfl
  | j :: js, a, h => by
    rw [putL_cons, h j (by simp), if_neg Bool.false_ne_true, putL_none l vals js _ fun k hk => h k (by simp [hk])]
theorem putL_size (l : Array Bool) (vals : Nat → Value) : ∀ (js : List Nat) (a : Act), (putL ops l vals js a).tmps.size = a.tmps.size
  | [], _ => rfl
  | j :: js, a => by
    rw [putL_cons, putL_size l vals js]
    split
    · cases dstR ops j <;> simp [Act.put]
    · rfl
theorem put_slot (a : Act) (d : Option Tmp) (v : Value) {t : Tmp} (h : d ≠ some t) : (a.put d v).tmps[t]? = a.tmps[t]? := by
  cases d with
  | none => rfl
  | some e =>
    have : e ≠ t := fun he => h (by rw [he])
    simp [Act.put, Array.getElem?_setIfInBounds, this]
theorem putL_other (l : Array Bool) (vals : Nat → Value) {t : Tmp} : ∀ (js : List Nat) (a : Act), (∀ j ∈ js, dstR ops j ≠ some t) → (putL ops l vals js a).tmps[t]? = a.tmps[t]?
  | [], _, _ => rfl
  | j :: js, a, h => by
    rw [putL_cons, putL_other l vals js _ fun k hk => h k (by simp [hk])]
    split
    · exact put_slot a _ _ (h j (by simp))
    · rfl
theorem putL_slot (hD : dstB ops = true) (l : Array Bool) (vals : Nat → Value) {t : Tmp} {i : Nat} (hi : dstR ops i = some t) (hl : l.getD i false = true) (a : Act) (ht : t < a.tmps.size) (n : Nat) (hn : i < n) :
    (putL ops l vals (List.range n) a).tmps[t]? = some (vals i) := by
  obtain ⟨s, u, hst⟩ := List.append_of_mem (List.mem_range.2 hn)
  have hnd := List.nodup_range (n := n)
  rw [hst, List.nodup_append] at hnd
  have hu : i ∉ u := (List.nodup_cons.1 hnd.2.1).1
  have e : putL ops l vals (s ++ i :: u) a = putL ops l vals (i :: u) (putL ops l vals s a) := by unfold putL; rw [List.foldl_append]
  rw [hst, e, putL_cons, hl, if_pos rfl, putL_other l vals u _ (fun j hj hd => dst_ne hD (fun e => hu (by rw [e]; exact hj)) t hi hd), hi]
  have hs : t < (putL ops l vals s a).tmps.size := by rw [putL_size]; exact ht
  simp [Act.put, hs]
theorem wp_region_rel {id : Nat} {Q : Exit → Act → World → Prop} {a : Act} {w : World} (V : Nat → Value → Prop) (C : World → Prop) (hm : P.follows .mixedOrders = true) (hD : dstB ops = true) (hB : backB ops = true) (hC : C w.drew)
    (hS : szB ops a.tmps.size = true) (hG : freeB ops = true)
    (hop : ∀ i o, ops[i]? = some o → ∀ (a' : Act) (w' : World), C w' → (∀ j t, preB ops i j = true → dstR ops j = some t → ∃ v, V j v ∧ a'.tmps[t]? = some v) → (∀ t, fixB ops t = true → a'.tmps[t]? = a.tmps[t]?) →
      ∀ K : Act → World → Prop, (∀ v w'', V i v → C w'' → K (a'.put o.dst v) w'') → o.wp P a' w' K Q)
    (hend : ∀ (vals : Nat → Value) (w' : World), C w' → (∀ i, i < ops.size → V i (vals i)) → Q .normal (putA ops vals (List.range ops.size) a) w') : (Code.region id ops true).wp P Q a w := by
  have hsz : ∀ i t, dstR ops i = some t → t < a.tmps.size := fun i t hd => by
    have hi : i < ops.size := by
      rcases Nat.lt_or_ge i ops.size with h' | h'
      · exact h'
      · simp [dstR, Array.getElem?_eq_none h'] at hd
    have h1 := List.all_eq_true.1 hS i (List.mem_range.2 hi)
    rw [hd] at h1
    simpa using h1
  refine wp_region_any hm ?_
  have all : ∀ (l : Array Bool) (vals : Nat → Value) (w' : World), C w' → (∀ j, l.getD j false = true → V j (vals j)) → (∀ j, j < ops.size → l.getD j false = true) → Q .normal (putL ops l vals (List.range ops.size) a) w' := fun l vals w' hC hV hl => by
    rw [putL_all l vals _ _ fun j hj => hl j (List.mem_range.1 hj)]
    exact hend vals w' hC fun i hi => hV i (hl i hi)
  have key : ∀ (fuel : Nat) (l : Array Bool) (vals : Nat → Value) (w' : World), l.size = ops.size → C w' → (∀ j, l.getD j false = true → V j (vals j)) → l.toList.count false ≤ fuel → wpAny P .any ops Q fuel l (putL ops l vals (List.range ops.size) a) w' := by
    have gd : ∀ (l : Array Bool) (j : Nat), l.size = ops.size → j < ops.size → l.getD j true = l.getD j false := fun l j hs hj => by
      have : j < l.size := by omega
      simp [Array.getD, this]
    have done : ∀ (l : Array Bool), l.size = ops.size → Region.ready .any ops l = [] → ∀ j, j < ops.size → l.getD j false = true := fun l hs hr j => by
      induction j using Nat.strongRecOn with
      | ind j ih =>
        intro hj
        refine Classical.byContradiction fun hc => ?_
        have hc : l.getD j false = false := by simpa using hc
        have hm : j ∈ Region.ready .any ops l := mem_ready.2 ⟨by rw [gd l j hs hj]; exact hc, ops[j], Array.getElem?_eq_getElem hj, fun e he hb => by
          have h1 := List.all_eq_true.1 hB j (List.mem_range.2 hj)
          rw [Array.getElem?_eq_getElem hj] at h1
          have h2 := Array.all_eq_true_iff_forall_mem.1 h1 e he
          have h3 : e.on < j := by simpa [hb] using h2
          exact ih _ h3 (by omega)⟩
        rw [hr] at hm
        cases hm
    intro fuel
    induction fuel with
    | zero =>
      intro l vals w' hs hC hV hc
      have hl : ∀ j, j < ops.size → l.getD j false = true := fun j hj => by
        have h0 : l.toList.count false = 0 := by omega
        have h1 := List.count_eq_zero.1 h0
        have hjl : j < l.size := by omega
        have h2 : l[j] ≠ false := fun e => h1 (by rw [← e]; exact Array.getElem_mem_toList hjl)
        simpa [Array.getD, hjl] using h2
      refine ⟨List.eq_nil_iff_forall_not_mem.2 fun j hj => ?_, all l vals w' hC hV hl⟩
      obtain ⟨h1, o, ho, _⟩ := mem_ready.1 hj
      have hj' : j < ops.size := (Array.getElem?_eq_some_iff.1 ho).1
      rw [gd l j hs hj', hl j hj'] at h1
      cases h1
    | succ fuel ih =>
      intro l vals w' hs hC hV hc
      refine ⟨fun hr => all l vals w' hC hV (done l hs hr), fun i hi => ?_⟩
      obtain ⟨h1, o, ho, hall⟩ := mem_ready.1 hi
      have hi' : i < ops.size := (Array.getElem?_eq_some_iff.1 ho).1
      rw [gd l i hs hi'] at h1
      have hg : o.guard = none := by
        have h := Array.all_eq_true_iff_forall_mem.1 hG o (Array.mem_of_getElem? ho)
        simpa using h
      have hwt : Region.wanted o (yielded ops (putL ops l vals (List.range ops.size) a).tmps) = true := by unfold Region.wanted; rw [hg]
      unfold wpOp
      rw [ho]
      simp only [hwt, if_true]
      refine .inl (hop i o ho _ w' hC ?_ (fun t ht => putL_other l vals _ _ fun j hj => by simpa using List.all_eq_true.1 ht j hj) _ ?_)
      · intro j t hp hd
        unfold preB at hp
        rw [ho] at hp
        obtain ⟨k, hk, hbe⟩ := Array.any_eq_true.1 (show (o.after.any fun e => Region.binds .any e && decide (e.on = j)) = true from hp)
        have he : o.after[k] ∈ o.after := Array.getElem_mem hk
        generalize o.after[k] = e at hbe he
        simp only [Bool.and_eq_true, decide_eq_true_eq] at hbe
        obtain ⟨hb, rfl⟩ := hbe
        have hl := hall e he hb
        have hj' : e.on < ops.size := by
          rcases Nat.lt_or_ge e.on ops.size with h' | h'
          · exact h'
          · simp [dstR, Array.getElem?_eq_none h'] at hd
        exact ⟨vals e.on, hV _ hl, putL_slot hD l vals hd hl a (hsz _ _ hd) _ hj'⟩
      · intro v w'' hv hC'
        have hdo : o.dst = dstR ops i := by simp [dstR, ho]
        rw [hdo, ← putL_step hD l vals i v a (by omega) h1 _ hi']
        refine ih _ _ w'' (by simpa using hs) hC' (fun j hj => ?_) ?_
        · by_cases e : j = i
          · subst e; simp [upd, hv]
          · rw [getD_other l e] at hj
            simp [upd, e, hV j hj]
        · have hil : i < l.toList.length := by simpa using (by omega : i < l.size)
          have h2 : l.toList[i] = false := by
            have hil' : i < l.size := by omega
            simpa [Array.getD, hil'] using h1
          have h3 : l.toList.count false = (l.toList.set i true).count false + 1 := by
            have h4 : 0 < l.toList.count false := List.count_pos_iff.2 (by rw [← h2]; exact List.getElem_mem hil)
            rw [List.count_set hil, h2, if_pos (by decide), if_neg (by decide)]
            omega
          rw [Array.toList_setIfInBounds]
          omega
  have h0 : ∀ j, (Array.replicate ops.size false).getD j false = false := by
    intro j
    rw [Array.getD_eq_getD_getElem?, Array.getElem?_replicate]
    split <;> rfl
  have h := key ops.size (Array.replicate ops.size false) (fun _ => undef) w.drew (by simp) hC (fun j hj => by rw [h0] at hj; cases hj) (Nat.le_trans List.count_le_length (by simp))
  rwa [putL_none _ _ _ _ fun j _ => h0 j] at h
theorem slot_eval {a : Act} {t : Tmp} {v : Value} (h : a.tmps[t]? = some v) : a.eval (.tmp t) = v := by
  show a.tmps.getD t undef = v
  rw [Array.getD_eq_getD_getElem?, h]
  rfl
end
end Go.Proofs.YtadkaplafaeebaaGreatDoor
/-
  The law of Rel with a tail (stores, assignments) behind a head that draws its order, and with relations that also speak of the world (a block that has been laid).
-/
set_option linter.unusedVariables false
set_option linter.unusedSimpArgs false
namespace Go.Proofs.YtadkaplafaeebaaGreatDoor
open Go Go.RowKit

section
variable {P : Program} {ops : Array Oper}
def tailB (ops : Array Oper) (n : Nat) : Bool := (List.range ops.size).all fun t => decide (t < n) || (List.range n).all fun j => preB ops t j
theorem wp_region_relT {id : Nat} {Q : Exit → Act → World → Prop} {a : Act} {w : World} (n : Nat) (V : Nat → Value → World → Prop) (C : World → Prop) (hm : P.follows .mixedOrders = true) (hD : dstB ops = true) (hB : backB ops = true)
    (hS : szB ops a.tmps.size = true) (hG : freeB ops = true) (hn : decide (n ≤ ops.size) = true) (hTl : tailB ops n = true) (hseq : Region.seqB .any ops (ops.size - n) n (Array.replicate n true ++ Array.replicate (ops.size - n) false) = true) (hC : C w.drew)
    (hst : ∀ j v w w', Below w.heap.size w w' → V j v w → V j v w')
    (hop : ∀ i o, i < n → ops[i]? = some o → ∀ (a' : Act) (w' : World), C w' → (∀ j t, preB ops i j = true → dstR ops j = some t → ∃ v, V j v w' ∧ a'.tmps[t]? = some v) → (∀ t, fixB ops t = true → a'.tmps[t]? = a.tmps[t]?) →
      ∀ K : Act → World → Prop, (∀ v w'', V i v w'' → C w'' → Below w'.heap.size w' w'' → K (a'.put o.dst v) w'') → o.wp P a' w' K Q)
    (hend : ∀ (vals : Nat → Value) (w' : World), C w' → (∀ i, i < n → V i (vals i) w') → wpList P ops Q (ops.toList.drop n) (putA ops vals (List.range n) a) w') : (Code.region id ops true).wp P Q a w := by
  have hsz : ∀ i t, dstR ops i = some t → t < a.tmps.size := fun i t hd => by
    have hi : i < ops.size := by
      rcases Nat.lt_or_ge i ops.size with h' | h'
      · exact h'
      · simp [dstR, Array.getElem?_eq_none h'] at hd
    have h1 := List.all_eq_true.1 hS i (List.mem_range.2 hi)
    rw [hd] at h1
    simpa using h1
  have hn : n ≤ ops.size := of_decide_eq_true hn
  refine wp_region_any hm ?_
  have gd : ∀ (l : Array Bool) (j : Nat), l.size = ops.size → j < ops.size → l.getD j true = l.getD j false := fun l j hs hj => by
    have : j < l.size := by omega
    simp [Array.getD, this]
  -- the list of those that are through, parted in head and tail
  have parts : ∀ l : Array Bool, l.size = ops.size → (∀ t, n ≤ t → l.getD t false = false) → (∀ j, j < n → l.getD j false = true) → l = Array.replicate n true ++ Array.replicate (ops.size - n) false := fun l hs ht hh => by
    apply Array.ext
    · simp; omega
    · intro j h1 h2
      have e : l.getD j false = l[j] := by simp [Array.getD, h1]
      by_cases hj : j < n
      · rw [← e, hh j hj, Array.getElem_append_left (by simpa using hj)]; simp
      · rw [← e, ht j (by omega), Array.getElem_append_right (by simp; omega)]; simp
  have key : ∀ (fuel : Nat) (l : Array Bool) (vals : Nat → Value) (w' : World), l.size = ops.size → (∀ t, n ≤ t → l.getD t false = false) → C w' → (∀ j, l.getD j false = true → V j (vals j) w') → l.toList.count false = fuel + (ops.size - n) →
      wpAny P .any ops Q (fuel + (ops.size - n)) l (putL ops l vals (List.range n) a) w' := by
    have cnt : ∀ l : Array Bool, l = Array.replicate n true ++ Array.replicate (ops.size - n) false → l.toList.count false = ops.size - n := fun l e => by
      rw [e]
      simp [List.count_replicate]
    intro fuel
    induction fuel with
    | zero =>
      intro l vals w' hs ht hC hV hc
      rw [Nat.zero_add] at hc ⊢
      have hl : ∀ j, j < n → l.getD j false = true := fun j hj => Classical.byContradiction fun hne => by
        have hne : l.getD j false = false := by simpa using hne
        have hjl : j < l.toList.length := by simp; omega
        have hdrop : (l.toList.drop n).count false = ops.size - n := by
          rw [List.count_eq_length.2, List.length_drop]
          · simp; omega
          · intro b hb
            obtain ⟨k, hk, rfl⟩ := List.getElem_of_mem hb
            rw [List.getElem_drop]
            have h1 := ht (n + k) (by omega)
            rw [List.length_drop] at hk
            have hk' : n + k < l.size := by simpa using (by omega : n + k < l.toList.length)
            simpa [Array.getD, hk'] using h1.symm
        have htake : 0 < (l.toList.take n).count false := List.count_pos_iff.2 (by
          have hjl' : j < l.size := by simpa using hjl
          have e : l.getD j false = l[j] := by simp [Array.getD, hjl']
          refine List.mem_iff_getElem.2 ⟨j, by simp; omega, ?_⟩
          rw [List.getElem_take, Array.getElem_toList, ← e, hne])
        have hsum : l.toList.count false = (l.toList.take n).count false + (l.toList.drop n).count false := by rw [← List.count_append, List.take_append_drop]
        omega
      have e := parts l hs ht hl
      rw [putL_all l vals _ _ fun j hj => hl j (List.mem_range.1 hj)]
      have h := wpAny_of_seq (md := .any) (Q' := Q) (ops.toList.drop n) n l (putA ops vals (List.range n) a) w' (fun j => by rw [List.getElem?_drop, Array.getElem?_toList]) (by rw [List.length_drop, Array.length_toList, e]; exact hseq) (hend vals w' hC fun i hi => hV i (hl i hi))
      rwa [List.length_drop, Array.length_toList] at h
    | succ fuel ih =>
      intro l vals w' hs ht hC hV hc
      -- a head operation that is not through
      have hex : ∃ j, j < n ∧ l.getD j false = false := Classical.byContradiction fun hne => by
        have hl : ∀ j, j < n → l.getD j false = true := fun j hj => Classical.byContradiction fun h1 => hne ⟨j, hj, by simpa using h1⟩
        have := cnt l (parts l hs ht hl)
        omega
      have hrd : Region.ready .any ops l ≠ [] := by
        obtain ⟨j, hj, h0⟩ := hex
        induction j using Nat.strongRecOn with
        | ind j ihj =>
          by_cases hp : ∃ k, k < j ∧ l.getD k false = false
          · obtain ⟨k, hk, hk0⟩ := hp
            exact ihj k hk (by omega) hk0
          · have hj' : j < ops.size := by omega
            have hmr : j ∈ Region.ready .any ops l := mem_ready.2 ⟨by rw [gd l j hs hj']; exact h0, ops[j], Array.getElem?_eq_getElem hj', fun e he hb => by
              have h1 := List.all_eq_true.1 hB j (List.mem_range.2 hj')
              rw [Array.getElem?_eq_getElem hj'] at h1
              have h2 := Array.all_eq_true_iff_forall_mem.1 h1 e he
              have h3 : e.on < j := by simpa [hb] using h2
              exact Classical.byContradiction fun h4 => hp ⟨e.on, h3, by simpa using h4⟩⟩
            exact List.ne_nil_of_mem hmr
      rw [show fuel + 1 + (ops.size - n) = fuel + (ops.size - n) + 1 by omega]
      refine ⟨fun hr => absurd hr hrd, fun i hi => ?_⟩
      obtain ⟨h1, o, ho, hall⟩ := mem_ready.1 hi
      have hi' : i < ops.size := (Array.getElem?_eq_some_iff.1 ho).1
      rw [gd l i hs hi'] at h1
      have hin : i < n := Classical.byContradiction fun hge => by
        obtain ⟨j, hj, h0⟩ := hex
        have h2 := List.all_eq_true.1 hTl i (List.mem_range.2 hi')
        have h3 : (List.range n).all (fun j => preB ops i j) = true := by simpa [hge] using h2
        have h4 := List.all_eq_true.1 h3 j (List.mem_range.2 hj)
        unfold preB at h4
        rw [ho] at h4
        obtain ⟨k, hk, hbe⟩ := Array.any_eq_true.1 (show (o.after.any fun e => Region.binds .any e && decide (e.on = j)) = true from h4)
        have he : o.after[k] ∈ o.after := Array.getElem_mem hk
        generalize o.after[k] = e at hbe he
        simp only [Bool.and_eq_true, decide_eq_true_eq] at hbe
        have h5 := hall e he hbe.1
        rw [hbe.2, h0] at h5
        cases h5
      have hg : o.guard = none := by
        have h := Array.all_eq_true_iff_forall_mem.1 hG o (Array.mem_of_getElem? ho)
        simpa using h
      have hwt : Region.wanted o (yielded ops (putL ops l vals (List.range n) a).tmps) = true := by unfold Region.wanted; rw [hg]
      unfold wpOp
      rw [ho]
      simp only [hwt, if_true]
      refine .inl (hop i o hin ho _ w' hC ?_ (fun t ht => putL_other l vals _ _ fun j hj => by simpa using List.all_eq_true.1 ht j (List.mem_range.2 (Nat.lt_of_lt_of_le (List.mem_range.1 hj) hn))) _ ?_)
      · intro j t hp hd
        unfold preB at hp
        rw [ho] at hp
        obtain ⟨k, hk, hbe⟩ := Array.any_eq_true.1 (show (o.after.any fun e => Region.binds .any e && decide (e.on = j)) = true from hp)
        have he : o.after[k] ∈ o.after := Array.getElem_mem hk
        generalize o.after[k] = e at hbe he
        simp only [Bool.and_eq_true, decide_eq_true_eq] at hbe
        obtain ⟨hb, rfl⟩ := hbe
        have hl := hall e he hb
        have hj' : e.on < n := Classical.byContradiction fun hge => by rw [ht e.on (by omega)] at hl; cases hl
        exact ⟨vals e.on, hV _ hl, putL_slot hD l vals hd hl a (hsz _ _ hd) _ hj'⟩
      · intro v w'' hv hC' hbl
        have hdo : o.dst = dstR ops i := by simp [dstR, ho]
        rw [hdo, ← putL_step hD l vals i v a (by omega) h1 _ hin]
        refine ih _ _ w'' (by simpa using hs) (fun t htn => by rw [getD_other l (by omega)]; exact ht t htn) hC' (fun j hj => ?_) ?_
        · by_cases e : j = i
          · subst e; simp [upd, hv]
          · rw [getD_other l e] at hj
            simpa [upd, e] using hst j _ w' w'' hbl (hV j hj)
        · have hil : i < l.toList.length := by simpa using (by omega : i < l.size)
          have h2 : l.toList[i] = false := by
            have hil' : i < l.size := by omega
            simpa [Array.getD, hil'] using h1
          have h3 : l.toList.count false = (l.toList.set i true).count false + 1 := by
            have h4 : 0 < l.toList.count false := List.count_pos_iff.2 (by rw [← h2]; exact List.getElem_mem hil)
            rw [List.count_set hil, h2, if_pos (by decide), if_neg (by decide)]
            omega
          rw [Array.toList_setIfInBounds]
          omega
  have h0 : ∀ j, (Array.replicate ops.size false).getD j false = false := by
    intro j
    rw [Array.getD_eq_getD_getElem?, Array.getElem?_replicate]
    split <;> rfl
  have h := key n (Array.replicate ops.size false) (fun _ => undef) w.drew (by simp) (fun t _ => h0 t) hC (fun j hj => by rw [h0] at hj; cases hj) (by rw [Array.toList_replicate, List.count_replicate_self]; omega)
  rw [putL_none _ _ _ _ fun j _ => h0 j, show n + (ops.size - n) = ops.size by omega] at h
  exact h
end
end Go.Proofs.YtadkaplafaeebaaGreatDoor
/-
  The law of Rel where operations are guarded: each one is told to be wanted.
-/
set_option linter.unusedVariables false
set_option linter.unusedSimpArgs false
namespace Go.Proofs.YtadkaplafaeebaaGreatDoor
open Go Go.RowKit

section
variable {P : Program} {ops : Array Oper}
theorem wp_region_relG {id : Nat} {Q : Exit → Act → World → Prop} {a : Act} {w : World} (V : Nat → Value → Prop) (C : World → Prop) (hm : P.follows .mixedOrders = true) (hD : dstB ops = true) (hB : backB ops = true) (hC : C w.drew)
    (hS : szB ops a.tmps.size = true)
    (hop : ∀ i o, ops[i]? = some o → ∀ (a' : Act) (w' : World), C w' → (∀ j t, preB ops i j = true → dstR ops j = some t → ∃ v, V j v ∧ a'.tmps[t]? = some v) → (∀ t, fixB ops t = true → a'.tmps[t]? = a.tmps[t]?) →
      Region.wanted o (yielded ops a'.tmps) = true ∧ ∀ K : Act → World → Prop, (∀ v w'', V i v → C w'' → K (a'.put o.dst v) w'') → o.wp P a' w' K Q)
    (hend : ∀ (vals : Nat → Value) (w' : World), C w' → (∀ i, i < ops.size → V i (vals i)) → Q .normal (putA ops vals (List.range ops.size) a) w') : (Code.region id ops true).wp P Q a w := by
  have hsz : ∀ i t, dstR ops i = some t → t < a.tmps.size := fun i t hd => by
    have hi : i < ops.size := by
      rcases Nat.lt_or_ge i ops.size with h' | h'
      · exact h'
      · simp [dstR, Array.getElem?_eq_none h'] at hd
    have h1 := List.all_eq_true.1 hS i (List.mem_range.2 hi)
    rw [hd] at h1
    simpa using h1
  refine wp_region_any hm ?_
  have all : ∀ (l : Array Bool) (vals : Nat → Value) (w' : World), C w' → (∀ j, l.getD j false = true → V j (vals j)) → (∀ j, j < ops.size → l.getD j false = true) → Q .normal (putL ops l vals (List.range ops.size) a) w' := fun l vals w' hC hV hl => by
    rw [putL_all l vals _ _ fun j hj => hl j (List.mem_range.1 hj)]
    exact hend vals w' hC fun i hi => hV i (hl i hi)
  have key : ∀ (fuel : Nat) (l : Array Bool) (vals : Nat → Value) (w' : World), l.size = ops.size → C w' → (∀ j, l.getD j false = true → V j (vals j)) → l.toList.count false ≤ fuel → wpAny P .any ops Q fuel l (putL ops l vals (List.range ops.size) a) w' := by
    have gd : ∀ (l : Array Bool) (j : Nat), l.size = ops.size → j < ops.size → l.getD j true = l.getD j false := fun l j hs hj => by
      have : j < l.size := by omega
      simp [Array.getD, this]
    have done : ∀ (l : Array Bool), l.size = ops.size → Region.ready .any ops l = [] → ∀ j, j < ops.size → l.getD j false = true := fun l hs hr j => by
      induction j using Nat.strongRecOn with
      | ind j ih =>
        intro hj
        refine Classical.byContradiction fun hc => ?_
        have hc : l.getD j false = false := by simpa using hc
        have hm : j ∈ Region.ready .any ops l := mem_ready.2 ⟨by rw [gd l j hs hj]; exact hc, ops[j], Array.getElem?_eq_getElem hj, fun e he hb => by
          have h1 := List.all_eq_true.1 hB j (List.mem_range.2 hj)
          rw [Array.getElem?_eq_getElem hj] at h1
          have h2 := Array.all_eq_true_iff_forall_mem.1 h1 e he
          have h3 : e.on < j := by simpa [hb] using h2
          exact ih _ h3 (by omega)⟩
        rw [hr] at hm
        cases hm
    intro fuel
    induction fuel with
    | zero =>
      intro l vals w' hs hC hV hc
      have hl : ∀ j, j < ops.size → l.getD j false = true := fun j hj => by
        have h0 : l.toList.count false = 0 := by omega
        have h1 := List.count_eq_zero.1 h0
        have hjl : j < l.size := by omega
        have h2 : l[j] ≠ false := fun e => h1 (by rw [← e]; exact Array.getElem_mem_toList hjl)
        simpa [Array.getD, hjl] using h2
      refine ⟨List.eq_nil_iff_forall_not_mem.2 fun j hj => ?_, all l vals w' hC hV hl⟩
      obtain ⟨h1, o, ho, _⟩ := mem_ready.1 hj
      have hj' : j < ops.size := (Array.getElem?_eq_some_iff.1 ho).1
      rw [gd l j hs hj', hl j hj'] at h1
      cases h1
    | succ fuel ih =>
      intro l vals w' hs hC hV hc
      refine ⟨fun hr => all l vals w' hC hV (done l hs hr), fun i hi => ?_⟩
      obtain ⟨h1, o, ho, hall⟩ := mem_ready.1 hi
      have hi' : i < ops.size := (Array.getElem?_eq_some_iff.1 ho).1
      rw [gd l i hs hi'] at h1
      have hin : ∀ j t, preB ops i j = true → dstR ops j = some t → ∃ v, V j v ∧ (putL ops l vals (List.range ops.size) a).tmps[t]? = some v := by
        intro j t hp hd
        unfold preB at hp
        rw [ho] at hp
        obtain ⟨k, hk, hbe⟩ := Array.any_eq_true.1 (show (o.after.any fun e => Region.binds .any e && decide (e.on = j)) = true from hp)
        have he : o.after[k] ∈ o.after := Array.getElem_mem hk
        generalize o.after[k] = e at hbe he
        simp only [Bool.and_eq_true, decide_eq_true_eq] at hbe
        obtain ⟨hb, rfl⟩ := hbe
        have hl := hall e he hb
        have hj' : e.on < ops.size := by
          rcases Nat.lt_or_ge e.on ops.size with h' | h'
          · exact h'
          · simp [dstR, Array.getElem?_eq_none h'] at hd
        exact ⟨vals e.on, hV _ hl, putL_slot hD l vals hd hl a (hsz _ _ hd) _ hj'⟩
      obtain ⟨hwt, hgo⟩ := hop i o ho _ w' hC hin (fun t ht => putL_other l vals _ _ fun j hj => by simpa using List.all_eq_true.1 ht j hj)
      unfold wpOp
      rw [ho]
      simp only [hwt, if_true]
      refine .inl (hgo _ ?_)
      · intro v w'' hv hC'
        have hdo : o.dst = dstR ops i := by simp [dstR, ho]
        rw [hdo, ← putL_step hD l vals i v a (by omega) h1 _ hi']
        refine ih _ _ w'' (by simpa using hs) hC' (fun j hj => ?_) ?_
        · by_cases e : j = i
          · subst e; simp [upd, hv]
          · rw [getD_other l e] at hj
            simp [upd, e, hV j hj]
        · have hil : i < l.toList.length := by simpa using (by omega : i < l.size)
          have h2 : l.toList[i] = false := by
            have hil' : i < l.size := by omega
            simpa [Array.getD, hil'] using h1
          have h3 : l.toList.count false = (l.toList.set i true).count false + 1 := by
            have h4 : 0 < l.toList.count false := List.count_pos_iff.2 (by rw [← h2]; exact List.getElem_mem hil)
            rw [List.count_set hil, h2, if_pos (by decide), if_neg (by decide)]
            omega
          rw [Array.toList_setIfInBounds]
          omega
  have h0 : ∀ j, (Array.replicate ops.size false).getD j false = false := by
    intro j
    rw [Array.getD_eq_getD_getElem?, Array.getElem?_replicate]
    split <;> rfl
  have h := key ops.size (Array.replicate ops.size false) (fun _ => undef) w.drew (by simp) hC (fun j hj => by rw [h0] at hj; cases hj) (Nat.le_trans List.count_le_length (by simp))
  rwa [putL_none _ _ _ _ fun j _ => h0 j] at h
end
end Go.Proofs.YtadkaplafaeebaaGreatDoor
/-
  Tunnels.
-/
set_option linter.unusedVariables false
set_option linter.unusedSimpArgs false
namespace Go.Proofs.YtadkaplafaeebaaGreatDoor
open Go Go.RowKit Go.Shelf

theorem own_slice {w W : World} {v : Value} {l : List Sol} (h : OwnSols w W v l) : ∃ p cap, v = .slice p l.length cap := by
  rcases h.1.2 with ⟨h1, h2⟩ | ⟨g, cap, cur, h1, _⟩
  · exact ⟨none, 0, by rw [h1, h2]⟩
  · exact ⟨_, _, h1⟩
set_option maxRecDepth 100000 in
set_option maxHeartbeats 4000000 in
theorem tunnels_ok (f : Sol) (a b : Nat) (c : Int) (w : World) (hf : Fit f) (hT : Tab64 w) (ha : (partsF f).length = a) (hb : (cavF f).length = b) (hc : eulF f = c) (ba : a ≤ 100000) (bb : b ≤ 100000) (bc : -100000 ≤ c ∧ c ≤ 100000) :
    Calls Tryz.prog 78 #[sol f] w fun e w' => e = .returned (.int .i64 ((a : Int) + (b : Int) - c)) ∧ Below w.heap.size w w' := by
  have HP : ∀ W, Tab64 W → Calls Tryz.prog 72 #[sol f] W fun e w' => (∃ p cap, e = .returned (.slice p a cap)) ∧ Below W.heap.size W w' := fun W hT => (parts_ok f W hf hT).mono fun e w' ⟨v, he, ho, hb⟩ => by
    obtain ⟨p, cap, rfl⟩ := own_slice ho
    rw [ha] at he
    exact ⟨⟨p, cap, he⟩, hb⟩
  have HC : ∀ W, Tab64 W → Calls Tryz.prog 74 #[sol f] W fun e w' => (∃ p cap, e = .returned (.slice p b cap)) ∧ Below W.heap.size W w' := fun W hT => (cav_ok f W hf hT).mono fun e w' ⟨v, he, ho, hbb⟩ => by
    obtain ⟨p, cap, rfl⟩ := own_slice ho
    rw [hb] at he
    exact ⟨⟨p, cap, he⟩, hbb⟩
  have HE0 : ∀ W, Tab64 W → Calls Tryz.prog 76 #[sol f] W fun e w' => e = .returned (.int .i64 c) ∧ Below W.heap.size W w' := fun W hT => by
    have := euler_ok f W hf hT
    rwa [hc] at this
  have HPP := Lib.hid HP
  have HCC := Lib.hid HC
  have HE := Lib.hid HE0
  have HT := Lib.hid hT
  clear HP HC HE0 hf hT ha hb hc
  obtain ⟨bc1, bc2⟩ := bc
  have b1 : BoxS (w.alloc (.cells (solC f) 24)) w.heap.size f := BoxS.new w f
  have hA : Below w.heap.size w (w.alloc (.cells (solC f) 24)) := by repeat' (first | (with_reducible exact Below.refl _ _) | (with_reducible assumption) | (with_reducible refine Below.alloc ?_ ?_ _) | (with_reducible refine Below.drew ?_) | (with_reducible refine below_drewN ?_ _) | (with_reducible refine Below.setCell ?_ ?_ _) | go_size)
  have hT0 := Lib.hid (HT.out.below hA (Nat.le_refl _))
  go_enter Tryz.func78, Tryz.ntmps78
  go_wp2
  obtain ⟨W0, hW0⟩ : ∃ W0, W0 = w.alloc (.cells (solC f) 24) := ⟨_, rfl⟩
  rw [← hW0] at b1 hA hT0 ⊢
  have hA0 : Below w.heap.size w W0.drew := hA.drew
  have hs := hA.size
  have l0 := b1.lt
  clear hW0
  have hCd : Below W0.heap.size W0 W0.drew := Below.drew (Below.refl _ _)
  refine wp_region_rel (fun i v => match i with
    | 0 => v = sol f | 1 => ∃ p cap, v = .slice p a cap | 2 => v = .int .i64 a | 3 => v = sol f | 4 => ∃ p cap, v = .slice p b cap | 5 => v = .int .i64 b
    | 6 => v = .int .i64 ((a : Int) + b) | 7 => v = sol f | 8 => v = .int .i64 c | _ => v = .int .i64 ((a : Int) + b - c)) (fun W => Below W0.heap.size W0 W) (by kernel_rfl) (by kernel_rfl) (by kernel_rfl) hCd (by kernel_rfl) (by kernel_rfl) ?hop ?hend
  case hop =>
    intro i o ho a' W hC hin hfix K hK
    have bS := b1.below hC l0
    have hT1 := Lib.hid (hT0.out.below hC (Nat.le_refl _))
    have hi : i < 11 := (Array.getElem?_eq_some_iff.1 ho).1
    have q1 : a'.tmps[1]? = some (.pointer (some ⟨w.heap.size, 0, none⟩)) := hfix 1 (by kernel_rfl)
    have wk1 : IntKind.i64.wrap ((a : Int) + b) = (a : Int) + b := IntWalk.i64_in _ (by omega)
    have wk2 : IntKind.i64.wrap ((a : Int) + b - c) = (a : Int) + b - c := IntWalk.i64_in _ (by omega)
    have d0 := (bS).cell (k := 0) (by omega); have d1 := (bS).cell (k := 1) (by omega); have d2 := (bS).cell (k := 2) (by omega); have d3 := (bS).cell (k := 3) (by omega); have d4 := (bS).cell (k := 4) (by omega); have d5 := (bS).cell (k := 5) (by omega); have d6 := (bS).cell (k := 6) (by omega); have d7 := (bS).cell (k := 7) (by omega)
    rcases (show i = 0 ∨ i = 1 ∨ i = 2 ∨ i = 3 ∨ i = 4 ∨ i = 5 ∨ i = 6 ∨ i = 7 ∨ i = 8 ∨ i = 9 ∨ i = 10 by omega) with rfl | rfl | rfl | rfl | rfl | rfl | rfl | rfl | rfl | rfl | rfl
    · obtain rfl := Option.some.inj ho
      clear hin hfix ho
      go_simp
      exact hK _ _ rfl hC
    · obtain ⟨v0, rfl, h0⟩ := hin 0 3 (by kernel_rfl) (by kernel_rfl)
      obtain rfl := Option.some.inj ho
      clear hin hfix ho
      go_simp
      refine (HPP.out W hT1.out).mono ?_
      rintro e W2 ⟨he, hb⟩
      obtain ⟨p, cap, rfl⟩ := he
      exact hK _ _ ⟨p, cap, rfl⟩ (hC.trans (hb.mono hC.size))
    · obtain ⟨v1, ⟨p1, cap1, rfl⟩, h1⟩ := hin 1 4 (by kernel_rfl) (by kernel_rfl)
      obtain rfl := Option.some.inj ho
      clear hin hfix ho
      go_simp
      exact hK _ _ rfl hC
    · obtain rfl := Option.some.inj ho
      clear hin hfix ho
      go_simp
      exact hK _ _ rfl hC
    · obtain ⟨v3, rfl, h3⟩ := hin 3 6 (by kernel_rfl) (by kernel_rfl)
      obtain rfl := Option.some.inj ho
      clear hin hfix ho
      go_simp
      refine (HCC.out W hT1.out).mono ?_
      rintro e W2 ⟨he, hb⟩
      obtain ⟨p, cap, rfl⟩ := he
      exact hK _ _ ⟨p, cap, rfl⟩ (hC.trans (hb.mono hC.size))
    · obtain ⟨v4, ⟨p4, cap4, rfl⟩, h4⟩ := hin 4 7 (by kernel_rfl) (by kernel_rfl)
      obtain rfl := Option.some.inj ho
      clear hin hfix ho
      go_simp
      exact hK _ _ rfl hC
    · obtain ⟨v2, rfl, h2⟩ := hin 2 5 (by kernel_rfl) (by kernel_rfl)
      obtain ⟨v5, rfl, h5⟩ := hin 5 8 (by kernel_rfl) (by kernel_rfl)
      obtain rfl := Option.some.inj ho
      clear hin hfix ho
      go_simp
      exact hK _ _ rfl hC
    · obtain rfl := Option.some.inj ho
      clear hin hfix ho
      go_simp
      exact hK _ _ rfl hC
    · obtain ⟨v7, rfl, h7⟩ := hin 7 10 (by kernel_rfl) (by kernel_rfl)
      obtain rfl := Option.some.inj ho
      clear hin hfix ho
      go_simp
      refine (HE.out W hT1.out).mono ?_
      rintro e W2 ⟨he, hb⟩
      subst he
      exact hK _ _ rfl (hC.trans (hb.mono hC.size))
    · obtain ⟨v6, rfl, h6⟩ := hin 6 9 (by kernel_rfl) (by kernel_rfl)
      obtain ⟨v8, rfl, h8⟩ := hin 8 11 (by kernel_rfl) (by kernel_rfl)
      obtain rfl := Option.some.inj ho
      clear hin hfix ho
      go_simp
      exact hK _ _ rfl hC
    · obtain ⟨v9, rfl, h9⟩ := hin 9 12 (by kernel_rfl) (by kernel_rfl)
      obtain rfl := Option.some.inj ho
      clear hin hfix ho
      go_simp
      exact hK _ _ rfl hC
  case hend =>
    intro vals W hC hV
    have r0 := hV 0 (by decide)
    obtain ⟨p1, cap1, r1⟩ := hV 1 (by decide)
    have r2 := hV 2 (by decide)
    have r3 := hV 3 (by decide)
    obtain ⟨p4, cap4, r4⟩ := hV 4 (by decide)
    have r5 := hV 5 (by decide)
    have r6 := hV 6 (by decide)
    have r7 := hV 7 (by decide)
    have r8 := hV 8 (by decide)
    have r9 := hV 9 (by decide)
    have r10 := hV 10 (by decide)
    generalize hA2 : putA _ vals _ _ = A
    have eA : A = { tmps := #[sol f, .pointer (some ⟨w.heap.size, 0, none⟩), vals 10, vals 0, vals 1, vals 2, vals 3, vals 4, vals 5, vals 6, vals 7, vals 8, vals 9], defers := [] } := hA2.symm.trans (by kernel_rfl)
    rw [eA]
    clear hA2 eA
    simp only at r0 r2 r3 r5 r6 r7 r8 r9 r10
    rw [r0, r1, r2, r3, r4, r5, r6, r7, r8, r9, r10]
    clear A hV r0 r1 r2 r3 r4 r5 r6 r7 r8 r9 r10
    go_wp2
    go_ret
    exact ⟨rfl, hA.trans (hC.mono hA.size)⟩
end Go.Proofs.YtadkaplafaeebaaGreatDoor
