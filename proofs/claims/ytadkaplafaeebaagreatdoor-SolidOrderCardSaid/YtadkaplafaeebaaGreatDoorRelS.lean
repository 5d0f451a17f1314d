/-
  The law of RelT with a relation of one's own between the worlds: for regions whose stores are drawn, too.
-/
import Derived.Test.YtadkaplafaeebaaGreatDoorPkP
set_option linter.unusedVariables false
set_option linter.unusedSimpArgs false
namespace Go.Proofs.YtadkaplafaeebaaGreatDoor
open Go Go.RowKit

section
variable {P : Program} {ops : Array Oper}
theorem wp_region_relS {id : Nat} {Q : Exit → Act → World → Prop} {a : Act} {w : World} (n : Nat) (V : Nat → Value → World → Prop) (S : World → World → Prop) (C : World → Prop) (hm : P.follows .mixedOrders = true) (hD : dstB ops = true) (hB : backB ops = true)
    (hS : szB ops a.tmps.size = true) (hG : freeB ops = true) (hn : decide (n ≤ ops.size) = true) (hTl : tailB ops n = true) (hseq : Region.seqB .any ops (ops.size - n) n (Array.replicate n true ++ Array.replicate (ops.size - n) false) = true) (hC : C w.drew)
    (hst : ∀ j v w w', S w w' → V j v w → V j v w')
    (hop : ∀ i o, i < n → ops[i]? = some o → ∀ (a' : Act) (w' : World), C w' → (∀ j t, preB ops i j = true → dstR ops j = some t → ∃ v, V j v w' ∧ a'.tmps[t]? = some v) → (∀ t, fixB ops t = true → a'.tmps[t]? = a.tmps[t]?) →
      ∀ K : Act → World → Prop, (∀ v w'', V i v w'' → C w'' → S w' w'' → K (a'.put o.dst v) w'') → o.wp P a' w' K Q)
    (hend : ∀ (vals : Nat → Value) (w' : World), C w' → (∀ i, i < n → V i (vals i) w') → wpList P ops Q (ops.toList.drop n) (putA ops vals (List.range n) a) w') : (Code.region id ops true).wp P Q a w := by
  have hsz : ∀ i t, dstR ops i = some t → t < a.tmps.size := fun i t hd => by
    have hi : i < ops.size := by
      rcases Nat.lt_or_ge i ops.size with h' | h'
      · exact h'
      · simp [dstR, Array.getElem?_eq_none h'] at hd
    have h1 := List.all_eq_true.1 hS i (List.mem_range.2 hi)
    rw [hd] at h1
    simpa using h1
  have hn : n ≤ ops.size := of_decide_eq_true hn
  refine wp_region_any hm ?_
  have gd : ∀ (l : Array Bool) (j : Nat), l.size = ops.size → j < ops.size → l.getD j true = l.getD j false := fun l j hs hj => by
    have : j < l.size := by omega
    simp [Array.getD, this]
  -- the list of those that are through, parted in head and tail
  have parts : ∀ l : Array Bool, l.size = ops.size → (∀ t, n ≤ t → l.getD t false = false) → (∀ j, j < n → l.getD j false = true) → l = Array.replicate n true ++ Array.replicate (ops.size - n) false := fun l hs ht hh => by
    apply Array.ext
    · simp; omega
    · intro j h1 h2
      have e : l.getD j false = l[j] := by simp [Array.getD, h1]
      by_cases hj : j < n
      · rw [← e, hh j hj, Array.getElem_append_left (by simpa using hj)]; simp
      · rw [← e, ht j (by omega), Array.getElem_append_right (by simp; omega)]; simp
  have key : ∀ (fuel : Nat) (l : Array Bool) (vals : Nat → Value) (w' : World), l.size = ops.size → (∀ t, n ≤ t → l.getD t false = false) → C w' → (∀ j, l.getD j false = true → V j (vals j) w') → l.toList.count false = fuel + (ops.size - n) →
      wpAny P .any ops Q (fuel + (ops.size - n)) l (putL ops l vals (List.range n) a) w' := by
    have cnt : ∀ l : Array Bool, l = Array.replicate n true ++ Array.replicate (ops.size - n) false → l.toList.count false = ops.size - n := fun l e => by
      rw [e]
      simp [List.count_replicate]
    intro fuel
    induction fuel with
    | zero =>
      intro l vals w' hs ht hC hV hc
      rw [Nat.zero_add] at hc ⊢
      have hl : ∀ j, j < n → l.getD j false = true := fun j hj => Classical.byContradiction fun hne => by
        have hne : l.getD j false = false := by simpa using hne
        have hjl : j < l.toList.length := by simp; omega
        have hdrop : (l.toList.drop n).count false = ops.size - n := by
          rw [List.count_eq_length.2, List.length_drop]
          · simp; omega
          · intro b hb
            obtain ⟨k, hk, rfl⟩ := List.getElem_of_mem hb
            rw [List.getElem_drop]
            have h1 := ht (n + k) (by omega)
            rw [List.length_drop] at hk
            have hk' : n + k < l.size := by simpa using (by omega : n + k < l.toList.length)
            simpa [Array.getD, hk'] using h1.symm
        have htake : 0 < (l.toList.take n).count false := List.count_pos_iff.2 (by
          have hjl' : j < l.size := by simpa using hjl
          have e : l.getD j false = l[j] := by simp [Array.getD, hjl']
          refine List.mem_iff_getElem.2 ⟨j, by simp; omega, ?_⟩
          rw [List.getElem_take, Array.getElem_toList, ← e, hne])
        have hsum : l.toList.count false = (l.toList.take n).count false + (l.toList.drop n).count false := by rw [← List.count_append, List.take_append_drop]
        omega
      have e := parts l hs ht hl
      rw [putL_all l vals _ _ fun j hj => hl j (List.mem_range.1 hj)]
      have h := wpAny_of_seq (md := .any) (Q' := Q) (ops.toList.drop n) n l (putA ops vals (List.range n) a) w' (fun j => by rw [List.getElem?_drop, Array.getElem?_toList]) (by rw [List.length_drop, Array.length_toList, e]; exact hseq) (hend vals w' hC fun i hi => hV i (hl i hi))
      rwa [List.length_drop, Array.length_toList] at h
    | succ fuel ih =>
      intro l vals w' hs ht hC hV hc
      -- a head operation that is not through
      have hex : ∃ j, j < n ∧ l.getD j false = false := Classical.byContradiction fun hne => by
        have hl : ∀ j, j < n → l.getD j false = true := fun j hj => Classical.byContradiction fun h1 => hne ⟨j, hj, by simpa using h1⟩
        have := cnt l (parts l hs ht hl)
        omega
      have hrd : Region.ready .any ops l ≠ [] := by
        obtain ⟨j, hj, h0⟩ := hex
        induction j using Nat.strongRecOn with
        | ind j ihj =>
          by_cases hp : ∃ k, k < j ∧ l.getD k false = false
          · obtain ⟨k, hk, hk0⟩ := hp
            exact ihj k hk (by omega) hk0
          · have hj' : j < ops.size := by omega
            have hmr : j ∈ Region.ready .any ops l := mem_ready.2 ⟨by rw [gd l j hs hj']; exact h0, ops[j], Array.getElem?_eq_getElem hj', fun e he hb => by
              have h1 := List.all_eq_true.1 hB j (List.mem_range.2 hj')
              rw [Array.getElem?_eq_getElem hj'] at h1
              have h2 := Array.all_eq_true_iff_forall_mem.1 h1 e he
              have h3 : e.on < j := by simpa [hb] using h2
              exact Classical.byContradiction fun h4 => hp ⟨e.on, h3, by simpa using h4⟩⟩
            exact List.ne_nil_of_mem hmr
      rw [show fuel + 1 + (ops.size - n) = fuel + (ops.size - n) + 1 by omega]
      refine ⟨fun hr => absurd hr hrd, fun i hi => ?_⟩
      obtain ⟨h1, o, ho, hall⟩ := mem_ready.1 hi
      have hi' : i < ops.size := (Array.getElem?_eq_some_iff.1 ho).1
      rw [gd l i hs hi'] at h1
      have hin : i < n := Classical.byContradiction fun hge => by
        obtain ⟨j, hj, h0⟩ := hex
        have h2 := List.all_eq_true.1 hTl i (List.mem_range.2 hi')
        have h3 : (List.range n).all (fun j => preB ops i j) = true := by simpa [hge] using h2
        have h4 := List.all_eq_true.1 h3 j (List.mem_range.2 hj)
        unfold preB at h4
        rw [ho] at h4
        obtain ⟨k, hk, hbe⟩ := Array.any_eq_true.1 (show (o.after.any fun e => Region.binds .any e && decide (e.on = j)) = true from h4)
        have he : o.after[k] ∈ o.after := Array.getElem_mem hk
        generalize o.after[k] = e at hbe he
        simp only [Bool.and_eq_true, decide_eq_true_eq] at hbe
        have h5 := hall e he hbe.1
        rw [hbe.2, h0] at h5
        cases h5
      have hg : o.guard = none := by
        have h := Array.all_eq_true_iff_forall_mem.1 hG o (Array.mem_of_getElem? ho)
        simpa using h
      have hwt : Region.wanted o (yielded ops (putL ops l vals (List.range n) a).tmps) = true := by unfold Region.wanted; rw [hg]
      unfold wpOp
      rw [ho]
      simp only [hwt, if_true]
      refine .inl (hop i o hin ho _ w' hC ?_ (fun t ht => putL_other l vals _ _ fun j hj => by simpa using List.all_eq_true.1 ht j (List.mem_range.2 (Nat.lt_of_lt_of_le (List.mem_range.1 hj) hn))) _ ?_)
      · intro j t hp hd
        unfold preB at hp
        rw [ho] at hp
        obtain ⟨k, hk, hbe⟩ := Array.any_eq_true.1 (show (o.after.any fun e => Region.binds .any e && decide (e.on = j)) = true from hp)
        have he : o.after[k] ∈ o.after := Array.getElem_mem hk
        generalize o.after[k] = e at hbe he
        simp only [Bool.and_eq_true, decide_eq_true_eq] at hbe
        obtain ⟨hb, rfl⟩ := hbe
        have hl := hall e he hb
        have hj' : e.on < n := Classical.byContradiction fun hge => by rw [ht e.on (by omega)] at hl; cases hl
        exact ⟨vals e.on, hV _ hl, putL_slot hD l vals hd hl a (hsz _ _ hd) _ hj'⟩
      · intro v w'' hv hC' hbl
        have hdo : o.dst = dstR ops i := by simp [dstR, ho]
        rw [hdo, ← putL_step hD l vals i v a (by omega) h1 _ hin]
        refine ih _ _ w'' (by simpa using hs) (fun t htn => by rw [getD_other l (by omega)]; exact ht t htn) hC' (fun j hj => ?_) ?_
        · by_cases e : j = i
          · subst e; simp [upd, hv]
          · rw [getD_other l e] at hj
            simpa [upd, e] using hst j _ w' w'' hbl (hV j hj)
        · have hil : i < l.toList.length := by simpa using (by omega : i < l.size)
          have h2 : l.toList[i] = false := by
            have hil' : i < l.size := by omega
            simpa [Array.getD, hil'] using h1
          have h3 : l.toList.count false = (l.toList.set i true).count false + 1 := by
            have h4 : 0 < l.toList.count false := List.count_pos_iff.2 (by rw [← h2]; exact List.getElem_mem hil)
            rw [List.count_set hil, h2, if_pos (by decide), if_neg (by decide)]
            omega
          rw [Array.toList_setIfInBounds]
          omega
  have h0 : ∀ j, (Array.replicate ops.size false).getD j false = false := by
    intro j
    rw [Array.getD_eq_getD_getElem?, Array.getElem?_replicate]
    split <;> rfl
  have h := key n (Array.replicate ops.size false) (fun _ => undef) w.drew (by simp) (fun t _ => h0 t) hC (fun j hj => by rw [h0] at hj; cases hj) (by rw [Array.toList_replicate, List.count_replicate_self]; omega)
  rw [putL_none _ _ _ _ fun j _ => h0 j, show n + (ops.size - n) = ops.size by omega] at h
  exact h
end
end Go.Proofs.YtadkaplafaeebaaGreatDoor
