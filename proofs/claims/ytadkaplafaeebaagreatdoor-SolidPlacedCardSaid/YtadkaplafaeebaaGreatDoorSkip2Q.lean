/-
  A drawn region walked once: operations that are passed over, all at once, also those whose guard was passed over itself.
-/
import Derived.Test.YtadkaplafaeebaaGreatDoorPkTAQ
set_option linter.unusedVariables false
set_option linter.unusedSimpArgs false
namespace Go.Proofs.YtadkaplafaeebaaGreatDoor
open Go Go.RowKit

section
variable {P : Program} {ops : Array Oper} {C : World → Prop} {Q : Act → Prop}
/-- Each operation's guard is the one that is told, or an operation that was passed over. -/
def offD (ops : Array Oper) (j : Nat) (b : Bool) (t : Nat) : List Nat → List Oper → Bool
  | _, [] => true
  | dead, o :: l => (match o.guard with
      | some (i, c) => (decide (i = j) && decide (c = b)) || (match dstR ops i with
        | some s => dead.contains s
        | none => false)
      | none => false) && decide (o.dst ≠ some t) && offD ops j b t (match o.dst with
      | some d => d :: dead
      | none => dead) l
theorem put_undef {a : Act} {d : Option Tmp} {s : Nat} (h : (∀ c, a.tmps[s]? ≠ some (.bool c)) ∨ d = some s) : ∀ c, (a.put d undef).tmps[s]? ≠ some (.bool c) := by
  intro c
  cases d with
  | none =>
    rcases h with h | h
    · exact h c
    · cases h
  | some d =>
    show (a.tmps.setIfInBounds d undef)[s]? ≠ some (.bool c)
    rw [Array.getElem?_setIfInBounds]
    split
    · split
      · intro e; injection e with e; unfold undef at e; cases e
      · intro e; cases e
    · rename_i hne
      rcases h with h | h
      · exact h c
      · injection h with h; exact absurd h hne
theorem wpQuiet_offsD (j : Nat) (b : Bool) (t : Nat) (hd : dstR ops j = some t) : ∀ (l rest : List Oper) (dead : List Nat) (a : Act), offD ops j b t dead l = true → a.tmps[t]? = some (.bool (!b)) → (∀ s ∈ dead, ∀ c, a.tmps[s]? ≠ some (.bool c)) →
    wpQuiet P ops C Q rest (putU l a) → wpQuiet P ops C Q (l ++ rest) a
  | [], rest, dead, a, _, _, _, h => h
  | o :: l, rest, dead, a, hl, ht, hdd, h => by
    unfold offD at hl
    rw [Bool.and_eq_true, Bool.and_eq_true] at hl
    obtain ⟨⟨h1, h2⟩, h3⟩ := hl
    have h2 := of_decide_eq_true h2
    have hw : Region.wanted o (yielded ops a.tmps) = false := by
      unfold Region.wanted
      cases hg : o.guard with
      | none => rw [hg] at h1; cases h1
      | some g =>
        obtain ⟨i, c⟩ := g
        rw [hg] at h1
        simp only [Bool.or_eq_true, Bool.and_eq_true, decide_eq_true_eq] at h1
        simp only
        rcases h1 with ⟨rfl, rfl⟩ | h1
        · have e : yielded ops a.tmps i = some (!c) := by
            unfold yielded
            rw [show (ops[i]?).bind (·.dst) = some t from hd]
            simp [ht]
          rw [e]
          cases c <;> rfl
        · cases hs : dstR ops i with
          | none => rw [hs] at h1; cases h1
          | some s =>
            rw [hs] at h1
            have hm : s ∈ dead := by simpa using h1
            have hn := hdd s hm
            have e : yielded ops a.tmps i = none := by
              unfold yielded
              rw [show (ops[i]?).bind (·.dst) = some s from hs]
              split
              · rename_i c' hc'; exact absurd hc' (hn c')
              · rfl
            rw [e]
            rfl
    refine BigFrame.wpQuiet_skip hw (wpQuiet_offsD j b t hd l rest _ _ h3 (by rw [put_keep _ h2]; exact ht) ?_ h)
    intro s hs
    refine put_undef ?_
    cases ho : o.dst with
    | none => rw [ho] at hs; exact .inl (hdd s hs)
    | some d =>
      rw [ho] at hs
      rcases List.mem_cons.1 hs with rfl | hs
      · exact .inr rfl
      · exact .inl (hdd s hs)
theorem wpQuiet_offD (n j : Nat) (b : Bool) (t : Nat) {L : List Oper} {a : Act} (hd : dstR ops j = some t) (hl : offD ops j b t [] (L.take n) = true) (ht : a.tmps[t]? = some (.bool (!b))) (h : wpQuiet P ops C Q (L.drop n) (putU (L.take n) a)) : wpQuiet P ops C Q L a := by
  have := wpQuiet_offsD (P := P) (C := C) (Q := Q) j b t hd (L.take n) (L.drop n) [] a hl ht (fun s hs => by cases hs) h
  rwa [List.take_append_drop] at this
end
end Go.Proofs.YtadkaplafaeebaaGreatDoor
