/-
  The chapter's examples, evaluated.
-/
import Derived.Test.YtadkaplafaeebaaGreatDoorPkT
import Derived.Test.YtadkaplafaeebaaGreatDoorThen
import Derived.Test.YtadkaplafaeebaaGreatDoorPkG
import Derived.Test.YtadkaplafaeebaaGreatDoorPkR
import Derived.Test.YtadkaplafaeebaaGreatDoorPkP
import Derived.Test.YtadkaplafaeebaaGreatDoorPkH
import Derived.Test.YtadkaplafaeebaaGreatDoorPkJ
import Derived.Test.YtadkaplafaeebaaGreatDoorPkM
set_option linter.unusedVariables false
namespace Go.Proofs.YtadkaplafaeebaaGreatDoor
open Go Go.RowKit
abbrev ringS : Sol := oneS 460039
abbrev hookS : Sol := oneS 263
/-- The hook as it is placed. -/
abbrev setS : Sol := shiftS (turnedF hookS 1) (-5) 0 0
theorem ev_out : outB (turnedF hookS 1) (-5) 0 0 = false := by decide +kernel
theorem ev_ne : emptyS (turnedF hookS 1) = false := by decide +kernel
theorem ev_set : eqS setS (oneS 263174) = true := by decide +kernel
theorem ev_fit1 : (fitsF ringS hookS).isSome = true := by decide +kernel
theorem ev_fit2 : (fitsF hookS ringS).isSome = false := by decide +kernel
theorem ev_sym : symN ringS 24 = [0, 1, 2, 3, 8, 9, 10, 11] := by decide +kernel
theorem ev_hook : (writeF hookS).data = #[49, 48, 55] := by decide +kernel
end Go.Proofs.YtadkaplafaeebaaGreatDoor
/-
  The chapter's examples, evaluated: images (the sort is replaced by one that evaluates).
-/
set_option linter.unusedVariables false
namespace Go.Proofs.YtadkaplafaeebaaGreatDoor
open Go Go.RowKit Go.Sort Go.Lib
def insOne (x : S8) : List S8 → List S8
  | [] => [x]
  | y :: l => if (ltOf cf8) x y = true then x :: y :: l else y :: insOne x l
def insAll : List S8 → List S8
  | [] => []
  | x :: l => insOne x (insAll l)
def ascB : List S8 → Bool
  | [] => true
  | x :: l => l.all (fun y => !(ltOf cf8) y x) && ascB l
theorem ascB_pair : ∀ l : List S8, ascB l = true → l.Pairwise (fun x y => (!(ltOf cf8) y x) = true)
  | [], _ => List.Pairwise.nil
  | x :: l, h => by
    unfold ascB at h
    rw [Bool.and_eq_true] at h
    exact List.Pairwise.cons (fun y hy => List.all_eq_true.1 h.1 y hy) (ascB_pair l h.2)
theorem sort8_ins (l : List S8) (h1 : (insAll l).isPerm l = true) (h2 : ascB (insAll l) = true) : sort8 l.toArray = (insAll l).toArray := by
  unfold sort8
  congr 1
  refine List.Perm.eq_of_pairwise (le := fun x y => (!(ltOf cf8) y x) = true) ?_ ?_ (ascB_pair _ h2) ((List.mergeSort_perm _ _).trans (List.isPerm_iff.1 h1).symm)
  · intro a b _ _ h1 h2
    simp only [Bool.not_eq_true'] at h1 h2
    exact tot8 a b h2 h1
  · refine List.pairwise_mergeSort ?_ ?_ _
    · intro a b c h1 h2
      simp only [Bool.not_eq_true'] at h1 h2 ⊢
      exact swo8.ntrans c b a h2 h1
    · intro a b
      cases h : (ltOf cf8) b a with
      | false => simp
      | true => simp [swo8.asymmA h]
theorem ev_perm : (insAll ((imgsN ringS 24).map toS)).isPerm ((imgsN ringS 24).map toS) = true := by decide +kernel
theorem ev_asc : ascB (insAll ((imgsN ringS 24).map toS)) = true := by decide +kernel
theorem ev_three : (compactUpTo (insAll ((imgsN ringS 24).map toS)).toArray 24).length = 3 := by decide +kernel
theorem ev_imgs : (imgsF ringS).length = 3 := by
  unfold imgsF once8
  rw [List.length_map, sort8_size, sort8_ins _ ev_perm ev_asc]
  exact ev_three
end Go.Proofs.YtadkaplafaeebaaGreatDoor
/-
  The chapter's examples, evaluated: parts and the like.
-/
set_option linter.unusedVariables false
namespace Go.Proofs.YtadkaplafaeebaaGreatDoor
open Go Go.RowKit
/-- Two cells that touch. -/
def twoS : Sol := fun i => if i = 0 then 1 else if i = 1 then 512 else 0
theorem ev_skin : skinF ringS = 32 := by decide +kernel
theorem ev_euler : eulF ringS = 0 := by decide +kernel
theorem ev_parts : (partsF ringS).length = 1 := by decide +kernel
theorem ev_two : (partsF twoS).length = 1 := by decide +kernel
theorem ev_same : sameB hookS setS = true := by decide +kernel
theorem ev_then : turnI 0 1 (2, 0, 0) = (0, 2, 0) := by decide +kernel
theorem ev_toB : turnI 0 3 (turnI 0 1 (1, 2, 3)) = (1, 2, 3) := by decide +kernel
end Go.Proofs.YtadkaplafaeebaaGreatDoor
