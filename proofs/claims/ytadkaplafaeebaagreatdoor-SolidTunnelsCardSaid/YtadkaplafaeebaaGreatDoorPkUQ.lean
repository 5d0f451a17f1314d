/-
  The chapter's examples, evaluated.
-/
import Derived.Test.YtadkaplafaeebaaGreatDoorPkSQ
import Derived.Test.YtadkaplafaeebaaGreatDoorPkPQ
import Derived.Test.YtadkaplafaeebaaGreatDoorPkGQ
import Derived.Test.YtadkaplafaeebaaGreatDoorPkRQ
import Derived.Test.YtadkaplafaeebaaGreatDoorPkIQ
import Derived.Test.YtadkaplafaeebaaGreatDoorPkMQ
set_option linter.unusedVariables false
namespace Go.Proofs.YtadkaplafaeebaaGreatDoor
open Go Go.RowKit
abbrev ringS : Sol := oneS 460039
abbrev hookS : Sol := oneS 263
/-- The hook as it is placed. -/
abbrev setS : Sol := shiftS (turnedF hookS 1) (-5) 0 0
theorem ev_out : outB (turnedF hookS 1) (-5) 0 0 = false := by decide +kernel
theorem ev_ne : emptyS (turnedF hookS 1) = false := by decide +kernel
theorem ev_set : eqS setS (oneS 263174) = true := by decide +kernel
theorem ev_fit1 : (fitsF ringS hookS).isSome = true := by decide +kernel
theorem ev_fit2 : (fitsF hookS ringS).isSome = false := by decide +kernel
theorem ev_sym : symN ringS 24 = [0, 1, 2, 3, 8, 9, 10, 11] := by decide +kernel
theorem ev_hook : (writeF hookS).data = #[49, 48, 55] := by decide +kernel
end Go.Proofs.YtadkaplafaeebaaGreatDoor
/-
  The chapter's examples, evaluated: images (the sort is replaced by one that evaluates).
-/
set_option linter.unusedVariables false
namespace Go.Proofs.YtadkaplafaeebaaGreatDoor
open Go Go.RowKit Go.Sort Go.Lib
def insOne (x : S8) : List S8 → List S8
  | [] => [x]
  | y :: l => if (ltOf cf8) x y = true then x :: y :: l else y :: insOne x l
def insAll : List S8 → List S8
  | [] => []
  | x :: l => insOne x (insAll l)
def ascB : List S8 → Bool
  | [] => true
  | x :: l => l.all (fun y => !(ltOf cf8) y x) && ascB l
theorem ascB_pair : ∀ l : List S8, ascB l = true → l.Pairwise (fun x y => (!(ltOf cf8) y x) = true)
  | [], _ => List.Pairwise.nil
  | x :: l, h => by
    unfold ascB at h
    rw [Bool.and_eq_true] at h
    exact List.Pairwise.cons (fun y hy => List.all_eq_true.1 h.1 y hy) (ascB_pair l h.2)
theorem sort8_ins (l : List S8) (h1 : (insAll l).isPerm l = true) (h2 : ascB (insAll l) = true) : sort8 l.toArray = (insAll l).toArray := by
  unfold sort8
  congr 1
  refine List.Perm.eq_of_pairwise (le := fun x y => (!(ltOf cf8) y x) = true) ?_ ?_ (ascB_pair _ h2) ((List.mergeSort_perm _ _).trans (List.isPerm_iff.1 h1).symm)
  · intro a b _ _ h1 h2
    simp only [Bool.not_eq_true'] at h1 h2
    exact tot8 a b h2 h1
  · refine List.pairwise_mergeSort ?_ ?_ _
    · intro a b c h1 h2
      simp only [Bool.not_eq_true'] at h1 h2 ⊢
      exact swo8.ntrans c b a h2 h1
    · intro a b
      cases h : (ltOf cf8) b a with
      | false => simp
      | true => simp [swo8.asymmA h]
theorem ev_perm : (insAll ((imgsN ringS 24).map toS)).isPerm ((imgsN ringS 24).map toS) = true := by decide +kernel
theorem ev_asc : ascB (insAll ((imgsN ringS 24).map toS)) = true := by decide +kernel
theorem ev_three : (compactUpTo (insAll ((imgsN ringS 24).map toS)).toArray 24).length = 3 := by decide +kernel
theorem ev_imgs : (imgsF ringS).length = 3 := by
  unfold imgsF once8
  rw [List.length_map, sort8_size, sort8_ins _ ev_perm ev_asc]
  exact ev_three
end Go.Proofs.YtadkaplafaeebaaGreatDoor
/-
  The chapter's examples, evaluated: parts and the like.
-/
set_option linter.unusedVariables false
namespace Go.Proofs.YtadkaplafaeebaaGreatDoor
open Go Go.RowKit
/-- Two cells that touch. -/
def twoS : Sol := fun i => if i = 0 then 1 else if i = 1 then 512 else 0
theorem ev_skin : skinF ringS = 32 := by decide +kernel
theorem ev_euler : eulF ringS = 0 := by decide +kernel
theorem ev_parts : (partsF ringS).length = 1 := by decide +kernel
theorem ev_two : (partsF twoS).length = 1 := by decide +kernel
theorem ev_same : sameB hookS setS = true := by decide +kernel
theorem ev_then : turnI 0 1 (2, 0, 0) = (0, 2, 0) := by decide +kernel
end Go.Proofs.YtadkaplafaeebaaGreatDoor
/-
  carved: the chapter's examples, first half: the calls' contracts at the examples.
-/
set_option linter.unusedVariables false
set_option linter.unusedSimpArgs false
namespace Go.Proofs.YtadkaplafaeebaaGreatDoor
open Go Go.RowKit
theorem ring_fit : Fit ringS := one_fit (by decide)
theorem hook_fit : Fit hookS := one_fit (by decide)
theorem ring_ne : emptyS ringS = false := by decide +kernel
theorem hook_ne : emptyS hookS = false := by decide +kernel
theorem set_fit : Fit setS := shiftF_fit (turnedF_fit hookS 1) _ _ _ 8
theorem set_ne : emptyS setS = false := by decide +kernel
theorem cv_placed (W : World) (hT : Tab64 W) : Calls Tryz.prog 48 #[sol hookS, .agg #[.int .i64 (1), .int .i64 (-5), .int .i64 (0), .int .i64 (0)]] W fun e w' => e = .returned (.tuple #[sol setS, .int .i64 0]) ∧ Below W.heap.size W w' :=
  Placed_in hookS 1 (-5) 0 0 W hook_fit (by decide) (by decide) hT ev_ne ev_out
theorem cv_then (W : World) : Calls Tryz.prog 50 #[.agg #[.int .i64 (1), .int .i64 (2), .int .i64 (0), .int .i64 (0)], .agg #[.int .i64 (1), .int .i64 (0), .int .i64 (0), .int .i64 (0)]] W fun e w' => e = .returned (.tuple #[.agg #[.int .i64 (2), .int .i64 (0), .int .i64 (2), .int .i64 (0)], .int .i64 0]) ∧ Below W.heap.size W w' :=
  then_in 1 1 2 0 0 0 0 0 0 2 0 0 2 0 2 W (by decide) (by decide) (by decide) (by decide) (by decide) ev_then rfl rfl rfl (by decide) (by unfold toTurn; decide +kernel)
theorem cv_back (W : World) : Calls Tryz.prog 52 #[.agg #[.int .i64 (1), .int .i64 (2), .int .i64 (0), .int .i64 (0)]] W fun e w' => e = .returned (.tuple #[.agg #[.int .i64 (3), .int .i64 (0), .int .i64 (2), .int .i64 (0)], .int .i64 0]) ∧ Below W.heap.size W w' :=
  back_in 1 2 0 0 0 2 0 3 W (by decide) (by decide) (by decide) (by unfold toTurn; decide +kernel) (by decide +kernel)
theorem motV_form (R : Option (Nat × I3)) : ∃ a b c d : Int, motV R = .agg #[.int .i64 (a), .int .i64 (b), .int .i64 (c), .int .i64 (d)] := by
  cases R with
  | none => exact ⟨0, 0, 0, 0, rfl⟩
  | some x => obtain ⟨t, c⟩ := x; exact ⟨t, c.1, c.2.1, c.2.2, rfl⟩
theorem cv_fit1 (W : World) (hT : Tab64 W) : Calls Tryz.prog 54 #[sol ringS, sol hookS] W fun e w' => (∃ a b c d : Int, e = .returned (.tuple #[.agg #[.int .i64 (a), .int .i64 (b), .int .i64 (c), .int .i64 (d)], .bool true])) ∧ Below W.heap.size W w' :=
  (fits_ok ringS hookS W ring_fit hook_fit ring_ne hook_ne hT).mono fun e w' ⟨he, hb⟩ => by
    obtain ⟨a, b, c, d, h⟩ := motV_form (fitsF ringS hookS)
    rw [h, ev_fit1] at he
    exact ⟨⟨a, b, c, d, he⟩, hb⟩
theorem cv_fit2 (W : World) (hT : Tab64 W) : Calls Tryz.prog 54 #[sol hookS, sol ringS] W fun e w' => (∃ a b c d : Int, e = .returned (.tuple #[.agg #[.int .i64 (a), .int .i64 (b), .int .i64 (c), .int .i64 (d)], .bool false])) ∧ Below W.heap.size W w' :=
  (fits_ok hookS ringS W hook_fit ring_fit hook_ne ring_ne hT).mono fun e w' ⟨he, hb⟩ => by
    obtain ⟨a, b, c, d, h⟩ := motV_form (fitsF hookS ringS)
    rw [h, ev_fit2] at he
    exact ⟨⟨a, b, c, d, he⟩, hb⟩
theorem cv_read (W : World) (hT : Tab64 W) : Calls Tryz.prog 83 #[.string ⟨#[55, 48, 53, 48, 55]⟩] W fun e w' => e = .returned (.tuple #[sol ringS, .int .i64 0]) ∧ Below W.heap.size W w' := read_ring W hT
theorem cv_write (W : World) (hT : Tab64 W) : Calls Tryz.prog 82 #[sol hookS] W fun e w' => e = .returned (.string ⟨#[49, 48, 55]⟩) ∧ Below W.heap.size W w' := by
  have h := write_ok hookS W hook_fit hT
  have e : writeF hookS = ⟨#[49, 48, 55]⟩ := by
    have := ev_hook
    cases h : writeF hookS with
    | mk d => rw [h] at this; simp only at this; rw [this]
  rwa [e] at h
theorem cv_imgs (W : World) (hT : Tab64 W) : Calls Tryz.prog 69 #[sol ringS] W fun e w' => (∃ p cap, e = .returned (.slice p 3 cap)) ∧ Below W.heap.size W w' :=
  (images_ok ringS W ring_fit ring_ne hT).mono fun e w' ⟨v, he, ho, hb⟩ => by
    obtain ⟨p, cap, rfl⟩ := own_slice ho
    rw [ev_imgs] at he
    exact ⟨⟨p, cap, he⟩, hb⟩
theorem cv_euler (W : World) (hT : Tab64 W) : Calls Tryz.prog 76 #[sol ringS] W fun e w' => e = .returned (.int .i64 0) ∧ Below W.heap.size W w' := by
  have h := euler_ok ringS W ring_fit hT
  rwa [ev_euler] at h
theorem cv_tun (hcav : (cavF ringS).length = 0) (W : World) (hT : Tab64 W) : Calls Tryz.prog 78 #[sol ringS] W fun e w' => e = .returned (.int .i64 1) ∧ Below W.heap.size W w' :=
  tunnels_ok ringS 1 0 0 W ring_fit hT ev_parts hcav ev_euler (by decide) (by decide) (by decide)
theorem cv_skin (W : World) (hT : Tab64 W) : Calls Tryz.prog 80 #[sol ringS] W fun e w' => e = .returned (.int .i64 32) ∧ Below W.heap.size W w' := by
  have h := skin_ok ringS W ring_fit hT
  rwa [ev_skin] at h
theorem two_fit : Fit twoS := fun i => by unfold twoS; split <;> (try split) <;> omega
theorem cv_parts (W : World) (hT : Tab64 W) : Calls Tryz.prog 72 #[sol twoS] W fun e w' => (∃ p cap, e = .returned (.slice p 1 cap)) ∧ Below W.heap.size W w' :=
  (parts_ok twoS W two_fit hT).mono fun e w' ⟨v, he, ho, hb⟩ => by
    obtain ⟨p, cap, rfl⟩ := own_slice ho
    rw [ev_two] at he
    exact ⟨⟨p, cap, he⟩, hb⟩
theorem cv_same (W : World) (hT : Tab64 W) : Calls Tryz.prog 64 #[sol hookS, sol setS] W fun e w' => e = .returned (.bool true) ∧ Below W.heap.size W w' := by
  have h := same_ok hookS setS W hook_fit set_fit hook_ne set_ne hT
  rwa [ev_same] at h
end Go.Proofs.YtadkaplafaeebaaGreatDoor
/-
  The ring has no cavity: the search is evaluated as a machine over one number.
-/
set_option linter.unusedVariables false
set_option linter.unusedSimpArgs false
namespace Go.Proofs.YtadkaplafaeebaaGreatDoor
open Go Go.RowKit

abbrev St := Nat × Nat
def hasN (N : Nat) (p : I3) : Bool := inG p.1 p.2.1 p.2.2 && N.testBit (ofI p).1
def delN (N : Nat) (c : Cl) : Nat := N ^^^ (N &&& 2 ^ c.1)
def setN (N : Nat) (c : Cl) : Nat := N ||| 2 ^ c.1
def dfsN (nb : I3 → List I3) : Nat → I3 → St → St
  | 0, _, s => s
  | n + 1, c, s => if hasN s.1 c then (nb c).foldl (fun s d => dfsN nb n d s) (delN s.1 (ofI c), setN s.2 (ofI c)) else s
def runN (nb : I3 → List I3) : Nat → List (Nat × I3) → St → Option St
  | _, [], s => some s
  | 0, _ :: _, _ => none
  | m + 1, (0, _) :: st, s => runN nb m st s
  | m + 1, (n + 1, c) :: st, s => if hasN s.1 c then runN nb m ((nb c).map (fun d => (n, d)) ++ st) (delN s.1 (ofI c), setN s.2 (ofI c)) else runN nb m st s
theorem run_spec (nb : I3 → List I3) : ∀ (m : Nat) (st : List (Nat × I3)) (s t : St), runN nb m st s = some t → st.foldl (fun s p => dfsN nb p.1 p.2 s) s = t
  | _, [], s, t, h => by
    unfold runN at h
    injection h
  | 0, _ :: _, _, _, h => by simp [runN] at h
  | m + 1, (0, _) :: st, s, t, h => by
    simp only [runN] at h
    rw [List.foldl_cons, dfsN]
    exact run_spec nb m st s t h
  | m + 1, (n + 1, c) :: st, s, t, h => by
    simp only [runN] at h
    rw [List.foldl_cons]
    simp only [dfsN]
    by_cases hh : hasN s.1 c = true
    · rw [if_pos hh] at h ⊢
      have := run_spec nb m _ _ t h
      rw [List.foldl_append, List.foldl_map] at this
      exact this
    · rw [if_neg hh] at h ⊢
      exact run_spec nb m st s t h
def RelN (f : Sol) (N : Nat) : Prop := ∀ c : Cl, hasC f c = N.testBit c.1
theorem rel_del {f : Sol} {N : Nat} (h : RelN f N) (c : Cl) : RelN (delS f c) (delN N c) := fun d => by
  rw [has_del, h d]
  unfold delN
  rw [Nat.testBit_xor, Nat.testBit_and, Nat.testBit_two_pow]
  by_cases e : d = c
  · subst e; cases N.testBit d.1 <;> simp
  · have : ¬ c.1 = d.1 := fun h => e (Fin.ext h.symm)
    cases N.testBit d.1 <;> simp [e, this]
theorem rel_dfs (nb : I3 → List I3) (hset : ∀ (f : Sol) (N : Nat) (c : Cl), RelN f N → RelN (setC f c) (setN N c)) : ∀ (n : Nat) (c : I3) (s : Sol × Sol) (t : St), RelN s.1 t.1 → RelN s.2 t.2 → RelN (dfs nb n c s).1 (dfsN nb n c t).1 ∧ RelN (dfs nb n c s).2 (dfsN nb n c t).2
  | 0, _, _, _, h1, h2 => ⟨h1, h2⟩
  | n + 1, c, s, t, h1, h2 => by
    have hi : hasI s.1 c = hasN t.1 c := by unfold hasI hasN; rw [h1 (ofI c)]
    rw [dfs, dfsN, hi]
    by_cases hh : hasN t.1 c = true
    · rw [if_pos hh, if_pos hh]
      have key : ∀ (l : List I3) (s : Sol × Sol) (t : St), RelN s.1 t.1 → RelN s.2 t.2 → RelN (l.foldl (fun s d => dfs nb n d s) s).1 (l.foldl (fun s d => dfsN nb n d s) t).1 ∧ RelN (l.foldl (fun s d => dfs nb n d s) s).2 (l.foldl (fun s d => dfsN nb n d s) t).2 := by
        intro l
        induction l with
        | nil => intro s t h1 h2; exact ⟨h1, h2⟩
        | cons d l ih =>
          intro s t h1 h2
          obtain ⟨a, b⟩ := rel_dfs nb hset n d s t h1 h2
          exact ih _ _ a b
      exact key _ _ _ (rel_del h1 _) (hset _ _ _ h2)
    · rw [if_neg hh, if_neg hh]
      exact ⟨h1, h2⟩
def chkN : List Cl → Nat → Bool
  | [], _ => true
  | c :: l, N => match runN facingL 6000 [(513, toI c)] (N, 0) with
    | none => false
    | some t => (t.2 == 0 || t.2.testBit 511) && chkN l t.1
def voidN : Nat := 2 ^ 512 - 1 - 460039
theorem rel_set (f : Sol) (N : Nat) (c : Cl) (h : RelN f N) : RelN (setC f c) (setN N c) := fun d => by
  have h0 := h d
  unfold hasC at h0 ⊢
  unfold setC up8 setN
  rw [Nat.testBit_or, Nat.testBit_two_pow]
  by_cases hz : cZ d = cZ c
  · rw [if_pos hz, Nat.testBit_or, ← hz, h0]
    unfold bitN
    rw [Nat.testBit_two_pow]
    congr 1
    refine decide_eq_decide.2 ?_
    unfold cX cY cZ at *
    omega
  · rw [if_neg hz, h0]
    have : ¬ c.1 = d.1 := fun e => hz (by unfold cZ; rw [e])
    simp [this]
theorem rel_zero : RelN (fun _ => 0) 0 := fun c => by simp [hasC]
theorem rel_empty {f : Sol} (hf : Fit f) (h : RelN f 0) : emptyS f = true := by
  refine (empty_iff f).2 fun k hk => Classical.byContradiction fun hne => ?_
  obtain ⟨i, hi⟩ := Nat.exists_testBit_of_ne_zero hne
  have hi64 : i < 64 := Classical.byContradiction fun hge => by
    have := Nat.testBit_lt_two_pow (x := f k) (i := i) (Nat.lt_of_lt_of_le (hf k) (by rw [show (18446744073709551616 : Nat) = 2 ^ 64 by decide]; exact Nat.pow_le_pow_right (by omega) (by omega)))
    rw [this] at hi
    cases hi
  have h1 := h ⟨64 * k + i, by omega⟩
  unfold hasC cX cY cZ at h1
  simp only at h1
  rw [show (64 * k + i) / 64 = k by omega, show 8 * ((64 * k + i) / 8 % 8) + (64 * k + i) % 8 = i by omega, hi] at h1
  simp at h1
theorem chk_spec : ∀ (l : List Cl) (N : Nat) (t : Sol × List Sol), chkN l N = true → RelN t.1 N → Fit t.1 → (∀ g ∈ t.2, hasC g ⟨511, by omega⟩ = true) → ∀ g ∈ (l.foldl (clsStep facingL) t).2, hasC g ⟨511, by omega⟩ = true
  | [], _, _, _, _, _, h => h
  | c :: l, N, t, hc, hr, hf, h => by
    unfold chkN at hc
    split at hc
    · cases hc
    · rename_i u hu
      rw [Bool.and_eq_true, Bool.or_eq_true] at hc
      have hd := run_spec facingL 6000 _ _ u hu
      simp only [List.foldl_cons, List.foldl_nil] at hd
      have hrel := rel_dfs facingL rel_set 513 (toI c) (t.1, fun _ => 0) (N, 0) hr rel_zero
      rw [hd] at hrel
      have hfit := dfs_fit facingL 513 (toI c) (t.1, fun _ => 0) hf fit0
      refine chk_spec l u.1 (clsStep facingL t c) hc.2 hrel.1 hfit.1 ?_
      intro g hg
      unfold clsStep at hg
      simp only at hg
      by_cases he : emptyS (dfs facingL 513 (toI c) (t.1, fun _ => 0)).2 = true
      · rw [if_pos he] at hg; exact h g hg
      · rw [if_neg he, List.mem_append, List.mem_singleton] at hg
        rcases hg with hg | rfl
        · exact h g hg
        · rw [hrel.2]
          rcases hc.1 with h0 | h0
          · have hz : u.2 = 0 := by simpa using h0
            rw [hz] at hrel
            exact absurd (rel_empty hfit.2 hrel.2) he
          · exact h0
theorem border {f : Sol} (h : hasC f ⟨511, by omega⟩ = true) : withinF f = false := by
  have h7 : f 7 ≠ 0 := fun e => by
    unfold hasC cX cY cZ at h
    simp only at h
    rw [show 511 / 64 = 7 by decide, e] at h
    simp at h
  have := plane_in (k := 7) (by omega) h7
  unfold withinF
  exact decide_eq_false (by omega)
theorem ev_void : ∀ c : Fin 512, hasC (voidF ringS) c = voidN.testBit c.1 := by decide +kernel
theorem ev_chk : chkN (cellsL (voidF ringS)) voidN = true := by decide +kernel
theorem ev_cav : (cavF ringS).length = 0 := by
  have h := chk_spec (cellsL (voidF ringS)) voidN (voidF ringS, []) ev_chk ev_void (void_fit ringS) (fun g hg => by cases hg)
  have e : cavF ringS = [] := by
    unfold cavF clsF clsAt
    refine List.filter_eq_nil_iff.2 fun g hg => ?_
    rw [border (h g hg)]
    exact Bool.false_ne_true
  rw [e]
  rfl
end Go.Proofs.YtadkaplafaeebaaGreatDoor
