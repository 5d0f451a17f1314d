/-
  inside, of a solid that has no cell: it yields nothing.
-/
import Derived.Test.YtadkaplafaeebaaGreatDoorPkO
import Derived.Test.YtadkaplafaeebaaGreatDoorPkH
import Derived.Test.YtadkaplafaeebaaGreatDoorPkE
set_option linter.unusedVariables false
set_option linter.unusedSimpArgs false
namespace Go.Proofs.YtadkaplafaeebaaGreatDoor
open Go Go.RowKit Go.Shelf

attribute [local go_sem] Oper.semAt_some

set_option maxRecDepth 100000 in
set_option maxHeartbeats 1000000 in
theorem ins_walkE (n : Nat) (hn : 1 ≤ n) (l Ba Bb B0 : Nat) (f : Sol)
    (hBf : ∀ W, Calls Tryz.prog 38 #[sol f] W fun e w' => e = .returned (.tuple #[.agg #[.int .i64 (0), .int .i64 (0), .int .i64 (0), .int .i64 (0), .int .i64 (0), .int .i64 (0)], .bool false]) ∧ Below W.heap.size W w')
    (J Jx : List Pl → World → Prop) (hA : AbidesFrom B0 J) (W : World) (hBa : BoxS W Ba f) (h0 : J [] W) :
    CallsIn Fence.wide n Tryz.prog 147 #[.func (.yield l) #[] #[], .pointer (some ⟨Ba, 0, none⟩), .pointer (some ⟨Bb, 0, none⟩)] W fun e W' => (∃ v, e = .returned v) ∧
      ((∃ ys, ys = ([] : List Pl) ∧ J ys W') ∨ (∃ pre, pre <+: ([] : List Pl) ∧ Jx pre W')) := by
  have HBF := Lib.hid hBf
  have HJ := Lib.hid hA
  have HJ0 := Lib.hid h0
  clear hBf hA h0
  refine callsIn_of_wp Tryz.func147 rfl trivial ?_ rfl
  simp only [Tryz.ntmps147, List.size_toArray, List.length_cons, List.length_nil, Nat.reduceAdd, Nat.reduceSub, Array.replicate_succ, Array.replicate_zero, List.push_toArray, List.append_toArray, List.nil_append, List.cons_append]
  have a0 := (hBa).cell (k := 0) (by omega); have a1 := (hBa).cell (k := 1) (by omega); have a2 := (hBa).cell (k := 2) (by omega); have a3 := (hBa).cell (k := 3) (by omega); have a4 := (hBa).cell (k := 4) (by omega); have a5 := (hBa).cell (k := 5) (by omega); have a6 := (hBa).cell (k := 6) (by omega); have a7 := (hBa).cell (k := 7) (by omega)
  gi_wp2_with (refine ⟨trivial, ?_⟩; gi_at_call 38; first
    | ((with_reducible refine CallsIn.mono (callsIn_wide.2 (HBF.out _)) ?_); rintro e w1 ⟨rfl, hb1⟩)
    | fail)
  have hA1 : Below W.heap.size W (w1.alloc (.cells #[.int .i64 (0), .int .i64 (0), .int .i64 (0), .int .i64 (0), .int .i64 (0), .int .i64 (0)] 40)) := hb1.alloc hb1.size _
  have hJ2 : J [] (w1.alloc (.cells #[.int .i64 (0), .int .i64 (0), .int .i64 (0), .int .i64 (0), .int .i64 (0), .int .i64 (0)] 40)) := abides_below HJ.out HJ0.out hA1
  refine bodyPost_ret (results_none Tryz.results147 _ _ _) rfl ?_
  exact ⟨⟨_, rfl⟩, .inl ⟨[], rfl, hJ2⟩⟩
end Go.Proofs.YtadkaplafaeebaaGreatDoor
/-
  inside, of solids that have cells: its list, and its contract as a sequence.
-/
set_option linter.unusedVariables false
set_option linter.unusedSimpArgs false
namespace Go.Proofs.YtadkaplafaeebaaGreatDoor
open Go Go.RowKit Go.Shelf

/-- How many places a side has in a room. -/
def gap (a b c d : Nat) : Nat := (b - a) + 1 - (d - c)
/-- The places, by Z, Y, X, each with what is placed. -/
def insideL (f g : Sol) : List Pl := if emptyS f = true then [] else
  insZ f g ((lowZ f : Int) - (lowZ g : Int)) ((lowY f : Int) - (lowY g : Int)) ((lowX f : Int) - (lowX g : Int)) (gap (lowZ f) (highZ f) (lowZ g) (highZ g)) (gap (lowY f) (highY f) (lowY g) (highY g)) (gap (lowX f) (highX f) (lowX g) (highX g)) 0
theorem gap_dec {a b c d : Nat} (h1 : a < b) (h2 : c < d) (k : Nat) : decide ((a : Int) - (c : Int) + (k : Int) ≤ (b : Int) - 1 - ((d : Int) - 1)) = decide (k < gap a b c d) := by
  unfold gap
  exact decide_eq_decide.2 (by omega)
set_option maxHeartbeats 1000000 in
theorem inside_stops (n : Nat) (hn : 1 ≤ n) (Ba Bb n₀ n₁ : Nat) (f g : Sol) (hf : Fit f) (hg : Fit g) (hge : emptyS g = false) (w : World) (hBa : BoxS w Ba f) (hBb : BoxS w Bb g) (h1 : n₁ ≤ Ba) (h2 : n₁ ≤ Bb) :
    SeqStopsK Fence.wide n Tryz.prog 147 #[.pointer (some ⟨Ba, 0, none⟩), .pointer (some ⟨Bb, 0, none⟩)] (fun x : Pl => #[encI x.1, sol x.2]) (KeepA n₀ n₁) (fun ys => ys = insideL f g) (fun pre => pre <+: insideL f g) (insideL f g).length w := fun l J Jx W hW hJ _ hY h0 => by
  by_cases hee : emptyS f = true
  · have e0 : insideL f g = [] := by unfold insideL; rw [if_pos hee]
    rw [e0]
    exact ins_walkE n hn l Ba Bb _ f (fun W => bounds_no f W hee) J Jx hJ W (hBa.below hW hBa.lt) h0
  have he : emptyS f = false := by simpa using hee
  have F := boundN hf he
  have G := boundN hg hge
  obtain ⟨f1, f2, f3, f4, f5, f6⟩ := F
  obtain ⟨g1, g2, g3, g4, g5, g6⟩ := G
  have hx := gap_dec f1 g1
  have hy := gap_dec f3 g3
  have hz := gap_dec f5 g5
  refine ins_walk n hn l Ba Bb n₀ n₁ _ f g (lowX f) (lowY f) (lowZ f) ((highX f : Int) - 1) ((highY f : Int) - 1) ((highZ f : Int) - 1) (lowX g) (lowY g) (lowZ g) ((highX g : Int) - 1) ((highY g : Int) - 1) ((highZ g : Int) - 1)
    (gap (lowX f) (highX f) (lowX g) (highX g)) (gap (lowY f) (highY f) (lowY g) (highY g)) (gap (lowZ f) (highZ f) (lowZ g) (highZ g)) (insideL f g) (by omega) (by omega) (by omega) (by omega) hx hy hz hf (fun x y z => shiftF_fit hg x y z 8) (fun W => bounds_yes f W hf he) (fun W => bounds_yes g W hg hge) ?_ ?_ J Jx hJ hY W (hBa.below hW hBa.lt) (hBb.below hW hBb.lt) h1 h2 h0
  · intro i j k W hi hj hk
    unfold gap at hi hj hk
    refine shifted_ok g _ _ _ W hg (by omega) (by omega) fun m hm hp => ?_
    have := plane_in hm hp
    omega
  · unfold insideL
    rw [he, if_neg Bool.false_ne_true]
set_option maxHeartbeats 1000000 in
theorem inside_in (n : Nat) (f g : Sol) (w : World) :
    CallsIn Fence.wide n Tryz.prog 116 #[sol f, sol g] w fun e w' => e = .returned (.func (.func 147) #[] #[.pointer (some ⟨w.heap.size, 0, none⟩), .pointer (some ⟨w.heap.size + 1, 0, none⟩)]) ∧ w' = (w.alloc (.cells (solC f) 24)).alloc (.cells (solC g) 24) := by
  have hmf : ∀ (fn : Fn) (first cap : Array Value) (w : World), (Instr.makeFunc fn first cap).run Tryz.prog w = .ok (.func fn first cap) w := fun _ _ _ _ => rfl
  refine callsIn_of_wp Tryz.func116 rfl trivial ?_ rfl
  simp only [Tryz.ntmps116, List.size_toArray, List.length_cons, List.length_nil, Nat.reduceAdd, Nat.reduceSub, Array.replicate_succ, Array.replicate_zero, List.push_toArray, List.append_toArray, List.nil_append, List.cons_append]
  gi_wp2
  go_ret
  exact ⟨rfl, rfl⟩
end Go.Proofs.YtadkaplafaeebaaGreatDoor
