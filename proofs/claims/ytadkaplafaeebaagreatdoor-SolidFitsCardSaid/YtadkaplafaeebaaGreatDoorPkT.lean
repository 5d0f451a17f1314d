/-
  SplitSeq of a text without a separator: the text itself.
-/
import Derived.Test.YtadkaplafaeebaaGreatDoorPkB
import Derived.Test.YtadkaplafaeebaaGreatDoorShelf
import Derived.LoopNIn
import Derived.Test.YtadkaplafaeebaaGreatDoorPkS
import Derived.Test.YtadkaplafaeebaaGreatDoorPkM
import Derived.Test.YtadkaplafaeebaaGreatDoorFits
import Derived.RecoverIn
set_option linter.unusedVariables false
set_option linter.unusedSimpArgs false
namespace Go.Proofs.YtadkaplafaeebaaGreatDoor
open Go Go.RowKit Go.Shelf

attribute [local go_sem] Oper.semAt_some

set_option maxRecDepth 100000 in
set_option maxHeartbeats 1000000 in
theorem split_in (n : Nat) (s : ByteArray) (w : World) :
    CallsIn Fence.wide n Tryz.prog 133 #[.string s, .string ⟨#[46]⟩] w fun e w' => e = .returned (.func (.func 170) #[] #[.pointer (some ⟨w.heap.size + 1, 0, none⟩), .pointer (some ⟨w.heap.size, 0, none⟩), .pointer (some ⟨w.heap.size + 1 + 1, 0, none⟩)]) ∧
      w' = ((w.alloc (.cells #[.string s] 9)).alloc (.cells #[.string ⟨#[46]⟩] 9)).alloc (.cells #[.int .i64 0] 3) := by
  have hmf : ∀ (fn : Fn) (first cap : Array Value) (w : World), (Instr.makeFunc fn first cap).run Tryz.prog w = .ok (.func fn first cap) w := fun _ _ _ _ => rfl
  have h : ∀ W, CallsIn Fence.wide (n - 1) Tryz.prog 159 #[.string s, .string ⟨#[46]⟩, .int .i64 0] W fun e w' => e = .returned (.func (.func 170) #[] #[.pointer (some ⟨W.heap.size + 1, 0, none⟩), .pointer (some ⟨W.heap.size, 0, none⟩), .pointer (some ⟨W.heap.size + 1 + 1, 0, none⟩)]) ∧
      w' = ((W.alloc (.cells #[.string s] 9)).alloc (.cells #[.string ⟨#[46]⟩] 9)).alloc (.cells #[.int .i64 0] 3) := fun W => by
    refine callsIn_of_wp Tryz.func159 rfl trivial ?_ rfl
    simp only [Tryz.ntmps159, List.size_toArray, List.length_cons, List.length_nil, Nat.reduceAdd, Nat.reduceSub, Array.replicate_succ, Array.replicate_zero, List.push_toArray, List.append_toArray, List.nil_append, List.cons_append]
    gi_wp2
    go_ret
    exact ⟨rfl, rfl⟩
  have H := Lib.hid h
  clear h
  refine callsIn_of_wp Tryz.func133 rfl trivial ?_ rfl
  simp only [Tryz.ntmps133, List.size_toArray, List.length_cons, List.length_nil, Nat.reduceAdd, Nat.reduceSub, Array.replicate_succ, Array.replicate_zero, List.push_toArray, List.append_toArray, List.nil_append, List.cons_append]
  gi_wp2_with (refine ⟨trivial, fun h => (by cases h), ?_⟩; gi_at_call 159; refine (H.out _).mono ?_; rintro e w' ⟨rfl, rfl⟩)
  go_ret
  exact ⟨rfl, rfl⟩
set_option maxRecDepth 100000 in
set_option maxHeartbeats 1000000 in
theorem split1_in (n : Nat) (hn : 1 ≤ n) (l Bp Bs Bk B0 : Nat) (s : ByteArray) (hno : Lib.indexByte s.data.toList 46 = -1) (J Jx : List Unit → World → Prop) (hA : AbidesFrom B0 J)
    (hY : ∀ pre x W, J pre W → pre.length < 1 → YieldAt Fence.wide (n - 1) Tryz.prog l #[.string s] W fun e W' =>
      (e = .returned (.bool true) ∧ J (pre ++ [x]) W' ∧ True) ∨ (e = .returned (.bool false) ∧ Jx (pre ++ [x]) W'))
    (W : World) (hp : Boxed W Bp 9 (.string ⟨#[46]⟩)) (hs : Boxed W Bs 9 (.string s)) (hk : Boxed W Bk 3 (.int .i64 0)) (h0 : J [] W) :
    CallsIn Fence.wide n Tryz.prog 170 #[.func (.yield l) #[] #[], .pointer (some ⟨Bp, 0, none⟩), .pointer (some ⟨Bs, 0, none⟩), .pointer (some ⟨Bk, 0, none⟩)] W fun e W' => (∃ v, e = .returned v) ∧
      ((∃ ys, ys = [()] ∧ J ys W') ∨ (∃ pre, pre <+: [()] ∧ Jx pre W')) := by
  have hI : ∀ W, Calls Tryz.prog 172 #[.string s, .string ⟨#[46]⟩] W fun e w' => e = .returned (.int .i64 (-1)) ∧ w' = W := fun W => by
    have := Tryz.strings_Index_one s 46 W
    rwa [hno] at this
  have HI := Lib.hid hI
  clear hI hno
  obtain ⟨fn, tmps, assign, body, hy, hR⟩ := hY [] () W h0 (by simp)
  refine callsIn_of_wp Tryz.func170 rfl trivial ?_ rfl
  simp only [Tryz.ntmps170, List.size_toArray, List.length_cons, List.length_nil, Nat.reduceAdd, Nat.reduceSub, Array.replicate_succ, Array.replicate_zero, List.push_toArray, List.append_toArray, List.nil_append, List.cons_append]
  have cp := hp.cell
  have cs := hs.cell
  have ck := hk.cell
  gi_wp2
  refine wpIn_loop_rounds 1 ?_
  rw [roundsIn_succ]
  gi_wp2_with (refine ⟨trivial, ?_⟩; gi_at_call 172; refine (callsIn_wide.2 (HI.out _)).mono ?_; rintro e w1 ⟨rfl, rfl⟩)
  refine hR.mono ?_
  clear hR hy
  rintro e W1 (⟨rfl, hJ1, _⟩ | ⟨rfl, hJx⟩)
  · gi_wp2
    go_end0
    exact ⟨⟨_, rfl⟩, .inl ⟨_, rfl, hJ1⟩⟩
  · gi_wp2
    go_end0
    exact ⟨⟨_, rfl⟩, .inr ⟨_, List.prefix_refl _, hJx⟩⟩
theorem split_stops (n : Nat) (hn : 1 ≤ n) (Bp Bs Bk : Nat) (s : ByteArray) (hno : Lib.indexByte s.data.toList 46 = -1) (w : World) (hp : Boxed w Bp 9 (.string ⟨#[46]⟩)) (hs : Boxed w Bs 9 (.string s)) (hk : Boxed w Bk 3 (.int .i64 0)) :
    SeqStopsK Fence.wide n Tryz.prog 170 #[.pointer (some ⟨Bp, 0, none⟩), .pointer (some ⟨Bs, 0, none⟩), .pointer (some ⟨Bk, 0, none⟩)] (fun _ : Unit => #[.string s]) (fun _ _ => True) (fun ys => ys = [()]) (fun pre => pre <+: [()]) 1 w := fun l J Jx W hW hJ _ hY h0 =>
  split1_in n hn l Bp Bs Bk _ s hno J Jx hJ hY W ((hW.block _ hp.lt).trans hp) ((hW.block _ hs.lt).trans hs) ((hW.block _ hk.lt).trans hk) h0
end Go.Proofs.YtadkaplafaeebaaGreatDoor
/-
  Read at the example's text.
-/
set_option linter.unusedVariables false
set_option linter.unusedSimpArgs false
namespace Go.Proofs.YtadkaplafaeebaaGreatDoor
open Go Go.RowKit Go.Shelf

attribute [local go_sem] Oper.semAt_some

set_option maxRecDepth 100000 in
set_option maxHeartbeats 1000000 in
theorem catchRead_idle (n : Nat) (p q : Addr) (w : World) :
    CallsDIn Fence.wide n Tryz.prog 132 #[.pointer (some p), .pointer (some q)] .returning w fun e u' w' => e = .returned (.tuple #[]) ∧ u' = .returning ∧ w' = w := by
  refine callsDIn_of_wpSIn Tryz.func132 rfl trivial fun c₀ cs hu => ?_
  apply wpSIn_seq
  apply wpSIn_region
  simp [wpOpsSIn, go_sem, recoverD, hu, Tryz.ntmps132, Exit.thenS]
  refine wpSIn_cond (t := false) (by simp [Act.eval, Array.replicate]) ?_
  simp only [Bool.false_eq_true, if_false]
  refine wpSIn_of_wpIn rfl ?_
  gi_wp2
  cases c₀
  simp_all [bodyPostS, results, Tryz.results132]
def ringT : ByteArray := ⟨#[55, 48, 53, 48, 55]⟩
theorem plane_ringT (w : World) : Calls Tryz.prog 134 #[.string ringT] w fun e w' => e = .returned (.int .u64 460039) ∧ Below w.heap.size w w' := plane_ring w
theorem write_ring : writeF (oneS 460039) = ringT := by
  have : (writeF (oneS 460039)).data = ringT.data := by decide +kernel
  cases h : writeF (oneS 460039) with
  | mk d => rw [h] at this; simp only at this; rw [this]
theorem one_fit {n : Nat} (h : n < 18446744073709551616) : Fit (oneS n) := fun i => by unfold oneS; split <;> omega
theorem ringT_no : Lib.indexByte ringT.data.toList 46 = -1 := by decide +kernel
set_option maxRecDepth 100000 in
set_option maxHeartbeats 1000000 in
theorem read_ring (w : World) (hT : Tab64 w) :
    Calls Tryz.prog 83 #[.string ringT] w fun e w' => e = .returned (.tuple #[sol (oneS 460039), .int .i64 0]) ∧ Below w.heap.size w w' := by
  have hmf : ∀ (fn : Fn) (first cap : Array Value) (w : World), (Instr.makeFunc fn first cap).run Tryz.prog w = .ok (.func fn first cap) w := fun _ _ _ _ => rfl
  have HT := Lib.hid hT
  clear hT
  refine (callsIn_wide (n := 7)).1 ?_
  refine callsIn_of_wp_marks Tryz.func83 rfl trivial ?_ rfl
  simp only [Tryz.ntmps83, List.size_toArray, List.length_cons, List.length_nil, Nat.reduceAdd, Nat.reduceSub, Array.replicate_succ, Array.replicate_zero, List.push_toArray, List.append_toArray, List.nil_append, List.cons_append]
  gi_wp2_with (refine ⟨trivial, ?_⟩; gi_at_call 133; refine (split_in _ ringT _).mono ?_; rintro e w1 ⟨rfl, rfl⟩)
  have bX : BoxS ((((((w.alloc (.cells #[.int .u64 0, .int .u64 0, .int .u64 0, .int .u64 0, .int .u64 0, .int .u64 0, .int .u64 0, .int .u64 0] 24)).alloc (.cells #[.int .i64 0] 29)).alloc (.cells #[.int .i64 0] 3)).alloc (.cells #[.string ringT] 9)).alloc (.cells #[.string ⟨#[46]⟩] 9)).alloc (.cells #[.int .i64 0] 3)) w.heap.size (fun _ => 0) := (((((BoxS.zero rfl).alloc _).alloc _).alloc _).alloc _).alloc _
  have bE : Boxed ((((((w.alloc (.cells #[.int .u64 0, .int .u64 0, .int .u64 0, .int .u64 0, .int .u64 0, .int .u64 0, .int .u64 0, .int .u64 0] 24)).alloc (.cells #[.int .i64 0] 29)).alloc (.cells #[.int .i64 0] 3)).alloc (.cells #[.string ringT] 9)).alloc (.cells #[.string ⟨#[46]⟩] 9)).alloc (.cells #[.int .i64 0] 3)) (w.heap.size + 1) 29 (.int .i64 0) := ((((boxed_at (by simp)).alloc _).alloc _).alloc _).alloc _
  have bN : Boxed ((((((w.alloc (.cells #[.int .u64 0, .int .u64 0, .int .u64 0, .int .u64 0, .int .u64 0, .int .u64 0, .int .u64 0, .int .u64 0] 24)).alloc (.cells #[.int .i64 0] 29)).alloc (.cells #[.int .i64 0] 3)).alloc (.cells #[.string ringT] 9)).alloc (.cells #[.string ⟨#[46]⟩] 9)).alloc (.cells #[.int .i64 0] 3)) (w.heap.size + 1 + 1) 3 (.int .i64 0) := (((boxed_at (by simp)).alloc _).alloc _).alloc _
  have bS : Boxed ((((((w.alloc (.cells #[.int .u64 0, .int .u64 0, .int .u64 0, .int .u64 0, .int .u64 0, .int .u64 0, .int .u64 0, .int .u64 0] 24)).alloc (.cells #[.int .i64 0] 29)).alloc (.cells #[.int .i64 0] 3)).alloc (.cells #[.string ringT] 9)).alloc (.cells #[.string ⟨#[46]⟩] 9)).alloc (.cells #[.int .i64 0] 3)) (w.heap.size + 1 + 1 + 1) 9 (.string ringT) := ((boxed_at (by simp)).alloc _).alloc _
  have bP : Boxed ((((((w.alloc (.cells #[.int .u64 0, .int .u64 0, .int .u64 0, .int .u64 0, .int .u64 0, .int .u64 0, .int .u64 0, .int .u64 0] 24)).alloc (.cells #[.int .i64 0] 29)).alloc (.cells #[.int .i64 0] 3)).alloc (.cells #[.string ringT] 9)).alloc (.cells #[.string ⟨#[46]⟩] 9)).alloc (.cells #[.int .i64 0] 3)) (w.heap.size + 1 + 1 + 1 + 1) 9 (.string ⟨#[46]⟩) := (boxed_at (by simp)).alloc _
  have bK : Boxed ((((((w.alloc (.cells #[.int .u64 0, .int .u64 0, .int .u64 0, .int .u64 0, .int .u64 0, .int .u64 0, .int .u64 0, .int .u64 0] 24)).alloc (.cells #[.int .i64 0] 29)).alloc (.cells #[.int .i64 0] 3)).alloc (.cells #[.string ringT] 9)).alloc (.cells #[.string ⟨#[46]⟩] 9)).alloc (.cells #[.int .i64 0] 3)) (w.heap.size + 1 + 1 + 1 + 1 + 1) 3 (.int .i64 0) := boxed_at (by simp)
  have hB0 : Below w.heap.size w ((((((w.alloc (.cells #[.int .u64 0, .int .u64 0, .int .u64 0, .int .u64 0, .int .u64 0, .int .u64 0, .int .u64 0, .int .u64 0] 24)).alloc (.cells #[.int .i64 0] 29)).alloc (.cells #[.int .i64 0] 3)).alloc (.cells #[.string ringT] 9)).alloc (.cells #[.string ⟨#[46]⟩] 9)).alloc (.cells #[.int .i64 0] 3)) := by repeat' (first | (with_reducible exact Below.refl _ _) | (with_reducible assumption) | (with_reducible refine Below.alloc ?_ ?_ _) | (with_reducible refine Below.drew ?_) | (with_reducible refine below_drewN ?_ _) | (with_reducible refine Below.setCell ?_ ?_ _) | go_size)
  have hsz : ((((((w.alloc (.cells #[.int .u64 0, .int .u64 0, .int .u64 0, .int .u64 0, .int .u64 0, .int .u64 0, .int .u64 0, .int .u64 0] 24)).alloc (.cells #[.int .i64 0] 29)).alloc (.cells #[.int .i64 0] 3)).alloc (.cells #[.string ringT] 9)).alloc (.cells #[.string ⟨#[46]⟩] 9)).alloc (.cells #[.int .i64 0] 3)).heap.size = w.heap.size + 6 := by simp
  obtain ⟨W0, hW0⟩ : ∃ W0, W0 = ((((((w.alloc (.cells #[.int .u64 0, .int .u64 0, .int .u64 0, .int .u64 0, .int .u64 0, .int .u64 0, .int .u64 0, .int .u64 0] 24)).alloc (.cells #[.int .i64 0] 29)).alloc (.cells #[.int .i64 0] 3)).alloc (.cells #[.string ringT] 9)).alloc (.cells #[.string ⟨#[46]⟩] 9)).alloc (.cells #[.int .i64 0] 3)) := ⟨_, rfl⟩
  rw [← hW0] at bX bE bN bS bP bK hB0 hsz ⊢
  clear hW0
  have hsz1 : w.heap.size + 1 + 1 + 1 < W0.heap.size := by omega
  have HSZ := Lib.hid hsz
  clear hsz
  refine wpIn_rangeFunc_ownH rfl (by omega) (gf := 170) (lb := #[.pointer (some ⟨w.heap.size + 1 + 1 + 1 + 1, 0, none⟩), .pointer (some ⟨w.heap.size + 1 + 1 + 1, 0, none⟩), .pointer (some ⟨w.heap.size + 1 + 1 + 1 + 1 + 1, 0, none⟩)]) rfl trivial (enters_of Tryz.func170 (by kernel_rfl) rfl)
    (split_stops _ (by omega) _ _ _ ringT ringT_no W0 bP bS bK) (fun _ _ => trivial) (fun _ _ _ _ _ _ _ _ => trivial) (Below.refl _ _) (fun _ => rfl)
    (fun (pre : List Unit) W => BoxS W w.heap.size (oneS (460039 * pre.length)) ∧ Boxed W (w.heap.size + 1) 29 (.int .i64 0) ∧ Boxed W (w.heap.size + 1 + 1) 3 (.int .i64 (pre.length : Nat)) ∧ Below w.heap.size w W)
    (fun _ _ _ => False)
    (OwnFrom.and (own_block' _ _ (fun pre : List Unit => .cells (solC (oneS (460039 * pre.length))) 24 (0, 0)) fun _ => rfl) (OwnFrom.and (own_block _ _ _ rfl) (OwnFrom.and (own_block' _ _ (fun pre : List Unit => .cells #[.int .i64 (pre.length : Nat)] 3 (0, 0)) fun _ => rfl) (ownFrom_below (Nat.le_refl _) (by omega)))))
    (fun _ _ _ _ _ hs _ _ => hs)
    ⟨bX.congr (fun k hk => by simp [oneS]), bE, bN, hB0⟩
    (fun (x : Unit) a' W => a' = { tmps := #[.string ringT, undef, .pointer (some ⟨w.heap.size, 0, none⟩), .pointer (some ⟨w.heap.size + 1, 0, none⟩), .pointer (some ⟨w.heap.size + 1 + 1, 0, none⟩), .string ringT, .func (.func 132) #[] #[.pointer (some ⟨w.heap.size, 0, none⟩), .pointer (some ⟨w.heap.size + 1, 0, none⟩)], .string ringT,
      .func (.func 170) #[] #[.pointer (some ⟨w.heap.size + 1 + 1 + 1 + 1, 0, none⟩), .pointer (some ⟨w.heap.size + 1 + 1 + 1, 0, none⟩), .pointer (some ⟨w.heap.size + 1 + 1 + 1 + 1 + 1, 0, none⟩)], .string ringT, undef, undef, undef, undef, undef, undef, undef, undef, undef, undef, undef, undef, undef, undef, undef], defers := [] })
    (fun x a' s X Y row h hg hr => h) ?assign ?body ?done ?stop
  case assign =>
    rintro l pre x W K hI hK
    gi_wp2
    exact hK _ _ (KeepsFrom.refl _ _) trivial hI rfl
  case body =>
    rintro l pre x a' W hl ⟨r, hr⟩ ⟨i1, i2, i3, i4⟩ rfl hlt
    obtain rfl : pre = [] := by
      cases pre with
      | nil => rfl
      | cons a b => simp at hlt
    have i3' : Boxed W (w.heap.size + 1 + 1) 3 (.int .i64 0) := i3
    have i1' : BoxS W w.heap.size (fun _ => 0) := i1.congr (fun k hk => by simp [oneS])
    have cN := i3'.cell
    have fN := i3'.frozen
    have cX := i1'.cell (k := 0) (by omega)
    have fX := i1'.free 0
    have lX := i1'.lt
    have lN := i3'.lt
    have hmx : Tryz.prog.follows .mixedOrders = true := by kernel_rfl
    gi_wp2
    gi_region_with_o (refine ⟨trivial, ?_⟩; gi_at_call 134; (with_reducible refine CallsIn.mono (CallsIn.inRound l (callsIn_wide.2 (plane_ringT _))) ?_); rintro e w3 ⟨rfl, hb3⟩; replace hb3 := below_undrew hb3; obtain ⟨hc3, hf3⟩ := bcell hb3)
    all_goals
      gi_wp2
      have hs3 := hb3.size
      have m1 := (i1'.below hb3 lX).set (k := 0) (by omega) 460039
      have m2 : Boxed w3 (w.heap.size + 1) 29 (.int .i64 0) := (hb3.block _ i2.lt).trans i2
      have m3 : Boxed w3 (w.heap.size + 1 + 1) 3 (.int .i64 0) := (hb3.block _ lN).trans i3'
      have m4 := i4.trans (hb3.mono i4.size)
      refine ⟨(keeps_below hb3).trans (((KeepsOthers.setCell _ _ _).trans (KeepsOthers.setCell _ _ _)).from _), trivial, ?_, ?_, ?_, ?_⟩
      · exact (m1.congr fun k hk => by simp [oneS, up8]).other (by omega) _
      · exact boxed_set (boxed_set m2 (by omega)) (by omega)
      · exact (boxed_set m3 (by omega)).set _
      · exact (m4.setCell (p := ⟨w.heap.size, 0, none⟩) (by simp) _).setCell (p := ⟨w.heap.size + 1 + 1, 0, none⟩) (by simp; omega) _
  case done =>
    rintro D ys W hD rfl ⟨i1, i2, i3, i4⟩ hK
    have i1' : BoxS W w.heap.size (oneS 460039) := i1
    have c0 := (i1').cell (k := 0) (by omega); have c1 := (i1').cell (k := 1) (by omega); have c2 := (i1').cell (k := 2) (by omega); have c3 := (i1').cell (k := 3) (by omega); have c4 := (i1').cell (k := 4) (by omega); have c5 := (i1').cell (k := 5) (by omega); have c6 := (i1').cell (k := 6) (by omega); have c7 := (i1').cell (k := 7) (by omega)
    have HWR := Lib.hid (write_ok (oneS 460039) W (one_fit (by decide)) (HT.out.below i4 (Nat.le_refl _)))
    rw [write_ring] at HWR
    gi_wp2_with (refine ⟨trivial, ?_⟩; gi_at_call 82; refine (callsIn_wide.2 HWR.out).mono ?_; rintro e w3 ⟨rfl, hb3⟩; have j1 := i1'.below hb3 i1'.lt; have d0 := (j1).cell (k := 0) (by omega); have d1 := (j1).cell (k := 1) (by omega); have d2 := (j1).cell (k := 2) (by omega); have d3 := (j1).cell (k := 3) (by omega); have d4 := (j1).cell (k := 4) (by omega); have d5 := (j1).cell (k := 5) (by omega); have d6 := (j1).cell (k := 6) (by omega); have d7 := (j1).cell (k := 7) (by omega); have q0 := (j1).free 0; have q1 := (j1).free 1; have q2 := (j1).free 2; have q3 := (j1).free 3; have q4 := (j1).free 4; have q5 := (j1).free 5; have q6 := (j1).free 6; have q7 := (j1).free 7; have j2 : Boxed w3 (w.heap.size + 1) 29 (.int .i64 0) := (hb3.block _ i2.lt).trans i2; have ce := j2.cell; have fe := j2.frozen)
    have hD3 : w3.heap[D]? = some (.deferred (some [])) := (hb3.block D (Array.getElem?_eq_some_iff.1 hK).1).trans hK
    have p1 : BoxS (put8 w3 w.heap.size (oneS 460039)) w.heap.size (oneS 460039) := j1.put _
    have p2 : Boxed (put8 w3 w.heap.size (oneS 460039)) (w.heap.size + 1) 29 (.int .i64 0) := boxed_set (boxed_set (boxed_set (boxed_set (boxed_set (boxed_set (boxed_set (boxed_set j2 (by omega)) (by omega)) (by omega)) (by omega)) (by omega)) (by omega)) (by omega)) (by omega)
    have p3 : (put8 w3 w.heap.size (oneS 460039)).heap[D]? = some (.deferred (some [])) := (keeps_put8 w3 w.heap.size (oneS 460039)).same D _ hD3 rfl
    have p4 : Below w.heap.size w (put8 w3 w.heap.size (oneS 460039)) := below_put8 (i4.trans (hb3.mono i4.size)) (Nat.le_refl _) _
    have q1 := p1.other (b := w.heap.size + 1) (o := 0) (by omega) (.int .i64 0)
    have q2 := p2.set (.int .i64 0)
    have q3 := (KeepsOthers.setCell (put8 w3 w.heap.size (oneS 460039)) ⟨w.heap.size + 1, 0, none⟩ (.int .i64 0)).same D _ p3 rfl
    have q4 := p4.setCell (p := ⟨w.heap.size + 1, 0, none⟩) (by simp) (.int .i64 0)
    have hDA : w.heap.size ≤ D := by omega
    refine ⟨by simp, .inl ⟨_, _, rfl, run_takeDeferred q3, ?_⟩⟩
    have hgr := grownBy_putObj' ((put8 w3 w.heap.size (oneS 460039)).setCell ⟨w.heap.size + 1, 0, none⟩ (.int .i64 0)) D (.deferred none)
    have r1 : BoxS (((put8 w3 w.heap.size (oneS 460039)).setCell ⟨w.heap.size + 1, 0, none⟩ (.int .i64 0)).putObj D (.deferred none)) w.heap.size (oneS 460039) := (hgr.block _ q1.lt (fun e => by cases e; omega)).trans q1
    have r2 : Boxed (((put8 w3 w.heap.size (oneS 460039)).setCell ⟨w.heap.size + 1, 0, none⟩ (.int .i64 0)).putObj D (.deferred none)) (w.heap.size + 1) 29 (.int .i64 0) := (hgr.block _ q2.lt (fun e => by cases e; omega)).trans q2
    have r4 := q4.trans (below_mark (n₀ := w.heap.size) (o' := .deferred none) hDA q3)
    refine ⟨by simp, .inr ⟨fun h => (by cases h), .func 132, _, 132, #[.pointer (some ⟨w.heap.size, 0, none⟩), .pointer (some ⟨w.heap.size + 1, 0, none⟩)], rfl, by simp [go_sem], fun _ _ => trivial, ?_⟩⟩
    refine (catchRead_idle _ _ _ _).mono ?_
    rintro e u' w'' ⟨rfl, rfl, rfl⟩
    have z0 := (r1).cell (k := 0) (by omega); have z1 := (r1).cell (k := 1) (by omega); have z2 := (r1).cell (k := 2) (by omega); have z3 := (r1).cell (k := 3) (by omega); have z4 := (r1).cell (k := 4) (by omega); have z5 := (r1).cell (k := 5) (by omega); have z6 := (r1).cell (k := 6) (by omega); have z7 := (r1).cell (k := 7) (by omega)
    have ze := r2.cell
    refine ⟨.tuple #[sol (oneS 460039), .int .i64 0], ?_, rfl, r4⟩
    simp [results, Tryz.results83, go_sem, z0, z1, z2, z3, z4, z5, z6, z7, ze]
  case stop =>
    rintro D c pre W _ _ h _
    exact h.elim
end Go.Proofs.YtadkaplafaeebaaGreatDoor
