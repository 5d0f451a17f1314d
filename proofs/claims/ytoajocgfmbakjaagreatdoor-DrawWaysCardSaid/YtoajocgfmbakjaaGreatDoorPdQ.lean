/-
  However an order is begun, it goes on to all that goes in rounds: mathematics.
-/
import Derived.Test.YtoajocgfmbakjaaGreatDoorPdO
import Derived.Test.YtoajocgfmbakjaaGreatDoorPdB
import Derived.Test.YtoajocgfmbakjaaGreatDoorPdA
import Derived.Test.YtoajocgfmbakjaaGreatDoorPdN
import Derived.Test.YtoajocgfmbakjaaGreatDoorPdK
set_option linter.unusedVariables false
set_option linter.unusedSimpArgs false
namespace Go.Proofs.YtoajocgfmbakjaaGreatDoor
open Go Go.RowKit

/-- What goes by and by when some has gone. -/
def itr (ms : List Sol) : Nat → Nat → Nat
  | 0, g => g
  | k + 1, g => itr ms k g ||| readyF ms (itr ms k g)
theorem ready_lt {ms : List Sol} (h12 : ms.length ≤ 12) (g : Nat) : readyF ms g < 65536 := readyK_lt ms g ms.length (by omega)
theorem itr_lt {ms : List Sol} (h12 : ms.length ≤ 12) {g : Nat} (hg : g < 65536) : ∀ k, itr ms k g < 65536
  | 0 => hg
  | k + 1 => or_lt16 (itr_lt h12 hg k) (ready_lt h12 _)
theorem itr_sub {ms : List Sol} {g : Nat} (hs : sub g (allN ms.length)) : ∀ k, sub (itr ms k g) (allN ms.length)
  | 0 => hs
  | k + 1 => sub_or (itr_sub hs k) ready_all
theorem itr_more {ms : List Sol} {g : Nat} : ∀ k, sub g (itr ms k g)
  | 0 => sub_refl _
  | k + 1 => sub_trans (itr_more k) (sub_or_l _ _)
theorem len_lt {s t : Nat} (hs : s < 65536) (ht : t < 65536) (h : sub s t) (hne : s ≠ t) : (listS s).length < (listS t).length := by
  have h1 := listS_sub hs ht h
  refine Nat.lt_of_le_of_ne h1.length_le fun e => hne (listS_inj hs ht (h1.eq_of_length e))
theorem itr_len {ms : List Sol} (h12 : ms.length ≤ 12) {g : Nat} (hg : g < 65536) : ∀ k, readyF ms (itr ms k g) = 0 ∨ k ≤ (listS (itr ms k g)).length
  | 0 => .inr (Nat.zero_le _)
  | k + 1 => by
    by_cases h0 : readyF ms (itr ms k g) = 0
    · left
      show readyF ms (itr ms k g ||| readyF ms (itr ms k g)) = 0
      rw [h0, Nat.or_zero, h0]
    · right
      rcases itr_len h12 hg k with h | h
      · exact absurd h h0
      · have hb := (lowS_bit (x := readyF ms (itr ms k g)) (ready_lt h12 _) h0).1
        obtain ⟨_, h2, _⟩ := ready_bit.1 hb
        have := len_lt (itr_lt h12 hg k) (itr_lt h12 hg (k + 1)) (sub_or_l _ _) (fun e => by
          have h3 : (itr ms k g ||| readyF ms (itr ms k g)).testBit (lowS (readyF ms (itr ms k g))) = true := by rw [Nat.testBit_or, hb]; simp
          have e' : itr ms k g = itr ms k g ||| readyF ms (itr ms k g) := e
          rw [← e', h2] at h3
          cases h3)
        omega
theorem itr_stuck {ms : List Sol} (h12 : ms.length ≤ 12) {g : Nat} (hg : g < 65536) (hs : sub g (allN ms.length)) : readyF ms (itr ms 12 g) = 0 := by
  rcases itr_len h12 hg 12 with h | h
  · exact h
  · have hl := itr_lt h12 hg 12
    have hS := itr_sub hs 12
    have ha := allN_lt (n := ms.length) (by omega)
    have e : itr ms 12 g = allN ms.length := by
      refine Classical.byContradiction fun hne => ?_
      have := len_lt hl ha hS hne
      rw [list_all_len h12] at this
      omega
    refine sub_antisymm (fun p hp => ?_) (sub_zero _)
    obtain ⟨h1, h2, _⟩ := ready_bit.1 hp
    rw [e, all_bit, decide_eq_true h1] at h2
    cases h2
theorem itr_rounds {ms : List Sol} (h12 : ms.length ≤ 12) {g : Nat} (hg : g < 65536) (hs : sub g (reach ms (allN ms.length))) : itr ms 12 g = (roundsF ms).2 := by
  rw [rounds_reach h12]
  have hs2 := sub_trans hs (reach_sub h12 _)
  refine sub_antisymm ?_ (reach_off h12 (itr_stuck h12 hg hs2) _)
  have key : ∀ k, sub (itr ms k g) (reach ms (allN ms.length)) := by
    intro k
    induction k with
    | zero => exact hs
    | succ k ih =>
      refine sub_or ih fun p hp => ?_
      obtain ⟨h1, h2, h3⟩ := ready_bit.1 hp
      exact reach_closed h12 ih (by rw [all_bit]; exact decide_eq_true h1) h3
  exact key 12
def orL (g : Nat) (l : List Nat) : Nat := l.foldl (· ||| ·) g
theorem roundsK_or (ms : List Sol) : ∀ (n g : Nat), (roundsK ms n g).2 = orL g (roundsK ms n g).1
  | 0, g => rfl
  | n + 1, g => by
    unfold roundsK
    split
    · rfl
    · exact roundsK_or ms n _
theorem roundsK_sub (ms : List Sol) : ∀ (n g : Nat), ∀ s ∈ (roundsK ms n g).1, sub s (allN ms.length)
  | 0, g, s, h => by simp [roundsK] at h
  | n + 1, g, s, h => by
    unfold roundsK at h
    split at h
    · simp at h
    · rcases List.mem_cons.1 h with rfl | h
      · exact ready_all
      · exact roundsK_sub ms n _ s h
theorem orL_snoc (g : Nat) (l : List Nat) (x : Nat) : orL g (l ++ [x]) = orL g l ||| x := by unfold orL; rw [List.foldl_append]; rfl
theorem orL_sub {n : Nat} : ∀ (l : List Nat) (g : Nat), sub g (allN n) → (∀ s ∈ l, sub s (allN n)) → sub (orL g l) (allN n)
  | [], g, hg, _ => hg
  | x :: l, g, hg, h => orL_sub l _ (sub_or hg (h x (by simp))) fun s hs => h s (by simp [hs])
theorem setL_snoc (x : Nat) : ∀ (l : List Nat) (g : Nat), setL g (l ++ [x]) = setL g l ||| 2 ^ x
  | [], g => rfl
  | p :: l, g => setL_snoc x l _
theorem sub_lt16 {s n : Nat} (hn : n ≤ 12) (h : sub s (allN n)) : s < 65536 := by
  have h2 := allN_lt (n := n) (by omega)
  have : s ≤ allN n := by
    have e : s = s &&& allN n := by
      apply Nat.eq_of_testBit_eq
      intro i
      rw [Nat.testBit_and]
      cases hs : s.testBit i with
      | false => simp
      | true => rw [h i hs]; rfl
    rw [e]
    exact Nat.and_le_right
  omega
/-- The union, as the reference makes it. -/
def unionF (a b : List Int) : List Nat := (List.range 12).filter fun i => decide ((i : Int) ∈ a ∨ (i : Int) ∈ b)
theorem unionF_asc (a b : List Int) : (unionF a b).Pairwise (· < ·) := List.pairwise_lt_range.filter _
theorem mem_unionF {a b : List Int} {x : Nat} : x ∈ unionF a b ↔ x < 12 ∧ ((x : Int) ∈ a ∨ (x : Int) ∈ b) := by
  unfold unionF
  rw [List.mem_filter, List.mem_range, decide_eq_true_eq]
abbrev intsB (l : List Nat) : List Int := l.map fun x : Nat => (x : Int)
theorem mem_intsB {s x : Nat} (hs : s < 65536) : (x : Int) ∈ intsB (listS s) ↔ s.testBit x = true := by
  rw [List.mem_map]
  constructor
  · rintro ⟨y, hy, e⟩
    have : y = x := by omega
    rw [← this]
    exact (mem_listS hs).1 hy
  · intro h
    exact ⟨x, (mem_listS hs).2 h, rfl⟩
theorem union_sets {n g h : Nat} (hn : n ≤ 12) (hg : sub g (allN n)) (hh : sub h (allN n)) : unionF (intsB (listS g)) (intsB (listS h)) = listS (g ||| h) := by
  have g1 := sub_lt16 hn hg
  have h1 := sub_lt16 hn hh
  refine asc_ext (unionF_asc _ _) (listS_asc (or_lt16 g1 h1)) fun x => ?_
  rw [mem_unionF, mem_listS (or_lt16 g1 h1), mem_intsB g1, mem_intsB h1, Nat.testBit_or, Bool.or_eq_true]
  constructor
  · exact fun h => h.2
  · intro hx
    refine ⟨?_, hx⟩
    have : (allN n).testBit x = true := hx.elim (hg x) (hh x)
    rw [all_bit] at this
    have := of_decide_eq_true this
    omega
theorem list_pow {p : Nat} (h : p < 16) : listS (2 ^ p) = [p] := by
  have := list_setL (l := [p]) (by simp) (by simpa using h)
  unfold setL setL at this
  rwa [Nat.zero_or] at this
/-- What can go can still go when more has gone. -/
theorem wide_has {ms : List Sol} (hc : chkM ms = 0) {g : Nat} {more : List Int} (hg : sub g (allN ms.length)) (he : errW ms (intsB (unionF (intsB (listS g)) more)) = 0) {r : Nat} (hr : r ∈ listS (readyF ms g)) (hn : (r : Int) ∉ more) :
    (r : Int) ∈ intsB (readyL ms (intsB (unionF (intsB (listS g)) more))) := by
  have h12 := chkM_len hc
  have g1 := sub_lt16 h12 hg
  obtain ⟨h1, h2, h3⟩ := ready_bit.1 ((mem_listS (ready_lt h12 g)).1 hr)
  unfold readyL
  rw [if_pos he]
  rcases errW_ways ms (intsB (unionF (intsB (listS g)) more)) with ⟨k, _⟩ | ⟨_, k, e⟩ | ⟨_, ⟨s, hs⟩, _⟩
  · exact absurd hc k
  · rw [e] at he; cases he
  · obtain ⟨k1, k2, k3⟩ := setF_spec h12 hs
    rw [hs]
    have hbit : ∀ x : Nat, s.testBit x = true ↔ x < 12 ∧ (g.testBit x = true ∨ (x : Int) ∈ more) := fun x => by
      rw [← mem_intsB k2, ← mem_intsB g1]
      have k1' : intsB (listS s) = intsB (unionF (intsB (listS g)) more) := k1.symm
      rw [k1', List.mem_map]
      constructor
      · rintro ⟨y, hy, e⟩
        have : y = x := by omega
        rw [this] at hy
        exact mem_unionF.1 hy
      · intro h
        exact ⟨x, mem_unionF.2 h, rfl⟩
    have hsub : sub g s := fun i hi => (hbit i).2 ⟨by
      have := hg i hi
      rw [all_bit] at this
      have := of_decide_eq_true this
      omega, .inl hi⟩
    refine (mem_intsB (ready_lt h12 s)).2 (ready_bit.2 ⟨h1, ?_, can_mono hsub h3⟩)
    cases hb : s.testBit r with
    | false => rfl
    | true =>
      rcases ((hbit r).1 hb).2 with k | k
      · rw [h2] at k; cases k
      · exact absurd k hn
/-- The pieces of an order are some that go at all. -/
theorem order_sub {ms : List Sol} (hc : chkM ms = 0) {l : List Mo} (h : chkO ms l = true) : sub (setL 0 (pcs l)) (reach ms (allN ms.length)) ∧ ∀ m ∈ l, ∃ p : Nat, m.1 = p ∧ p < ms.length := by
  have h12 := chkM_len hc
  unfold chkO at h
  rw [if_pos hc] at h
  obtain ⟨h1, h2⟩ := ordK_goes l 0 h
  refine ⟨goes_reach h12 _ _ (sub_zero _) h1 fun p hp => by rw [all_bit]; exact decide_eq_true (h2 p hp), ?_⟩
  have key : ∀ (l : List Mo) (g : Nat), ordK ms g l = true → ∀ x ∈ l, ∃ p : Nat, x.1 = p ∧ p < ms.length := by
    intro l
    induction l with
    | nil => intro g _ x hx; simp at hx
    | cons y l ih =>
      intro g h x hx
      unfold ordK at h
      rw [Bool.and_eq_true] at h
      rcases List.mem_cons.1 hx with rfl | hx
      · obtain ⟨p, e, hp, _⟩ := next_can h.1; exact ⟨p, e, hp⟩
      · exact ih _ h.2 x hx
  exact key l 0 h
end Go.Proofs.YtoajocgfmbakjaaGreatDoor
/-
  The reference's Union.
-/
set_option linter.unusedVariables false
set_option linter.unusedSimpArgs false
namespace Go.Proofs.YtoajocgfmbakjaaGreatDoor
open Go Go.RowKit Go.Shelf

def uniK (a b : List Int) (n : Nat) : List Nat := (List.range n).filter fun i => decide ((i : Int) ∈ a ∨ (i : Int) ∈ b)
theorem uniK_succ (a b : List Int) (n : Nat) : uniK a b (n + 1) = uniK a b n ++ if (n : Int) ∈ a ∨ (n : Int) ∈ b then [n] else [] := by
  unfold uniK
  rw [List.range_succ, List.filter_append]
  by_cases h : (n : Int) ∈ a ∨ (n : Int) ∈ b
  · rw [if_pos h, List.filter_cons, if_pos (decide_eq_true h)]; rfl
  · rw [if_neg h, List.filter_cons, if_neg (by simp only [decide_eq_true_eq]; exact h)]; rfl
set_option maxRecDepth 100000 in
set_option maxHeartbeats 2000000 in
theorem union_ok (a b : List Int) (va vb : Value) (w : World) (h1 : IntsAt w va a) (h2 : IntsAt w vb b) :
    Calls Tryz.prog 75 #[va, vb] w fun e w' => (∃ u, e = .returned u ∧ w'.ownsRow w.heap.size 3 1 u (unionF a b).length (flatI (unionF a b))) ∧ Below w.heap.size w w' := by
  have H1 := Lib.hid h1
  have H2 := Lib.hid h2
  have HI1 := Lib.hid (fun (W : World) (x : Int) (h : IntsAt W va a) => inR_ok a va x W h)
  have HI2 := Lib.hid (fun (W : World) (x : Int) (h : IntsAt W vb b) => inR_ok b vb x W h)
  have HU := Lib.hid (show unionF a b = uniK a b 12 from rfl)
  have HS := Lib.hid (uniK_succ a b)
  obtain ⟨i0, hi', hz0, hz1, hz2⟩ := info_parts info_int'
  rw [HU.out]
  clear h1 h2 HU
  go_enter Tryz.func75, Tryz.ntmps75
  go_wp2_with fail
  go_loopw [5, 6] (fun lv z wr => ∃ (i : Nat) (pre : List Nat), i ≤ 12 ∧ z = .int .i64 i ∧ pre.length ≤ i ∧ Hid (uniK a b i = pre) ∧ wr.ownsRow w.heap.size 3 1 lv pre.length (flatI pre) ∧ Below w.heap.size w wr) (fun _ z _ => 12 - (intOf z).toNat)
  case atStart => exact ⟨0, [], by omega, rfl, by simp, Lib.hid rfl, World.ownsRow_nil _ _ _ _, Below.refl _ _⟩
  case round =>
    obtain ⟨i, pre, hi, rfl, hpl, HO, hrow, hB⟩ := hrel
    have hsz := hB.size
    by_cases hlt : i < 12
    · have hd : decide ((i : Int) < 12) = true := decide_eq_true (by omega)
      have hw1 : IntKind.i64.wrap ((i : Int) + 1) = (i : Int) + 1 := by rw [IntWalk.i64_in] <;> omega
      have HA := Lib.hid (H1.out.below hB (Nat.le_refl _))
      by_cases ha : (i : Int) ∈ a
      · have HX := Lib.hid (show uniK a b (i + 1) = pre ++ [i] by rw [HS.out, HO.out, if_pos (.inl ha)])
        have HC := Lib.hid (show Calls Tryz.prog 76 #[va, .int .i64 i] wr (RetB (.bool true) wr) by have := HI1.out wr i HA.out; rwa [show decide ((i : Int) ∈ a) = true from decide_eq_true ha] at this)
        clear ha HO
        go_wp2_with fail
        refine HC.out.mono ?_
        rintro e w3 ⟨rfl, hb3⟩
        have HBN := Lib.hid hb3
        have row3 := row_below hrow HBN.out
        have hB3 : Below w.heap.size w w3 := up HBN.out hB
        have hsz3 := hB3.size
        have hlen : pre.length ≤ 12 := by omega
        go_wp2_with (at_builtin; refine wpList_append_own _ rfl _ _ 38 rfl w.heap.size 3 i0 (.int .i64 0) 1 8 under_ints hi' hz0 hz1 hz2 rfl (by decide) u5 _ _ rfl (row3.alloc _) ⟨w3.heap.size, 0, none⟩ 1 1 [.int .i64 (i : Int)] rfl rfl (int_new _ rfl _) (by simp [Value.oneCell']) (by simp only [maxLen]; omega) (by omega) (by simp; omega) ?_; intro v' w5 hown' hgrow _; obtain ⟨g', cap', rfl⟩ := ownsRow_succ hown')
        case roundEnd =>
          have hb5 : Below w.heap.size w3 w5 := ((Below.refl w.heap.size w3).alloc hsz3 _).grown hgrow (by simp; omega) fun j ej => (row3.lt j ej).1
          exact ⟨⟨i + 1, pre ++ [i], by omega, by go_num, by simp; omega, HX, by simp only [List.length_append, List.length_cons, List.length_nil]; unfold flatI at *; rw [List.map_append]; exact hown', hB3.trans hb5⟩, by simp [intOf]; omega⟩
      · have HC := Lib.hid (show Calls Tryz.prog 76 #[va, .int .i64 i] wr (RetB (.bool false) wr) by have := HI1.out wr i HA.out; rwa [show decide ((i : Int) ∈ a) = false from decide_eq_false ha] at this)
        by_cases hb : (i : Int) ∈ b
        · have HX := Lib.hid (show uniK a b (i + 1) = pre ++ [i] by rw [HS.out, HO.out, if_pos (.inr hb)])
          have HC2 := Lib.hid (fun (W : World) (h : Below w.heap.size w W) => (show Calls Tryz.prog 76 #[vb, .int .i64 i] W (RetB (.bool true) W) by have := HI2.out W i (H2.out.below h (Nat.le_refl _)); rwa [show decide ((i : Int) ∈ b) = true from decide_eq_true hb] at this))
          clear ha hb HO
          go_wp2_with fail
          refine HC.out.mono ?_
          rintro e w2 ⟨rfl, hb2⟩
          go_wp2_with fail
          refine (HC2.out _ (up hb2 hB)).mono ?_
          rintro e w3 ⟨rfl, hb3⟩
          have HBN := Lib.hid (up hb3 hb2)
          clear hb2 hb3
          have row3 := row_below hrow HBN.out
          have hB3 : Below w.heap.size w w3 := up HBN.out hB
          have hsz3 := hB3.size
          have hlen : pre.length ≤ 12 := by omega
          go_wp2_with (at_builtin; refine wpList_append_own _ rfl _ _ 38 rfl w.heap.size 3 i0 (.int .i64 0) 1 8 under_ints hi' hz0 hz1 hz2 rfl (by decide) u5 _ _ rfl (row3.alloc _) ⟨w3.heap.size, 0, none⟩ 1 1 [.int .i64 (i : Int)] rfl rfl (int_new _ rfl _) (by simp [Value.oneCell']) (by simp only [maxLen]; omega) (by omega) (by simp; omega) ?_; intro v' w5 hown' hgrow _; obtain ⟨g', cap', rfl⟩ := ownsRow_succ hown')
          case roundEnd =>
            have hb5 : Below w.heap.size w3 w5 := ((Below.refl w.heap.size w3).alloc hsz3 _).grown hgrow (by simp; omega) fun j ej => (row3.lt j ej).1
            exact ⟨⟨i + 1, pre ++ [i], by omega, by go_num, by simp; omega, HX, by simp only [List.length_append, List.length_cons, List.length_nil]; unfold flatI at *; rw [List.map_append]; exact hown', hB3.trans hb5⟩, by simp [intOf]; omega⟩
        · have HX := Lib.hid (show uniK a b (i + 1) = pre by rw [HS.out, HO.out, if_neg (fun h => h.elim ha hb), List.append_nil])
          have HC2 := Lib.hid (fun (W : World) (h : Below w.heap.size w W) => (show Calls Tryz.prog 76 #[vb, .int .i64 i] W (RetB (.bool false) W) by have := HI2.out W i (H2.out.below h (Nat.le_refl _)); rwa [show decide ((i : Int) ∈ b) = false from decide_eq_false hb] at this))
          clear ha hb HO
          go_wp2_with fail
          refine HC.out.mono ?_
          rintro e w2 ⟨rfl, hb2⟩
          go_wp2_with fail
          refine (HC2.out _ (up hb2 hB)).mono ?_
          rintro e w3 ⟨rfl, hb3⟩
          have HBN := Lib.hid (up hb3 hb2)
          clear hb2 hb3
          go_wp2_with fail
          case roundEnd => exact ⟨⟨i + 1, pre, by omega, by go_num, by omega, HX, row_below hrow HBN.out, up HBN.out hB⟩, by simp [intOf]; omega⟩
    · obtain rfl : i = 12 := by omega
      have HX := HO.out
      go_wp2_with fail
      go_ret
      rw [HX]
      exact ⟨⟨_, rfl, hrow⟩, hB⟩
end Go.Proofs.YtoajocgfmbakjaaGreatDoor
/-
  DrawBegun.
-/
set_option linter.unusedVariables false
set_option linter.unusedSimpArgs false
namespace Go.Proofs.YtoajocgfmbakjaaGreatDoor
open Go Go.RowKit Go.Shelf

theorem unionS_ok {n g h : Nat} (hn : n ≤ 12) (hg : sub g (allN n)) (hh : sub h (allN n)) (va vb : Value) (w : World) (h1 : IntsAt w va (intsB (listS g))) (h2 : IntsAt w vb (intsB (listS h))) :
    Calls Tryz.prog 75 #[va, vb] w fun e w' => (∃ u, e = .returned u ∧ IntsAt w' u (intsB (listS (g ||| h)))) ∧ Below w.heap.size w w' := by
  refine (union_ok _ _ va vb w h1 h2).mono ?_
  rw [union_sets hn hg hh]
  rintro e w' ⟨⟨u, rfl, hrow⟩, hb⟩
  exact ⟨⟨u, rfl, intsAt_own hrow⟩, hb⟩
theorem readyS_ok {ms : List Sol} (hc : chkM ms = 0) {g : Nat} (hg : sub g (allN ms.length)) (v gv : Value) (w : World) (hv : SolsAt w v ms) (hl : IntsAt w gv (intsB (listS g))) (hm : ∀ m ∈ ms, Fit m) (hT : Tab32 w) :
    Calls Tryz.prog 41 #[v, gv] w fun e w' => (∃ u, e = .returned (.tuple #[u, .int .i64 0]) ∧ IntsAt w' u (intsB (listS (readyF ms g)))) ∧ Below w.heap.size w w' := by
  have h12 := chkM_len hc
  have g1 := sub_lt16 h12 hg
  have hs : setF ms.length (intsB (listS g)) = some g := setF_list g1 hg
  have he : errW ms (intsB (listS g)) = 0 := by unfold errW; rw [if_pos hc, hs]; rfl
  have hr : readyL ms (intsB (listS g)) = listS (readyF ms g) := by unfold readyL; rw [if_pos he, hs]; rfl
  have hlen : (intsB (listS g)).length ≤ 100 := by
    rw [List.length_map]
    have := part_len (allN_lt (n := ms.length) (by omega)) g1 hg
    rw [list_all_len h12] at this
    omega
  refine (readyT_ok ms _ v gv w hv hl hm hlen hT).mono ?_
  rw [he, hr]
  rintro e w' ⟨⟨u, rfl, hrow, _⟩, hb⟩
  exact ⟨⟨u, rfl, intsAt_own hrow⟩, hb⟩
theorem unionF_len (a b : List Int) : (unionF a b).length ≤ 12 := by
  have := List.length_filter_le (fun i : Nat => decide ((i : Int) ∈ a ∨ (i : Int) ∈ b)) (List.range 12)
  rw [List.length_range] at this
  exact this
theorem listS_0 : listS 0 = [] := by simp [listS, listK]
theorem ints_0 {W : World} {p : Option Addr} {c : Nat} {g : Nat} (h : g = 0) : IntsAt W (.slice p 0 c) (intsB (listS g)) := by
  rw [h, listS_0]
  exact ⟨p, c, rfl, by simp, .inl rfl⟩
theorem pcs_sub {ms : List Sol} {l : List Mo} (h : ∀ m ∈ l, ∃ p : Nat, m.1 = p ∧ p < ms.length) (i : Nat) : sub (setL 0 (pcs (l.take i))) (allN ms.length) := fun x hx => by
  rw [setL_bit] at hx
  rcases hx with hx | hx
  · simp at hx
  · unfold pcs at hx
    obtain ⟨m, hm, e⟩ := List.mem_map.1 hx
    obtain ⟨p, hp, hlt⟩ := h m (List.mem_of_mem_take hm)
    rw [all_bit]
    exact decide_eq_true (by omega)
theorem pcs_step {l : List Mo} {i p : Nat} {m : Mo} (hi : l[i]? = some m) (hp : m.1 = p) : setL 0 (pcs (l.take (i + 1))) = setL 0 (pcs (l.take i)) ||| 2 ^ p := by
  rw [List.take_add_one, hi]
  unfold pcs
  rw [List.map_append]
  show setL 0 (_ ++ [m.1.toNat]) = _
  rw [setL_snoc]
  congr 2
  omega
theorem or_step {rs : List Nat} {i s : Nat} (hi : rs[i]? = some s) : orL 0 (rs.take (i + 1)) = orL 0 (rs.take i) ||| s := by
  rw [List.take_add_one, hi]
  exact orL_snoc _ _ _
set_option maxRecDepth 100000 in
set_option maxHeartbeats 8000000 in
theorem begun_walk (ms : List Sol) (l : List Mo) (more : List Int) (v lv mv : Value) (w : World) (hv : SolsAt w v ms) (hm : ∀ m ∈ ms, Fit m) (hl : MovsAt w lv l) (hk : IntsAt w mv more) (hT : Tab32 w) (h64 : Tab64 w) :
    Calls Tryz.prog 11 #[v, lv, mv] w (RetB (.bool true) w) := by
  have HT := Lib.hid hT
  have H6 := Lib.hid h64
  have HM := Lib.hid hm
  have HV := Lib.hid hv
  have HLL := Lib.hid hl
  have HKK := Lib.hid hk
  obtain ⟨pa, ca, rfl, hma, _⟩ := hv
  obtain ⟨pl, cl, rfl, hmb, _⟩ := hl
  obtain ⟨pk, ck, rfl, hmc, _⟩ := hk
  obtain ⟨fw, hfw⟩ : ∃ fw, fw = decide ((ms.length : Int) ≤ 12 ∨ 12 < (ms.length : Int) ∧ (ms.length : Int) ≤ 15) := ⟨_, rfl⟩
  have HF := Lib.hid (fun W => few_ok pa ms.length ca 12 W)
  rw [← hfw] at HF
  clear hfw hT h64 hm
  simp only [maxLen] at hma hmb hmc
  go_enter Tryz.func11, Tryz.ntmps11
  cases fw with
  | false =>
    go_wp2_with fail
    refine (HF.out _).mono ?_
    rintro e w1 ⟨rfl, hb1⟩
    have HB1 := Lib.hid hb1
    go_wp2_with fail
    refine (cast_ok _ (HT.out.below HB1.out (Nat.le_refl _)) (H6.out.below HB1.out (Nat.le_refl _))).mono ?_
    rintro e w4 ⟨rfl, hb4⟩
    go_wp2_with fail
    go_ret
    exact ⟨rfl, up hb4 HB1.out⟩
  | true =>
    by_cases h20 : 20 < l.length
    · have hd20 : decide ((20 : Int) < (l.length : Int)) = true := decide_eq_true (by omega)
      go_wp2_with fail
      refine (HF.out _).mono ?_
      rintro e w1 ⟨rfl, hb1⟩
      have HB1 := Lib.hid hb1
      go_wp2_with fail
      refine (cast_ok _ (HT.out.below HB1.out (Nat.le_refl _)) (H6.out.below HB1.out (Nat.le_refl _))).mono ?_
      rintro e w4 ⟨rfl, hb4⟩
      go_wp2_with fail
      go_ret
      exact ⟨rfl, up hb4 HB1.out⟩
    · have hd20 : decide ((20 : Int) < (l.length : Int)) = false := decide_eq_false (by omega)
      have HO := Lib.hid (fun (W : World) (h : SolsAt W (.slice pa ms.length ca) ms) (h' : MovsAt W (.slice pl l.length cl) l) => checkOrder_ok ms l (.slice pa ms.length ca) (.slice pl l.length cl) W h h' HM.out (by omega))
      go_wp2_with fail
      refine (HF.out _).mono ?_
      rintro e w1 ⟨rfl, hb1⟩
      have HB1 := Lib.hid hb1
      have HK1 := Lib.hid (HKK.out.below HB1.out (Nat.le_refl _))
      clear hb1
      obtain ⟨sw, hsw⟩ : ∃ sw, sw = decide (∀ x ∈ [more], x.length ≤ 20) := ⟨_, rfl⟩
      have HS := Lib.hid (fun (n cap : Nat) (h : n = w1.heap.size) => short_ok [more] (.slice (.some ⟨n, 0, none⟩) 1 cap) _ (lists_one h HK1.out))
      rw [← hsw] at HS
      clear hsw
      cases sw with
      | false =>
        go_wp2_with fail
        refine (HS.out _ _ rfl).mono ?_
        rintro e w2 ⟨rfl, hb2⟩
        have HB2 := Lib.hid (up (up hb2 (grow1 _ _)) HB1.out)
        clear hb2
        go_wp2_with fail
        refine (cast_ok _ (HT.out.below HB2.out (Nat.le_refl _)) (H6.out.below HB2.out (Nat.le_refl _))).mono ?_
        rintro e w4 ⟨rfl, hb4⟩
        go_wp2_with fail
        go_ret
        exact ⟨rfl, up hb4 HB2.out⟩
      | true =>
        have HPO := Lib.hid (fun (hc : chkM ms = 0) (h : chkO ms l = true) => order_sub hc h)
        have HCC := Lib.hid (fun (h : chkM ms = 0) => h)
        obtain ⟨ok, hok⟩ : ∃ ok, ok = chkO ms l := ⟨_, rfl⟩
        obtain ⟨c, hcv⟩ : ∃ c, c = chkM ms := ⟨_, rfl⟩
        rw [← hok] at HO HPO
        rw [← hcv] at HO HPO
        have HCV := Lib.hid hcv
        clear hok hcv HCC
        go_wp2_with fail
        refine (HS.out _ _ rfl).mono ?_
        rintro e w2 ⟨rfl, hb2⟩
        have HB2 := Lib.hid (up (up hb2 (grow1 _ _)) HB1.out)
        clear hb2 HS HK1 HB1
        go_wp2_with fail
        refine (HO.out _ (HV.out.below HB2.out (Nat.le_refl _)) (HLL.out.below HB2.out (Nat.le_refl _))).mono ?_
        rintro e w3 ⟨rfl, hb3⟩
        have HB3 := Lib.hid (up hb3 HB2.out)
        clear hb3 HO HB2
        by_cases hc : c = 0
        · subst hc
          cases ok with
          | false =>
            go_wp2_with fail
            refine (cast_ok _ (HT.out.below HB3.out (Nat.le_refl _)) (H6.out.below HB3.out (Nat.le_refl _))).mono ?_
            rintro e w4 ⟨rfl, hb4⟩
            go_wp2_with fail
            go_ret
            exact ⟨rfl, up hb4 HB3.out⟩
          | true =>
            have HP2 := Lib.hid (HPO.out rfl rfl)
            have HC0 : Hid (chkM ms = 0) := Lib.hid HCV.out.symm
            have H12 := Lib.hid (chkM_len HC0.out)
            have HG0 : Hid (sub (setL 0 (pcs l)) (allN ms.length)) := Lib.hid (sub_trans HP2.out.1 (reach_sub H12.out _))
            have HIT := Lib.hid (itr_rounds H12.out (sub_lt16 H12.out HG0.out) HP2.out.1)
            have HSB := Lib.hid (pcs_sub HP2.out.2)
            obtain ⟨G, hG⟩ : ∃ G : Nat → Nat, G = fun i => setL 0 (pcs (l.take i)) := ⟨_, rfl⟩
            have HGS : Hid (∀ i, sub (G i) (allN ms.length)) := Lib.hid fun i => by rw [hG]; exact HSB.out i
            have HGZ : Hid (G 0 = 0) := Lib.hid (by rw [hG]; rfl)
            have HG1 : Hid (∀ (i p : Nat) (m : Mo), l[i]? = some m → m.1 = p → G (i + 1) = G i ||| 2 ^ p) := Lib.hid fun i p m hi hp => by rw [hG]; exact pcs_step hi hp
            have HGE : Hid (G l.length = setL 0 (pcs l)) := Lib.hid (by rw [hG]; show setL 0 (pcs (l.take l.length)) = _; rw [List.take_length])
            obtain ⟨g0, hg0⟩ : ∃ g0, g0 = setL 0 (pcs l) := ⟨_, rfl⟩
            rw [← hg0] at HIT HGE HG0
            obtain ⟨J, hJ⟩ : ∃ J : Nat → Nat, J = fun k => itr ms k g0 := ⟨_, rfl⟩
            have HJS : Hid (∀ k, sub (J k) (allN ms.length)) := Lib.hid fun k => by rw [hJ]; exact itr_sub HG0.out k
            have HJ0 : Hid (J 0 = g0) := Lib.hid (by rw [hJ]; rfl)
            have HJ1 : Hid (∀ k, J (k + 1) = J k ||| readyF ms (J k)) := Lib.hid fun k => by rw [hJ]; rfl
            obtain ⟨R, hR⟩ : ∃ R, R = (roundsF ms).2 := ⟨_, rfl⟩
            have HJE : Hid (J 12 = R) := Lib.hid (by rw [hJ, hR]; exact HIT.out)
            obtain ⟨O, hOo⟩ : ∃ O : Nat → Nat, O = fun i => orL 0 ((roundsF ms).1.take i) := ⟨_, rfl⟩
            obtain ⟨K, hK⟩ : ∃ K, K = (roundsL ms).map (fun l => l.map fun x : Nat => (x : Int)) := ⟨_, rfl⟩
            have HRL : Hid ((roundsL ms).map (fun l => l.map fun x : Nat => (x : Int)) = K) := Lib.hid hK.symm
            have HKE : Hid (K = (roundsF ms).1.map fun s => intsB (listS s)) := Lib.hid (by rw [hK, show roundsL ms = (roundsF ms).1.map listS from if_pos HC0.out, List.map_map]; rfl)
            have HO0 : Hid (O 0 = 0) := Lib.hid (by rw [hOo]; rfl)
            have HOS : Hid (∀ i, sub (O i) (allN ms.length)) := Lib.hid fun i => by rw [hOo]; exact orL_sub _ 0 (sub_zero _) fun s hs => roundsK_sub ms 65536 0 s (List.mem_of_mem_take hs)
            have HO1 : Hid (∀ (i : Nat) (r : List Int), K[i]? = some r → ∃ s, r = intsB (listS s) ∧ sub s (allN ms.length) ∧ O (i + 1) = O i ||| s) := Lib.hid fun i r hi => by
              rw [HKE.out, List.getElem?_map] at hi
              cases hy : (roundsF ms).1[i]? with
              | none => rw [hy] at hi; cases hi
              | some s =>
                rw [hy] at hi
                cases hi
                exact ⟨s, rfl, roundsK_sub ms 65536 0 s (List.mem_of_getElem? hy), by rw [hOo]; exact or_step hy⟩
            have HOE : Hid (O K.length = R) := Lib.hid (by
              rw [hOo, hR, HKE.out, List.length_map]
              show orL 0 ((roundsF ms).1.take (roundsF ms).1.length) = _
              rw [List.take_length]
              exact (roundsK_or ms 65536 0).symm)
            have HL3 := Lib.hid (HLL.out.below HB3.out (Nat.le_refl _))
            clear HPO HCV HIT HSB hG hg0 hJ hR hOo hK HKE
            go_wp2_with fail
            go_loopw [9, 10] (fun gv z wr => ∃ i : Nat, i ≤ l.length ∧ z = .int .i64 i ∧ IntsAt wr gv (intsB (listS (G i))) ∧ Below w3.heap.size w3 wr) (fun _ z _ => l.length - (intOf z).toNat)
            case atStart => exact ⟨0, by omega, rfl, ints_0 HGZ.out, by first | exact Below.refl _ _ | exact (Below.refl _ _).alloc (Nat.le_refl _) _⟩
            case round =>
              obtain ⟨i, hi, rfl, hgv, hB⟩ := hrel
              by_cases hlt : i < l.length
              · have hd : decide ((i : Int) < (l.length : Int)) = true := decide_eq_true (by omega)
                have hii : (i : Int) < (l.length : Int) := by omega
                have hw1 : IntKind.i64.wrap ((i : Int) + 1) = (i : Int) + 1 := by rw [IntWalk.i64_in] <;> omega
                obtain ⟨m, hmi⟩ : ∃ m, l[i]? = some m := ⟨_, List.getElem?_eq_getElem hlt⟩
                obtain ⟨b1, o1, cl', he, hb1, x0, _, _⟩ := (HL3.out.below hB (Nat.le_refl _)).at hmi
                obtain ⟨rfl, rfl⟩ : pl = some ⟨b1, o1, none⟩ ∧ cl = cl' := by injection he with e1 e2 e3; exact ⟨e1, e3⟩
                obtain ⟨p, hp1, hp2⟩ := HP2.out.2 m (List.mem_of_getElem? hmi)
                have HG2 := Lib.hid (HG1.out i p m hmi hp1)
                obtain ⟨p', s, far⟩ := m
                have hp3 : p' = (p : Int) := hp1
                subst hp3
                have HGV := Lib.hid hgv
                have HPS : Hid (sub (2 ^ p) (allN ms.length)) := Lib.hid (sub_pow (by rw [all_bit]; exact decide_eq_true hp2))
                have HPI := Lib.hid (show intsB (listS (2 ^ p)) = [(p : Int)] by rw [list_pow (by have := H12.out; omega)]; rfl)
                have HNW := Lib.hid (fun (n cap : Nat) (h : n = wr.heap.size) => (show IntsAt (wr.alloc (.cells #[.int .i64 (p : Int)] 3)) (.slice (some ⟨n, 0, none⟩) 1 cap) (intsB (listS (2 ^ p))) by
                  rw [HPI.out]
                  refine ints_new h [(p : Int)] rfl (by simp [maxLen]) fun j x hj => ?_
                  rcases j with _ | j
                  · cases hj; rfl
                  · simp at hj))
                clear he hmi hp1 hgv
                go_wp2_with fail
                refine (unionS_ok H12.out (HGS.out i) HPS.out _ _ _ (HGV.out.below (grow1 _ _) (Nat.le_refl _)) (HNW.out _ _ rfl)).mono ?_
                rintro e w5 ⟨⟨u5, rfl, hu5⟩, hb5⟩
                have hB5 := up (up hb5 (grow1 _ _)) hB
                go_wp2_with fail
                case roundEnd => exact ⟨⟨i + 1, by omega, by go_num, by rw [HG2.out]; exact hu5, hB5⟩, by simp [intOf]; omega⟩
              · obtain rfl : i = l.length := by omega
                have hd : decide ((l.length : Int) < (l.length : Int)) = false := decide_eq_false (by omega)
                rw [HGE.out] at hgv
                have HB4 := Lib.hid (up hB HB3.out)
                have HGV := Lib.hid hgv
                have HRD := Lib.hid (readyS_ok HC0.out HG0.out (.slice pa ms.length ca) u9 wr (HV.out.below HB4.out (Nat.le_refl _)) hgv HM.out (HT.out.below HB4.out (Nat.le_refl _)))
                obtain ⟨A, hA⟩ : ∃ A, A = intsB (listS (readyF ms g0)) := ⟨_, rfl⟩
                have HAE := Lib.hid hA
                clear hgv hB HL3 hA
                go_wp2_with fail
                refine HRD.out.mono ?_
                rintro e w5 ⟨⟨u5, rfl, hu5⟩, hb5⟩
                rw [← HAE.out] at hu5
                have HB5 := Lib.hid (up hb5 HB4.out)
                have HGV5 := Lib.hid (HGV.out.below hb5 (Nat.le_refl _))
                have HA5 := Lib.hid hu5
                obtain ⟨pq, cq, rfl, hmq, _⟩ := hu5
                have HUN := Lib.hid (union_ok (intsB (listS g0)) more u9 (.slice pk more.length ck) w5 HGV5.out (HKK.out.below HB5.out (Nat.le_refl _)))
                have HWD := Lib.hid (fun (he : errW ms (intsB (unionF (intsB (listS g0)) more)) = 0) (r : Nat) (hr : r ∈ listS (readyF ms g0)) (hn : (r : Int) ∉ more) => wide_has HC0.out HG0.out he hr hn)
                have HML := Lib.hid (show (intsB (unionF (intsB (listS g0)) more)).length ≤ 100 by rw [List.length_map]; have := unionF_len (intsB (listS g0)) more; omega)
                obtain ⟨M, hM⟩ : ∃ M, M = unionF (intsB (listS g0)) more := ⟨_, rfl⟩
                rw [← hM] at HUN HWD HML
                clear hM hb5 HGV HRD HB4
                go_wp2_with fail
                refine HUN.out.mono ?_
                rintro e w6 ⟨⟨u6, rfl, hrow6⟩, hb6⟩
                have HB6 := Lib.hid (up hb6 HB5.out)
                have HGV6 := Lib.hid (HGV5.out.below hb6 (Nat.le_refl _))
                have HA6 := Lib.hid (HA5.out.below hb6 (Nat.le_refl _))
                have HRT := Lib.hid (readyT_ok ms (intsB M) (.slice pa ms.length ca) u6 w6 (HV.out.below HB6.out (Nat.le_refl _)) (intsAt_own hrow6) HM.out HML.out (HT.out.below HB6.out (Nat.le_refl _)))
                obtain ⟨E, hE⟩ : ∃ E, E = errW ms (intsB M) := ⟨_, rfl⟩
                have HW : Hid (E = 0 → ∀ x ∈ A, x ∉ more → x ∈ intsB (readyL ms (intsB M))) := Lib.hid fun he x hx hn => by
                  rw [HAE.out] at hx
                  obtain ⟨r, hr, rfl⟩ := List.mem_map.1 hx
                  exact HWD.out (by rw [← hE]; exact he) r hr hn
                rw [← hE] at HRT
                clear hrow6 hb6 HUN HB5 HGV5 HA5 HWD HML hE
                simp only [maxLen] at hmq
                go_wp2_with fail
                refine HRT.out.mono ?_
                rintro e w7 ⟨⟨u7, rfl, hrow7, _⟩, hb7⟩
                have HB7 := Lib.hid (up hb7 HB6.out)
                have HGV7 := Lib.hid (HGV6.out.below hb7 (Nat.le_refl _))
                have HA7 := Lib.hid (HA6.out.below hb7 (Nat.le_refl _))
                have HD7 := Lib.hid (intsAt_own hrow7)
                clear hrow7 hb7 HRT HB6 HGV6 HA6
                go_wp2_with fail
                go_loopw [15] (fun z wr => ∃ i : Nat, i ≤ A.length ∧ z = .int .i64 i ∧ Below w7.heap.size w7 wr) (fun z _ => A.length - (intOf z).toNat)
                case atStart => exact ⟨0, by omega, rfl, Below.refl _ _⟩
                case round =>
                  obtain ⟨i, hi, rfl, hB7⟩ := hrel
                  by_cases hE : E = 0
                  · subst hE
                    by_cases hlt : i < A.length
                    · have hd : decide ((i : Int) < (A.length : Int)) = true := decide_eq_true (by omega)
                      have hii : (i : Int) < (A.length : Int) := by omega
                      have hw1 : IntKind.i64.wrap ((i : Int) + 1) = (i : Int) + 1 := by rw [IntWalk.i64_in] <;> omega
                      obtain ⟨x, hx⟩ : ∃ x, A[i]? = some x := ⟨_, List.getElem?_eq_getElem hlt⟩
                      obtain ⟨b1, o1, cq', he, hb1, x0⟩ := (HA7.out.below hB7 (Nat.le_refl _)).at hx
                      obtain ⟨rfl, rfl⟩ : pq = some ⟨b1, o1, none⟩ ∧ cq = cq' := by injection he with e1 e2 e3; exact ⟨e1, e3⟩
                      have HI1 := Lib.hid (inR_ok more (.slice pk more.length ck) x wr (HKK.out.below (up hB7 HB7.out) (Nat.le_refl _)))
                      clear he
                      by_cases hin : x ∈ more
                      · rw [decide_eq_true hin] at HI1
                        clear hx hin
                        go_wp2_with fail
                        refine HI1.out.mono ?_
                        rintro e w8 ⟨rfl, hb8⟩
                        go_wp2_with fail
                        case roundEnd => exact ⟨⟨i + 1, by omega, by go_num, up hb8 hB7⟩, by simp [intOf]; omega⟩
                      · rw [decide_eq_false hin] at HI1
                        have hin2 := HW.out rfl x (List.mem_of_getElem? hx) hin
                        have HI2 := Lib.hid (fun (W : World) (h : Below w7.heap.size w7 W) => (show Calls Tryz.prog 76 #[u7, .int .i64 x] W (RetB (.bool true) W) by have := inR_ok _ u7 x W (HD7.out.below h (Nat.le_refl _)); rwa [decide_eq_true hin2] at this))
                        clear hx hin hin2
                        go_wp2_with fail
                        refine HI1.out.mono ?_
                        rintro e w8 ⟨rfl, hb8⟩
                        have hB8 := up hb8 hB7
                        have x1 := (hb8.cell (p := ⟨b1, o1 + i, none⟩) hb1).trans x0
                        clear x0
                        go_wp2_with fail
                        refine (HI2.out _ hB8).mono ?_
                        rintro e w9 ⟨rfl, hb9⟩
                        go_wp2_with fail
                        case roundEnd => exact ⟨⟨i + 1, by omega, by go_num, up hb9 hB8⟩, by simp [intOf]; omega⟩
                    · obtain rfl : i = A.length := by omega
                      have hd : decide ((A.length : Int) < (A.length : Int)) = false := decide_eq_false (by omega)
                      go_wp2_with fail
                      go_loopw [9, 16] (fun gv z wr => ∃ k : Nat, k ≤ 12 ∧ z = .int .i64 k ∧ IntsAt wr gv (intsB (listS (J k))) ∧ Below w.heap.size w wr) (fun _ z _ => 12 - (intOf z).toNat)
                      case atStart => exact ⟨0, by omega, rfl, by rw [HJ0.out]; exact HGV7.out.below hB7 (Nat.le_refl _), up hB7 HB7.out⟩
                      case round =>
                        clear hB7 HW HB7 HGV7 HA7 HD7
                        obtain ⟨k, hk, rfl, hgv, hB⟩ := hrel
                        by_cases hlt : k < 12
                        · have hd : decide ((k : Int) < 12) = true := decide_eq_true (by omega)
                          have hw1 : IntKind.i64.wrap ((k : Int) + 1) = (k : Int) + 1 := by rw [IntWalk.i64_in] <;> omega
                          have HGV := Lib.hid hgv
                          have HRD := Lib.hid (readyS_ok HC0.out (HJS.out k) (.slice pa ms.length ca) u9 wr (HV.out.below hB (Nat.le_refl _)) hgv HM.out (HT.out.below hB (Nat.le_refl _)))
                          clear hgv
                          go_wp2_with fail
                          refine HRD.out.mono ?_
                          rintro e w8 ⟨⟨u8, rfl, hu8⟩, hb8⟩
                          have hB8 := up hb8 hB
                          have HUN := Lib.hid (unionS_ok H12.out (HJS.out k) ready_all u9 u8 w8 (HGV.out.below hb8 (Nat.le_refl _)) hu8)
                          clear hb8
                          go_wp2_with fail
                          refine HUN.out.mono ?_
                          rintro e w9 ⟨⟨y9, rfl, hu9⟩, hb9⟩
                          go_wp2_with fail
                          case roundEnd => exact ⟨⟨k + 1, by omega, by go_num, by rw [HJ1.out]; exact hu9, up hb9 hB8⟩, by simp [intOf]; omega⟩
                        · obtain rfl : k = 12 := by omega
                          have hd : decide (((12 : Nat) : Int) < 12) = false := decide_eq_false (by omega)
                          have HR := Lib.hid (roundsT_ok ms (.slice pa ms.length ca) wr (HV.out.below hB (Nat.le_refl _)) HM.out (HT.out.below hB (Nat.le_refl _)))
                          obtain ⟨Q, hQ⟩ : ∃ Q, Q = intsB (listS R) := ⟨_, rfl⟩
                          rw [HJE.out, ← hQ] at hgv
                          have HQE := Lib.hid hQ
                          clear hQ
                          have HBR := Lib.hid hB
                          have HGV := Lib.hid hgv
                          have hgv2 := hgv
                          obtain ⟨pgv, cgv, rfl, hmgv, _⟩ := hgv2
                          clear hgv hB
                          go_wp2_with fail
                          refine HR.out.mono ?_
                          rw [HC0.out]
                          rintro e w8 ⟨⟨u8, rfl, hrow8, _⟩, hb8⟩
                          have hls := listsAt_own hrow8
                          rw [HRL.out] at hls
                          have HLS := Lib.hid hls
                          have HGV8 := Lib.hid (HGV.out.below hb8 (Nat.le_refl _))
                          have HB8 := Lib.hid (up hb8 HBR.out)
                          obtain ⟨pu, cu, rfl, hmu, _⟩ := hls
                          clear hrow8 hb8 HR HGV HBR
                          simp only [maxLen] at hmu
                          go_wp2_with fail
                          go_loopw [21, 22] (fun av z wr => ∃ i : Nat, i ≤ K.length ∧ z = .int .i64 i ∧ IntsAt wr av (intsB (listS (O i))) ∧ Below w8.heap.size w8 wr) (fun _ z _ => K.length - (intOf z).toNat)
                          case atStart => exact ⟨0, by omega, rfl, ints_0 HO0.out, Below.refl _ _⟩
                          case round =>
                            obtain ⟨i, hi, rfl, hav, hB⟩ := hrel
                            by_cases hlt : i < K.length
                            · have hd2 : decide ((i : Int) < (K.length : Int)) = true := decide_eq_true (by omega)
                              have hii : (i : Int) < (K.length : Int) := by omega
                              have hw1 : IntKind.i64.wrap ((i : Int) + 1) = (i : Int) + 1 := by rw [IntWalk.i64_in] <;> omega
                              obtain ⟨r, hr⟩ : ∃ r, K[i]? = some r := ⟨_, List.getElem?_eq_getElem hlt⟩
                              obtain ⟨b2, o2, cu', x, he2, hb2, y0, hxl⟩ := (HLS.out.below hB (Nat.le_refl _)).at hr
                              obtain ⟨rfl, rfl⟩ : pu = some ⟨b2, o2, none⟩ ∧ cu = cu' := by injection he2 with e1 e2 e3; exact ⟨e1, e3⟩
                              obtain ⟨s, hs1, hs2, hs3⟩ := HO1.out i r hr
                              rw [hs1] at hxl
                              have HS1 := Lib.hid hs3
                              have HUN := Lib.hid (unionS_ok H12.out (HOS.out i) hs2 u21 x wr hav hxl)
                              clear he2 hr hxl hs1 hs2 hs3 hav
                              go_wp2_with fail
                              refine HUN.out.mono ?_
                              rintro e w9 ⟨⟨y9, rfl, hu9⟩, hb9⟩
                              go_wp2_with fail
                              case roundEnd => exact ⟨⟨i + 1, by omega, by go_num, by rw [HS1.out]; exact hu9, up hb9 hB⟩, by simp [intOf]; omega⟩
                            · obtain rfl : i = K.length := by omega
                              have hd2 : decide ((K.length : Int) < (K.length : Int)) = false := decide_eq_false (by omega)
                              rw [HOE.out, ← HQE.out] at hav
                              have HB9 := Lib.hid (up hB HB8.out)
                              have HGV9 := Lib.hid (HGV8.out.below hB (Nat.le_refl _))
                              have HAV9 := Lib.hid hav
                              clear hB hav HB8 HGV8
                              go_wp2_with fail
                              refine (cast_ok _ (HT.out.below HB9.out (Nat.le_refl _)) (H6.out.below HB9.out (Nat.le_refl _))).mono ?_
                              rintro e w10 ⟨rfl, hb10⟩
                              have HB10 := Lib.hid (up hb10 HB9.out)
                              have hs0 := sameInts_ok _ _ _ _ w10 (HAV9.out.below hb10 (Nat.le_refl _)) (HGV9.out.below hb10 (Nat.le_refl _))
                              rw [decide_eq_true (Eq.refl Q)] at hs0
                              have HSI := Lib.hid hs0
                              clear hb10 hs0
                              go_wp2_with fail
                              refine HSI.out.mono ?_
                              rintro e w11 ⟨rfl, hb11⟩
                              go_wp2_with fail
                              go_ret
                              exact ⟨rfl, up hb11 HB10.out⟩
                  · have hne : (E == 0) = false := by simpa using hE
                    go_wp2_with fail
                    go_loopw [9, 16] (fun gv z wr => ∃ k : Nat, k ≤ 12 ∧ z = .int .i64 k ∧ IntsAt wr gv (intsB (listS (J k))) ∧ Below w.heap.size w wr) (fun _ z _ => 12 - (intOf z).toNat)
                    case atStart => exact ⟨0, by omega, rfl, by rw [HJ0.out]; exact HGV7.out.below hB7 (Nat.le_refl _), up hB7 HB7.out⟩
                    case round =>
                      clear hB7 HW HB7 HGV7 HA7 HD7
                      obtain ⟨k, hk, rfl, hgv, hB⟩ := hrel
                      by_cases hlt : k < 12
                      · have hd : decide ((k : Int) < 12) = true := decide_eq_true (by omega)
                        have hw1 : IntKind.i64.wrap ((k : Int) + 1) = (k : Int) + 1 := by rw [IntWalk.i64_in] <;> omega
                        have HGV := Lib.hid hgv
                        have HRD := Lib.hid (readyS_ok HC0.out (HJS.out k) (.slice pa ms.length ca) u9 wr (HV.out.below hB (Nat.le_refl _)) hgv HM.out (HT.out.below hB (Nat.le_refl _)))
                        clear hgv
                        go_wp2_with fail
                        refine HRD.out.mono ?_
                        rintro e w8 ⟨⟨u8, rfl, hu8⟩, hb8⟩
                        have hB8 := up hb8 hB
                        have HUN := Lib.hid (unionS_ok H12.out (HJS.out k) ready_all u9 u8 w8 (HGV.out.below hb8 (Nat.le_refl _)) hu8)
                        clear hb8
                        go_wp2_with fail
                        refine HUN.out.mono ?_
                        rintro e w9 ⟨⟨y9, rfl, hu9⟩, hb9⟩
                        go_wp2_with fail
                        case roundEnd => exact ⟨⟨k + 1, by omega, by go_num, by rw [HJ1.out]; exact hu9, up hb9 hB8⟩, by simp [intOf]; omega⟩
                      · obtain rfl : k = 12 := by omega
                        have hd : decide (((12 : Nat) : Int) < 12) = false := decide_eq_false (by omega)
                        have HR := Lib.hid (roundsT_ok ms (.slice pa ms.length ca) wr (HV.out.below hB (Nat.le_refl _)) HM.out (HT.out.below hB (Nat.le_refl _)))
                        obtain ⟨Q, hQ⟩ : ∃ Q, Q = intsB (listS R) := ⟨_, rfl⟩
                        rw [HJE.out, ← hQ] at hgv
                        have HQE := Lib.hid hQ
                        clear hQ
                        have HBR := Lib.hid hB
                        have HGV := Lib.hid hgv
                        have hgv2 := hgv
                        obtain ⟨pgv, cgv, rfl, hmgv, _⟩ := hgv2
                        clear hgv hB
                        go_wp2_with fail
                        refine HR.out.mono ?_
                        rw [HC0.out]
                        rintro e w8 ⟨⟨u8, rfl, hrow8, _⟩, hb8⟩
                        have hls := listsAt_own hrow8
                        rw [HRL.out] at hls
                        have HLS := Lib.hid hls
                        have HGV8 := Lib.hid (HGV.out.below hb8 (Nat.le_refl _))
                        have HB8 := Lib.hid (up hb8 HBR.out)
                        obtain ⟨pu, cu, rfl, hmu, _⟩ := hls
                        clear hrow8 hb8 HR HGV HBR
                        simp only [maxLen] at hmu
                        go_wp2_with fail
                        go_loopw [21, 22] (fun av z wr => ∃ i : Nat, i ≤ K.length ∧ z = .int .i64 i ∧ IntsAt wr av (intsB (listS (O i))) ∧ Below w8.heap.size w8 wr) (fun _ z _ => K.length - (intOf z).toNat)
                        case atStart => exact ⟨0, by omega, rfl, ints_0 HO0.out, Below.refl _ _⟩
                        case round =>
                          obtain ⟨i, hi, rfl, hav, hB⟩ := hrel
                          by_cases hlt : i < K.length
                          · have hd2 : decide ((i : Int) < (K.length : Int)) = true := decide_eq_true (by omega)
                            have hii : (i : Int) < (K.length : Int) := by omega
                            have hw1 : IntKind.i64.wrap ((i : Int) + 1) = (i : Int) + 1 := by rw [IntWalk.i64_in] <;> omega
                            obtain ⟨r, hr⟩ : ∃ r, K[i]? = some r := ⟨_, List.getElem?_eq_getElem hlt⟩
                            obtain ⟨b2, o2, cu', x, he2, hb2, y0, hxl⟩ := (HLS.out.below hB (Nat.le_refl _)).at hr
                            obtain ⟨rfl, rfl⟩ : pu = some ⟨b2, o2, none⟩ ∧ cu = cu' := by injection he2 with e1 e2 e3; exact ⟨e1, e3⟩
                            obtain ⟨s, hs1, hs2, hs3⟩ := HO1.out i r hr
                            rw [hs1] at hxl
                            have HS1 := Lib.hid hs3
                            have HUN := Lib.hid (unionS_ok H12.out (HOS.out i) hs2 u21 x wr hav hxl)
                            clear he2 hr hxl hs1 hs2 hs3 hav
                            go_wp2_with fail
                            refine HUN.out.mono ?_
                            rintro e w9 ⟨⟨y9, rfl, hu9⟩, hb9⟩
                            go_wp2_with fail
                            case roundEnd => exact ⟨⟨i + 1, by omega, by go_num, by rw [HS1.out]; exact hu9, up hb9 hB⟩, by simp [intOf]; omega⟩
                          · obtain rfl : i = K.length := by omega
                            have hd2 : decide ((K.length : Int) < (K.length : Int)) = false := decide_eq_false (by omega)
                            rw [HOE.out, ← HQE.out] at hav
                            have HB9 := Lib.hid (up hB HB8.out)
                            have HGV9 := Lib.hid (HGV8.out.below hB (Nat.le_refl _))
                            have HAV9 := Lib.hid hav
                            clear hB hav HB8 HGV8
                            go_wp2_with fail
                            refine (cast_ok _ (HT.out.below HB9.out (Nat.le_refl _)) (H6.out.below HB9.out (Nat.le_refl _))).mono ?_
                            rintro e w10 ⟨rfl, hb10⟩
                            have HB10 := Lib.hid (up hb10 HB9.out)
                            have hs0 := sameInts_ok _ _ _ _ w10 (HAV9.out.below hb10 (Nat.le_refl _)) (HGV9.out.below hb10 (Nat.le_refl _))
                            rw [decide_eq_true (Eq.refl Q)] at hs0
                            have HSI := Lib.hid hs0
                            clear hb10 hs0
                            go_wp2_with fail
                            refine HSI.out.mono ?_
                            rintro e w11 ⟨rfl, hb11⟩
                            go_wp2_with fail
                            go_ret
                            exact ⟨rfl, up hb11 HB10.out⟩
        · have hne : (c != 0) = true := by simpa using hc
          go_wp2_with fail
          refine (cast_ok _ (HT.out.below HB3.out (Nat.le_refl _)) (H6.out.below HB3.out (Nat.le_refl _))).mono ?_
          rintro e w4 ⟨rfl, hb4⟩
          go_wp2_with fail
          go_ret
          exact ⟨rfl, up hb4 HB3.out⟩
end Go.Proofs.YtoajocgfmbakjaaGreatDoor
