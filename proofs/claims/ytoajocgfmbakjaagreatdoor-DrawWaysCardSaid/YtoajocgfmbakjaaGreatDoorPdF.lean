/-
  The iterator over the parts of a set: the closure that chooses, and calls itself.
-/
import Derived.Test.YtoajocgfmbakjaaGreatDoorPdC
import Derived.Test.YtoajocgfmbakjaaGreatDoorPdB
import Derived.Test.YtoajocgfmbakjaaGreatDoorPaD
import Derived.Test.YtoajocgfmbakjaaGreatDoorPdE
set_option linter.unusedVariables false
set_option linter.unusedSimpArgs false
namespace Go.Proofs.YtoajocgfmbakjaaGreatDoor
open Go Go.RowKit Go.Shelf

/-- All cells lie as they lay. -/
def KeepC (W W' : World) : Prop := W.heap.size ≤ W'.heap.size ∧ ∀ (k : Nat) (o : Obj), W.heap[k]? = some o → o.isCells = true → W'.heap[k]? = some o
theorem keepC_t {A B C : World} (h : KeepC A B) (k : KeepC B C) : KeepC A C := ⟨Nat.le_trans h.1 k.1, fun i o ho hc => k.2 i o (h.2 i o ho hc) hc⟩
theorem keepC_below {W W' : World} (h : Below W.heap.size W W') : KeepC W W' := ⟨h.size, fun k o hk _ => (h.block k (Array.getElem?_eq_some_iff.1 hk).1).trans hk⟩
theorem keepC_refl (W : World) : KeepC W W := ⟨Nat.le_refl _, fun _ _ h _ => h⟩
theorem keepC_b (W : World) (l : Nat) (o o' : Obj) (h : W.heap[l]? = some o) (h1 : o.isCells = false) (h2 : o.isWalk = false) : KeepC W (W.putObj l o') :=
  ⟨by simp [World.putObj], fun k x hx hc => ((grownBy_putObj' W l o').block k (Array.getElem?_eq_some_iff.1 hx).1 (fun e => by cases e; rw [h] at hx; cases hx; rw [h1] at hc; cases hc)).trans hx⟩
theorem keepC_cell {W W' : World} (h : KeepC W W') {b o : Nat} {v : Value} (hc : W.cell? ⟨b, o, none⟩ = some v) : W'.cell? ⟨b, o, none⟩ = some v := by
  unfold World.cell? at hc ⊢
  cases hb : W.heap[b]? with
  | none => simp [hb] at hc
  | some ob =>
    have : ob.isCells = true := by
      cases ob <;> simp_all [Obj.isCells]
    rw [h.2 b ob hb this]
    rw [hb] at hc
    exact hc
theorem IntsAt.keepC {W W' : World} {v : Value} {l : List Int} (h : IntsAt W v l) (k : KeepC W W') : IntsAt W' v l := by
  obtain ⟨pa, cap, rfl, h2, h3⟩ := h
  refine ⟨pa, cap, rfl, h2, h3.imp id ?_⟩
  rintro ⟨b, o, e1, e2, e3⟩
  exact ⟨b, o, e1, Nat.lt_of_lt_of_le e2 k.1, fun i x hx => keepC_cell k (e3 i x hx)⟩
theorem yieldAt_wide {m m' : Nat} {P : Program} {l : Nat} {args : Array Value} {W : World} {R : Ending → World → Prop} (h : YieldAt Fence.wide m P l args W R) : YieldAt Fence.wide m' P l args W R := by
  obtain ⟨fn, tmps, assign, body, h1, h2⟩ := h
  exact ⟨fn, tmps, assign, body, h1, h2.1, fun c cs _ => h2.2 c cs (room_wide _)⟩
/-- What choose has captured: the yield, the list, itself. -/
structure PtBox (W : World) (Y Lb Ch l : Nat) (v : Value) (ls : List Nat) : Prop where
  yb : W.heap[Y]? = some (.cells #[.func (.yield l) #[] #[]] 150 (0, 0))
  lb : W.heap[Lb]? = some (.cells #[v] 38 (0, 0))
  cb : W.heap[Ch]? = some (.cells #[.func (.func 159) #[] #[.pointer (some ⟨Y, 0, none⟩), .pointer (some ⟨Lb, 0, none⟩), .pointer (some ⟨Ch, 0, none⟩)]] 183 (0, 0))
  el : IntsAt W v (ls.map fun x : Nat => (x : Int))
theorem PtBox.keep {W W' : World} {Y Lb Ch l : Nat} {v : Value} {ls : List Nat} (h : PtBox W Y Lb Ch l v ls) (k : KeepC W W') : PtBox W' Y Lb Ch l v ls :=
  ⟨k.2 _ _ h.yb rfl, k.2 _ _ h.lb rfl, k.2 _ _ h.cb rfl, h.el.keepC k⟩
/-- How choose ends. -/
def ChPost (T : List Nat) (J Jx : List Nat → World → Prop) (W : World) (L : List Nat) : Ending → World → Prop := fun e W' =>
  (e = .returned (.bool true) ∧ J L W' ∧ KeepC W W') ∨ (e = .returned (.bool false) ∧ ∃ p', p' <+: T ∧ Jx p' W')
section
variable {l Y Lb Ch B m : Nat} {v : Value} {ls T : List Nat} {J Jx : List Nat → World → Prop}
set_option maxRecDepth 100000 in
set_option maxHeartbeats 1000000 in
theorem choose_zero (hm : 1 ≤ m) (c : Nat) (fr : Nat) (pre : List Nat) (W : World)
    (hY : YieldAt Fence.wide (m - 1) Tryz.prog l #[setV c] W fun e W' => (e = .returned (.bool true) ∧ J (pre ++ [c]) W' ∧ KeepC W W') ∨ (e = .returned (.bool false) ∧ Jx (pre ++ [c]) W'))
    (hp : (pre ++ [c]) <+: T) (hP : PtBox W Y Lb Ch l v ls) :
    Calls Tryz.prog 159 #[setV c, .int .i64 fr, .int .i64 0, .pointer (some ⟨Y, 0, none⟩), .pointer (some ⟨Lb, 0, none⟩), .pointer (some ⟨Ch, 0, none⟩)] W (ChPost T J Jx W (pre ++ [c])) := by
  refine (callsIn_wide (n := m)).1 ?_
  have HP := Lib.hid hp
  have c0 := cells4 hP.yb 0 _ rfl
  obtain ⟨fn, tmps, assign, body, hy, hR⟩ := hY
  clear hp hP
  refine callsIn_of_wp Tryz.func159 rfl trivial ?_ rfl
  simp only [Tryz.ntmps159, List.size_toArray, List.length_cons, List.length_nil, Nat.reduceAdd, Nat.reduceSub, Array.replicate_succ, Array.replicate_zero, List.push_toArray, List.append_toArray, List.nil_append, List.cons_append]
  gi_wp2_with fail
  refine hR.mono ?_
  clear hR hy c0
  rintro e W1 (⟨rfl, hJ1, hk1⟩ | ⟨rfl, hJx⟩)
  · gi_wp2
    go_ret
    exact .inl ⟨rfl, hJ1, hk1⟩
  · gi_wp2
    go_ret
    exact .inr ⟨rfl, _, HP.out, hJx⟩
set_option maxRecDepth 100000 in
set_option maxHeartbeats 2000000 in
theorem choose_succ (k c fr : Nat) (pre : List Nat) (W : World) (hc : c < 65536) (hfr : fr ≤ ls.length) (h16 : ∀ x ∈ ls, x < 16) (hlen : ls.length ≤ 16) (hk : k ≤ 16)
    (hJ : ∀ p A C, J p A → W.heap.size ≤ A.heap.size → Below A.heap.size A C → J p C)
    (hIH : ∀ (c' fr' : Nat) (pre' : List Nat) (W' : World), c' < 65536 → fr' ≤ ls.length → W.heap.size ≤ W'.heap.size → J pre' W' → (pre' ++ chooseL (ls.drop fr') k c') <+: T → PtBox W' Y Lb Ch l v ls →
      Calls Tryz.prog 159 #[setV c', .int .i64 fr', .int .i64 k, .pointer (some ⟨Y, 0, none⟩), .pointer (some ⟨Lb, 0, none⟩), .pointer (some ⟨Ch, 0, none⟩)] W' (ChPost T J Jx W' (pre' ++ chooseL (ls.drop fr') k c')))
    (h0 : J pre W) (hp : (pre ++ chooseL (ls.drop fr) (k + 1) c) <+: T) (hP : PtBox W Y Lb Ch l v ls) :
    Calls Tryz.prog 159 #[setV c, .int .i64 fr, .int .i64 ((k + 1 : Nat) : Int), .pointer (some ⟨Y, 0, none⟩), .pointer (some ⟨Lb, 0, none⟩), .pointer (some ⟨Ch, 0, none⟩)] W (ChPost T J Jx W (pre ++ chooseL (ls.drop fr) (k + 1) c)) := by
  have HIH := Lib.hid hIH
  have HJ := Lib.hid hJ
  have HP := Lib.hid hP
  have HPX := Lib.hid hp
  have H16 := Lib.hid h16
  obtain ⟨TT, hTT⟩ : ∃ TT, TT = pre ++ chooseL (ls.drop fr) (k + 1) c := ⟨_, rfl⟩
  have HT0 := Lib.hid hTT
  rw [← hTT] at HPX ⊢
  have hz : (((k + 1 : Nat) : Int) == 0) = false := by rw [beq_eq_false_iff_ne]; omega
  have hk1 : IntKind.i64.wrap (((k + 1 : Nat) : Int) - 1) = (k : Int) := by rw [IntWalk.i64_in] <;> omega
  obtain ⟨K1, hK1⟩ : ∃ K1 : Int, K1 = ((k + 1 : Nat) : Int) := ⟨_, rfl⟩
  have HK1 := Lib.hid hK1
  have hKb : 0 ≤ K1 ∧ K1 ≤ 17 := by omega
  rw [← hK1] at hz hk1 ⊢
  clear hIH hJ hp h16 hTT hK1
  go_enter Tryz.func159, Tryz.ntmps159
  go_wp2_with fail
  go_loopw [10] (fun z wr => ∃ (i : Nat) (pre' : List Nat), fr ≤ i ∧ i ≤ ls.length ∧ z = .int .i64 i ∧ J pre' wr ∧ Hid (TT = pre' ++ chooseL (ls.drop i) (k + 1) c) ∧ Hid (KeepC W wr)) (fun z _ => ls.length + 1 - (intOf z).toNat)
  case atStart => exact ⟨fr, pre, Nat.le_refl _, hfr, rfl, h0, HT0, Lib.hid (keepC_refl _)⟩
  case round =>
    clear h0 HT0 hP
    obtain ⟨i, pre', hfi, hi, rfl, hJr, HT, HKC⟩ := hrel
    have HPr := Lib.hid (HP.out.keep HKC.out)
    obtain ⟨pa, cap, hv, hmx, _⟩ := HPr.out.el
    rw [List.length_map] at hv
    have HV := Lib.hid hv
    have y0 := cells4 HPr.out.yb 0 _ rfl
    have l0 := cells4 HPr.out.lb 0 _ rfl
    have f0 := cells4 HPr.out.cb 0 _ rfl
    have lY := (Array.getElem?_eq_some_iff.1 HPr.out.yb).1
    have lL := (Array.getElem?_eq_some_iff.1 HPr.out.lb).1
    have lC := (Array.getElem?_eq_some_iff.1 HPr.out.cb).1
    simp only [List.length_map] at hmx
    rw [hv] at l0
    clear hv
    have hwi : IntKind.i64.wrap ((i : Int) + K1) = (i : Int) + K1 := by rw [IntWalk.i64_in] <;> omega
    by_cases hle : i + (k + 1) ≤ ls.length
    · have hd : decide ((i : Int) + K1 ≤ (ls.length : Int)) = true := decide_eq_true (by have := HK1.out; omega)
      have hlt : i < ls.length := by omega
      have hii : (i : Int) < (ls.length : Int) := by omega
      obtain ⟨x, hx⟩ : ∃ x, ls[i]? = some x := ⟨_, List.getElem?_eq_getElem hlt⟩
      have hx16 := H16.out x (List.mem_of_getElem? hx)
      obtain ⟨b1, o1, cl', he, hb1, e0⟩ := HPr.out.el.at (i := i) (x := (x : Int)) (by rw [List.getElem?_map, hx]; rfl)
      obtain ⟨rfl, rfl⟩ : pa = some ⟨b1, o1, none⟩ ∧ cap = cl' := by rw [HV.out] at he; injection he with e1 e2 e3; exact ⟨e1, e3⟩
      have HE := Lib.hid (show TT = (pre' ++ chooseL (ls.drop (i + 1)) k (c ||| 2 ^ x)) ++ chooseL (ls.drop (i + 1)) (k + 1) c by
        rw [HT.out, List.drop_eq_getElem_cons hlt]
        have : ls[i] = x := by rw [List.getElem?_eq_getElem hlt] at hx; exact Option.some.inj hx
        rw [this, chooseL, List.append_assoc])
      have hc2 := or16 hc (pow16_lt hx16)
      have HWI := Lib.hid (fun w' => with_ok c x hc hx16 w')
      have hw1 : IntKind.i64.wrap ((i : Int) + 1) = (i : Int) + 1 := by rw [IntWalk.i64_in] <;> omega
      have HSZ := Lib.hid HKC.out.1
      clear he hx
      go_wp2_with fail
      (refine wp_region_quiet_tail 11 (fun w' => Below wr.heap.size wr w') (by kernel_rfl) (by kernel_rfl) (Below.drew (Below.refl _ _)) ?_; simp only [List.take_succ_cons, List.take_zero, List.drop_succ_cons, List.drop_zero]; (iterate 11 (refine wpQuiet_step (fun K hK => ?_); go_simp; first | (refine hK _ ?_; clear hK K) | (apply Exists.intro; refine ⟨fun W' hW' => ?_, hK _ ?_⟩; (focus (first | (with_reducible exact rfl) | (with_reducible exact ⟨rfl, rfl⟩) | (obtain ⟨hcq, hfq⟩ := bcell hW'; have hzq := hW'.size; (try go_simp); first | (with_reducible exact rfl) | (with_reducible exact ⟨rfl, rfl⟩) | (first | ((with_reducible refine Calls.mono (HWI.out _) ?_); rintro e w9 ⟨rfl, hb9⟩; exact ⟨rfl, hW'.trans (hb9.mono hW'.size)⟩))))); clear hK K))); refine wpQuiet_nil ?_; intro w1q hb1q)
      have HK2 := Lib.hid (keepC_below hb1q)
      have HJ2 := Lib.hid (HJ.out _ _ _ hJr HSZ.out hb1q)
      have HS2 := Lib.hid (Nat.le_trans HSZ.out hb1q.size)
      clear y0 l0 f0 e0 hb1q hJr
      go_wp2_with fail
      refine (HIH.out (c ||| 2 ^ x) (i + 1) pre' _ hc2 (by omega) HS2.out HJ2.out (by have := HPX.out; rw [HE.out] at this; exact (List.prefix_append _ _).trans this) (HPr.out.keep HK2.out)).mono ?_
      rintro e w3 (⟨rfl, hj3, hk3⟩ | ⟨rfl, p', hp', hj3⟩)
      · have HK3 := Lib.hid (keepC_t HKC.out (keepC_t HK2.out hk3))
        go_wp2_with fail
        case roundEnd => exact ⟨⟨i + 1, _, by omega, by omega, by go_num, hj3, HE, HK3⟩, by simp [intOf]; omega⟩
      · go_wp2_with fail
        go_ret
        exact .inr ⟨rfl, p', hp', hj3⟩
    · have hd : decide ((i : Int) + K1 ≤ (ls.length : Int)) = false := decide_eq_false (by have := HK1.out; omega)
      have HE := Lib.hid (show TT = pre' by rw [HT.out, chooseL_short _ _ _ (by rw [List.length_drop]; omega), List.append_nil])
      go_wp2_with fail
      go_ret
      exact .inl ⟨rfl, by rw [HE.out]; exact hJr, HKC.out⟩
/-- choose. -/
theorem choose_ok (hm : 1 ≤ m) (h16 : ∀ x ∈ ls, x < 16) (hlen : ls.length ≤ 16)
    (hY : ∀ pre x W1, J pre W1 → (pre ++ [x]) <+: T → B ≤ W1.heap.size → YieldAt Fence.wide (m - 1) Tryz.prog l #[setV x] W1 fun e W' => (e = .returned (.bool true) ∧ J (pre ++ [x]) W' ∧ KeepC W1 W') ∨ (e = .returned (.bool false) ∧ Jx (pre ++ [x]) W'))
    (hJ : ∀ p A C, J p A → B ≤ A.heap.size → Below A.heap.size A C → J p C) :
    ∀ (k c fr : Nat) (pre : List Nat) (W : World), k ≤ 17 → c < 65536 → fr ≤ ls.length → B ≤ W.heap.size → J pre W → (pre ++ chooseL (ls.drop fr) k c) <+: T → PtBox W Y Lb Ch l v ls →
    Calls Tryz.prog 159 #[setV c, .int .i64 fr, .int .i64 k, .pointer (some ⟨Y, 0, none⟩), .pointer (some ⟨Lb, 0, none⟩), .pointer (some ⟨Ch, 0, none⟩)] W (ChPost T J Jx W (pre ++ chooseL (ls.drop fr) k c))
  | 0, c, fr, pre, W, hk, hc, hfr, hB, h0, hp, hP => by
    rw [chooseL_zero] at hp ⊢
    exact choose_zero hm c fr pre W (hY pre c W h0 hp hB) hp hP
  | k + 1, c, fr, pre, W, hk, hc, hfr, hB, h0, hp, hP =>
    choose_succ k c fr pre W hc hfr h16 hlen (by omega) (fun p A C h1 h2 h3 => hJ p A C h1 (Nat.le_trans hB h2) h3)
      (fun c' fr' pre' W' h1 h2 h3 h4 h5 h6 => choose_ok hm h16 hlen hY hJ k c' fr' pre' W' (by omega) h1 h2 (Nat.le_trans hB h3) h4 h5 h6) h0 hp hP
end
end Go.Proofs.YtoajocgfmbakjaaGreatDoor
/-
  The iterator over the parts of a set.
-/
set_option linter.unusedVariables false
set_option linter.unusedSimpArgs false
namespace Go.Proofs.YtoajocgfmbakjaaGreatDoor
open Go Go.RowKit Go.Shelf

abbrev chFn (Y Lb Ch : Nat) : Value := .func (.func 159) #[] #[.pointer (some ⟨Y, 0, none⟩), .pointer (some ⟨Lb, 0, none⟩), .pointer (some ⟨Ch, 0, none⟩)]
theorem blk1_set {W : World} {B : Nat} {a : Value} {T : TypeId} (h : W.heap[B]? = some (.cells #[a] T (0, 0))) (x : Value) : (W.setCell ⟨B, 0, none⟩ x).heap[B]? = some (.cells #[x] T (0, 0)) := by
  obtain ⟨hlt, he⟩ := Array.getElem?_eq_some_iff.1 h
  show (W.heap.modify B _)[B]? = _
  rw [Array.getElem?_eq_getElem (by rw [Array.size_modify]; exact hlt), Array.getElem_modify_self, he]
  rfl
theorem heap_set {W : World} {B b : Nat} {o : Obj} (h : W.heap[b]? = some o) (hne : b ≠ B) (x : Value) : (W.setCell ⟨B, 0, none⟩ x).heap[b]? = some o := (Below.heap_setCell W ⟨B, 0, none⟩ x b hne).trans h
theorem intsAt_own {W : World} {base : Nat} {v : Value} {l : List Nat} (h : W.ownsRow base 3 1 v l.length (flatI l)) : IntsAt W v (l.map fun x : Nat => (x : Int)) := by
  obtain ⟨hl, hh | ⟨g, cap, cur, rfl, hb, hg, hcap, hmax, hsz, htk⟩⟩ := id h
  · obtain ⟨rfl, h0⟩ := hh
    have : l = [] := List.length_eq_zero_iff.1 h0
    subst this
    exact ⟨none, 0, rfl, by simp, .inl rfl⟩
  · refine ⟨_, cap, by rw [List.length_map], by rw [List.length_map]; omega, .inr ⟨g, 0, rfl, (Array.getElem?_eq_some_iff.1 hg).1, fun i x hx => ?_⟩⟩
    rw [List.getElem?_map] at hx
    cases hy : l[i]? with
    | none => rw [hy] at hx; cases hx
    | some y =>
      rw [hy] at hx
      cases hx
      have := h.cells (g := g) rfl i (.int .i64 (y : Int)) (by unfold flatI; rw [List.getElem?_map, hy]; rfl)
      rwa [show (⟨g, 0, none⟩ : Addr).add i = ⟨g, 0 + i, none⟩ by simp [Addr.add]; try omega] at this
/-- The sets with at least so many. -/
def partsFrom (s i : Nat) : List Nat := (List.range' i ((listS s).length + 1 - i)).flatMap fun n => chooseL (listS s) n 0
theorem partsFrom_zero (s : Nat) : partsL s = partsFrom s 0 := by
  unfold partsL partsFrom
  rw [List.range_eq_range', Nat.sub_zero]
theorem partsFrom_succ {s i : Nat} (h : i < (listS s).length + 1) : partsFrom s i = chooseL (listS s) i 0 ++ partsFrom s (i + 1) := by
  unfold partsFrom
  rw [show (listS s).length + 1 - i = ((listS s).length + 1 - (i + 1)) + 1 by omega, List.range'_succ, List.flatMap_cons]
theorem partsFrom_end (s : Nat) : partsFrom s ((listS s).length + 1) = [] := by
  unfold partsFrom
  rw [Nat.sub_self]
  rfl
theorem listS_len {s : Nat} (hs : s < 65536) : (listS s).length ≤ 16 := by
  have hn : (listS s).Nodup := (listS_asc hs).imp (fun h => by omega)
  exact pigeon_le 16 _ hn fun x hx => listS_lt hs hx
/-- A set of pieces. -/
abbrev St := { x : Nat // x < 65536 }
set_option maxRecDepth 100000 in
set_option maxHeartbeats 2000000 in
theorem parts_stops (n : Nat) (hn : 1 ≤ n) (s Sb : Nat) (hs : s < 65536) (w : World) (hSb : w.heap[Sb]? = some (.cells #[setV s] 106 (0, 0))) (hT : Tab32 w) :
    SeqStopsK Fence.wide n Tryz.prog 158 #[.pointer (some ⟨Sb, 0, none⟩)] (fun x : St => #[setV x.1]) KeepC (fun ys => ys.map Subtype.val = partsL s) (fun pre => pre.map Subtype.val <+: partsL s) (partsL s).length w := by
  intro l J0 Jx0 W hW hJ0 hJx0 hY0 h00
  obtain ⟨J, hJd⟩ : ∃ J : List Nat → World → Prop, J = fun pre W => ∃ q : List St, q.map Subtype.val = pre ∧ J0 q W := ⟨_, rfl⟩
  obtain ⟨Jx, hJxd⟩ : ∃ Jx : List Nat → World → Prop, Jx = fun pre W => ∃ q : List St, q.map Subtype.val = pre ∧ Jx0 q W := ⟨_, rfl⟩
  have hJ : ∀ p A C, J p A → Below A.heap.size A C → J p C := fun p A C h hb => by
    rw [hJd] at h ⊢
    obtain ⟨q, hq, h⟩ := h
    exact ⟨q, hq, hJ0 q A C none h ⟨hb.os, hb.tape, hb.output, hb.size, fun i hi _ => hb.block i hi⟩ (fun r e => by cases e)⟩
  have h0 : J [] W := by rw [hJd]; exact ⟨[], rfl, h00⟩
  have hY : ∀ pre x W1, J pre W1 → (pre ++ [x]) <+: partsL s → YieldAt Fence.wide (n - 1) Tryz.prog l #[setV x] W1 fun e W' => (e = .returned (.bool true) ∧ J (pre ++ [x]) W' ∧ KeepC W1 W') ∨ (e = .returned (.bool false) ∧ Jx (pre ++ [x]) W') := fun pre x W1 h hp => by
    rw [hJd] at h ⊢
    rw [hJxd]
    obtain ⟨q, rfl, h⟩ := h
    have hx : x < 65536 := ((mem_parts hs).1 (hp.subset (by simp))).1
    refine yieldAt_mono (hY0 q ⟨x, hx⟩ W1 h (by have := hp.length_le; simp at this; omega)) ?_
    rintro e W' (⟨rfl, hj2, hk⟩ | ⟨rfl, hj2⟩)
    · exact .inl ⟨rfl, ⟨_, by simp, hj2⟩, hk⟩
    · exact .inr ⟨rfl, ⟨_, by simp, hj2⟩⟩
  have HJd := Lib.hid hJd
  have HJxd := Lib.hid hJxd
  clear hJ0 hJx0 hY0 h00 hJd hJxd
  refine (callsIn_wide (n := n)).2 ?_
  have HY := Lib.hid hY
  have HJ := Lib.hid hJ
  have H0 := Lib.hid h0
  have s1 := heap_below hSb hW (Array.getElem?_eq_some_iff.1 hSb).1
  have T1 := hT.below hW (Nat.le_refl _)
  obtain ⟨W1, hW1⟩ : ∃ W1, W1 = W.alloc (.cells #[.func (.yield l) #[] #[]] 150) := ⟨_, rfl⟩
  have hB1 : Below W.heap.size W W1 := by rw [hW1]; exact (Below.refl _ W).alloc (Nat.le_refl _) _
  have y1 : W1.heap[W.heap.size]? = some (.cells #[.func (.yield l) #[] #[]] 150 (0, 0)) := by rw [hW1]; exact World.alloc_heap_new W _
  have s2 := heap_below s1 hB1 (Array.getElem?_eq_some_iff.1 s1).1
  have c0 := cells4 s2 0 _ rfl
  have HLI := list_ok s W1 hs (T1.below hB1 (Nat.le_refl _))
  rw [hW1] at c0 HLI
  have HL := Lib.hid HLI
  have hz1 : W1.heap.size = W.heap.size + 1 := by rw [hW1]; simp
  clear hY hJ h0 hSb hW hT s1 T1 HLI
  go_enter Tryz.func158, Tryz.ntmps158
  go_wp2_with fail
  refine HL.out.mono ?_
  rw [← hW1]
  rintro e w2 ⟨⟨u, rfl, hrow, hnil⟩, hb2⟩
  obtain ⟨pu, cu, rfl⟩ := row_shape hrow
  have y2 := heap_below y1 hb2 (Array.getElem?_eq_some_iff.1 y1).1
  have HB2 := Lib.hid (up hb2 hB1)
  have hz2 := hb2.size
  have HI2 := Lib.hid (intsAt_own hrow)
  have HZ := Lib.hid (show W.heap.size < w2.heap.size by omega)
  have l3 : (w2.alloc (.cells #[.slice pu (listS s).length cu] 38)).heap[w2.heap.size]? = some (.cells #[.slice pu (listS s).length cu] 38 (0, 0)) := World.alloc_heap_new w2 _
  have hlen := listS_len hs
  have hwl : IntKind.i64.wrap (((listS s).length : Int) + 1) = ((listS s).length : Int) + 1 := by rw [IntWalk.i64_in] <;> omega
  clear c0 hrow hnil hb2 HL hB1 y1 s2 hW1
  go_wp2_with fail
  obtain ⟨W4, hW4⟩ : ∃ W4, W4 = (w2.alloc (.cells #[.slice pu (listS s).length cu] 38)).alloc (.cells #[chFn W.heap.size w2.heap.size (w2.heap.size + 1)] 183) := ⟨_, rfl⟩
  have hB4 : Below w2.heap.size w2 W4 := by rw [hW4]; exact ((Below.refl _ w2).alloc (Nat.le_refl _) _).alloc (by simp) _
  have ch4 : W4.heap[w2.heap.size + 1]? = some (.cells #[chFn W.heap.size w2.heap.size (w2.heap.size + 1)] 183 (0, 0)) := by
    rw [hW4]; have := World.alloc_heap_new (w2.alloc (.cells #[.slice pu (listS s).length cu] 38)) (.cells #[chFn W.heap.size w2.heap.size (w2.heap.size + 1)] 183); rwa [World.size_alloc] at this
  have l4 : W4.heap[w2.heap.size]? = some (.cells #[.slice pu (listS s).length cu] 38 (0, 0)) := by
    rw [hW4]; exact (Below.heap_alloc _ _ _ (Array.getElem?_eq_some_iff.1 l3).1).trans l3
  have y4 := heap_below y2 hB4 (Array.getElem?_eq_some_iff.1 y2).1
  have HPB := Lib.hid (show PtBox W4 W.heap.size w2.heap.size (w2.heap.size + 1) l (.slice pu (listS s).length cu) (listS s) from ⟨y4, l4, ch4, HI2.out.below hB4 (Nat.le_refl _)⟩)
  have HB4 := Lib.hid (HB2.out.trans (hB4.mono HB2.out.size))
  have HJ4 := Lib.hid (HJ.out [] W W4 H0.out HB4.out)
  rw [← hW4]
  clear hW4 hB4 ch4 l4 y4 l3 y2 HI2
  obtain ⟨Y, hYY⟩ : ∃ Y, Y = W.heap.size := ⟨_, rfl⟩
  obtain ⟨Lb, hLb⟩ : ∃ Lb, Lb = w2.heap.size := ⟨_, rfl⟩
  obtain ⟨Ch, hCh⟩ : ∃ Ch, Ch = w2.heap.size + 1 := ⟨_, rfl⟩
  rw [← hYY, ← hLb] at HPB
  rw [← hYY, ← hLb]
  rw [← hLb] at hCh
  rw [← hCh] at HPB
  rw [← hCh]
  have HYY := Lib.hid hYY
  clear hYY hLb hCh
  go_loopw [12] (fun z wr => ∃ (i : Nat) (pre : List Nat), i ≤ (listS s).length + 1 ∧ z = .int .i64 i ∧ J pre wr ∧ Hid (partsL s = pre ++ partsFrom s i) ∧ Hid (PtBox wr Y Lb Ch l (.slice pu (listS s).length cu) (listS s)) ∧ Hid (W.heap.size ≤ wr.heap.size)) (fun z _ => (listS s).length + 1 - (intOf z).toNat)
  case atStart => exact ⟨0, [], by omega, rfl, HJ4.out, Lib.hid (by rw [List.nil_append]; exact partsFrom_zero s), HPB, Lib.hid HB4.out.size⟩
  case round =>
    clear HJ4 HPB
    obtain ⟨i, pre, hi, rfl, hJr, HT, HP, HS⟩ := hrel
    have f0 := cells4 HP.out.cb 0 _ rfl
    by_cases hlt : i < (listS s).length + 1
    · have di : decide ((i : Int) < ((listS s).length : Int) + 1) = true := decide_eq_true (by omega)
      have HE := Lib.hid (show partsL s = (pre ++ chooseL (listS s) i 0) ++ partsFrom s (i + 1) by rw [HT.out, partsFrom_succ hlt, List.append_assoc])
      have hw1 : IntKind.i64.wrap ((i : Int) + 1) = (i : Int) + 1 := by rw [IntWalk.i64_in] <;> omega
      go_wp2_with fail
      refine (choose_ok (B := W.heap.size) (m := n) (T := partsL s) (J := J) (Jx := Jx) hn (fun x hx => listS_lt hs hx) hlen (fun pre x W1 h1 h2 _ => HY.out pre x W1 h1 h2) (fun p A C h1 _ h3 => HJ.out p A C h1 h3) i 0 0 pre wr (by omega) (by omega) (by omega) HS.out hJr (by rw [List.drop_zero, HE.out]; exact List.prefix_append _ _) HP.out).mono ?_
      rintro e w3 (⟨rfl, hj3, hk3⟩ | ⟨rfl, p', hp', hj3⟩)
      · have HP3 := Lib.hid (HP.out.keep hk3)
        have HS3 := Lib.hid (Nat.le_trans HS.out hk3.1)
        rw [List.drop_zero] at hj3
        clear f0
        go_wp2_with fail
        case roundEnd => exact ⟨⟨i + 1, _, by omega, by go_num, hj3, HE, HP3, HS3⟩, by simp [intOf]; omega⟩
      · clear f0
        go_wp2_with fail
        refine bodyPost_ret (results_none rfl _ _ _) rfl ?_
        rw [HJxd.out] at hj3
        obtain ⟨q, hq, hj⟩ := hj3
        exact ⟨⟨_, rfl⟩, .inr ⟨q, by show q.map Subtype.val <+: _; rw [hq]; exact hp', hj⟩⟩
    · obtain rfl : i = (listS s).length + 1 := by omega
      have di : decide ((((listS s).length + 1 : Nat) : Int) < ((listS s).length : Int) + 1) = false := decide_eq_false (by omega)
      have HE := Lib.hid (show partsL s = pre by rw [HT.out, partsFrom_end, List.append_nil])
      clear f0
      go_wp2_with fail
      go_end0
      rw [HJd.out] at hJr
      obtain ⟨q, hq, hj⟩ := hJr
      exact ⟨⟨_, rfl⟩, .inl ⟨q, by show q.map Subtype.val = _; rw [hq, HE.out], hj⟩⟩
theorem parts_ok (s : Nat) (w : World) : Calls Tryz.prog 127 #[setV s] w fun e w' => e = .returned (.func (.func 158) #[] #[.pointer (some ⟨w.heap.size, 0, none⟩)]) ∧ w' = w.alloc (.cells #[setV s] 106) := by
  have hmf : ∀ (fn : Fn) (first cap : Array Value) (w : World), (Instr.makeFunc fn first cap).run Tryz.prog w = .ok (.func fn first cap) w := fun _ _ _ _ => rfl
  go_enter Tryz.func127, Tryz.ntmps127
  go_wp2
  go_ret
  exact ⟨rfl, rfl⟩
end Go.Proofs.YtoajocgfmbakjaaGreatDoor
/-
  LeastLock.
-/
set_option linter.unusedVariables false
set_option linter.unusedSimpArgs false
namespace Go.Proofs.YtoajocgfmbakjaaGreatDoor
open Go Go.RowKit Go.Shelf
attribute [local go_sem] Oper.semAt_some

def leastT (ms : List Sol) : Option Nat := if chkM ms = 0 then leastF ms else none
def leastLL (ms : List Sol) : List Nat := (leastT ms).elim [] listS
theorem res_ube {fn : Func} {t s r : Tmp} {tmps : Array Value} {W : World} {B C D : Nat} {x y z : Value} (h : fn.results = #[.cell t 38, .cell s 4, .cell r 28]) (ht : tmps[t]?.getD undef = .pointer (some ⟨B, 0, none⟩)) (hs : tmps[s]?.getD undef = .pointer (some ⟨C, 0, none⟩)) (hr : tmps[r]?.getD undef = .pointer (some ⟨D, 0, none⟩))
    (h0 : W.cell? ⟨B, 0, none⟩ = some x) (h1 : W.cell? ⟨C, 0, none⟩ = some y) (h2 : W.cell? ⟨D, 0, none⟩ = some z) :
    (results fn tmps).run Tryz.prog W = .ok (.tuple #[x, y, z]) W := by
  simp [results, h, ht, hs, hr, go_sem, h0, h1, h2]
/-- The world behind a store of three results. -/
abbrev put3 (W : World) (R : Nat) (x y z : Value) : World := ((W.setCell ⟨R, 0, none⟩ x).setCell ⟨R + 1, 0, none⟩ y).setCell ⟨R + 1 + 1, 0, none⟩ z
theorem put3_other {W : World} {R k : Nat} {o : Obj} (h : W.heap[k]? = some o) (h1 : k ≠ R) (h2 : k ≠ R + 1) (h3 : k ≠ R + 1 + 1) (x y z : Value) : (put3 W R x y z).heap[k]? = some o :=
  heap_set (heap_set (heap_set h h1 x) h2 y) h3 z
theorem put3_at {W : World} {R : Nat} {a b c : Value} {T U V : TypeId} (ha : W.heap[R]? = some (.cells #[a] T (0, 0))) (hb : W.heap[R + 1]? = some (.cells #[b] U (0, 0))) (hc : W.heap[R + 1 + 1]? = some (.cells #[c] V (0, 0))) (x y z : Value) :
    (put3 W R x y z).heap[R]? = some (.cells #[x] T (0, 0)) ∧ (put3 W R x y z).heap[R + 1]? = some (.cells #[y] U (0, 0)) ∧ (put3 W R x y z).heap[R + 1 + 1]? = some (.cells #[z] V (0, 0)) :=
  ⟨heap_set (heap_set (blk1_set ha x) (by omega) y) (by omega) z, heap_set (blk1_set (heap_set hb (by omega) x) y) (by omega) z, blk1_set (heap_set (heap_set hc (by omega) x) (by omega) y) z⟩
theorem put3_below {W w : World} {n R : Nat} (h : Below n w W) (hn : n ≤ R) (x y z : Value) : Below n w (put3 W R x y z) :=
  ((h.setCell (p := ⟨R, 0, none⟩) hn x).setCell (p := ⟨R + 1, 0, none⟩) (by show n ≤ R + 1; omega) y).setCell (p := ⟨R + 1 + 1, 0, none⟩) (by show n ≤ R + 1 + 1; omega) z
theorem put3_keeps (W : World) (R B : Nat) (x y z : Value) : KeepsFrom B W (put3 W R x y z) := (((KeepsOthers.setCell _ _ _).trans (KeepsOthers.setCell _ _ _)).trans (KeepsOthers.setCell _ _ _)).from B
theorem put3_row {W : World} {R base size n : Nat} {e : TypeId} {v : Value} {xs : List Value} (h : W.ownsRow base e size v n xs) (hR : R + 1 + 1 < base) (x y z : Value) : (put3 W R x y z).ownsRow base e size v n xs :=
  h.kept (row := none) ⟨rfl, rfl, rfl, by simp, fun i hi _ => rfl⟩ |> fun _ => by
    obtain ⟨h1, h2⟩ := h
    refine ⟨h1, h2.imp id ?_⟩
    rintro ⟨g, cap, cur, e1, e2, e3, e4⟩
    exact ⟨g, cap, cur, e1, e2, put3_other e3 (by omega) (by omega) (by omega) x y z, e4⟩
theorem keeps_kept {b B : Nat} {v : Value} {ms : List Sol} {av : Nat → Prop} {X Y : World} (h : Kept b v ms av X Y) (hb : b < B) : KeepsFrom B X Y :=
  ⟨h.1.size, fun k o hk ho _ => (h.1.block k (Array.getElem?_eq_some_iff.1 ho).1 (fun e => by injection e with e; omega)).trans ho⟩
theorem keepC_kept {b : Nat} {v : Value} {ms : List Sol} {av : Nat → Prop} {X Y : World} (h : Kept b v ms av X Y) (hw : Ways X b none ms av) : KeepC X Y :=
  ⟨h.1.size, fun k o ho hc => (h.1.block k (Array.getElem?_eq_some_iff.1 ho).1 (fun e => by
    injection e with e
    obtain ⟨n, D, ⟨es, clock, hbk, _⟩, _⟩ := hw
    rw [e, hbk] at ho
    cases ho
    cases hc)).trans ho⟩
/-- What a call leaves that looks at ways, under a loop's own blocks. -/
theorem ownFrom_kept {β : Type} {b : Nat} {v : Value} {ms : List Sol} {av : Nat → Prop} {U : World} (hb : b < U.heap.size) : OwnFrom U.heap.size (fun (_ : β) W => Kept b v ms av U W) := fun s X Y row hs hg hr =>
  ⟨⟨hg.os.trans hs.1.os, hg.tape.trans hs.1.tape, hg.output.trans hs.1.output, Nat.le_trans hs.1.size hg.size, fun i hi hne => (hg.block i (Nat.lt_of_lt_of_le hi hs.1.size) (fun e => by have := (hr i e.symm).1; omega)).trans (hs.1.block i hi hne)⟩,
   hs.2.kept hg (fun e => by have := (hr b e.symm).1; omega) (fun r e => (hr r e).2)⟩
set_option maxRecDepth 100000 in
set_option maxHeartbeats 2000000 in
theorem leastLock_ok (ms : List Sol) (v : Value) (w : World) (hv : SolsAt w v ms) (hm : ∀ m ∈ ms, Fit m) (hT : Tab32 w) :
    Calls Tryz.prog 59 #[v] w fun e w' => (∃ u, e = .returned (.tuple #[u, .bool (leastT ms).isSome, .int .i64 (chkM ms)]) ∧ w'.ownsRow w.heap.size 3 1 u (leastLL ms).length (flatI (leastLL ms)) ∧ (u = .slice none 0 0 ↔ leastLL ms = [])) ∧ Below w.heap.size w w' := by
  have HT := Lib.hid hT
  have HM := Lib.hid hm
  obtain ⟨R, hR⟩ : ∃ R, R = w.heap.size := ⟨_, rfl⟩
  obtain ⟨W0, hW0⟩ : ∃ W0, W0 = ((w.alloc (.cells #[.slice none 0 0] 38)).alloc (.cells #[.bool false] 4)).alloc (.cells #[.int .i64 0] 28) := ⟨_, rfl⟩
  have hB0 : Below w.heap.size w W0 := by rw [hW0]; exact (((Below.refl _ w).alloc (Nat.le_refl _) _).alloc (by simp) _).alloc (by simp; omega) _
  have a0 : W0.heap[R]? = some (.cells #[.slice none 0 0] 38 (0, 0)) := by
    rw [hW0, hR]; exact (Below.heap_alloc _ _ _ (by simp; omega)).trans ((Below.heap_alloc _ _ _ (by simp)).trans (World.alloc_heap_new w _))
  have b0 : W0.heap[R + 1]? = some (.cells #[.bool false] 4 (0, 0)) := by
    rw [hW0, hR]; refine (Below.heap_alloc _ _ _ (by simp)).trans ?_
    have := World.alloc_heap_new (w.alloc (.cells #[.slice none 0 0] 38)) (.cells #[.bool false] 4); rwa [World.size_alloc] at this
  have e0 : W0.heap[R + 1 + 1]? = some (.cells #[.int .i64 0] 28 (0, 0)) := by
    rw [hW0, hR]; have := World.alloc_heap_new ((w.alloc (.cells #[.slice none 0 0] 38)).alloc (.cells #[.bool false] 4)) (.cells #[.int .i64 0] 28); rwa [World.size_alloc, World.size_alloc] at this
  by_cases hc : chkM ms = 0
  · have HY := look_yes ms v W0 (hv.below hB0 (Nat.le_refl _)) hm hc
    rw [hW0] at HY
    have HYH := Lib.hid HY
    have h12 := chkM_len hc
    have HLT := Lib.hid (show leastT ms = leastF ms from if_pos hc)
    have HLL := Lib.hid (show leastLL ms = (leastT ms).elim [] listS from rfl)
    obtain ⟨LT, hLT⟩ : ∃ LT, LT = leastT ms := ⟨_, rfl⟩
    obtain ⟨LL, hLL⟩ : ∃ LL, LL = leastLL ms := ⟨_, rfl⟩
    rw [← hLT] at HLT HLL ⊢
    rw [← hLL] at HLL ⊢
    clear hLT hLL
    obtain ⟨pa, cap, rfl, _, _⟩ := hv
    have HR := Lib.hid hR
    rw [hc]
    clear hm hc hT HY hR
    refine (callsIn_wide (n := 9)).1 ?_
    refine callsIn_of_wp_marks Tryz.func59 rfl trivial ?_ rfl
    simp only [Tryz.ntmps59, List.size_toArray, List.length_cons, List.length_nil, Nat.reduceAdd, Nat.reduceSub, Array.replicate_succ, Array.replicate_zero, List.push_toArray, List.append_toArray, List.nil_append, List.cons_append]
    refine wpIn_wide.2 ?_
    go_wp2_with fail
    refine HYH.out.mono ?_
    rw [← hW0, ← HR.out]
    rintro e w1 ⟨b, rfl, hb, hM1, hB1⟩
    have a1 := heap_below a0 hB1 (Array.getElem?_eq_some_iff.1 a0).1
    have b1 := heap_below b0 hB1 (Array.getElem?_eq_some_iff.1 b0).1
    have e1 := heap_below e0 hB1 (Array.getElem?_eq_some_iff.1 e0).1
    obtain ⟨A, hAA⟩ : ∃ A, A = w1.heap.size := ⟨_, rfl⟩
    obtain ⟨W2, hW2⟩ : ∃ W2, W2 = w1.alloc (.cells #[.slice pa ms.length cap, .map (some b)] 101) := ⟨_, rfl⟩
    have q2 : W2.heap[A]? = some (.cells #[.slice pa ms.length cap, .map (some b)] 101 (0, 0)) := by rw [hW2, hAA]; exact World.alloc_heap_new w1 _
    have hA : Below w1.heap.size w1 W2 := by rw [hW2]; exact (Below.refl _ w1).alloc (Nat.le_refl _) _
    have a2 := heap_below a1 hA (Array.getElem?_eq_some_iff.1 a1).1
    have b2 := heap_below b1 hA (Array.getElem?_eq_some_iff.1 b1).1
    have e2 := heap_below e1 hA (Array.getElem?_eq_some_iff.1 e1).1
    have hBw := up hB1 hB0
    have HB2 := Lib.hid (hBw.trans (hA.mono hBw.size))
    have HM2 := Lib.hid (hM1.below hA)
    have HB := Lib.hid (show w.heap.size ≤ b from Nat.le_trans hB0.size hb)
    have HG := greatest_ok ms (.slice pa ms.length cap) b W2 HM.out h12 noBlk (fun _ h => h.elim) HM2.out
    rw [hW2] at HG
    have HGH := Lib.hid HG
    have c0 := cells4 q2 0 _ rfl
    have c1 := cells4 q2 1 _ rfl
    rw [hW2, hAA] at c0 c1
    clear a0 b0 e0 hB0 hW0 hB1 a1 b1 e1 hA hBw hM1 hb HG
    go_wp2_with fail
    refine HGH.out.mono ?_
    rw [← hW2]
    rintro e w3 ⟨rfl, hk3⟩
    have a3 := kept_cells hk3 a2 HM2.out.ways
    have b3 := kept_cells hk3 b2 HM2.out.ways
    have e3 := kept_cells hk3 e2 HM2.out.ways
    have q3 := kept_cells hk3 q2 HM2.out.ways
    have HM3 := Lib.hid (HM2.out.kept hk3)
    have HB3 := Lib.hid (kept_out hk3 HB.out HB2.out)
    rw [← hAA]
    clear a2 b2 e2 q2 hk3 hW2 c0 c1 HGH hAA
    have hs := lockF_lt (ms := ms) h12
    go_wp2_with fail
    refine (parts_ok (lockF ms) w3).mono ?_
    rintro e w4 ⟨rfl, rfl⟩
    obtain ⟨s, hss⟩ : ∃ s, s = lockF ms := ⟨_, rfl⟩
    obtain ⟨Sb, hSb⟩ : ∃ Sb, Sb = w3.heap.size := ⟨_, rfl⟩
    obtain ⟨U, hU⟩ : ∃ U, U = w3.alloc (.cells #[setV s] 106) := ⟨_, rfl⟩
    have sU : U.heap[Sb]? = some (.cells #[setV s] 106 (0, 0)) := by rw [hU, hSb]; exact World.alloc_heap_new w3 _
    have hbU : Below w3.heap.size w3 U := by rw [hU]; exact (Below.refl _ w3).alloc (Nat.le_refl _) _
    have aU := heap_below a3 hbU (Array.getElem?_eq_some_iff.1 a3).1
    have bU := heap_below b3 hbU (Array.getElem?_eq_some_iff.1 b3).1
    have eU := heap_below e3 hbU (Array.getElem?_eq_some_iff.1 e3).1
    have qU := heap_below q3 hbU (Array.getElem?_eq_some_iff.1 q3).1
    have HMU := Lib.hid (HM3.out.below hbU)
    have HBU := Lib.hid (HB3.out.trans (hbU.mono HB3.out.size))
    have HLF := Lib.hid (show LT = (partsL s).find? (isLockB ms) by rw [HLT.out, hss]; rfl)
    rw [← hss] at hs ⊢
    rw [← hSb, ← hU]
    have lbU : b < U.heap.size := HMU.out.ways.lt
    have lEU := (Array.getElem?_eq_some_iff.1 eU).1
    clear a3 b3 e3 q3 hbU hss hU hSb
    go_wp2_with fail
    refine (wpIn_wide (n := 9)).1 ?_
    refine wpIn_rangeFunc_ownH rfl (by omega) (gf := 158) (lb := #[.pointer (some ⟨Sb, 0, none⟩)]) rfl trivial (enters_of Tryz.func158 (by kernel_rfl) rfl)
      (parts_stops _ (by omega) s Sb hs U sU (HT.out.below HBU.out (Nat.le_refl _))) keepC_t (fun W l o o' _ h h1 h2 => keepC_b W l o o' h h1 h2) (Below.refl _ _) (fun _ => rfl)
      (fun (pre : List St) W => Kept b (.slice pa ms.length cap) ms noBlk U W ∧ ∀ x ∈ pre, isLockB ms x.1 = false)
      (fun c (pre : List St) W => c = .ret ∧ ∃ (p0 : List St) (x : St) (u : Value), pre = p0 ++ [x] ∧ (∀ y ∈ p0, isLockB ms y.1 = false) ∧ isLockB ms x.1 = true ∧ W.heap[R]? = some (.cells #[u] 38 (0, 0)) ∧ W.heap[R + 1]? = some (.cells #[.bool true] 4 (0, 0)) ∧ W.heap[R + 1 + 1]? = some (.cells #[.int .i64 0] 28 (0, 0)) ∧
        W.ownsRow U.heap.size 3 1 u (listS x.1).length (flatI (listS x.1)) ∧ (u = .slice none 0 0 ↔ listS x.1 = []) ∧ Below w.heap.size w W)
      (OwnFrom.and (ownFrom_kept lbU) (fun _ _ _ _ h _ _ => h))
      (fun c pre X Y row hs hg hr => by
        obtain ⟨h1, p0, x, u, h2, h3, h4, h5, h6, h7, h8, h9, h10⟩ := hs
        have blk : ∀ (k : Nat) (o : Obj), k < U.heap.size → X.heap[k]? = some o → Y.heap[k]? = some o := fun k o hk ho => (hg.block k (Array.getElem?_eq_some_iff.1 ho).1 (fun e => by have := (hr k e.symm).1; omega)).trans ho
        refine ⟨h1, p0, x, u, h2, h3, h4, blk _ _ (by omega) h5, blk _ _ (by omega) h6, blk _ _ (by omega) h7, h8.kept hg ?_, h9, ?_⟩
        · cases hu : u.ownBlock with
          | none => exact .inl rfl
          | some k =>
            refine .inr fun e => ?_
            obtain ⟨o, ho, hc⟩ := (hr k e.symm).2
            obtain ⟨g, rfl, cur, hgb⟩ := row_block h8 hu
            rw [hgb] at ho
            cases ho
            cases hc
        · have hle := HBU.out.size
          exact ⟨hg.os.trans h10.os, hg.tape.trans h10.tape, hg.output.trans h10.output, Nat.le_trans h10.size hg.size, fun i hi => (hg.block i (Nat.lt_of_lt_of_le hi h10.size) (fun e => by have := (hr i e.symm).1; omega)).trans (h10.block i hi)⟩)
      ⟨kept_below HMU.out.ways (Below.refl _ _), by simp⟩
      (fun (x : St) a' W => a' = { tmps := #[.slice pa ms.length cap, undef, .pointer (some ⟨R, 0, none⟩), .pointer (some ⟨R + 1, 0, none⟩), .pointer (some ⟨R + 1 + 1, 0, none⟩), .pointer (some ⟨A, 0, none⟩), .int .i64 0, setV x.1, .tuple #[mldV (.slice pa ms.length cap) b, .int .i64 0], .slice pa ms.length cap, .tuple #[mldV (.slice pa ms.length cap) b, .int .i64 0], mldV (.slice pa ms.length cap) b, .int .i64 0, .int .i64 0, .bool false, undef, .agg #[.slice pa ms.length cap, .map (some b)], setV s, .func (.func 158) #[] #[.pointer (some ⟨Sb, 0, none⟩)], setV x.1, undef, undef, undef, undef, undef], defers := [] })
      (fun x a' s X Y row h _ _ => h) ?assign ?body ?done ?stop
    case assign =>
      rintro l pre x W K hI hK
      gi_wp2
      exact hK _ _ (KeepsFrom.refl _ _) (keepC_refl _) hI rfl
    case body =>
      rintro l pre ⟨x, hx16⟩ a' X hl ⟨rc, hrc⟩ ⟨hk, hno⟩ rfl hlt
      have HK := Lib.hid hk
      have HNO := Lib.hid hno
      have qX := kept_cells hk qU HMU.out.ways
      have aX := kept_cells hk aU HMU.out.ways
      have bX := kept_cells hk bU HMU.out.ways
      have eX := kept_cells hk eU HMU.out.ways
      have HMX := Lib.hid (HMU.out.kept hk)
      have HIL := Lib.hid (isLock_ok ms x (.slice pa ms.length cap) b X HM.out h12 hx16 noBlk (fun _ h => h.elim) HMX.out)
      have c0 := cells4 qX 0 _ rfl
      have c1 := cells4 qX 1 _ rfl
      clear hk hno
      gi_wp2_with fail
      refine ⟨trivial, ?_⟩
      gi_at_call 128
      (with_reducible refine CallsIn.mono (CallsIn.inRound l (callsIn_wide.2 HIL.out)) ?_)
      rintro e w5 ⟨rfl, hk5⟩
      have HK5 := Lib.hid (kept_trans HK.out hk5)
      have HF5 := Lib.hid (keeps_kept hk5 lbU)
      have HC5 := Lib.hid (keepC_kept hk5 HMX.out.ways)
      clear c0 c1
      cases hil : isLockB ms x with
      | false =>
        gi_wp2
        exact ⟨HF5.out, HC5.out, HK5.out, fun y hy => by
          rcases List.mem_append.1 hy with hy | hy
          · exact HNO.out y hy
          · simp at hy; subst hy; exact hil⟩
      | true =>
        have a5 := kept_cells hk5 aX HMX.out.ways
        have b5 := kept_cells hk5 bX HMX.out.ways
        have e5 := kept_cells hk5 eX HMX.out.ways
        have HB5 := Lib.hid (kept_out HK5.out HB.out HBU.out)
        have HLI := Lib.hid (list_ok x w5 hx16 (HT.out.below HB5.out (Nat.le_refl _)))
        have hsz5 := HK5.out.1.size
        clear hk5 qX aX bX eX HIL
        gi_wp2_with fail
        refine ⟨trivial, ?_⟩
        gi_at_call 92
        (with_reducible refine CallsIn.mono (CallsIn.inRound l (callsIn_wide.2 HLI.out)) ?_)
        rintro e w6 ⟨⟨u, rfl, hrow, hnil⟩, hb6⟩
        obtain ⟨pu, cu, rfl⟩ := row_shape hrow
        have a6 := heap_below a5 hb6 (Array.getElem?_eq_some_iff.1 a5).1
        have b6 := heap_below b5 hb6 (Array.getElem?_eq_some_iff.1 b5).1
        have e6 := heap_below e5 hb6 (Array.getElem?_eq_some_iff.1 e5).1
        have fa := free3 a6 0
        have fb := free3 b6 0
        have fe := free3 e6 0
        have ya := cells4 a6 0 _ rfl
        have yb := cells4 b6 0 _ rfl
        have ye := cells4 e6 0 _ rfl
        have H6 := Lib.hid (put3_at a6 b6 e6 (.slice pu (listS x).length cu) (.bool true) (.int .i64 0))
        have HB6 := Lib.hid (up hb6 HB5.out)
        have HRW := Lib.hid (put3_row (row_base hrow (show U.heap.size ≤ w5.heap.size from hsz5)) lEU (.slice pu (listS x).length cu) (.bool true) (.int .i64 0))
        have HNI := Lib.hid hnil
        have HFF := Lib.hid (HF5.out.trans (keeps_below hb6 _))
        clear a5 b5 e5 hb6 hrow hnil a6 b6 e6
        gi_wp2
        refine ⟨HFF.out.trans (put3_keeps _ _ _ _ _ _), rfl, pre, ⟨x, hx16⟩, _, rfl, HNO.out, hil, H6.out.1, H6.out.2.1, H6.out.2.2, HRW.out, HNI.out, put3_below HB6.out (by rw [HR.out]; exact Nat.le_refl _) _ _ _⟩
    case done =>
      rintro D xs X hD hxs ⟨hk, hno⟩ hK
      have aX := kept_cells hk aU HMU.out.ways
      have bX := kept_cells hk bU HMU.out.ways
      have eX := kept_cells hk eU HMU.out.ways
      have hLT : LT = none := by rw [HLF.out, List.find?_eq_none]; exact fun x hx => by rw [← (show xs.map Subtype.val = _ from hxs)] at hx; obtain ⟨y, hy, rfl⟩ := List.mem_map.1 hx; rw [hno y hy]; simp
      have hLL : LL = [] := by rw [HLL.out, hLT]; rfl
      have fa := free3 aX 0
      have fb := free3 bX 0
      have fe := free3 eX 0
      have ya := cells4 aX 0 _ rfl
      have yb := cells4 bX 0 _ rfl
      have ye := cells4 eX 0 _ rfl
      have H6 := Lib.hid (put3_at aX bX eX (.slice none 0 0) (.bool false) (.int .i64 0))
      have HB6 := Lib.hid (put3_below (R := R) (kept_out hk HB.out HBU.out) (by rw [HR.out]; exact Nat.le_refl _) (.slice none 0 0) (.bool false) (.int .i64 0))
      have HK6 := Lib.hid (put3_other hK (R := R) (by omega) (by omega) (by omega) (.slice none 0 0) (.bool false) (.int .i64 0))
      have HDR := Lib.hid (show R + 1 + 1 < D by omega)
      clear hk hno aX bX eX hK
      gi_wp2
      go_wp2_with fail
      refine leaves_marks w.heap.size [D] _ (by simp) (fun D' h => by simp at h; subst h; exact ⟨by have := HDR.out; have := HR.out; omega, HK6.out⟩) fun W3 hb hk => ⟨_, res_ube Tryz.results59 rfl rfl rfl (cells4 (hk _ _ (fun D' h => by simp at h; have := HDR.out; omega) H6.out.1) 0 _ rfl) (cells4 (hk _ _ (fun D' h => by simp at h; have := HDR.out; omega) H6.out.2.1) 0 _ rfl) (cells4 (hk _ _ (fun D' h => by simp at h; have := HDR.out; omega) H6.out.2.2) 0 _ rfl), ⟨_, by rw [hLT]; rfl, ?_, ?_⟩, HB6.out.trans hb⟩
      · rw [hLL]; exact World.ownsRow_nil _ _ _ _
      · rw [hLL]; simp
    case stop =>
      rintro D c pre X hD hpre ⟨rfl, p0, x, u, hpx, hno, hil, a6, b6, e6, hrow, hnil, hbx⟩ hK
      have hLT : LT = some x.1 := by
        rw [HLF.out]
        obtain ⟨r, hr⟩ := (show pre.map Subtype.val <+: _ from hpre)
        rw [← hr, hpx, List.map_append, List.find?_append, List.find?_append, List.find?_eq_none.2 (fun y hy => by obtain ⟨z, hz, rfl⟩ := List.mem_map.1 hy; rw [hno z hz]; simp)]
        simp [hil]
      have hLL : LL = listS x.1 := by rw [HLL.out, hLT]; rfl
      have HDR := Lib.hid (show R + 1 + 1 < D by omega)
      gi_wp2
      refine leaves_marks w.heap.size [D] _ (by simp) (fun D' h => by simp at h; subst h; exact ⟨by have := HDR.out; have := HR.out; omega, hK⟩) fun W3 hb hk => ⟨_, res_ube Tryz.results59 rfl rfl rfl (cells4 (hk _ _ (fun D' h => by simp at h; have := HDR.out; omega) a6) 0 _ rfl) (cells4 (hk _ _ (fun D' h => by simp at h; have := HDR.out; omega) b6) 0 _ rfl) (cells4 (hk _ _ (fun D' h => by simp at h; have := HDR.out; omega) e6) 0 _ rfl), ⟨_, by rw [hLT]; rfl, ?_, by rw [hLL]; exact hnil⟩, hbx.trans hb⟩
      rw [hLL]
      refine row_base ?_ HBU.out.size
      obtain ⟨h1, h2⟩ := hrow
      refine ⟨h1, h2.imp id ?_⟩
      rintro ⟨g, cap', cur, e1, e2, e3, e4⟩
      exact ⟨g, cap', cur, e1, e2, hk _ _ (fun D' h => by simp at h; subst h; intro e; subst e; rw [e3] at hK; cases hK) e3, e4⟩
  · have HN := look_no ms v W0 (hv.below hB0 (Nat.le_refl _)) hm hc
    have HLT := Lib.hid (show leastT ms = none from if_neg hc)
    have HLL := Lib.hid (show leastLL ms = [] by unfold leastLL; rw [HLT.out]; rfl)
    rw [HLT.out, HLL.out]
    rw [hW0] at HN
    have HR := Lib.hid hR
    obtain ⟨c, hcc⟩ : ∃ c, c = chkM ms := ⟨_, rfl⟩
    rw [← hcc] at HN hc ⊢
    have HNN := Lib.hid HN
    have hne : (c != 0) = true := by simpa using hc
    clear hcc hc hm HN hR hv
    go_enter Tryz.func59, Tryz.ntmps59
    go_wp2_with fail
    refine HNN.out.mono ?_
    rw [← hW0, ← HR.out]
    rintro e w1 ⟨rfl, hB1⟩
    have a1 := heap_below a0 hB1 (Array.getElem?_eq_some_iff.1 a0).1
    have b1 := heap_below b0 hB1 (Array.getElem?_eq_some_iff.1 b0).1
    have e1 := heap_below e0 hB1 (Array.getElem?_eq_some_iff.1 e0).1
    have hA := (Below.refl _ w1).alloc (Nat.le_refl _) (.cells #[.slice none 0 0, .map none] 101)
    have a2 := heap_below a1 hA (Array.getElem?_eq_some_iff.1 a1).1
    have b2 := heap_below b1 hA (Array.getElem?_eq_some_iff.1 b1).1
    have e2 := heap_below e1 hA (Array.getElem?_eq_some_iff.1 e1).1
    have hBw := up hB1 hB0
    have HB2 := Lib.hid (hBw.trans (hA.mono hBw.size))
    have fa := free3 a2 0
    have fb := free3 b2 0
    have fe := free3 e2 0
    have ya := cells4 a2 0 _ rfl
    have yb := cells4 b2 0 _ rfl
    have ye := cells4 e2 0 _ rfl
    have H6 := Lib.hid (put3_at a2 b2 e2 (.slice none 0 0) (.bool false) (.int .i64 c))
    clear a0 b0 e0 hB0 hW0 hB1 a1 b1 e1 a2 b2 e2 hA hBw HNN
    go_wp2_with fail
    refine bodyPost_ret (res_ube Tryz.results59 rfl rfl rfl (cells4 H6.out.1 0 _ rfl) (cells4 H6.out.2.1 0 _ rfl) (cells4 H6.out.2.2 0 _ rfl)) rfl ⟨⟨_, rfl, World.ownsRow_nil _ _ _ _, by simp⟩, put3_below HB2.out (by rw [HR.out]; exact Nat.le_refl _) _ _ _⟩
end Go.Proofs.YtoajocgfmbakjaaGreatDoor
