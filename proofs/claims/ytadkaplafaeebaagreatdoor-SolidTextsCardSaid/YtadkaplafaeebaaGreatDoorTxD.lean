/-
  Read at every text.
-/
import Derived.Test.YtadkaplafaeebaaGreatDoorTxP
import Derived.Test.YtadkaplafaeebaaGreatDoorTxS
import Derived.Test.YtadkaplafaeebaaGreatDoorTxR
import Derived.Test.YtadkaplafaeebaaGreatDoorPkS
set_option linter.unusedVariables false
set_option linter.unusedSimpArgs false
namespace Go.Proofs.YtadkaplafaeebaaGreatDoor
open Go Go.RowKit Go.Shelf

attribute [local go_sem] Oper.semAt_some

set_option maxRecDepth 100000 in
set_option maxHeartbeats 1000000 in
theorem catchRead_pan (n pb qb : Nat) (f : Sol) (ev pv : Value) (u : TypeId) (older : List PanicEntry) (w : World) (hx : BoxS w pb f) (he : Boxed w qb 29 ev) (hne : pb ≠ qb) :
    CallsDIn Fence.wide n Tryz.prog 132 #[.pointer (some ⟨pb, 0, none⟩), .pointer (some ⟨qb, 0, none⟩)] (.panicking ({ v := .iface u pv, recovered := false } :: older)) w fun e u' w' =>
      e = .returned (.tuple #[]) ∧ u' = .panicking ({ v := .iface u pv, recovered := true } :: older) ∧ w' = (put8 w pb zeroS).setCell ⟨qb, 0, none⟩ (.int .i64 4) := by
  have c0 := (hx).cell (k := 0) (by omega); have c1 := (hx).cell (k := 1) (by omega); have c2 := (hx).cell (k := 2) (by omega); have c3 := (hx).cell (k := 3) (by omega); have c4 := (hx).cell (k := 4) (by omega); have c5 := (hx).cell (k := 5) (by omega); have c6 := (hx).cell (k := 6) (by omega); have c7 := (hx).cell (k := 7) (by omega)
  have q0 := (hx).free 0; have q1 := (hx).free 1; have q2 := (hx).free 2; have q3 := (hx).free 3; have q4 := (hx).free 4; have q5 := (hx).free 5; have q6 := (hx).free 6; have q7 := (hx).free 7
  have ce := he.cell
  have fe := he.frozen
  refine callsDIn_of_wpSIn Tryz.func132 rfl trivial fun c₀ cs hu => ?_
  apply wpSIn_seq
  apply wpSIn_region
  simp [wpOpsSIn, go_sem, recoverD, hu, Tryz.ntmps132, Exit.thenS]
  refine wpSIn_cond (t := true) (by simp [Act.eval, Array.replicate]) ?_
  simp only [if_true]
  apply wpSIn_region
  simp [wpOpsSIn, go_sem, c0, c1, c2, c3, c4, c5, c6, c7, q0, q1, q2, q3, q4, q5, q6, q7, ce, fe, bodyPostS, results, Tryz.results132]
  rfl
theorem readP_append : ∀ (a b : List (List UInt8)) (k : Nat) (f : Sol), readP k f (a ++ b) = (readP k f a).bind fun g => readP (k + a.length) g b
  | [], b, k, f => by simp [readP]
  | t :: r, b, k, f => by
    rw [List.cons_append, readP, readP]
    split
    · rfl
    · cases parT t with
      | error c => rfl
      | ok u =>
        simp only
        rw [readP_append r b (k + 1) _, List.length_cons, show k + 1 + r.length = k + (r.length + 1) by omega]
theorem segs_mem : ∀ (l : List UInt8), ∀ t ∈ segs l, t.length ≤ l.length
  | [], t, h => by simp [segs] at h; simp [h]
  | c :: r, t, h => by
    unfold segs at h
    split at h
    · rcases List.mem_cons.1 h with rfl | h
      · simp
      · have := segs_mem r t h; simp; omega
    · split at h
      · simp at h; subst h; simp
      · rename_i u us hu
        rcases List.mem_cons.1 h with rfl | h
        · have := segs_mem r u (by rw [hu]; exact List.mem_cons_self); simp; omega
        · have := segs_mem r t (by rw [hu]; exact List.mem_cons_of_mem _ h); simp; omega
/-- What was read so far. -/
def fR (pre : List (List UInt8)) : Sol := (readP 0 zeroS pre).getD zeroS
theorem fR_some {pre : List (List UInt8)} (h : (readP 0 zeroS pre).isSome = true) : readP 0 zeroS pre = some (fR pre) := by
  cases hr : readP 0 zeroS pre with
  | none => rw [hr] at h; cases h
  | some f => unfold fR; rw [hr]; rfl
theorem fR_next {pre : List (List UInt8)} {t : List UInt8} {u : Nat} (h : (readP 0 zeroS pre).isSome = true) (h8 : pre.length < 8) (hp : parT t = .ok u) :
    (readP 0 zeroS (pre ++ [t])).isSome = true ∧ fR (pre ++ [t]) = up8 (fR pre) pre.length u := by
  have e : readP 0 zeroS (pre ++ [t]) = some (up8 (fR pre) pre.length u) := by
    rw [readP_append, fR_some h]
    simp only [Option.bind_some, readP, hp, Nat.zero_add]
    rw [if_neg (by omega)]
  exact ⟨by rw [e]; rfl, by rw [fR, e]; rfl⟩
theorem rd_stop {L : List UInt8} {pre post : List (List UInt8)} {t : List UInt8} (h : (readP 0 zeroS pre).isSome = true) (hs : segs L = pre ++ t :: post) (hp : pre.length = 8 ∨ ∃ c, parT t = .error c) : rdF L = none := by
  have e : readP 0 zeroS (segs L) = none := by
    rw [hs, readP_append, fR_some h]
    simp only [Option.bind_some, readP, Nat.zero_add]
    rcases hp with hp | ⟨c, hp⟩
    · rw [if_pos hp]
    · rw [hp]; split <;> rfl
  unfold rdF
  rw [e]
  rfl
theorem rd_end {L : List UInt8} (h : (readP 0 zeroS (segs L)).isSome = true) : rdF L = if writeL (fR (segs L)) = L then some (fR (segs L)) else none := by
  unfold rdF
  rw [fR_some h]
  rfl
/-- What Read answers. -/
def rdV : Option Sol → Value
  | some x => .tuple #[sol x, .int .i64 0]
  | none => .tuple #[sol zeroS, .int .i64 4]
set_option maxRecDepth 100000 in
set_option maxHeartbeats 1000000 in
/-- A panic leaves Read by its deferred call: no solid. -/
theorem read_panics (w W : World) (D : Nat) (f : Sol) (ev : Value) (T : Array Value) (hD : w.heap.size + 6 ≤ D) (i1 : BoxS W w.heap.size f) (i2 : Boxed W (w.heap.size + 1) 29 ev) (i4 : Below w.heap.size w W) (hK : W.heap[D]? = some (.deferred (some [])))
    (t2 : T[2]?.getD undef = .pointer (some ⟨w.heap.size, 0, none⟩)) (t3 : T[3]?.getD undef = .pointer (some ⟨w.heap.size + 1, 0, none⟩)) :
    bodyPostM Fence.wide 7 Tryz.prog Tryz.f83 (RetB (rdV none) w) (.panic [{ v := .iface 29 (.int .i64 4), recovered := false }])
      { tmps := T, defers := [{ target := .collected D, args := #[] }, { target := .fn (.func 132) #[.pointer (some ⟨w.heap.size, 0, none⟩), .pointer (some ⟨w.heap.size + 1, 0, none⟩)], args := #[] }] } W := by
  refine ⟨by simp, .inl ⟨_, _, rfl, run_takeDeferred hK, ?_⟩⟩
  have hgr := grownBy_putObj' W D (.deferred none)
  have r1 : BoxS (W.putObj D (.deferred none)) w.heap.size f := (hgr.block _ i1.lt (fun e => by cases e; omega)).trans i1
  have r2 : Boxed (W.putObj D (.deferred none)) (w.heap.size + 1) 29 ev := (hgr.block _ i2.lt (fun e => by cases e; omega)).trans i2
  have r4 := i4.trans (below_mark (n₀ := w.heap.size) (o' := .deferred none) (by omega) hK)
  refine ⟨by simp, .inr ⟨fun h => (by cases h), .func 132, _, 132, #[.pointer (some ⟨w.heap.size, 0, none⟩), .pointer (some ⟨w.heap.size + 1, 0, none⟩)], rfl, by simp [go_sem], fun _ _ => trivial, ?_⟩⟩
  refine (catchRead_pan _ _ _ f ev _ _ [] _ r1 r2 (by omega)).mono ?_
  rintro e u' w'' ⟨rfl, rfl, rfl⟩
  have z1 : BoxS ((put8 (W.putObj D (.deferred none)) w.heap.size zeroS).setCell ⟨w.heap.size + 1, 0, none⟩ (.int .i64 4)) w.heap.size zeroS := (r1.put _).other (by omega) _
  have p2 : Boxed (put8 (W.putObj D (.deferred none)) w.heap.size zeroS) (w.heap.size + 1) 29 ev := boxed_set (boxed_set (boxed_set (boxed_set (boxed_set (boxed_set (boxed_set (boxed_set r2 (by omega)) (by omega)) (by omega)) (by omega)) (by omega)) (by omega)) (by omega)) (by omega)
  have z2 : Boxed ((put8 (W.putObj D (.deferred none)) w.heap.size zeroS).setCell ⟨w.heap.size + 1, 0, none⟩ (.int .i64 4)) (w.heap.size + 1) 29 (.int .i64 4) := p2.set (.int .i64 4)
  have z4 : Below w.heap.size w ((put8 (W.putObj D (.deferred none)) w.heap.size zeroS).setCell ⟨w.heap.size + 1, 0, none⟩ (.int .i64 4)) := (below_put8 r4 (Nat.le_refl _) _).setCell (p := ⟨w.heap.size + 1, 0, none⟩) (by simp) _
  have zB := z4
  have y0 := (z1).cell (k := 0) (by omega); have y1 := (z1).cell (k := 1) (by omega); have y2 := (z1).cell (k := 2) (by omega); have y3 := (z1).cell (k := 3) (by omega); have y4 := (z1).cell (k := 4) (by omega); have y5 := (z1).cell (k := 5) (by omega); have y6 := (z1).cell (k := 6) (by omega); have y7 := (z1).cell (k := 7) (by omega)
  have ze := z2.cell
  refine ⟨.tuple #[sol zeroS, .int .i64 4], ?_, rfl, z4⟩
  simp [results, Tryz.results83, go_sem, t2, t3, y0, y1, y2, y3, y4, y5, y6, y7, ze]
set_option maxRecDepth 100000 in
set_option maxHeartbeats 4000000 in
theorem read_ok (L : List UInt8) (hL : L.length ≤ 1000000) (w : World) (hT : Tab64 w) (hE : ErrW w) :
    Calls Tryz.prog 83 #[.string (txt L)] w (RetB (rdV (rdF L)) w) := by
  have hmf : ∀ (fn : Fn) (first cap : Array Value) (w : World), (Instr.makeFunc fn first cap).run Tryz.prog w = .ok (.func fn first cap) w := fun _ _ _ _ => rfl
  have HT := Lib.hid hT
  have HE := Lib.hid hE
  clear hT hE
  refine (callsIn_wide (n := 7)).1 ?_
  refine calls_at_marks Tryz.func83 rfl trivial ?_ rfl
  simp only [Tryz.ntmps83, List.size_toArray, List.length_cons, List.length_nil, Nat.reduceAdd, Nat.reduceSub, Array.replicate_succ, Array.replicate_zero, List.push_toArray, List.append_toArray, List.nil_append, List.cons_append]
  refine WpAt.seq (WpAt.of ?_)
  gi_wp2
  refine WpAt.seq (WpAt.of ?_)
  gi_wp2
  refine WpAt.seq (WpAt.of ?_)
  gi_wp2
  refine WpAt.seq (WpAt.seq (WpAt.of ?_))
  gi_wp2_with (refine ⟨trivial, ?_⟩; gi_at_call 133; refine (split_in _ (txt L) _).mono ?_; rintro e w1 ⟨rfl, rfl⟩)
  have bX : BoxS ((((((w.alloc (.cells #[.int .u64 0, .int .u64 0, .int .u64 0, .int .u64 0, .int .u64 0, .int .u64 0, .int .u64 0, .int .u64 0] 24)).alloc (.cells #[.int .i64 0] 29)).alloc (.cells #[.int .i64 0] 3)).alloc (.cells #[.string (txt L)] 9)).alloc (.cells #[.string ⟨#[46]⟩] 9)).alloc (.cells #[.int .i64 0] 3)) w.heap.size (fun _ => 0) := (((((BoxS.zero rfl).alloc _).alloc _).alloc _).alloc _).alloc _
  have bE : Boxed ((((((w.alloc (.cells #[.int .u64 0, .int .u64 0, .int .u64 0, .int .u64 0, .int .u64 0, .int .u64 0, .int .u64 0, .int .u64 0] 24)).alloc (.cells #[.int .i64 0] 29)).alloc (.cells #[.int .i64 0] 3)).alloc (.cells #[.string (txt L)] 9)).alloc (.cells #[.string ⟨#[46]⟩] 9)).alloc (.cells #[.int .i64 0] 3)) (w.heap.size + 1) 29 (.int .i64 0) := ((((boxed_at (by simp)).alloc _).alloc _).alloc _).alloc _
  have bN : Boxed ((((((w.alloc (.cells #[.int .u64 0, .int .u64 0, .int .u64 0, .int .u64 0, .int .u64 0, .int .u64 0, .int .u64 0, .int .u64 0] 24)).alloc (.cells #[.int .i64 0] 29)).alloc (.cells #[.int .i64 0] 3)).alloc (.cells #[.string (txt L)] 9)).alloc (.cells #[.string ⟨#[46]⟩] 9)).alloc (.cells #[.int .i64 0] 3)) (w.heap.size + 1 + 1) 3 (.int .i64 0) := (((boxed_at (by simp)).alloc _).alloc _).alloc _
  have bS : Boxed ((((((w.alloc (.cells #[.int .u64 0, .int .u64 0, .int .u64 0, .int .u64 0, .int .u64 0, .int .u64 0, .int .u64 0, .int .u64 0] 24)).alloc (.cells #[.int .i64 0] 29)).alloc (.cells #[.int .i64 0] 3)).alloc (.cells #[.string (txt L)] 9)).alloc (.cells #[.string ⟨#[46]⟩] 9)).alloc (.cells #[.int .i64 0] 3)) (w.heap.size + 1 + 1 + 1) 9 (.string (txt L)) := ((boxed_at (by simp)).alloc _).alloc _
  have bP : Boxed ((((((w.alloc (.cells #[.int .u64 0, .int .u64 0, .int .u64 0, .int .u64 0, .int .u64 0, .int .u64 0, .int .u64 0, .int .u64 0] 24)).alloc (.cells #[.int .i64 0] 29)).alloc (.cells #[.int .i64 0] 3)).alloc (.cells #[.string (txt L)] 9)).alloc (.cells #[.string ⟨#[46]⟩] 9)).alloc (.cells #[.int .i64 0] 3)) (w.heap.size + 1 + 1 + 1 + 1) 9 (.string ⟨#[46]⟩) := (boxed_at (by simp)).alloc _
  have bK : Boxed ((((((w.alloc (.cells #[.int .u64 0, .int .u64 0, .int .u64 0, .int .u64 0, .int .u64 0, .int .u64 0, .int .u64 0, .int .u64 0] 24)).alloc (.cells #[.int .i64 0] 29)).alloc (.cells #[.int .i64 0] 3)).alloc (.cells #[.string (txt L)] 9)).alloc (.cells #[.string ⟨#[46]⟩] 9)).alloc (.cells #[.int .i64 0] 3)) (w.heap.size + 1 + 1 + 1 + 1 + 1) 3 (.int .i64 0) := boxed_at (by simp)
  have hB0 : Below w.heap.size w ((((((w.alloc (.cells #[.int .u64 0, .int .u64 0, .int .u64 0, .int .u64 0, .int .u64 0, .int .u64 0, .int .u64 0, .int .u64 0] 24)).alloc (.cells #[.int .i64 0] 29)).alloc (.cells #[.int .i64 0] 3)).alloc (.cells #[.string (txt L)] 9)).alloc (.cells #[.string ⟨#[46]⟩] 9)).alloc (.cells #[.int .i64 0] 3)) := by repeat' (first | (with_reducible exact Below.refl _ _) | (with_reducible assumption) | (with_reducible refine Below.alloc ?_ ?_ _) | (with_reducible refine Below.drew ?_) | (with_reducible refine below_drewN ?_ _) | (with_reducible refine Below.setCell ?_ ?_ _) | go_size)
  have hsz : ((((((w.alloc (.cells #[.int .u64 0, .int .u64 0, .int .u64 0, .int .u64 0, .int .u64 0, .int .u64 0, .int .u64 0, .int .u64 0] 24)).alloc (.cells #[.int .i64 0] 29)).alloc (.cells #[.int .i64 0] 3)).alloc (.cells #[.string (txt L)] 9)).alloc (.cells #[.string ⟨#[46]⟩] 9)).alloc (.cells #[.int .i64 0] 3)).heap.size = w.heap.size + 6 := by simp
  obtain ⟨W0, hW0⟩ : ∃ W0, W0 = ((((((w.alloc (.cells #[.int .u64 0, .int .u64 0, .int .u64 0, .int .u64 0, .int .u64 0, .int .u64 0, .int .u64 0, .int .u64 0] 24)).alloc (.cells #[.int .i64 0] 29)).alloc (.cells #[.int .i64 0] 3)).alloc (.cells #[.string (txt L)] 9)).alloc (.cells #[.string ⟨#[46]⟩] 9)).alloc (.cells #[.int .i64 0] 3)) := ⟨_, rfl⟩
  rw [← hW0] at bX bE bN bS bP bK hB0 hsz ⊢
  clear hW0
  have HSZ := Lib.hid hsz
  refine WpAt.block ?_
  refine range_pan (α := List UInt8) Tryz.func83 trivial rfl (by omega) (gf := 170) (lb := #[.pointer (some ⟨(w.heap.size + 1 + 1 + 1 + 1), 0, none⟩), .pointer (some ⟨(w.heap.size + 1 + 1 + 1), 0, none⟩), .pointer (some ⟨(w.heap.size + 1 + 1 + 1 + 1 + 1), 0, none⟩)]) rfl trivial (enters_of Tryz.func170 (by kernel_rfl) rfl)
    (split_pan _ (by omega) (w.heap.size + 1 + 1 + 1 + 1) (w.heap.size + 1 + 1 + 1) (w.heap.size + 1 + 1 + 1 + 1 + 1) (by omega) (by omega) L hL W0 bP bS bK)
    (fun a b => ⟨b.1.trans a.1, b.2.1.trans a.2.1, b.2.2.trans a.2.2⟩)
    (fun A l o o' h1 h2 h3 h4 => ⟨World.putObj_heap_other (by omega), World.putObj_heap_other (by omega), World.putObj_heap_other (by omega)⟩)
    (Below.refl _ _) (fun _ => rfl)
    (fun (pre : List (List UInt8)) W => ((readP 0 zeroS pre).isSome = true ∧ pre.length ≤ 8) ∧ BoxS W w.heap.size (fR pre) ∧ Boxed W (w.heap.size + 1) 29 (.int .i64 0) ∧ Boxed W (w.heap.size + 1 + 1) 3 (.int .i64 (pre.length : Nat)) ∧ Below w.heap.size w W)
    (fun ch W => (rdF L = none ∧ ch = [{ v := .iface 29 (.int .i64 4), recovered := false }]) ∧ (∃ f, BoxS W w.heap.size f) ∧ Boxed W (w.heap.size + 1) 29 (.int .i64 0) ∧ Below w.heap.size w W)
    (OwnFrom.and (fun _ _ _ _ h _ _ => h) (OwnFrom.and (own_block' _ _ (fun pre => .cells (solC (fR pre)) 24 (0, 0)) fun _ => rfl) (OwnFrom.and (own_block _ _ _ rfl) (OwnFrom.and (own_block' _ _ (fun pre : List (List UInt8) => .cells #[.int .i64 (pre.length : Nat)] 3 (0, 0)) fun _ => rfl) (ownFrom_below (Nat.le_refl _) (by omega))))))
    (fun s A B h hst => by
      obtain ⟨v, rfl⟩ := hst
      exact ⟨h.1, h.2.1.other (by omega) _, boxed_set h.2.2.1 (by omega), boxed_set h.2.2.2.1 (by omega), h.2.2.2.2.setCell (by simp; omega) _⟩)
    (fun A B r o hst h hc => by
      obtain ⟨v, rfl⟩ := hst
      exact (KeepsOthers.setCell A ⟨(w.heap.size + 1 + 1 + 1), 0, none⟩ _).same r o h hc)
    ⟨⟨rfl, by simp⟩, bX, bE, bN, hB0⟩
    (fun (x : List UInt8) a' W => a' = { tmps := #[.string (txt L), undef, .pointer (some ⟨w.heap.size, 0, none⟩), .pointer (some ⟨(w.heap.size + 1), 0, none⟩), .pointer (some ⟨(w.heap.size + 1 + 1), 0, none⟩), .string (txt x), .func (.func 132) #[] #[.pointer (some ⟨w.heap.size, 0, none⟩), .pointer (some ⟨(w.heap.size + 1), 0, none⟩)], .string (txt L),
      .func (.func 170) #[] #[.pointer (some ⟨(w.heap.size + 1 + 1 + 1 + 1), 0, none⟩), .pointer (some ⟨(w.heap.size + 1 + 1 + 1), 0, none⟩), .pointer (some ⟨(w.heap.size + 1 + 1 + 1 + 1 + 1), 0, none⟩)], .string (txt x), undef, undef, undef, undef, undef, undef, undef, undef, undef, undef, undef, undef, undef, undef, undef], defers := [] })
    (fun x a' s X Y row h hg hr => h) ?assign ?body ?done ?stop
  case assign =>
    rintro l pre x W K hI hK
    gi_wp2
    exact hK _ _ (KeepsFrom.refl _ _) ⟨rfl, rfl, rfl⟩ hI rfl
  case body =>
    rintro l pre x a' W hl ⟨r, hr⟩ ⟨⟨i0, i8⟩, i1, i2, i3, i4⟩ rfl ⟨post, hpost⟩
    have cN := i3.cell
    have fN := i3.frozen
    have hlw : l < W.heap.size := (Array.getElem?_eq_some_iff.1 hr).1
    rw [hsz] at hl
    by_cases h8 : pre.length = 8
    · have HS := Lib.hid (rd_stop i0 hpost (.inl h8))
      rw [h8] at cN
      gi_wp2
      exact ⟨rfl, KeepsFrom.refl _ _, ⟨HS.out, rfl⟩, ⟨_, i1⟩, i2, i4⟩
    · have hl8 : pre.length < 8 := by omega
      have h8d : (((pre.length : Nat) : Int) == 8) = false := by simpa using (show ¬ ((pre.length : Nat) : Int) = 8 by omega)
      have cX := i1.cell (k := pre.length) hl8
      have fX := i1.free pre.length
      have lX := i1.lt
      have lN := i3.lt
      have lE := i2.lt
      have hmx : Tryz.prog.follows .mixedOrders = true := by kernel_rfl
      have hxl : x.length ≤ 1000000 := Nat.le_trans (segs_mem L x (by rw [hpost]; simp)) hL
      cases hp : parT x with
      | ok u =>
        have HP : Hid (∀ W, ErrW W → Calls Tryz.prog 134 #[.string (txt x)] W (RetB (.int .u64 u) W)) := Lib.hid fun W hW => by
          have := plane_ok (txt x) (by rw [txt_size]; exact hxl) W hW
          unfold planeE at this
          rw [show (txt x).data.toList = x by simp, hp] at this
          exact this
        have HE1 := Lib.hid (fun (W2 : World) (hb : Below W.heap.size W W2) => (HE.out.below i4 (Nat.le_refl _)).below hb (Nat.le_refl _))
        have hdr : Below W.heap.size W W.drew := by repeat' (first | (with_reducible exact Below.refl _ _) | (with_reducible assumption) | (with_reducible refine Below.alloc ?_ ?_ _) | (with_reducible refine Below.drew ?_) | (with_reducible refine below_drewN ?_ _) | (with_reducible refine Below.setCell ?_ ?_ _) | go_size)
        obtain ⟨n1, n2⟩ := fR_next i0 hl8 hp
        have HN := Lib.hid (show fR (pre ++ [x]) = up8 (fR pre) pre.length u from n2)
        clear hp
        gi_wp2
        gi_region_with_o (refine ⟨trivial, ?_⟩; gi_at_call 134; (with_reducible refine CallsIn.mono (CallsIn.inRound l (callsIn_wide.2 (HP.out _ (HE1.out _ (by repeat' (first | (with_reducible exact Below.refl _ _) | (with_reducible assumption) | (with_reducible refine Below.alloc ?_ ?_ _) | (with_reducible refine Below.drew ?_) | (with_reducible refine below_drewN ?_ _) | (with_reducible refine Below.setCell ?_ ?_ _) | go_size)))))) ?_); rintro e w3 ⟨rfl, hb3⟩; replace hb3 := below_undrew hb3; obtain ⟨hc3, hf3⟩ := bcell hb3)
        all_goals
          gi_wp2
          have hs3 := hb3.size
          have m1 := (i1.below hb3 lX).set (k := pre.length) hl8 u
          have m2 : Boxed w3 (w.heap.size + 1) 29 (.int .i64 0) := (hb3.block _ lE).trans i2
          have m3 : Boxed w3 (w.heap.size + 1 + 1) 3 (.int .i64 (pre.length : Nat)) := (hb3.block _ lN).trans i3
          have m4 := i4.trans (hb3.mono i4.size)
          have el : (((pre ++ [x]).length : Nat) : Int) = (pre.length : Int) + 1 := by simp
          have kp : ∀ B, w.heap.size + 2 < B → B < w.heap.size + 6 → ((w3.setCell ⟨w.heap.size, pre.length, none⟩ (.int .u64 u)).setCell ⟨w.heap.size + 1 + 1, 0, none⟩ (.int .i64 ((pre.length : Int) + 1))).heap[B]? = W.heap[B]? := fun B h1 h2 =>
            (Below.heap_setCell _ ⟨w.heap.size + 1 + 1, 0, none⟩ _ B (show B ≠ w.heap.size + 1 + 1 by omega)).trans ((Below.heap_setCell _ ⟨w.heap.size, pre.length, none⟩ _ B (show B ≠ w.heap.size by omega)).trans (hb3.block B (by omega)))
          refine ⟨(keeps_below hb3).trans (((KeepsOthers.setCell _ _ _).trans (KeepsOthers.setCell _ _ _)).from _), ⟨kp _ (by omega) (by omega), kp _ (by omega) (by omega), kp _ (by omega) (by omega)⟩, ⟨n1, by simp; omega⟩, ?_, ?_, ?_, ?_⟩
          · rw [HN.out]; exact m1.other (by omega) _
          · exact boxed_set (boxed_set m2 (by omega)) (by omega)
          · rw [el]; exact (boxed_set m3 (by omega)).set _
          · exact (m4.setCell (p := ⟨w.heap.size, pre.length, none⟩) (by simp) _).setCell (p := ⟨w.heap.size + 1 + 1, 0, none⟩) (by simp; omega) _
      | error c =>
        have HS := Lib.hid (rd_stop i0 hpost (.inr ⟨c, hp⟩))
        have HP : Hid (∀ W, ErrW W → Calls Tryz.prog 134 #[.string (txt x)] W fun e w' => e = .panicked [{ v := .iface 29 (.int .i64 4), recovered := false }] ∧ Below W.heap.size W w') := Lib.hid fun W hW => by
          have := plane_ok (txt x) (by rw [txt_size]; exact hxl) W hW
          unfold planeE at this
          rw [show (txt x).data.toList = x by simp, hp] at this
          exact this
        have HE1 := Lib.hid (fun (W2 : World) (hb : Below W.heap.size W W2) => (HE.out.below i4 (Nat.le_refl _)).below hb (Nat.le_refl _))
        have hdr : Below W.heap.size W W.drew := by repeat' (first | (with_reducible exact Below.refl _ _) | (with_reducible assumption) | (with_reducible refine Below.alloc ?_ ?_ _) | (with_reducible refine Below.drew ?_) | (with_reducible refine below_drewN ?_ _) | (with_reducible refine Below.setCell ?_ ?_ _) | go_size)
        clear hp
        have fin : ∀ (w3 : World), Below W.heap.size W.drew w3 → KeepsFrom W0.heap.size W w3 ∧ ((rdF L = none ∧ ([{ v := .iface 29 (.int .i64 4), recovered := false }] : List PanicEntry) = [{ v := .iface 29 (.int .i64 4), recovered := false }]) ∧ (∃ f, BoxS w3 w.heap.size f) ∧ Boxed w3 (w.heap.size + 1) 29 (.int .i64 0) ∧ Below w.heap.size w w3) := fun w3 hb => by
          have hb3 := below_undrew hb
          exact ⟨keeps_below hb3, ⟨HS.out, rfl⟩, ⟨_, i1.below hb3 lX⟩, (hb3.block _ lE).trans i2, i4.trans (hb3.mono i4.size)⟩
        have FIN := Lib.hid fin
        clear fin
        gi_wp2
        refine wpIn_region_any hmx ?_
        change wpAnyIn _ _ _ _ _ _ _ _ _ (World.drew _)
        refine wpAnyIn_ready (rs := [0, 1]) (by kernel_rfl) (by simp) ?_
        refine AllReadyIn.cons rfl (fun K hK => ?_) ?_
        · go_simp
          refine hK _ _ ?_
          clear hK K
          refine wpAnyIn_ready (rs := [1]) (by kernel_rfl) (by simp) ?_
          refine AllReadyIn.cons rfl (fun K hK => ?_) AllReadyIn.nil
          go_simp
          refine hK _ _ ?_
          clear hK K
          refine wpAnyIn_ready (rs := [2]) (by kernel_rfl) (by simp) ?_
          refine AllReadyIn.cons rfl (fun K hK => ?_) AllReadyIn.nil
          go_simp
          refine ⟨trivial, (CallsIn.inRound l (callsIn_wide.2 (HP.out _ (HE1.out _ hdr)))).mono ?_⟩
          rintro e w3 ⟨rfl, hb3⟩
          obtain ⟨k1, k2, k3⟩ := FIN.out _ hb3
          exact ⟨rfl, k1, ⟨HS.out, rfl⟩, k3⟩
        refine AllReadyIn.cons rfl (fun K hK => ?_) AllReadyIn.nil
        go_simp
        refine hK _ _ ?_
        clear hK K
        refine wpAnyIn_ready (rs := [0, 2]) (by kernel_rfl) (by simp) ?_
        refine AllReadyIn.cons rfl (fun K hK => ?_) ?_
        · go_simp
          refine hK _ _ ?_
          clear hK K
          refine wpAnyIn_ready (rs := [2]) (by kernel_rfl) (by simp) ?_
          refine AllReadyIn.cons rfl (fun K hK => ?_) AllReadyIn.nil
          go_simp
          refine ⟨trivial, (CallsIn.inRound l (callsIn_wide.2 (HP.out _ (HE1.out _ hdr)))).mono ?_⟩
          rintro e w3 ⟨rfl, hb3⟩
          obtain ⟨k1, k2, k3⟩ := FIN.out _ hb3
          exact ⟨rfl, k1, ⟨HS.out, rfl⟩, k3⟩
        refine AllReadyIn.cons rfl (fun K hK => ?_) AllReadyIn.nil
        go_simp
        refine ⟨trivial, (CallsIn.inRound l (callsIn_wide.2 (HP.out _ (HE1.out _ hdr)))).mono ?_⟩
        rintro e w3 ⟨rfl, hb3⟩
        obtain ⟨k1, k2, k3⟩ := FIN.out _ hb3
        exact ⟨rfl, k1, ⟨HS.out, rfl⟩, k3⟩
  case done =>
    rintro D ys W hD rfl ⟨⟨i0, i8⟩, i1, i2, i3, i4⟩ hK
    have HF := Lib.hid (rd_end i0)
    have hfit : Fit (fR (segs L)) := readP_fit _ _ _ _ zero_fit (fR_some i0)
    obtain ⟨f, hf⟩ : ∃ f, f = fR (segs L) := ⟨_, rfl⟩
    rw [← hf] at HF hfit i1
    have c0 := (i1).cell (k := 0) (by omega); have c1 := (i1).cell (k := 1) (by omega); have c2 := (i1).cell (k := 2) (by omega); have c3 := (i1).cell (k := 3) (by omega); have c4 := (i1).cell (k := 4) (by omega); have c5 := (i1).cell (k := 5) (by omega); have c6 := (i1).cell (k := 6) (by omega); have c7 := (i1).cell (k := 7) (by omega)
    have HWR := Lib.hid (write_ok f W hfit (HT.out.below i4 (Nat.le_refl _)))
    clear hf i0 i8 i3
    have HP : Hid (∀ T : Array Value, T[2]?.getD undef = .pointer (some ⟨w.heap.size, 0, none⟩) → T[3]?.getD undef = .pointer (some ⟨w.heap.size + 1, 0, none⟩) → ∀ w3, Below W.heap.size W w3 → bodyPostM Fence.wide 7 Tryz.prog Tryz.f83 (RetB (rdV none) w) (.panic [{ v := .iface 29 (.int .i64 4), recovered := false }])
      { tmps := T, defers := [{ target := .collected D, args := #[] }, { target := .fn (.func 132) #[.pointer (some ⟨w.heap.size, 0, none⟩), .pointer (some ⟨w.heap.size + 1, 0, none⟩)], args := #[] }] } w3) := Lib.hid fun T t2 t3 w3 hb3 =>
      read_panics w w3 D f (.int .i64 0) T (by omega) (i1.below hb3 i1.lt) ((hb3.block _ i2.lt).trans i2) (i4.trans (hb3.mono i4.size)) ((hb3.block D (Array.getElem?_eq_some_iff.1 hK).1).trans hK) t2 t3
    by_cases he : writeL f = L
    · have HV := Lib.hid (show rdV (rdF L) = .tuple #[sol f, .int .i64 0] by rw [HF.out, if_pos he]; rfl)
      have hwr : ((writeF f).toList == L) = true := by rw [ByteArray.toList_eq, writeF_eq]; simp [he]
      rw [HV.out]
      refine WpAt.of ?_
      gi_wp2_with (refine ⟨trivial, ?_⟩; gi_at_call 82; refine (callsIn_wide.2 HWR.out).mono ?_; rintro e w3 ⟨rfl, hb3⟩; have j1 := i1.below hb3 i1.lt; have d0 := (j1).cell (k := 0) (by omega); have d1 := (j1).cell (k := 1) (by omega); have d2 := (j1).cell (k := 2) (by omega); have d3 := (j1).cell (k := 3) (by omega); have d4 := (j1).cell (k := 4) (by omega); have d5 := (j1).cell (k := 5) (by omega); have d6 := (j1).cell (k := 6) (by omega); have d7 := (j1).cell (k := 7) (by omega); have q0 := (j1).free 0; have q1 := (j1).free 1; have q2 := (j1).free 2; have q3 := (j1).free 3; have q4 := (j1).free 4; have q5 := (j1).free 5; have q6 := (j1).free 6; have q7 := (j1).free 7; have j2 : Boxed w3 (w.heap.size + 1) 29 (.int .i64 0) := (hb3.block _ i2.lt).trans i2; have ce := j2.cell; have fe := j2.frozen)
      have hD3 : w3.heap[D]? = some (.deferred (some [])) := (hb3.block D (Array.getElem?_eq_some_iff.1 hK).1).trans hK
      have p1 : BoxS (put8 w3 w.heap.size f) w.heap.size f := j1.put _
      have p2 : Boxed (put8 w3 w.heap.size f) (w.heap.size + 1) 29 (.int .i64 0) := boxed_set (boxed_set (boxed_set (boxed_set (boxed_set (boxed_set (boxed_set (boxed_set j2 (by omega)) (by omega)) (by omega)) (by omega)) (by omega)) (by omega)) (by omega)) (by omega)
      have p3 : (put8 w3 w.heap.size f).heap[D]? = some (.deferred (some [])) := (keeps_put8 w3 w.heap.size f).same D _ hD3 rfl
      have p4 : Below w.heap.size w (put8 w3 w.heap.size f) := below_put8 (i4.trans (hb3.mono i4.size)) (Nat.le_refl _) _
      have q1 := p1.other (b := w.heap.size + 1) (o := 0) (by omega) (.int .i64 0)
      have q2 := p2.set (.int .i64 0)
      have q3 := (KeepsOthers.setCell (put8 w3 w.heap.size f) ⟨w.heap.size + 1, 0, none⟩ (.int .i64 0)).same D _ p3 rfl
      have q4 := p4.setCell (p := ⟨w.heap.size + 1, 0, none⟩) (by simp) (.int .i64 0)
      have hDA : w.heap.size ≤ D := by omega
      refine ⟨by simp, .inl ⟨_, _, rfl, run_takeDeferred q3, ?_⟩⟩
      have hgr := grownBy_putObj' ((put8 w3 w.heap.size f).setCell ⟨w.heap.size + 1, 0, none⟩ (.int .i64 0)) D (.deferred none)
      have r1 : BoxS (((put8 w3 w.heap.size f).setCell ⟨w.heap.size + 1, 0, none⟩ (.int .i64 0)).putObj D (.deferred none)) w.heap.size f := (hgr.block _ q1.lt (fun e => by cases e; omega)).trans q1
      have r2 : Boxed (((put8 w3 w.heap.size f).setCell ⟨w.heap.size + 1, 0, none⟩ (.int .i64 0)).putObj D (.deferred none)) (w.heap.size + 1) 29 (.int .i64 0) := (hgr.block _ q2.lt (fun e => by cases e; omega)).trans q2
      have r4 := q4.trans (below_mark (n₀ := w.heap.size) (o' := .deferred none) hDA q3)
      refine ⟨by simp, .inr ⟨fun h => (by cases h), .func 132, _, 132, #[.pointer (some ⟨w.heap.size, 0, none⟩), .pointer (some ⟨w.heap.size + 1, 0, none⟩)], rfl, by simp [go_sem], fun _ _ => trivial, ?_⟩⟩
      refine (catchRead_idle _ _ _ _).mono ?_
      rintro e u' w'' ⟨rfl, rfl, rfl⟩
      have z0 := (r1).cell (k := 0) (by omega); have z1 := (r1).cell (k := 1) (by omega); have z2 := (r1).cell (k := 2) (by omega); have z3 := (r1).cell (k := 3) (by omega); have z4 := (r1).cell (k := 4) (by omega); have z5 := (r1).cell (k := 5) (by omega); have z6 := (r1).cell (k := 6) (by omega); have z7 := (r1).cell (k := 7) (by omega)
      have ze := r2.cell
      refine ⟨.tuple #[sol f, .int .i64 0], ?_, rfl, r4⟩
      simp [results, Tryz.results83, go_sem, z0, z1, z2, z3, z4, z5, z6, z7, ze]
    · have HV := Lib.hid (show rdV (rdF L) = rdV none by rw [HF.out, if_neg he])
      have hwr : ((writeF f).toList == L) = false := by rw [ByteArray.toList_eq, writeF_eq]; simpa using he
      rw [HV.out]
      refine WpAt.of ?_
      gi_wp2_with (refine ⟨trivial, ?_⟩; gi_at_call 82; refine (callsIn_wide.2 HWR.out).mono ?_; rintro e w3 ⟨rfl, hb3⟩)
      exact HP.out _ rfl rfl _ hb3
  case stop =>
    rintro D ch W hD ⟨⟨hr, rfl⟩, ⟨f, i1⟩, i2, i4⟩ hK
    rw [hr]
    exact read_panics w W D f (.int .i64 0) _ (by omega) i1 i2 i4 hK rfl rfl
end Go.Proofs.YtadkaplafaeebaaGreatDoor
