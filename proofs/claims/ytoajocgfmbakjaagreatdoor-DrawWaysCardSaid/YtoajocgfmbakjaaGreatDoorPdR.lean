/-
  slices.Concat of parts of rows of solids.
-/
import Derived.Test.YtoajocgfmbakjaaGreatDoorPaG
import Derived.Lib.AppendZerosOnto
import Derived.Lib.AppendZeros
import Derived.Test.YtoajocgfmbakjaaGreatDoorPdB
import Derived.Test.YtoajocgfmbakjaaGreatDoorPdQ
import Derived.Test.YtoajocgfmbakjaaGreatDoorPdN
import Derived.Test.YtoajocgfmbakjaaGreatDoorPdK
import Derived.Test.YtoajocgfmbakjaaGreatDoorPdI
set_option linter.unusedVariables false
set_option linter.unusedSimpArgs false
namespace Go.Proofs.YtoajocgfmbakjaaGreatDoor
open Go Go.RowKit Go.Shelf

def flatS (l : List Sol) : List Value := l.flatMap fun f => (solC f).toList
theorem flatS_len : ∀ l : List Sol, (flatS l).length = l.length * 8
  | [] => rfl
  | f :: l => by
    rw [show flatS (f :: l) = (solC f).toList ++ flatS l by simp [flatS], List.length_append, flatS_len l]
    simp
    omega
theorem flatS_append (a b : List Sol) : flatS (a ++ b) = flatS a ++ flatS b := by simp [flatS]
theorem flatS_at : ∀ (l : List Sol) (i j : Nat) (m : Sol), l[i]? = some m → j < 8 → (flatS l)[i * 8 + j]? = some (.int .u64 (m j))
  | [], i, j, m, h, _ => by simp at h
  | f :: l, i, j, m, h, hj => by
    rw [show flatS (f :: l) = (solC f).toList ++ flatS l by simp [flatS]]
    rcases i with _ | i
    · simp at h
      subst h
      rw [Nat.zero_mul, Nat.zero_add, List.getElem?_append_left (by simp; omega)]
      rcases lt8 hj with rfl | rfl | rfl | rfl | rfl | rfl | rfl | rfl <;> rfl
    · rw [List.getElem?_append_right (by simp; omega), show (i + 1) * 8 + j - (solC f).toList.length = i * 8 + j by simp; omega]
      exact flatS_at l i j m (by simpa using h) hj
theorem flatS_one (l : List Sol) : ∀ u ∈ flatS l, u.oneCell' = true := by
  intro u hu
  unfold flatS at hu
  obtain ⟨f, _, hu⟩ := List.mem_flatMap.1 hu
  simp only [List.mem_cons, List.not_mem_nil, or_false] at hu
  rcases hu with rfl | rfl | rfl | rfl | rfl | rfl | rfl | rfl <;> rfl
theorem solsAt_own {W : World} {base : Nat} {v : Value} {l : List Sol} (h : W.ownsRow base 25 8 v l.length (flatS l)) (hmx : l.length ≤ maxLen) : SolsAt W v l := by
  obtain ⟨hl, hh | ⟨g, cap, cur, rfl, hb, hg, hcap, hmax, hsz, htk⟩⟩ := id h
  · obtain ⟨rfl, h0⟩ := hh
    have : l = [] := List.length_eq_zero_iff.1 h0
    subst this
    exact ⟨none, 0, rfl, by simp, .inl rfl⟩
  · refine ⟨_, cap, rfl, hmx, .inr ⟨g, 0, rfl, (Array.getElem?_eq_some_iff.1 hg).1, fun i m hm j hj => ?_⟩⟩
    have := h.cells (g := g) rfl (i * 8 + j) _ (flatS_at l i j m hm hj)
    rwa [show (⟨g, 0, none⟩ : Addr).add (i * 8 + j) = ⟨g, 0 + i * 8 + j, none⟩ by unfold Addr.add; split <;> simp_all] at this
theorem info_sol : (Tryz.prog.info? 25).map (fun i => (i.zero, i.size, i.bytes)) = some (some (Value.agg #[.int .u64 0, .int .u64 0, .int .u64 0, .int .u64 0, .int .u64 0, .int .u64 0, .int .u64 0, .int .u64 0]), 8, 64) := by kernel_rfl
theorem under_sols : Tryz.prog.underlying 22 = some (.slice 25) := by kernel_rfl
theorem under_int0 : Tryz.prog.underlying 3 = some (.int .i64) := by kernel_rfl
/-- A part of a row of solids. -/
def PartAt (W : World) (x : Value) (l : List Sol) : Prop := ∃ b o cap, x = .slice (some ⟨b, o, none⟩) l.length cap ∧ b < W.heap.size ∧ ∀ i m, l[i]? = some m → ∀ j, j < 8 → W.cell? ⟨b, o + i * 8 + j, none⟩ = some (.int .u64 (m j))
theorem PartAt.below {n : Nat} {W W' : World} {x : Value} {l : List Sol} (h : PartAt W x l) (hb : Below n W W') (hn : W.heap.size ≤ n) : PartAt W' x l := by
  obtain ⟨b, o, cap, e1, e2, e3⟩ := h
  exact ⟨b, o, cap, e1, Nat.lt_of_lt_of_le e2 hb.size, fun i m hm j hj => (hb.cell (p := ⟨b, o + i * 8 + j, none⟩) (Nat.lt_of_lt_of_le e2 hn)).trans (e3 i m hm j hj)⟩
theorem part_cells {W : World} {l : List Sol} {b o : Nat} (h : ∀ i m, l[i]? = some m → ∀ j, j < 8 → W.cell? ⟨b, o + i * 8 + j, none⟩ = some (.int .u64 (m j))) (j : Nat) (u : Value) (hu : (flatS l)[j]? = some u) : W.cell? ((⟨b, o, none⟩ : Addr).add j) = some u := by
  have hj := (List.getElem?_eq_some_iff.1 hu).1
  rw [flatS_len] at hj
  obtain ⟨m, hm⟩ : ∃ m, l[j / 8]? = some m := ⟨_, List.getElem?_eq_getElem (by omega)⟩
  have h1 := flatS_at l (j / 8) (j % 8) m hm (by omega)
  rw [show j / 8 * 8 + j % 8 = j by omega, hu] at h1
  have h2 := h (j / 8) m hm (j % 8) (by omega)
  rw [show o + j / 8 * 8 + j % 8 = o + j by omega] at h2
  rw [show (⟨b, o, none⟩ : Addr).add j = ⟨b, o + j, none⟩ by unfold Addr.add; split <;> simp_all, h2, h1]
def PartsAt (W : World) (v : Value) (L : List (List Sol)) : Prop := ∃ b o cap, v = .slice (some ⟨b, o, none⟩) L.length cap ∧ b < W.heap.size ∧ ∀ i l, L[i]? = some l → ∃ x, W.cell? ⟨b, o + i, none⟩ = some x ∧ PartAt W x l
theorem PartsAt.below {n : Nat} {W W' : World} {x : Value} {l : List (List Sol)} (h : PartsAt W x l) (hb : Below n W W') (hn : W.heap.size ≤ n) : PartsAt W' x l := by
  obtain ⟨b, o, cap, e1, e2, e3⟩ := h
  refine ⟨b, o, cap, e1, Nat.lt_of_lt_of_le e2 hb.size, fun i m hm => ?_⟩
  obtain ⟨y, h1, h2⟩ := e3 i m hm
  exact ⟨y, (hb.cell (p := ⟨b, o + i, none⟩) (Nat.lt_of_lt_of_le e2 hn)).trans h1, h2.below hb hn⟩
theorem zeros_size (z : Array Value) (n : Nat) : (Builtin.zeroCells z n).size = n * z.size := by
  unfold Builtin.zeroCells
  first | (simp; done) | (simp [Nat.mul_comm])
set_option maxRecDepth 100000 in
set_option maxHeartbeats 2000000 in
theorem grow_ok (n : Nat) (hn : n ≤ 24) (w : World) : Calls Tryz.prog 145 #[.slice none 0 0, .int .i64 n] w fun e w' => (∃ u, e = .returned u ∧ w'.ownsRow w.heap.size 25 8 u 0 []) ∧ Below w.heap.size w w' := by
  have hneg : decide ((n : Int) < 0) = false := decide_eq_false (by omega)
  by_cases h0 : n = 0
  · subst h0
    go_enter Tryz.func145, Tryz.ntmps145
    go_wp2
    go_ret
    exact ⟨⟨_, rfl, World.ownsRow_nil _ _ _ _⟩, Below.refl _ _⟩
  · obtain ⟨i0, hi, hz0, hz1, hz2⟩ := info_parts info_sol
    have hpos : decide ((0 : Int) < (n : Int)) = true := decide_eq_true (by omega)
    have hold : (Builtin.firstCells i0.size 0 (.slice none 0 0)).run Tryz.prog w.drew = .ok (#[] : Array Value) w.drew := run_firstCells_none w.drew i0.size 0 0 0
    have hrz : ∀ ty, (Builtin.append_ #[22, 3] ty #[.slice none 0 0, .int .i64 (n : Int)]).run Tryz.prog w = _ := fun ty =>
      Lib.run_append_grow_zeros w 22 3 ty 25 i0 _ .i64 .i64 under_sols under_int0 hi hz0 none 0 0 [] hold n (by omega) (by omega) (by omega) (by omega) (by rw [hz2]; omega) (by rw [hz2]; exact growslice_fits (by omega) (by omega))
    have hG0 : 0 ≤ grownCap w (0 + n) 0 25 := Nat.zero_le _
    have hGn := grownCap_ge w (0 + n) 0 25
    have hGm := grownCap_le_maxLen w (0 + n) 0 25 (by unfold maxLen; omega)
    obtain ⟨G, hG⟩ : ∃ G, G = grownCap w (0 + n) 0 25 := ⟨_, rfl⟩
    rw [← hG] at hrz hGn hGm
    clear hG hold
    go_enter Tryz.func145, Tryz.ntmps145
    go_wp2_with (at_builtin; refine Lib.wpList_append_run _ rfl _ _ _ _ rfl _ _ rfl rfl _ _ (hrz _) ?_)
    all_goals
      go_ret
      refine ⟨⟨_, rfl, rfl, .inr ⟨_, G, _, rfl, Nat.le_refl _, World.alloc_heap_new _ _, Nat.zero_le _, hGm, ?_, by simp⟩⟩, by repeat' (first | (with_reducible exact Below.refl _ _) | (with_reducible assumption) | (with_reducible refine Below.alloc ?_ ?_ _) | (with_reducible refine Below.drew ?_) | (with_reducible refine below_drewN ?_ _) | (with_reducible refine Below.setCell ?_ ?_ _) | go_size)⟩
      rw [Array.size_append, zeros_size, zeros_size]
      show n * 8 + (G - n) * 8 = G * 8
      omega
set_option maxRecDepth 100000 in
set_option maxHeartbeats 4000000 in
theorem concat_ok (L : List (List Sol)) (v : Value) (w : World) (hv : PartsAt w v L) (hL : L.length ≤ 8) (h24 : L.flatten.length ≤ 24) :
    Calls Tryz.prog 82 #[v] w fun e w' => (∃ u, e = .returned u ∧ w'.ownsRow w.heap.size 25 8 u L.flatten.length (flatS L.flatten)) ∧ Below w.heap.size w w' := by
  have HV := Lib.hid hv
  obtain ⟨b, o, cap, rfl, hb, _⟩ := hv
  obtain ⟨i0, hi', hz0, hz1, hz2⟩ := info_parts info_sol
  have HT := Lib.hid (fun (i : Nat) => (show (L.take i).flatten.length ≤ L.flatten.length by
    have h := congrArg List.flatten (List.take_append_drop i L)
    rw [List.flatten_append] at h
    rw [← h, List.length_append]
    omega))
  have HS : Hid (∀ (i : Nat) (l : List Sol), L[i]? = some l → (L.take (i + 1)).flatten = (L.take i).flatten ++ l) := Lib.hid fun i l h => by
    rw [List.take_add_one, h, List.flatten_append]
    simp
  have HE := Lib.hid (show (L.take L.length).flatten = L.flatten by rw [List.take_length])
  obtain ⟨F, hF⟩ : ∃ F : Nat → List Sol, F = fun i => (L.take i).flatten := ⟨_, rfl⟩
  have HF0 : Hid (F 0 = []) := Lib.hid (by rw [hF]; rfl)
  have HFT : Hid (∀ i, (F i).length ≤ 24) := Lib.hid fun i => by rw [hF]; exact Nat.le_trans (HT.out i) h24
  have HFS : Hid (∀ (i : Nat) (l : List Sol), L[i]? = some l → F (i + 1) = F i ++ l) := Lib.hid fun i l h => by rw [hF]; exact HS.out i l h
  rw [← HE.out, show (L.take L.length).flatten = F L.length by rw [hF]]
  clear HT HS HE hF h24
  go_enter Tryz.func82, Tryz.ntmps82
  go_wp2_with fail
  go_loopw [3, 11] (fun n z wr => ∃ i : Nat, i ≤ L.length ∧ z = .int .i64 i ∧ n = .int .i64 (F i).length ∧ w = wr) (fun _ z _ => L.length - (intOf z).toNat)
  case atStart => exact ⟨0, by omega, rfl, by rw [HF0.out]; rfl, rfl⟩
  case round =>
    obtain ⟨i, hi, rfl, rfl, rfl⟩ := hrel
    by_cases hlt : i < L.length
    · have hd : decide ((i : Int) < (L.length : Int)) = true := decide_eq_true (by omega)
      have hii : (i : Int) < (L.length : Int) := by omega
      have hw1 : IntKind.i64.wrap ((i : Int) + 1) = (i : Int) + 1 := by rw [IntWalk.i64_in] <;> omega
      obtain ⟨l, hl⟩ : ∃ l, L[i]? = some l := ⟨_, List.getElem?_eq_getElem hlt⟩
      obtain ⟨b', o', cap', he, _, hc⟩ := HV.out
      obtain ⟨rfl, rfl, rfl⟩ : b = b' ∧ o = o' ∧ cap = cap' := by injection he with e1 e2 e3; injection e1 with e1; injection e1 with e4 e5; exact ⟨e4, e5, e3⟩
      obtain ⟨x, hx, bx, ox, cx, rfl, hbx, _⟩ := hc i l hl
      have h1 := HFT.out (i + 1)
      have hs := HFS.out i l hl
      rw [hs, List.length_append] at h1
      have HN := Lib.hid (show ((F i).length : Int) + (l.length : Int) = ((F (i + 1)).length : Int) by rw [hs, List.length_append]; omega)
      have hw2 : IntKind.i64.wrap (((F i).length : Int) + (l.length : Int)) = ((F i).length : Int) + (l.length : Int) := by rw [IntWalk.i64_in] <;> omega
      have hneg : decide (((F i).length : Int) + (l.length : Int) < 0) = false := decide_eq_false (by omega)
      clear he hc hl hs
      go_wp2_with fail
      exact ⟨⟨i + 1, by omega, by go_num, by rw [← HN.out], by trivial⟩, by simp [intOf]; omega⟩
    · obtain rfl : i = L.length := by omega
      have hd : decide ((L.length : Int) < (L.length : Int)) = false := decide_eq_false (by omega)
      have HG := Lib.hid (grow_ok (F L.length).length (HFT.out _) w)
      go_wp2_with fail
      refine HG.out.mono ?_
      rintro e w1 ⟨⟨u, rfl, hrow⟩, hb1⟩
      have HB1 := Lib.hid hb1
      clear HG
      go_wp2_with fail
      go_loopw [6, 27] (fun rv z wr => ∃ i : Nat, i ≤ L.length ∧ z = .int .i64 i ∧ wr.ownsRow w.heap.size 25 8 rv (F i).length (flatS (F i)) ∧ Below w.heap.size w wr) (fun _ z _ => L.length - (intOf z).toNat)
      case atStart => exact ⟨0, by omega, rfl, by rw [HF0.out]; exact hrow, hb1⟩
      case round =>
        clear hrow hb1
        obtain ⟨i, hi, rfl, hrow, hB⟩ := hrel
        have hsz := hB.size
        by_cases hlt : i < L.length
        · have hd : decide ((i : Int) < (L.length : Int)) = true := decide_eq_true (by omega)
          have hii : (i : Int) < (L.length : Int) := by omega
          have hw1 : IntKind.i64.wrap ((i : Int) + 1) = (i : Int) + 1 := by rw [IntWalk.i64_in] <;> omega
          obtain ⟨l, hl⟩ : ∃ l, L[i]? = some l := ⟨_, List.getElem?_eq_getElem hlt⟩
          obtain ⟨b', o', cap', he, _, hc⟩ := HV.out.below hB (Nat.le_refl _)
          obtain ⟨rfl, rfl, rfl⟩ : b = b' ∧ o = o' ∧ cap = cap' := by injection he with e1 e2 e3; injection e1 with e1; injection e1 with e4 e5; exact ⟨e4, e5, e3⟩
          obtain ⟨x, hx, bx, ox, cx, rfl, hbx, hcx⟩ := hc i l hl
          have hs := HFS.out i l hl
          have h1 := HFT.out (i + 1)
          rw [hs, List.length_append] at h1
          have HS1 := Lib.hid hs
          have hnews := part_cells hcx
          clear he hc hl hs hcx
          go_wp2_with (at_builtin; refine wpList_append_own _ rfl _ _ 22 rfl w.heap.size 25 i0 _ 8 64 under_sols hi' hz0 hz1 hz2 rfl (by decide) u6 _ _ rfl hrow ⟨bx, ox, none⟩ l.length cx (flatS l) rfl (flatS_len l) hnews (flatS_one l) (by simp only [maxLen]; omega) (by omega) hsz ?_; intro v' w5 hown' hgrow _)
          case roundEnd =>
            have hb5 : Below w.heap.size wr w5 := (Below.refl w.heap.size wr).grown hgrow hsz fun j ej => (hrow.lt j ej).1
            exact ⟨⟨i + 1, by omega, by go_num, by rw [HS1.out, List.length_append, flatS_append]; exact hown', hB.trans hb5⟩, by simp [intOf]; omega⟩
        · obtain rfl : i = L.length := by omega
          have hd : decide ((L.length : Int) < (L.length : Int)) = false := decide_eq_false (by omega)
          go_wp2_with fail
          go_ret
          exact ⟨⟨_, rfl, hrow⟩, hB⟩
end Go.Proofs.YtoajocgfmbakjaaGreatDoor
/-
  Without.
-/
set_option linter.unusedVariables false
set_option linter.unusedSimpArgs false
namespace Go.Proofs.YtoajocgfmbakjaaGreatDoor
open Go Go.RowKit Go.Shelf

theorem sols_cells {W : World} {b o cap : Nat} {ms : List Sol} (h : SolsAt W (.slice (some ⟨b, o, none⟩) ms.length cap) ms) {i : Nat} {m : Sol} (hm : ms[i]? = some m) : b < W.heap.size ∧ ∀ j, j < 8 → W.cell? ⟨b, o + i * 8 + j, none⟩ = some (.int .u64 (m j)) := by
  obtain ⟨b', o', c', e, h1, h2⟩ := h.at hm
  obtain ⟨rfl, rfl⟩ : b = b' ∧ o = o' := by injection e with e1 e2 e3; injection e1 with e1; injection e1 with e4 e5; exact ⟨e4, e5⟩
  exact ⟨h1, h2⟩
theorem part_take {W : World} {b o cap p : Nat} {ms : List Sol} (h : SolsAt W (.slice (some ⟨b, o, none⟩) ms.length cap) ms) (hb : b < W.heap.size) (hp : p ≤ ms.length) : PartAt W (.slice (some ⟨b, o, none⟩) p cap) (ms.take p) := by
  refine ⟨b, o, cap, by rw [List.length_take, Nat.min_eq_left hp], hb, fun i m hm => ?_⟩
  rw [List.getElem?_take] at hm
  split at hm
  · exact (sols_cells h hm).2
  · cases hm
theorem part_drop {W : World} {b o o2 cap c2 p : Nat} {ms : List Sol} (h : SolsAt W (.slice (some ⟨b, o, none⟩) ms.length cap) ms) (hb : b < W.heap.size) (ho : ms.length - p = 0 ∨ o2 = o + p * 8) : PartAt W (.slice (some ⟨b, o2, none⟩) (ms.length - p) c2) (ms.drop p) := by
  refine ⟨b, o2, c2, by rw [List.length_drop], hb, fun i m hm j hj => ?_⟩
  rw [List.getElem?_drop] at hm
  have hlt := (List.getElem?_eq_some_iff.1 hm).1
  rcases ho with ho | rfl
  · omega
  · have := (sols_cells h hm).2 j hj
    rwa [show o + (p + i) * 8 + j = o + p * 8 + i * 8 + j by omega] at this
theorem parts_two {W : World} {n cap : Nat} {x y : Value} {a b : List Sol} {T : TypeId} (hn : n = W.heap.size) (hx : PartAt W x a) (hy : PartAt W y b) : PartsAt (W.alloc (.cells #[x, y] T)) (.slice (some ⟨n, 0, none⟩) 2 cap) [a, b] := by
  subst hn
  refine ⟨_, 0, cap, rfl, by simp, fun i l hl => ?_⟩
  have hB : Below W.heap.size W (W.alloc (.cells #[x, y] T)) := (Below.refl _ W).alloc (Nat.le_refl _) _
  rcases i with _ | _ | i
  · cases hl
    exact ⟨x, cells4 (World.alloc_heap_new W _) _ _ rfl, hx.below hB (Nat.le_refl _)⟩
  · cases hl
    exact ⟨y, cells4 (World.alloc_heap_new W _) _ _ rfl, hy.below hB (Nat.le_refl _)⟩
  · simp at hl
theorem erase_flat (ms : List Sol) (p : Nat) : [ms.take p, ms.drop (p + 1)].flatten = ms.eraseIdx p := by
  rw [List.eraseIdx_eq_take_drop_succ]
  simp
set_option maxRecDepth 100000 in
set_option maxHeartbeats 2000000 in
theorem without_yes (ms : List Sol) (p : Nat) (pa : Option Addr) (cap : Nat) (w : World) (hv : SolsAt w (.slice pa ms.length cap) ms) (hm : ∀ m ∈ ms, Fit m) (hc : chkM ms = 0) (hp : p < ms.length) (hcap : ms.length ≤ cap) (hcm : cap ≤ maxLen) :
    Calls Tryz.prog 22 #[.slice pa ms.length cap, .int .i64 p] w fun e w' => (∃ u, e = .returned (.tuple #[u, .int .i64 0]) ∧ w'.ownsRow w.heap.size 25 8 u (ms.eraseIdx p).length (flatS (ms.eraseIdx p))) ∧ Below w.heap.size w w' := by
  have HV := Lib.hid hv
  have HC := Lib.hid (fun W h => checkMould_ok ms (.slice pa ms.length cap) W h hm)
  rw [hc] at HC
  have h12 := chkM_len hc
  obtain ⟨m0, hm0⟩ : ∃ m, ms[p]? = some m := ⟨_, List.getElem?_eq_getElem hp⟩
  obtain ⟨b, o, cap', he, hb, _⟩ := hv.at hm0
  obtain ⟨rfl, rfl⟩ : pa = some ⟨b, o, none⟩ ∧ cap = cap' := by injection he with e1 e2 e3; exact ⟨e1, e3⟩
  have HIP := Lib.hid (fun W => isPiece_ok (some ⟨b, o, none⟩) ms.length cap p W)
  have hdec : decide ((0 : Int) ≤ (p : Int) ∧ (p : Int) < (ms.length : Int)) = true := decide_eq_true ⟨by omega, by omega⟩
  rw [hdec] at HIP
  have hw1 : IntKind.i64.wrap ((p : Int) + 1) = (p : Int) + 1 := by rw [IntWalk.i64_in] <;> omega
  have hpc : p ≤ cap := by omega
  have hp1 : p + 1 ≤ ms.length := by omega
  have hp2 : p + 1 ≤ cap := by omega
  have hp3 : (p : Int) + 1 ≤ (ms.length : Int) := by omega
  have hp4 : (0 : Int) ≤ (p : Int) + 1 := by omega
  obtain ⟨o2, ho2, ho3⟩ : ∃ o2, (if cap = p + 1 then (some ⟨b, o, none⟩ : Option Addr) else some ⟨b, o + (p + 1) * 8, none⟩) = some ⟨b, o2, none⟩ ∧ (ms.length - (p + 1) = 0 ∨ o2 = o + (p + 1) * 8) := by
    by_cases hz : cap = p + 1
    · exact ⟨o, if_pos hz, .inl (by omega)⟩
    · exact ⟨_, if_neg hz, .inr rfl⟩
  have HO2 := Lib.hid ho2
  have HO3 := Lib.hid ho3
  clear ho2 ho3
  unfold maxLen at hcm
  clear he hm0 hc hm hv hdec
  go_enter Tryz.func22, Tryz.ntmps22
  go_wp2_with fail
  refine (HC.out _ HV.out).mono ?_
  rintro e w1 ⟨rfl, hb1⟩
  have HB1 := Lib.hid hb1
  go_wp2_with fail
  refine (HIP.out _).mono ?_
  rintro e w2 ⟨rfl, hb2⟩
  have HB2 := Lib.hid (up hb2 HB1.out)
  clear hb1 hb2
  go_wp2_with fail
  (refine wp_region_quiet_tail 7 (fun w' => Below w2.heap.size w2 w') (by kernel_rfl) (by kernel_rfl) (Below.drew (Below.refl _ _)) ?_; simp only [List.take_succ_cons, List.take_zero, List.drop_succ_cons, List.drop_zero]; (iterate 7 (refine wpQuiet_step (fun K hK => ?_); go_simp; first | (refine hK _ ?_; clear hK K) | (apply Exists.intro; refine ⟨fun W' hW' => ?_, hK _ ?_⟩; (focus (first | (with_reducible exact rfl) | (with_reducible exact ⟨rfl, rfl⟩) | (obtain ⟨hcq, hfq⟩ := bcell hW'; have hzq := hW'.size; (try go_simp); first | (with_reducible exact rfl) | (with_reducible exact ⟨rfl, rfl⟩) | (fail)))); clear hK K))); refine wpQuiet_nil ?_; intro w1q hb1q)
  rw [HO2.out]
  have HBQ := Lib.hid (up hb1q HB2.out)
  have HVQ := HV.out.below HBQ.out (Nat.le_refl _)
  have hbq := Nat.lt_of_lt_of_le hb HBQ.out.size
  have HP1 := Lib.hid (part_take (p := p) HVQ hbq (by omega))
  have HP2 := Lib.hid (part_drop (p := p + 1) (c2 := cap - (p + 1)) HVQ hbq HO3.out)
  have HFL := Lib.hid (erase_flat ms p)
  have HLE := Lib.hid (show (ms.eraseIdx p).length ≤ 24 by rw [List.length_eraseIdx]; split <;> omega)
  clear hb1q HVQ HO3 HO2
  go_wp2_with fail
  refine (concat_ok [ms.take p, ms.drop (p + 1)] _ _ (parts_two rfl HP1.out HP2.out) (by simp) (by rw [HFL.out]; exact HLE.out)).mono ?_
  rw [HFL.out]
  rintro e w3 ⟨⟨u, rfl, hrow⟩, hb3⟩
  have hsz : w.heap.size ≤ (w1q.alloc (.cells #[.slice (some ⟨b, o, none⟩) p cap, .slice (some ⟨b, o2, none⟩) (ms.length - (p + 1)) (cap - (p + 1))] 22)).heap.size := by
    have := HBQ.out.size
    simp
    omega
  go_wp2_with fail
  go_returns
  exact ⟨⟨u, rfl, row_base hrow hsz⟩, up (up hb3 ((Below.refl _ _).alloc (Nat.le_refl _) _)) HBQ.out⟩
set_option maxRecDepth 100000 in
set_option maxHeartbeats 2000000 in
theorem without_no (ms : List Sol) (p : Int) (pa : Option Addr) (cap : Nat) (w : World) (hv : SolsAt w (.slice pa ms.length cap) ms) (hm : ∀ m ∈ ms, Fit m) (hn : ¬(chkM ms = 0 ∧ 0 ≤ p ∧ p < ms.length)) :
    Calls Tryz.prog 22 #[.slice pa ms.length cap, .int .i64 p] w (RetB (.tuple #[.slice none 0 0, .int .i64 (if chkM ms = 0 then 1 else chkM ms)]) w) := by
  have HV := Lib.hid hv
  have HC := Lib.hid (fun W h => checkMould_ok ms (.slice pa ms.length cap) W h hm)
  have HIP := Lib.hid (fun W => isPiece_ok pa ms.length cap p W)
  by_cases hc : chkM ms = 0
  · rw [if_pos hc]
    rw [hc] at HC
    have hdec : decide ((0 : Int) ≤ p ∧ p < (ms.length : Int)) = false := decide_eq_false fun h => hn ⟨hc, h⟩
    rw [hdec] at HIP
    clear hn hm hv hc
    go_enter Tryz.func22, Tryz.ntmps22
    go_wp2_with fail
    refine (HC.out _ HV.out).mono ?_
    rintro e w1 ⟨rfl, hb1⟩
    go_wp2_with fail
    refine (HIP.out _).mono ?_
    rintro e w2 ⟨rfl, hb2⟩
    go_wp2_with fail
    go_returns
    exact ⟨rfl, up hb2 hb1⟩
  · rw [if_neg hc]
    obtain ⟨c, hcc⟩ : ∃ c, c = chkM ms := ⟨_, rfl⟩
    rw [← hcc] at HC hc ⊢
    have hne : (c != 0) = true := by simpa using hc
    clear hn hm hv hcc hc
    go_enter Tryz.func22, Tryz.ntmps22
    go_wp2_with fail
    refine (HC.out _ HV.out).mono ?_
    rintro e w1 ⟨rfl, hb1⟩
    go_wp2_with fail
    go_returns
    exact ⟨rfl, hb1⟩
end Go.Proofs.YtoajocgfmbakjaaGreatDoor
/-
  DrawSand.
-/
set_option linter.unusedVariables false
set_option linter.unusedSimpArgs false
namespace Go.Proofs.YtoajocgfmbakjaaGreatDoor
open Go Go.RowKit Go.Shelf

theorem goodF_less : ∀ {l : List Sol} {t u : Sol}, (∀ z i, (t z).testBit i = true → (u z).testBit i = true) → goodF u l = true → goodF t l = true
  | [], t, u, _, _ => rfl
  | m :: r, t, u, h, hg => by
    unfold goodF at hg ⊢
    rw [Bool.and_eq_true] at hg ⊢
    refine ⟨?_, goodF_less (fun z i hb => ?_) hg.2⟩
    · have h1 := hg.1
      rw [Bool.not_eq_true', Bool.or_eq_false_iff] at h1 ⊢
      refine ⟨h1.1, ?_⟩
      cases ht : touchB t m with
      | false => rfl
      | true =>
        obtain ⟨z, i, k1, k2, k3⟩ := touch_iff.1 ht
        have := h1.2
        rw [touch_iff.2 ⟨z, i, k1, h z i k2, k3⟩] at this
        cases this
    · unfold joinF at hb ⊢
      rw [Nat.testBit_or, Bool.or_eq_true] at hb ⊢
      exact hb.imp (h z i) id
theorem goodF_erase : ∀ {l : List Sol} {t : Sol} (p : Nat), goodF t l = true → goodF t (l.eraseIdx p) = true
  | [], t, p, h => by simpa using h
  | m :: r, t, 0, h => by
    unfold goodF at h
    rw [Bool.and_eq_true] at h
    exact goodF_less (fun z i hb => by unfold joinF; rw [Nat.testBit_or, hb]; rfl) h.2
  | m :: r, t, p + 1, h => by
    unfold goodF at h
    rw [Bool.and_eq_true] at h
    show goodF t (m :: r.eraseIdx p) = true
    unfold goodF
    rw [Bool.and_eq_true]
    exact ⟨h.1, goodF_erase p h.2⟩
theorem chkM_erase {ms : List Sol} (p : Nat) (h : chkM ms = 0) : chkM (ms.eraseIdx p) = 0 := by
  have h12 := chkM_len h
  unfold chkM at h ⊢
  rw [if_neg (by omega)] at h
  have hl : (ms.eraseIdx p).length ≤ 12 := by rw [List.length_eraseIdx]; split <;> omega
  rw [if_neg (by omega)]
  split at h
  · rename_i hg
    rw [if_pos (goodF_erase p hg)]
  · cases h
theorem sand_all {ms : List Sol} {p : Nat} (hm : ∀ m ∈ ms, Fit m) (hc : chkM ms = 0) (hp : p < ms.length) {l : List Mo} (h : chkO (ms.eraseIdx p) l = true) : chkO ms (l.map (liftMo p)) = true := by
  unfold chkO at h ⊢
  rw [if_pos (chkM_erase p hc)] at h
  rw [if_pos hc]
  exact sand_ord hm (chkM_apart hc) (List.getElem?_eq_getElem hp) l 0 0 (Lift.zero p) h
set_option maxRecDepth 100000 in
set_option maxHeartbeats 4000000 in
theorem sand_walk (ms : List Sol) (p : Int) (l : List Mo) (v lv : Value) (w : World) (hv : SolsAt w v ms) (hm : ∀ m ∈ ms, Fit m) (hcap : ∀ pa n c, v = .slice pa n c → n ≤ c ∧ c ≤ maxLen) (hl : MovsAt w lv l) (hT : Tab32 w) (h64 : Tab64 w) :
    Calls Tryz.prog 15 #[v, .int .i64 p, lv] w (RetB (.bool true) w) := by
  have HT := Lib.hid hT
  have H6 := Lib.hid h64
  have HM := Lib.hid hm
  have HV := Lib.hid hv
  have HL := Lib.hid hl
  obtain ⟨pa, ca, rfl, hma, _⟩ := hv
  obtain ⟨pl, cl, rfl, hmb, _⟩ := hl
  obtain ⟨hc1, hc2⟩ := hcap _ _ _ rfl
  obtain ⟨fw, hfw⟩ : ∃ fw, fw = decide ((ms.length : Int) ≤ 12 ∨ 12 < (ms.length : Int) ∧ (ms.length : Int) ≤ 15) := ⟨_, rfl⟩
  have HF := Lib.hid (fun W => few_ok pa ms.length ca 12 W)
  rw [← hfw] at HF
  clear hfw hT h64 hcap
  simp only [maxLen] at hma hmb
  go_enter Tryz.func15, Tryz.ntmps15
  cases fw with
  | false =>
    go_wp2_with fail
    refine (HF.out _).mono ?_
    rintro e w1 ⟨rfl, hb1⟩
    have HB1 := Lib.hid hb1
    go_wp2_with fail
    refine (cast_ok _ (HT.out.below HB1.out (Nat.le_refl _)) (H6.out.below HB1.out (Nat.le_refl _))).mono ?_
    rintro e w4 ⟨rfl, hb4⟩
    go_wp2_with fail
    go_ret
    exact ⟨rfl, up hb4 HB1.out⟩
  | true =>
    by_cases h20 : 20 < l.length
    · have hd20 : decide ((20 : Int) < (l.length : Int)) = true := decide_eq_true (by omega)
      go_wp2_with fail
      refine (HF.out _).mono ?_
      rintro e w1 ⟨rfl, hb1⟩
      have HB1 := Lib.hid hb1
      go_wp2_with fail
      refine (cast_ok _ (HT.out.below HB1.out (Nat.le_refl _)) (H6.out.below HB1.out (Nat.le_refl _))).mono ?_
      rintro e w4 ⟨rfl, hb4⟩
      go_wp2_with fail
      go_ret
      exact ⟨rfl, up hb4 HB1.out⟩
    · have hd20 : decide ((20 : Int) < (l.length : Int)) = false := decide_eq_false (by omega)
      by_cases hn : chkM ms = 0 ∧ 0 ≤ p ∧ p < ms.length
      · obtain ⟨hc, hp0, hpn⟩ := hn
        obtain ⟨q, rfl⟩ : ∃ q : Nat, p = q := ⟨p.toNat, by omega⟩
        have hq : q < ms.length := by omega
        have HW := Lib.hid (fun (W : World) (h : SolsAt W (.slice pa ms.length ca) ms) => without_yes ms q pa ca W h hm hc hq hc1 hc2)
        have HER := Lib.hid (fun h => sand_all hm hc hq (l := l) h)
        have HEL := Lib.hid (show (ms.eraseIdx q).length ≤ maxLen by have := chkM_len hc; rw [List.length_eraseIdx]; unfold maxLen; split <;> omega)
        have HEM : Hid (∀ m ∈ ms.eraseIdx q, Fit m) := Lib.hid fun m h => hm m (List.mem_of_mem_eraseIdx h)
        have HCE := Lib.hid (chkM_erase q hc)
        have HCM := Lib.hid hc
        obtain ⟨es, hes⟩ : ∃ es, es = ms.eraseIdx q := ⟨_, rfl⟩
        rw [← hes] at HW HER HEL HEM HCE
        have HO := Lib.hid (fun (W : World) (u : Value) (h : SolsAt W u es) (h' : MovsAt W (.slice pl l.length cl) l) => checkOrder_ok es l u (.slice pl l.length cl) W h h' HEM.out (by omega))
        rw [HCE.out] at HO
        have HO2 := Lib.hid (fun (hk : chkO es l = true) => (order_sub HCE.out hk).2)
        obtain ⟨ok, hok⟩ : ∃ ok, ok = chkO es l := ⟨_, rfl⟩
        rw [← hok] at HO HER HO2
        clear hok hes hc hm
        go_wp2_with fail
        refine (HF.out _).mono ?_
        rintro e w1 ⟨rfl, hb1⟩
        have HB1 := Lib.hid hb1
        clear hb1
        go_wp2_with fail
        refine (HW.out _ (HV.out.below HB1.out (Nat.le_refl _))).mono ?_
        rintro e w2 ⟨⟨u, rfl, hrow⟩, hb2⟩
        have HB2 := Lib.hid (up hb2 HB1.out)
        have HS := Lib.hid (solsAt_own hrow HEL.out)
        clear hb2 hrow HW
        go_wp2_with fail
        refine (HO.out _ _ HS.out (HL.out.below HB2.out (Nat.le_refl _))).mono ?_
        rintro e w3 ⟨rfl, hb3⟩
        have HB3 := Lib.hid (up hb3 HB2.out)
        clear hb3 HO HS
        cases ok with
        | false =>
          go_wp2_with fail
          refine (cast_ok _ (HT.out.below HB3.out (Nat.le_refl _)) (H6.out.below HB3.out (Nat.le_refl _))).mono ?_
          rintro e w4 ⟨rfl, hb4⟩
          go_wp2_with fail
          go_ret
          exact ⟨rfl, up hb4 HB3.out⟩
        | true =>
          have HO3 := Lib.hid (HO2.out rfl)
          have HER2 := Lib.hid (HER.out rfl)
          obtain ⟨i0, hi', hz0, hz1, hz2⟩ := info_parts info_move
          clear HO2 HER
          go_wp2_with fail
          go_loopw [11, 12] (fun av z wr => ∃ i : Nat, i ≤ l.length ∧ z = .int .i64 i ∧ wr.ownsRow w.heap.size 40 3 av i (flatM ((l.take i).map (liftMo q))) ∧ Below w.heap.size w wr) (fun _ z _ => l.length - (intOf z).toNat)
          case atStart => exact ⟨0, by omega, rfl, World.ownsRow_nil _ _ _ _, HB3.out⟩
          case round =>
            obtain ⟨i, hi, rfl, hrow, hB⟩ := hrel
            have hsz := hB.size
            by_cases hlt : i < l.length
            · have hd : decide ((i : Int) < (l.length : Int)) = true := decide_eq_true (by omega)
              have hii : (i : Int) < (l.length : Int) := by omega
              have hw1 : IntKind.i64.wrap ((i : Int) + 1) = (i : Int) + 1 := by rw [IntWalk.i64_in] <;> omega
              obtain ⟨m, hmi⟩ : ∃ m, l[i]? = some m := ⟨_, List.getElem?_eq_getElem hlt⟩
              obtain ⟨b1, o1, cl', he, hb1, x0, x1, x2⟩ := (HL.out.below hB (Nat.le_refl _)).at hmi
              obtain ⟨rfl, rfl⟩ : pl = some ⟨b1, o1, none⟩ ∧ cl = cl' := by injection he with e1 e2 e3; exact ⟨e1, e3⟩
              obtain ⟨r, hr1, hr2⟩ := HO3.out m (List.mem_of_getElem? hmi)
              have HX := Lib.hid (show flatM ((l.take (i + 1)).map (liftMo q)) = flatM ((l.take i).map (liftMo q) ++ [liftMo q m]) by rw [List.take_add_one, hmi]; simp)
              obtain ⟨r', s, far⟩ := m
              have hr3 : r' = (r : Int) := hr1
              subst hr3
              have hre := HEL.out
              simp only [maxLen] at hre
              have hwr : IntKind.i64.wrap ((r : Int) + 1) = (r : Int) + 1 := by rw [IntWalk.i64_in] <;> omega
              clear he hmi hr1
              by_cases hqr : q ≤ r
              · have hL : liftMo q ((r : Int), s, far) = ((r : Int) + 1, s, far) := if_pos (by show (q : Int) ≤ (r : Int); omega)
                rw [hL, flatM_snoc] at HX
                go_wp2_with (at_builtin; go_loud (refine wpList_append_own _ rfl _ _ 55 rfl w.heap.size 40 i0 (.agg #[.int .i64 (0), .int .i64 (0), .int .i64 (0)]) 3 24 under_moves hi' hz0 hz1 hz2 rfl (by decide) u11 _ _ rfl (row_below hrow (by repeat' (first | (with_reducible exact Below.refl _ _) | (with_reducible assumption) | (with_reducible refine Below.alloc ?_ ?_ _) | (with_reducible refine Below.drew ?_) | (with_reducible refine below_drewN ?_ _) | (with_reducible refine Below.setCell ?_ ?_ _) | go_size))) ⟨wr.heap.size + 1, 0, none⟩ 1 1 (movC ((r : Int) + 1, s, far)) rfl rfl (movC_new' _ (by simp) _) (movC_one _) (by simp only [maxLen]; omega) (by omega) (by simp; omega) ?_; intro v' w5 hown' hgrow _))
                case roundEnd =>
                  have hb5 : Below w.heap.size wr w5 := (show Below w.heap.size wr _ by repeat' (first | (with_reducible exact Below.refl _ _) | (with_reducible assumption) | (with_reducible refine Below.alloc ?_ ?_ _) | (with_reducible refine Below.drew ?_) | (with_reducible refine below_drewN ?_ _) | (with_reducible refine Below.setCell ?_ ?_ _) | go_size)).grown hgrow (by simp; omega) fun j ej => (hrow.lt j ej).1
                  exact ⟨⟨i + 1, by omega, by go_num, by rw [HX.out]; exact hown', hB.trans hb5⟩, by simp [intOf]; omega⟩
              · have hL : liftMo q ((r : Int), s, far) = ((r : Int), s, far) := if_neg (by show ¬ (q : Int) ≤ (r : Int); omega)
                rw [hL, flatM_snoc] at HX
                go_wp2_with (at_builtin; go_loud (refine wpList_append_own _ rfl _ _ 55 rfl w.heap.size 40 i0 (.agg #[.int .i64 (0), .int .i64 (0), .int .i64 (0)]) 3 24 under_moves hi' hz0 hz1 hz2 rfl (by decide) u11 _ _ rfl (row_below hrow (by repeat' (first | (with_reducible exact Below.refl _ _) | (with_reducible assumption) | (with_reducible refine Below.alloc ?_ ?_ _) | (with_reducible refine Below.drew ?_) | (with_reducible refine below_drewN ?_ _) | (with_reducible refine Below.setCell ?_ ?_ _) | go_size))) ⟨wr.heap.size + 1, 0, none⟩ 1 1 (movC ((r : Int), s, far)) rfl rfl (movC_new' _ (by simp) _) (movC_one _) (by simp only [maxLen]; omega) (by omega) (by simp; omega) ?_; intro v' w5 hown' hgrow _))
                case roundEnd =>
                  have hb5 : Below w.heap.size wr w5 := (show Below w.heap.size wr _ by repeat' (first | (with_reducible exact Below.refl _ _) | (with_reducible assumption) | (with_reducible refine Below.alloc ?_ ?_ _) | (with_reducible refine Below.drew ?_) | (with_reducible refine below_drewN ?_ _) | (with_reducible refine Below.setCell ?_ ?_ _) | go_size)).grown hgrow (by simp; omega) fun j ej => (hrow.lt j ej).1
                  exact ⟨⟨i + 1, by omega, by go_num, by rw [HX.out]; exact hown', hB.trans hb5⟩, by simp [intOf]; omega⟩
            · obtain rfl : i = l.length := by omega
              have hd : decide ((l.length : Int) < (l.length : Int)) = false := decide_eq_false (by omega)
              have HB4 := Lib.hid hB
              rw [List.take_length] at hrow
              have hla : (l.map (liftMo q)).length = l.length := List.length_map _
              have hrow2 := hrow
              rw [← hla] at hrow2
              have HMV := Lib.hid (movsAt_own hrow2 (by rw [hla]; simp only [maxLen]; omega))
              have HO4 := Lib.hid (fun (W : World) (u : Value) (h : SolsAt W (.slice pa ms.length ca) ms) (h' : MovsAt W u (l.map (liftMo q))) => checkOrder_ok ms _ (.slice pa ms.length ca) u W h h' HM.out (by rw [hla]; omega))
              rw [HER2.out, HCM.out] at HO4
              clear hrow hrow2 hB hla
              go_wp2_with fail
              refine (HO4.out _ _ (HV.out.below HB4.out (Nat.le_refl _)) HMV.out).mono ?_
              rintro e w4 ⟨rfl, hb4⟩
              have HB5 := Lib.hid (up hb4 HB4.out)
              go_wp2_with fail
              refine (cast_ok _ (HT.out.below HB5.out (Nat.le_refl _)) (H6.out.below HB5.out (Nat.le_refl _))).mono ?_
              rintro e w5 ⟨rfl, hb5⟩
              go_wp2_with fail
              go_ret
              exact ⟨rfl, up hb5 HB5.out⟩
      · have HN := Lib.hid (fun (W : World) (h : SolsAt W (.slice pa ms.length ca) ms) => without_no ms p pa ca W h HM.out hn)
        obtain ⟨c, hcc⟩ : ∃ c, c = if chkM ms = 0 then 1 else chkM ms := ⟨_, rfl⟩
        rw [← hcc] at HN
        have hne : (c != 0) = true := by
          have : c ≠ 0 := by rw [hcc]; split <;> omega
          simpa using this
        clear hcc hn
        go_wp2_with fail
        refine (HF.out _).mono ?_
        rintro e w1 ⟨rfl, hb1⟩
        have HB1 := Lib.hid hb1
        clear hb1
        go_wp2_with fail
        refine (HN.out _ (HV.out.below HB1.out (Nat.le_refl _))).mono ?_
        rintro e w2 ⟨rfl, hb2⟩
        have HB2 := Lib.hid (up hb2 HB1.out)
        go_wp2_with fail
        refine (cast_ok _ (HT.out.below HB2.out (Nat.le_refl _)) (H6.out.below HB2.out (Nat.le_refl _))).mono ?_
        rintro e w4 ⟨rfl, hb4⟩
        go_wp2_with fail
        go_ret
        exact ⟨rfl, up hb4 HB2.out⟩
end Go.Proofs.YtoajocgfmbakjaaGreatDoor
/-
  A list of solids among the arguments, opened, with what its capacity is.
-/
set_option linter.unusedVariables false
set_option linter.unusedSimpArgs false
namespace Go.Proofs.YtoajocgfmbakjaaGreatDoor
open Go Go.ChangeShapes Go.WideShapes Go.ChangeAt Go.RowKit

set_option maxRecDepth 100000 in
theorem open_solsc {H : Type} {enc : TypeId × Value → H} {W : World} {base : Nat} {v : Value} {d : DataW H} {p : List MemPlace} (hv : Value.okWide Tryz.prog W .any base 22 v) (h : DataW.Trod enc Tryz.prog W 0 (fun _ => true) true 22 v d p) :
    ∃ ms : List Sol, SolsAt W v ms ∧ (∀ m ∈ ms, Fit m) ∧ ∀ pa n c, v = .slice pa n c → n ≤ c ∧ c ≤ maxLen := by
  obtain ⟨ms, h1, h2⟩ := open_sols hv h
  refine ⟨ms, h1, h2, ?_⟩
  rintro pa n c rfl
  obtain ⟨fuel, hf⟩ := h
  rcases DataW.trod_slice Tryz.underlying22 hf with ⟨h1, _⟩ | ⟨a, len, cap, elems, rest, n', _, h1, _, hb, hl, hm, hlen, hel, _⟩
  · simp only [Value.cells, List.cons.injEq, and_true] at h1
    obtain ⟨rfl, rfl, rfl⟩ := by simpa using h1
    exact ⟨Nat.le_refl _, by simp⟩
  · simp only [Value.cells, List.cons.injEq, and_true] at h1
    obtain ⟨rfl, rfl, rfl⟩ := by simpa using h1
    exact ⟨hl, hm⟩
end Go.Proofs.YtoajocgfmbakjaaGreatDoor
