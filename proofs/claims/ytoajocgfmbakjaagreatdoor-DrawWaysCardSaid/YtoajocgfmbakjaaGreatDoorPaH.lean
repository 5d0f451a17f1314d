/-
  The least piece of a set.
-/
import Derived.Test.YtoajocgfmbakjaaGreatDoorPaG
import Derived.Lib.TrailingZeros
set_option linter.unusedVariables false
set_option linter.unusedSimpArgs false
namespace Go.Proofs.YtoajocgfmbakjaaGreatDoor
open Go Go.RowKit

/-- The tables of math/bits lie as their texts lay them. -/
def Tab32 (w : World) : Prop := ∀ j, j < 32 → w.cell? ⟨2, j, none⟩ = some (.int .u8 (Lib.deBruijn32tab.getD j 0 : Nat))
theorem cell_lt {w : World} {a : Addr} {v : Value} (h : w.cell? a = some v) : a.block < w.heap.size := by
  unfold World.cell? at h
  rcases Nat.lt_or_ge a.block w.heap.size with h1 | h1
  · exact h1
  · rw [Array.getElem?_eq_none h1] at h; cases h
theorem Tab32.below {n : Nat} {w w' : World} (h : Tab32 w) (hb : Below n w w') (hn : w.heap.size ≤ n) : Tab32 w' := fun j hj => (hb.cell (p := ⟨_, j, none⟩) (Nat.lt_of_lt_of_le (cell_lt (h j hj)) hn)).trans (h j hj)
theorem Tab32.below' {n : Nat} {w w' : World} (h : Tab32 w) (hb : Below n w w') (hn : 2 < n) : Tab32 w' := fun j hj => (hb.cell (p := ⟨_, j, none⟩) hn).trans (h j hj)
/-- The least element of a set. -/
def lowS (s : Nat) : Nat := Lib.ctz 16 s
theorem tz16_key (x a : Nat) (hx : x < 65536) (hx0 : x ≠ 0) (hlow : x &&& (65536 - x) = a) :
    bits BinOp.and IntKind.u16 (x : Int) (IntKind.u16.wrap (-(x : Int))) % 4294967296 * 125613361 % 4294967296 / 134217728 = ((a * 125613361 % 4294967296 / 134217728 : Nat) : Int) := by
  have e1 : IntKind.u16.wrap (-(x : Int)) = ((65536 - x : Nat) : Int) := by rw [IntKind.wrap_u16]; omega
  rw [e1, u16_and_nat x _ hx (by omega), hlow]
  have : a < 65536 := by rw [← hlow]; exact Nat.lt_of_le_of_lt Nat.and_le_left hx
  omega
theorem tz16_core (x k idx : Nat) (w : World) (hx0 : ((x : Int) == 0) = false)
    (key : bits BinOp.and IntKind.u16 (x : Int) (IntKind.u16.wrap (-(x : Int))) % 4294967296 * 125613361 % 4294967296 / 134217728 = (idx : Int))
    (hi : idx < 32) (hk : k < 16) (hcell : w.cell? ⟨2, idx, none⟩ = some (.int .u8 k)) :
    Calls Tryz.prog 174 #[.int .u16 x] w (RetB (.int .i64 k) w) := by
  go_enter Tryz.func174, Tryz.ntmps174
  go_wp2_with (simp only [key])
  go_ret
  exact ⟨rfl, Below.refl _ _⟩
theorem tz16_ok (x : Nat) (w : World) (hx : x < 65536) (hx0 : x ≠ 0) (hT : Tab32 w) : Calls Tryz.prog 174 #[.int .u16 x] w (RetB (.int .i64 (lowS x : Nat)) w) := by
  obtain ⟨hlow, hk⟩ := Lib.lowest_bit 16 x hx0 hx
  obtain ⟨hi, htab⟩ := Lib.deBruijn32_at _ (Nat.lt_trans hk (by decide))
  have hc := hT _ hi
  rw [htab] at hc
  exact tz16_core x (lowS x) _ w (by simpa using hx0) (tz16_key x _ hx hx0 hlow) hi hk hc
theorem least_ok (x : Nat) (w : World) (hx : x < 65536) (hx0 : x ≠ 0) (hT : Tab32 w) : Calls Tryz.prog 151 #[setV x] w (RetB (.int .i64 (lowS x : Nat)) w) := by
  have H := Lib.hid (tz16_ok x w hx hx0 hT)
  go_enter Tryz.func151, Tryz.ntmps151
  go_wp2_with fail
  refine H.out.mono ?_
  rintro e w1 ⟨rfl, hb1⟩
  go_wp2
  go_ret
  exact ⟨rfl, hb1⟩
end Go.Proofs.YtoajocgfmbakjaaGreatDoor
/-
  The order in which each time the least piece of some goes that can go: mathematics.
-/
set_option linter.unusedVariables false
set_option linter.unusedSimpArgs false
namespace Go.Proofs.YtoajocgfmbakjaaGreatDoor
open Go Go.RowKit

theorem readyK_bit {ms : List Sol} {gone p : Nat} : ∀ {i : Nat}, (readyK ms gone i).testBit p = true → p < i ∧ gone.testBit p = false ∧ ∃ f, ms[p]? = some f ∧ (firstF ms gone p f).isSome = true
  | 0, h => by simp [readyK] at h
  | i + 1, h => by
    have up : (readyK ms gone i).testBit p = true → p < i + 1 ∧ gone.testBit p = false ∧ ∃ f, ms[p]? = some f ∧ (firstF ms gone p f).isSome = true := fun h => by
      obtain ⟨h1, h2⟩ := readyK_bit h
      exact ⟨by omega, h2⟩
    unfold readyK at h
    split at h
    · rename_i f hf
      split at h
      · rename_i hc
        rw [Nat.testBit_or, Nat.testBit_two_pow] at h
        by_cases e : i = p
        · subst e
          exact ⟨by omega, hc.1, f, hf, hc.2⟩
        · simp [e] at h
          exact up h
      · exact up h
    · exact up h
theorem lowS_bit {x : Nat} (hx : x < 65536) (h0 : x ≠ 0) : x.testBit (lowS x) = true ∧ lowS x < 16 := by
  obtain ⟨h, hk⟩ := Lib.lowest_bit 16 x h0 hx
  refine ⟨?_, hk⟩
  have : (x &&& (2 ^ 16 - x)).testBit (Lib.ctz 16 x) = true := by rw [h, Nat.testBit_two_pow]; simp
  rw [Nat.testBit_and] at this
  simp at this
  exact this.1
theorem or_gt {g p : Nat} (h : g.testBit p = false) : g < g ||| 2 ^ p := by
  refine Nat.lt_of_le_of_ne Nat.left_le_or fun e => ?_
  have : (g ||| 2 ^ p).testBit p = true := by rw [Nat.testBit_or, Nat.testBit_two_pow]; simp
  rw [← e, h] at this
  cases this
/-- The first move of a piece, if it has one. -/
def firstG (ms : List Sol) (gone p : Nat) : Option SD := match ms[p]? with
  | some f => firstF ms gone p f
  | none => none
def moveM (p : Nat) : Option SD → Mo
  | none => (0, 0, 0)
  | some x => (p, x.1, x.2)
theorem moveV_M (p : Nat) (o : Option SD) : moveV p o = .agg #[.int .i64 ((moveM p o).1), .int .i64 ((moveM p o).2.1), .int .i64 ((moveM p o).2.2)] := by
  cases o <;> rfl
/-- The steps, and who has gone behind them. -/
def stepsK (ms : List Sol) (of : Nat) : Nat → Nat → List Mo × Nat
  | 0, gone => ([], gone)
  | n + 1, gone => if readyF ms gone &&& of = 0 then ([], gone) else
    let p := lowS (readyF ms gone &&& of)
    (moveM p (firstG ms gone p) :: (stepsK ms of n (gone ||| 2 ^ p)).1, (stepsK ms of n (gone ||| 2 ^ p)).2)
def orderF (ms : List Sol) (of : Nat) : List Mo × Nat := stepsK ms of 65536 0
theorem now_bit {ms : List Sol} {gone of : Nat} (h12 : ms.length ≤ 12) (h : readyF ms gone &&& of ≠ 0) :
    lowS (readyF ms gone &&& of) < ms.length ∧ gone.testBit (lowS (readyF ms gone &&& of)) = false ∧ ∃ f, ms[lowS (readyF ms gone &&& of)]? = some f := by
  have hr := readyK_lt ms gone ms.length (by omega)
  have hb := lowS_bit (x := readyF ms gone &&& of) (Nat.lt_of_le_of_lt Nat.and_le_left hr) h
  have h1 := hb.1
  rw [Nat.testBit_and] at h1
  simp only [Bool.and_eq_true] at h1
  obtain ⟨h2, h3, f, h4, _⟩ := readyK_bit h1.1
  exact ⟨h2, h3, f, h4⟩
end Go.Proofs.YtoajocgfmbakjaaGreatDoor
/-
  The order in which each time the least piece of some goes that can go.
-/
set_option linter.unusedVariables false
set_option linter.unusedSimpArgs false
namespace Go.Proofs.YtoajocgfmbakjaaGreatDoor
open Go Go.RowKit Go.Shelf

def movC (m : Mo) : List Value := [.int .i64 m.1, .int .i64 m.2.1, .int .i64 m.2.2]
def flatM (l : List Mo) : List Value := l.flatMap movC
theorem flatM_snoc (l : List Mo) (m : Mo) : flatM (l ++ [m]) = flatM l ++ movC m := by simp [flatM]
theorem movC_one (m : Mo) : ∀ u ∈ movC m, u.oneCell' = true := by
  intro u hu
  simp only [movC, List.mem_cons, List.not_mem_nil, or_false] at hu
  rcases hu with rfl | rfl | rfl <;> rfl
theorem movC_new (W : World) (m : Mo) (j : Nat) (u : Value) (hu : (movC m)[j]? = some u) : (W.alloc (.cells #[.int .i64 m.1, .int .i64 m.2.1, .int .i64 m.2.2] 40)).cell? ((⟨W.heap.size, 0, none⟩ : Addr).add j) = some u := by
  have e : (⟨W.heap.size, 0, none⟩ : Addr).add j = ⟨W.heap.size, j, none⟩ := by simp [Addr.add]; try omega
  rw [e]
  have hn : (W.alloc (.cells #[.int .i64 m.1, .int .i64 m.2.1, .int .i64 m.2.2] 40)).heap[W.heap.size]? = some (.cells #[.int .i64 m.1, .int .i64 m.2.1, .int .i64 m.2.2] 40 (0, 0)) := World.alloc_heap_new W _
  refine cells4 hn j u ?_
  rcases j with _ | _ | _ | j
  · exact hu
  · exact hu
  · exact hu
  · simp [movC] at hu
theorem movC_new' {n : Nat} (W : World) (hn : n = W.heap.size) (m : Mo) (j : Nat) (u : Value) (hu : (movC m)[j]? = some u) : (W.alloc (.cells #[.int .i64 m.1, .int .i64 m.2.1, .int .i64 m.2.2] 40)).cell? ((⟨n, 0, none⟩ : Addr).add j) = some u := by
  subst hn
  exact movC_new W m j u hu
theorem info_move : (Tryz.prog.info? 40).map (fun i => (i.zero, i.size, i.bytes)) = some (some (Value.agg #[.int .i64 (0), .int .i64 (0), .int .i64 (0)]), 3, 24) := by kernel_rfl
theorem under_moves : Tryz.prog.underlying 55 = some (.slice 40) := by kernel_rfl
/-- A row of one's own stays, whatever a call does that looks at ways. -/
theorem row_kept {b base size n : Nat} {v u : Value} {ms : List Sol} {av : Nat → Prop} {A B : World} {e : TypeId} {xs : List Value} (h : Kept b v ms av A B) (hr : A.ownsRow base e size u n xs) (hb : b < base) : B.ownsRow base e size u n xs :=
  hr.kept h.1 (.inr fun he => by have := (hr.lt b he).1; omega)
/-- What is laid by a row of another type. -/
theorem Kept.row {b base size n : Nat} {v u : Value} {ms : List Sol} {av : Nat → Prop} {w W W' : World} {e : TypeId} {xs : List Value} (h : Kept b v ms av w W) (hr : W.ownsRow base e size u n xs) (he : e ≠ 108) (hl : w.heap.size ≤ base) (hg : W.grownBy W' u.ownBlock) (hb : b < base) : Kept b v ms av w W' := by
  cases ho : u.ownBlock with
  | none =>
    rw [ho] at hg
    exact ⟨⟨hg.os.trans h.1.os, hg.tape.trans h.1.tape, hg.output.trans h.1.output, Nat.le_trans h.1.size hg.size, fun i hi hne => (hg.block i (Nat.lt_of_lt_of_le hi h.1.size) (by simp)).trans (h.1.block i hi hne)⟩, h.2.kept hg (by simp) (fun r e => by cases e)⟩
  | some k =>
    rw [ho] at hg
    have hk := (hr.lt k ho).1
    rcases hr.2 with ⟨rfl, _⟩ | ⟨g, cap, cur, rfl, _, hgb, _⟩
    · cases ho
    · injection ho with ho
      subst ho
      exact h.set (by omega) hgb (.inl he) hg
set_option maxRecDepth 100000 in
set_option maxHeartbeats 4000000 in
theorem order_ok (ms : List Sol) (of : Nat) (v : Value) (b : Nat) (w : World) (hm : ∀ m ∈ ms, Fit m) (h12 : ms.length ≤ 12) (hof : of < 65536) (hT : Tab32 w) (av : Nat → Prop) (hav : ∀ k, av k → k < w.heap.size) (hv : Mld w v b ms av) :
    Calls Tryz.prog 112 #[mldV v b, setV of] w fun e w' => (∃ u, e = .returned (.tuple #[u, setV (orderF ms of).2]) ∧ w'.ownsRow (w.heap.size + 1) 40 3 u (orderF ms of).1.length (flatM (orderF ms of).1) ∧ (u = .slice none 0 0 ↔ (orderF ms of).1 = [])) ∧ Kept b v ms av w w' := by
  have HM := Lib.hid hm
  have HV := Lib.hid hv
  have HT := Lib.hid hT
  have lb := hv.ways.lt
  clear hm hT
  obtain ⟨i0, hi, hz0, hz1, hz2⟩ := info_parts info_move
  obtain ⟨A, hA⟩ : ∃ A, A = w.heap.size := ⟨_, rfl⟩
  obtain ⟨W1, hW1⟩ : ∃ W1, W1 = w.alloc (.cells #[v, .map (some b)] 101) := ⟨_, rfl⟩
  have hB1 : Below w.heap.size w W1 := by rw [hW1]; exact (Below.refl _ w).alloc (Nat.le_refl _) _
  have m1 : W1.heap[A]? = some (.cells #[v, .map (some b)] 101 (0, 0)) := by rw [hW1, hA]; exact World.alloc_heap_new w _
  have HK1 := Lib.hid (kept_below (v := v) HV.out.ways hB1)
  obtain ⟨pa, cap, rfl, hmx, _⟩ := hv.sols
  have HA := Lib.hid hA
  have hlA : b < A := by omega
  clear hA
  go_enter Tryz.func112, Tryz.ntmps112
  go_wp2_with fail
  rw [← hW1, ← HA.out]
  clear hv hB1 hW1
  go_loopw [6, 7] (fun lv s wr => ∃ (g n : Nat) (pre : List Mo), s = setV g ∧ g < 65536 ∧ 65536 - g ≤ n ∧ pre.length ≤ g ∧ Hid (orderF ms of = (pre ++ (stepsK ms of n g).1, (stepsK ms of n g).2)) ∧ wr.ownsRow (A + 1) 40 3 lv pre.length (flatM pre) ∧ (lv = .slice none 0 0 ↔ pre = []) ∧ wr.heap[A]? = some (.cells #[.slice pa ms.length cap, .map (some b)] 101 (0, 0)) ∧ Hid (Kept b (.slice pa ms.length cap) ms av w wr)) (fun _ s _ => 65536 - (intOf s).toNat)
  case atStart => exact ⟨0, 65536, [], rfl, by omega, by omega, by simp, Lib.hid rfl, World.ownsRow_nil _ _ _ _, by simp, m1, HK1⟩
  case round =>
    clear m1 HK1
    obtain ⟨g, n, pre, rfl, hg, hn, hpl, HO, hrow, hnil, mr, HK⟩ := hrel
    have c0 := cells4 mr 0 _ rfl
    have c1 := cells4 mr 1 _ rfl
    have HMr := Lib.hid (HV.out.kept HK.out)
    have HRD := Lib.hid (ready_ok ms g (.slice pa ms.length cap) b _ HM.out h12 hg av (fun k hk => Nat.lt_of_lt_of_le (hav k hk) HK.out.1.size) HMr.out)
    have hr16 := readyK_lt ms g ms.length (by omega)
    have HAND := u16_and_nat (readyF ms g) of hr16 hof
    obtain ⟨N, hN⟩ : ∃ N, N = readyF ms g &&& of := ⟨_, rfl⟩
    have hN16 : N < 65536 := by rw [hN]; exact Nat.lt_of_le_of_lt Nat.and_le_left hr16
    rw [← hN] at HAND
    go_wp2_with fail
    refine HRD.out.mono ?_
    rintro e w2 ⟨rfl, hk2⟩
    have row2 := row_kept hk2 hrow (by omega)
    have m2 := kept_cells hk2 mr HMr.out.ways
    have HK2 := Lib.hid (kept_trans HK.out hk2)
    have HT2 := Lib.hid (show Tab32 w2 from fun j hj => kept_cell HK2.out HV.out.ways rfl (HT.out j hj))
    clear c0 c1 hk2 hrow mr HRD HMr
    obtain ⟨n', rfl⟩ : ∃ n', n = n' + 1 := ⟨n - 1, by omega⟩
    have HE := Lib.hid (show stepsK ms of (n' + 1) g = if N = 0 then ([], g) else (moveM (lowS N) (firstG ms g (lowS N)) :: (stepsK ms of n' (g ||| 2 ^ lowS N)).1, (stepsK ms of n' (g ||| 2 ^ lowS N)).2) by rw [hN]; rfl)
    by_cases h0 : N = 0
    · have hz : ((N : Int) == 0) = true := by rw [h0]; rfl
      have HR := Lib.hid (show orderF ms of = (pre, g) by rw [HO.out, HE.out, if_pos h0]; simp)
      clear HE
      go_wp2_with fail
      go_returns
      rw [HR.out]
      exact ⟨⟨_, rfl, by rw [← HA.out]; exact row2, hnil⟩, HK2.out⟩
    · have hz : ((N : Int) == 0) = false := by rw [beq_eq_false_iff_ne]; omega
      obtain ⟨hp1, hp2, f, hf⟩ := now_bit (of := of) h12 (by rw [← hN]; exact h0)
      rw [← hN] at hp1 hp2 hf
      have HLE := Lib.hid (least_ok N w2 hN16 h0 HT2.out)
      obtain ⟨p, hp⟩ : ∃ p, p = lowS N := ⟨_, rfl⟩
      rw [← hp] at hp1 hp2 hf HLE HE
      have HFI := Lib.hid (fun W (hsz : w.heap.size ≤ W.heap.size) (h : Mld W (.slice pa ms.length cap) b ms av) => first_ok ms g p f (.slice pa ms.length cap) b W hf HM.out h12 hg av (fun k hk => Nat.lt_of_lt_of_le (hav k hk) hsz) h)
      obtain ⟨mo, hmo⟩ : ∃ mo, mo = moveM p (firstG ms g p) := ⟨_, rfl⟩
      have HMV := Lib.hid (show moveV p (firstF ms g p f) = .agg #[.int .i64 (mo.1), .int .i64 (mo.2.1), .int .i64 (mo.2.2)] by rw [hmo, ← moveV_M]; unfold firstG; rw [hf])
      have HR := Lib.hid (show orderF ms of = ((pre ++ [mo]) ++ (stepsK ms of n' (g ||| 2 ^ p)).1, (stepsK ms of n' (g ||| 2 ^ p)).2) by rw [HO.out, HE.out, if_neg h0, ← hmo]; simp)
      have HWI := Lib.hid (fun W => with_ok g p hg (by omega) W)
      have hgt := or_gt hp2
      have hg2 := or16 hg (pow16_lt (p := p) (by omega))
      clear HE hf hmo hp hp2 hN
      go_wp2_with fail
      refine HLE.out.mono ?_
      rintro e w3 ⟨rfl, hb3⟩
      have row3 := row_below row2 hb3
      have m3 := heap_below m2 hb3 (Array.getElem?_eq_some_iff.1 m2).1
      have HK3 := Lib.hid (kept_trans HK2.out (kept_below (v := .slice pa ms.length cap) HK2.out.2 hb3))
      have HM3 := Lib.hid (HV.out.kept HK3.out)
      clear row2 m2 hb3 HLE
      have c0 := cells4 m3 0 _ rfl
      have c1 := cells4 m3 1 _ rfl
      go_wp2_with fail
      refine (HFI.out _ HK3.out.1.size HM3.out).mono ?_
      rintro e w4 ⟨rfl, hk4⟩
      rw [HMV.out]
      have row4 := row_kept hk4 row3 (by omega)
      have m4 := kept_cells hk4 m3 HM3.out.ways
      have HK4 := Lib.hid (kept_trans HK3.out hk4)
      clear c0 c1 row3 m3 hk4
      have hsz4 : A < w4.heap.size := (Array.getElem?_eq_some_iff.1 m4).1
      have q4 : (w4.alloc (.cells #[.int .i64 mo.1, .int .i64 mo.2.1, .int .i64 mo.2.2] 40)).heap[w4.heap.size]? = some (.cells #[.int .i64 mo.1, .int .i64 mo.2.1, .int .i64 mo.2.2] 40 (0, 0)) := World.alloc_heap_new w4 _
      obtain ⟨y0, y1, y2⟩ := cells3 q4
      have HQ := Lib.hid (fun u : Obj => kept_trans HK4.out (kept_below (v := .slice pa ms.length cap) HK4.out.2 ((Below.refl _ w4).alloc (Nat.le_refl _) u)))
      have HM4 := Lib.hid m4
      have HP := Lib.hid hpl
      have hlen : pre.length ≤ 65536 := by omega
      clear q4 m4 HFI hpl
      go_wp2_with (at_builtin; refine wpList_append_own _ rfl _ _ 55 rfl (A + 1) 40 i0 (.agg #[.int .i64 (0), .int .i64 (0), .int .i64 (0)]) 3 24 under_moves hi hz0 hz1 hz2 rfl (by decide) u6 _ _ rfl ((row4.alloc _).alloc _) ⟨w4.heap.size + 1, 0, none⟩ 1 1 (movC mo) rfl rfl (movC_new' _ (by simp) mo) (movC_one mo) (by simp only [maxLen]; omega) (by omega) (by simp; omega) ?_; intro v' w5 hown' hgrow _; obtain ⟨g', cap', rfl⟩ := ownsRow_succ hown')
      have row44 := (row4.alloc (.cells #[.int .i64 mo.1, .int .i64 mo.2.1, .int .i64 mo.2.2] 40)).alloc (.cells #[.int .i64 mo.1, .int .i64 mo.2.1, .int .i64 mo.2.2] 40)
      have KX := HQ.out (.cells #[.int .i64 mo.1, .int .i64 mo.2.1, .int .i64 mo.2.2] 40)
      have KY := kept_trans KX (kept_below (v := .slice pa ms.length cap) KX.2 ((Below.refl _ _).alloc (Nat.le_refl _) (.cells #[.int .i64 mo.1, .int .i64 mo.2.1, .int .i64 mo.2.2] 40)))
      have K5 := KY.row row44 (by decide) (by rw [HA.out]; exact Nat.le_succ _) hgrow (by omega)
      have m5 : w5.heap[A]? = some (.cells #[.slice pa ms.length cap, .map (some b)] 101 (0, 0)) := by
        have e1 := (Below.heap_alloc w4 (.cells #[.int .i64 mo.1, .int .i64 mo.2.1, .int .i64 mo.2.2] 40) A hsz4).trans HM4.out
        have e2 := (Below.heap_alloc _ (.cells #[.int .i64 mo.1, .int .i64 mo.2.1, .int .i64 mo.2.2] 40) A (Array.getElem?_eq_some_iff.1 e1).1).trans e1
        exact (hgrow.block A (Array.getElem?_eq_some_iff.1 e2).1 (fun e => by have := (row44.lt A e.symm).1; omega)).trans e2
      have HK5 := Lib.hid K5
      clear row44 KX KY K5 hgrow row4
      refine (HWI.out _).mono ?_
      rintro e w6 ⟨rfl, hb6⟩
      have row6 := row_below hown' hb6
      have m6 := heap_below m5 hb6 (Array.getElem?_eq_some_iff.1 m5).1
      have HK6 := Lib.hid (kept_trans HK5.out (kept_below (v := .slice pa ms.length cap) HK5.out.2 hb6))
      go_wp2_with fail
      case roundEnd =>
        have := HP.out
        exact ⟨⟨g ||| 2 ^ p, n', pre ++ [mo], rfl, hg2, by omega, by simp; omega, HR, by simp only [List.length_append, List.length_cons, List.length_nil, flatM_snoc]; exact row6, by simp, m6, HK6⟩, by simp [intOf]; omega⟩
end Go.Proofs.YtoajocgfmbakjaaGreatDoor
/-
  The pieces of a set, as a list.
-/
set_option linter.unusedVariables false
set_option linter.unusedSimpArgs false
namespace Go.Proofs.YtoajocgfmbakjaaGreatDoor
open Go Go.RowKit Go.Shelf

/-- The pieces of a set, ascending. -/
def listK : Nat → Nat → List Nat
  | 0, _ => []
  | n + 1, s => if s = 0 then [] else lowS s :: listK n (s &&& (s - 1))
def listS (s : Nat) : List Nat := listK 65536 s
def flatI (l : List Nat) : List Value := l.map fun (x : Nat) => .int .i64 (x : Int)
theorem info_int' : (Tryz.prog.info? 3).map (fun i => (i.zero, i.size, i.bytes)) = some (some (Value.int .i64 0), 1, 8) := by kernel_rfl
theorem under_ints : Tryz.prog.underlying 38 = some (.slice 3) := by kernel_rfl
theorem and_pred16 {q : Nat} (h : q ≠ 0) (hq : q < 65536) : bits .and .u16 (q : Int) ((q : Int) - 1) = ((q &&& (q - 1) : Nat) : Int) := by
  rw [show ((q : Int) - 1) = ((q - 1 : Nat) : Int) by omega]
  exact u16_and_nat q (q - 1) hq (by omega)
theorem int_new {n : Nat} (W : World) (hn : n = W.heap.size) (x : Int) (j : Nat) (u : Value) (hu : ([.int .i64 x] : List Value)[j]? = some u) : (W.alloc (.cells #[.int .i64 x] 3)).cell? ((⟨n, 0, none⟩ : Addr).add j) = some u := by
  subst hn
  have e : (⟨W.heap.size, 0, none⟩ : Addr).add j = ⟨W.heap.size, j, none⟩ := by simp [Addr.add]; try omega
  rw [e]
  refine cells4 (World.alloc_heap_new W _) j u ?_
  rcases j with _ | j
  · exact hu
  · simp at hu
set_option maxRecDepth 100000 in
set_option maxHeartbeats 2000000 in
theorem list_ok (s : Nat) (w : World) (hs : s < 65536) (hT : Tab32 w) :
    Calls Tryz.prog 92 #[setV s] w fun e w' => (∃ u, e = .returned u ∧ w'.ownsRow w.heap.size 3 1 u (listS s).length (flatI (listS s)) ∧ (u = .slice none 0 0 ↔ listS s = [])) ∧ Below w.heap.size w w' := by
  have HT := Lib.hid hT
  obtain ⟨i0, hi, hz0, hz1, hz2⟩ := info_parts info_int'
  clear hT
  go_enter Tryz.func92, Tryz.ntmps92
  go_wp2_with fail
  go_loopw [0, 3] (fun sv lv wr => ∃ (q n : Nat) (pre : List Nat), sv = setV q ∧ q < 65536 ∧ q ≤ n ∧ pre.length + q ≤ 65536 ∧ Hid (listS s = pre ++ listK n q) ∧ wr.ownsRow w.heap.size 3 1 lv pre.length (flatI pre) ∧ (lv = .slice none 0 0 ↔ pre = []) ∧ Below w.heap.size w wr) (fun sv _ _ => (intOf sv).toNat)
  case atStart => exact ⟨s, 65536, [], rfl, hs, by omega, by simp; omega, Lib.hid rfl, World.ownsRow_nil _ _ _ _, by simp, Below.refl _ _⟩
  case round =>
    obtain ⟨q, n, pre, rfl, hq, hn, hpl, HO, hrow, hnil, hB⟩ := hrel
    by_cases h0 : q = 0
    · have hz : ((q : Int) != 0) = false := by rw [h0]; rfl
      have HR := Lib.hid (show listS s = pre by
        rw [HO.out]
        cases n with
        | zero => simp [listK]
        | succ n => simp [listK, h0])
      go_wp2_with fail
      go_ret
      rw [HR.out]
      exact ⟨⟨_, rfl, hrow, hnil⟩, hB⟩
    · have hz : ((q : Int) != 0) = true := by simpa using h0
      obtain ⟨n', rfl⟩ : ∃ n', n = n' + 1 := ⟨n - 1, by omega⟩
      have HR := Lib.hid (show listS s = (pre ++ [lowS q]) ++ listK n' (q &&& (q - 1)) by rw [HO.out, listK, if_neg h0]; simp)
      have HLE := Lib.hid (least_ok q wr hq h0 (HT.out.below hB (Nat.le_refl _)))
      have hpb := and_pred16 h0 hq
      have hlt2 : q &&& (q - 1) < q := Nat.lt_of_le_of_lt Nat.and_le_right (by omega)
      have HL2 := Lib.hid hlt2
      have hsz := hB.size
      have hq1 : (1 : Int) ≤ q := by omega
      obtain ⟨p, hp⟩ : ∃ p, p = lowS q := ⟨_, rfl⟩
      rw [← hp] at HLE HR
      clear hp hlt2
      go_wp2_with fail
      refine HLE.out.mono ?_
      rintro e w3 ⟨rfl, hb3⟩
      have row3 := row_below hrow hb3
      have hB3 := up hb3 hB
      have hsz3 := hB3.size
      have hlen : pre.length ≤ 65536 := by omega
      go_wp2_with (at_builtin; refine wpList_append_own _ rfl _ _ 38 rfl w.heap.size 3 i0 (.int .i64 0) 1 8 under_ints hi hz0 hz1 hz2 rfl (by decide) u3 _ _ rfl (row3.alloc _) ⟨w3.heap.size, 0, none⟩ 1 1 [.int .i64 (p : Int)] rfl rfl (int_new _ rfl _) (by simp [Value.oneCell']) (by simp only [maxLen]; omega) (by omega) (by simp; omega) ?_; intro v' w5 hown' hgrow _; obtain ⟨g', cap', rfl⟩ := ownsRow_succ hown')
      case roundEnd =>
        have hl := HL2.out
        have hb5 : Below w.heap.size w3 w5 := ((Below.refl w.heap.size w3).alloc hsz3 _).grown hgrow (by simp; omega) fun j ej => (row3.lt j ej).1
        exact ⟨⟨_, n', pre ++ [p], rfl, by omega, by omega, by simp; omega, HR, by simp only [List.length_append, List.length_cons, List.length_nil]; unfold flatI at *; rw [List.map_append]; exact hown', by simp, hB3.trans hb5⟩, by simp [intOf]; omega⟩
end Go.Proofs.YtoajocgfmbakjaaGreatDoor
/-
  The sets of pieces that go at once, round by round.
-/
set_option linter.unusedVariables false
set_option linter.unusedSimpArgs false
namespace Go.Proofs.YtoajocgfmbakjaaGreatDoor
open Go Go.RowKit Go.Shelf

def roundsK (ms : List Sol) : Nat → Nat → List Nat × Nat
  | 0, gone => ([], gone)
  | n + 1, gone => if readyF ms gone = 0 then ([], gone) else (readyF ms gone :: (roundsK ms n (gone ||| readyF ms gone)).1, (roundsK ms n (gone ||| readyF ms gone)).2)
def roundsF (ms : List Sol) : List Nat × Nat := roundsK ms 65536 0
def flatU (l : List Nat) : List Value := l.map fun (x : Nat) => .int .u16 (x : Int)
theorem info_set : (Tryz.prog.info? 106).map (fun i => (i.zero, i.size, i.bytes)) = some (some (Value.int .u16 0), 1, 2) := by kernel_rfl
theorem under_sets : Tryz.prog.underlying 142 = some (.slice 106) := by kernel_rfl
theorem set_new {n : Nat} (W : World) (hn : n = W.heap.size) (x : Int) (j : Nat) (u : Value) (hu : ([.int .u16 x] : List Value)[j]? = some u) : (W.alloc (.cells #[.int .u16 x] 106)).cell? ((⟨n, 0, none⟩ : Addr).add j) = some u := by
  subst hn
  have e : (⟨W.heap.size, 0, none⟩ : Addr).add j = ⟨W.heap.size, j, none⟩ := by simp [Addr.add]; try omega
  rw [e]
  refine cells4 (World.alloc_heap_new W _) j u ?_
  rcases j with _ | j
  · exact hu
  · simp at hu
theorem or_gt2 {g N p : Nat} (h : g.testBit p = false) (h2 : N.testBit p = true) : g < g ||| N := by
  refine Nat.lt_of_le_of_ne Nat.left_le_or fun e => ?_
  have : (g ||| N).testBit p = true := by rw [Nat.testBit_or, h2]; simp
  rw [← e, h] at this
  cases this
set_option maxRecDepth 100000 in
set_option maxHeartbeats 4000000 in
theorem rounds_ok (ms : List Sol) (v : Value) (b : Nat) (w : World) (hm : ∀ m ∈ ms, Fit m) (h12 : ms.length ≤ 12) (av : Nat → Prop) (hav : ∀ k, av k → k < w.heap.size) (hv : Mld w v b ms av) :
    Calls Tryz.prog 116 #[mldV v b] w fun e w' => (∃ u, e = .returned (.tuple #[u, setV (roundsF ms).2]) ∧ w'.ownsRow (w.heap.size + 1) 106 1 u (roundsF ms).1.length (flatU (roundsF ms).1) ∧ (u = .slice none 0 0 ↔ (roundsF ms).1 = [])) ∧ Kept b v ms av w w' := by
  have HM := Lib.hid hm
  have HV := Lib.hid hv
  have lb := hv.ways.lt
  clear hm
  obtain ⟨i0, hi, hz0, hz1, hz2⟩ := info_parts info_set
  obtain ⟨A, hA⟩ : ∃ A, A = w.heap.size := ⟨_, rfl⟩
  obtain ⟨W1, hW1⟩ : ∃ W1, W1 = w.alloc (.cells #[v, .map (some b)] 101) := ⟨_, rfl⟩
  have hB1 : Below w.heap.size w W1 := by rw [hW1]; exact (Below.refl _ w).alloc (Nat.le_refl _) _
  have m1 : W1.heap[A]? = some (.cells #[v, .map (some b)] 101 (0, 0)) := by rw [hW1, hA]; exact World.alloc_heap_new w _
  have HK1 := Lib.hid (kept_below (v := v) HV.out.ways hB1)
  obtain ⟨pa, cap, rfl, hmx, _⟩ := hv.sols
  have H0 := ready_ok ms 0 (.slice pa ms.length cap) b W1 HM.out h12 (by omega) av (fun k hk => Nat.lt_of_lt_of_le (hav k hk) hB1.size) (HV.out.kept HK1.out)
  have M1 := Lib.hid m1
  rw [hW1] at H0
  have HR0 := Lib.hid H0
  have HA := Lib.hid hA
  have hlA : b < A := by omega
  clear hA H0
  go_enter Tryz.func116, Tryz.ntmps116
  go_wp2_with fail
  refine HR0.out.mono ?_
  rw [← hW1]
  rintro e w2 ⟨rfl, hk2⟩
  rw [← HA.out]
  have m2 := kept_cells hk2 M1.out (HV.out.kept HK1.out).ways
  have HK2 := Lib.hid (kept_trans HK1.out hk2)
  clear hv hB1 hW1 hk2 HR0 m1
  go_wp2_with fail
  go_loopw [2, 3, 4] (fun lv s nw wr => ∃ (g n : Nat) (pre : List Nat), s = setV g ∧ nw = setV (readyF ms g) ∧ g < 65536 ∧ 65536 - g ≤ n ∧ pre.length ≤ g ∧ Hid (roundsF ms = (pre ++ (roundsK ms n g).1, (roundsK ms n g).2)) ∧ wr.ownsRow (A + 1) 106 1 lv pre.length (flatU pre) ∧ (lv = .slice none 0 0 ↔ pre = []) ∧ wr.heap[A]? = some (.cells #[.slice pa ms.length cap, .map (some b)] 101 (0, 0)) ∧ Hid (Kept b (.slice pa ms.length cap) ms av w wr)) (fun _ s _ _ => 65536 - (intOf s).toNat)
  case atStart => exact ⟨0, 65536, [], rfl, rfl, by omega, by omega, by simp, Lib.hid rfl, World.ownsRow_nil _ _ _ _, by simp, m2, HK2⟩
  case round =>
    clear m2 HK2
    obtain ⟨g, n, pre, rfl, rfl, hg, hn, hpl, HO, hrow, hnil, mr, HK⟩ := hrel
    have hr16 := readyK_lt ms g ms.length (by omega)
    obtain ⟨n', rfl⟩ : ∃ n', n = n' + 1 := ⟨n - 1, by omega⟩
    obtain ⟨N, hN⟩ : ∃ N, N = readyF ms g := ⟨_, rfl⟩
    have hN16 : N < 65536 := by rw [hN]; exact hr16
    have HE := Lib.hid (show roundsK ms (n' + 1) g = if N = 0 then ([], g) else (N :: (roundsK ms n' (g ||| N)).1, (roundsK ms n' (g ||| N)).2) by rw [hN]; rfl)
    by_cases h0 : N = 0
    · have hz : ((N : Int) != 0) = false := by rw [h0]; rfl
      have HR := Lib.hid (show roundsF ms = (pre, g) by rw [HO.out, HE.out, if_pos h0]; simp)
      rw [← hN]
      clear HE hN hr16
      go_wp2_with fail
      go_returns
      rw [HR.out]
      exact ⟨⟨_, rfl, by rw [← HA.out]; exact hrow, hnil⟩, HK.out⟩
    · have hz : ((N : Int) != 0) = true := by simpa using h0
      have hbit := lowS_bit hN16 h0
      have hb1 := hbit.1
      rw [hN] at hb1
      obtain ⟨_, hgb, _⟩ := readyK_bit hb1
      rw [← hN] at hgb
      have hgt := or_gt2 hgb hbit.1
      have hg2 := or16 hg hN16
      have HOR := u16_or_nat g N hg hN16
      have HR := Lib.hid (show roundsF ms = ((pre ++ [N]) ++ (roundsK ms n' (g ||| N)).1, (roundsK ms n' (g ||| N)).2) by rw [HO.out, HE.out, if_neg h0]; simp)
      rw [← hN]
      clear HE hN hr16 hbit hb1 hgb
      have HQ := Lib.hid (fun u : Obj => kept_trans HK.out (kept_below (v := .slice pa ms.length cap) HK.out.2 ((Below.refl _ wr).alloc (Nat.le_refl _) u)))
      have HP := Lib.hid hpl
      have hlen : pre.length ≤ 65536 := by omega
      have hszr : A < wr.heap.size := (Array.getElem?_eq_some_iff.1 mr).1
      have HMR := Lib.hid mr
      clear mr hpl
      go_wp2_with (at_builtin; refine wpList_append_own _ rfl _ _ 142 rfl (A + 1) 106 i0 (.int .u16 0) 1 2 under_sets hi hz0 hz1 hz2 rfl (by decide) u2 _ _ rfl (hrow.alloc _) ⟨wr.heap.size, 0, none⟩ 1 1 [.int .u16 (N : Int)] rfl rfl (set_new _ rfl _) (by simp [Value.oneCell']) (by simp only [maxLen]; omega) (by omega) (by simp; omega) ?_; intro v' w5 hown' hgrow _; obtain ⟨g', cap', rfl⟩ := ownsRow_succ hown'; have row44 := hrow.alloc (.cells #[.int .u16 (N : Int)] 106); have K5 := (HQ.out (.cells #[.int .u16 (N : Int)] 106)).row row44 (by decide) (by rw [HA.out]; exact Nat.le_succ _) hgrow (by omega); have e1 := (Below.heap_alloc wr (.cells #[.int .u16 (N : Int)] 106) A hszr).trans HMR.out; have m5 := (hgrow.block A (Array.getElem?_eq_some_iff.1 e1).1 (fun e => by have := (row44.lt A e.symm).1; omega)).trans e1; have d0 := cells4 m5 0 _ rfl; have d1 := cells4 m5 1 _ rfl)
      have HK5 := Lib.hid K5
      have HM5 := Lib.hid (HV.out.kept K5)
      refine (ready_ok ms (g ||| N) (.slice pa ms.length cap) b w5 HM.out h12 hg2 av (fun k hk => Nat.lt_of_lt_of_le (hav k hk) K5.1.size) HM5.out).mono ?_
      rintro e w6 ⟨rfl, hk6⟩
      have row6 := row_kept hk6 hown' (by omega)
      have m6 := kept_cells hk6 m5 HM5.out.ways
      have HK6 := Lib.hid (kept_trans HK5.out hk6)
      clear d0 d1 m5 K5 hgrow row44 hown' hk6 e1
      go_wp2_with fail
      case roundEnd =>
        have := HP.out
        exact ⟨⟨g ||| N, n', pre ++ [N], rfl, rfl, hg2, by omega, by simp; omega, HR, by simp only [List.length_append, List.length_cons, List.length_nil]; unfold flatU at *; rw [List.map_append]; exact row6, by simp, m6, HK6⟩, by simp [intOf]; omega⟩
end Go.Proofs.YtoajocgfmbakjaaGreatDoor
