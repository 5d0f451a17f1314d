/-
  Sets as lists; Rounds.
-/
import Derived.Test.YtoajocgfmbakjaaGreatDoorPdA
import Derived.Test.YtoajocgfmbakjaaGreatDoorPdB
import Derived.Deep.Cut
set_option linter.unusedVariables false
set_option linter.unusedSimpArgs false
namespace Go.Proofs.YtoajocgfmbakjaaGreatDoor
open Go Go.RowKit Go.Shelf

/-- A row of rows of numbers; each lies in a block of its own, laid before the row and behind a certain size. -/
def RowsI (W : World) (n₀ : Nat) (u : Value) (L : List (List Nat)) : Prop :=
  ∃ vs : List Value, vs.length = L.length ∧ W.ownsRow n₀ 38 1 u vs.length vs ∧ ∀ (i : Nat) (x : Value) (l : List Nat), vs[i]? = some x → L[i]? = some l → W.ownsRow n₀ 3 1 x l.length (flatI l)
theorem under_lists : Tryz.prog.underlying 60 = some (.slice 38) := by kernel_rfl
theorem info_list : (Tryz.prog.info? 38).map (fun i => (i.zero, i.size, i.bytes)) = some (some (Value.slice none 0 0), 1, 24) := by kernel_rfl
theorem list_new {n : Nat} (W : World) (hn : n = W.heap.size) (x : Value) (j : Nat) (u : Value) (hu : ([x] : List Value)[j]? = some u) : (W.alloc (.cells #[x] 38)).cell? ((⟨n, 0, none⟩ : Addr).add j) = some u := by
  subst hn
  have e : (⟨W.heap.size, 0, none⟩ : Addr).add j = ⟨W.heap.size, j, none⟩ := by simp [Addr.add]; try omega
  rw [e]
  refine cells4 (World.alloc_heap_new W _) j u ?_
  rcases j with _ | j
  · exact hu
  · simp at hu
theorem RowsI.kept {W W' : World} {n₀ : Nat} {u : Value} {L : List (List Nat)} (h : RowsI W n₀ u L) (hb : Below W.heap.size W W') : RowsI W' n₀ u L := by
  obtain ⟨vs, h1, h2, h3⟩ := h
  exact ⟨vs, h1, row_below h2 hb, fun i x l hx hl => row_below (h3 i x l hx hl) hb⟩
/-- Sets in memory. -/
def SetsAt (W : World) (v : Value) (l : List Nat) : Prop := ∃ pa cap, v = .slice pa l.length cap ∧ l.length ≤ maxLen ∧
  (l = [] ∨ ∃ b o, pa = some ⟨b, o, none⟩ ∧ b < W.heap.size ∧ ∀ (i x : Nat), l[i]? = some x → W.cell? ⟨b, o + i, none⟩ = some (.int .u16 x))
theorem SetsAt.at {W : World} {v : Value} {l : List Nat} (h : SetsAt W v l) {i x : Nat} (hx : l[i]? = some x) : ∃ b o cap, v = .slice (some ⟨b, o, none⟩) l.length cap ∧ b < W.heap.size ∧ W.cell? ⟨b, o + i, none⟩ = some (.int .u16 x) := by
  obtain ⟨pa, cap, rfl, h2, h3⟩ := h
  rcases h3 with rfl | ⟨b, o, rfl, hb, hc⟩
  · simp at hx
  · exact ⟨b, o, cap, rfl, hb, hc i x hx⟩
theorem SetsAt.below {n : Nat} {W W' : World} {v : Value} {l : List Nat} (h : SetsAt W v l) (hb : Below n W W') (hn : W.heap.size ≤ n) : SetsAt W' v l := by
  obtain ⟨pa, cap, rfl, h2, h3⟩ := h
  refine ⟨pa, cap, rfl, h2, h3.imp id ?_⟩
  rintro ⟨b, o, e1, e2, e3⟩
  exact ⟨b, o, e1, Nat.lt_of_lt_of_le e2 hb.size, fun i x hx => (hb.cell (p := ⟨b, o + i, none⟩) (Nat.lt_of_lt_of_le e2 hn)).trans (e3 i x hx)⟩
theorem setsAt_own {W : World} {base : Nat} {v : Value} {l : List Nat} (h : W.ownsRow base 106 1 v l.length (flatU l)) : SetsAt W v l := by
  obtain ⟨hl, hh | ⟨g, cap, cur, rfl, hb, hg, hcap, hmax, hsz, htk⟩⟩ := id h
  · obtain ⟨rfl, h0⟩ := hh
    have : l = [] := List.length_eq_zero_iff.1 h0
    subst this
    exact ⟨none, 0, rfl, by simp, .inl rfl⟩
  · refine ⟨_, cap, rfl, by omega, .inr ⟨g, 0, rfl, (Array.getElem?_eq_some_iff.1 hg).1, fun i x hx => ?_⟩⟩
    have := h.cells (g := g) rfl i (.int .u16 (x : Int)) (by unfold flatU; rw [List.getElem?_map, hx]; rfl)
    rwa [show (⟨g, 0, none⟩ : Addr).add i = ⟨g, 0 + i, none⟩ by simp [Addr.add]; try omega] at this
theorem row_shape {W : World} {base size n : Nat} {e : TypeId} {v : Value} {xs : List Value} (h : W.ownsRow base e size v n xs) : ∃ pa cap, v = .slice pa n cap := by
  rcases h.2 with ⟨rfl, rfl⟩ | ⟨g, cap, cur, rfl, _⟩
  · exact ⟨none, 0, rfl⟩
  · exact ⟨_, _, rfl⟩
theorem row_block {W : World} {base size n k : Nat} {e : TypeId} {v : Value} {xs : List Value} (h : W.ownsRow base e size v n xs) (hk : v.ownBlock = some k) : ∃ g, k = g ∧ ∃ cur, W.heap[g]? = some (.cells cur e (0, 0)) := by
  rcases h.2 with ⟨rfl, _⟩ | ⟨g, cap, cur, rfl, _, hg, _⟩
  · cases hk
  · exact ⟨g, by injection hk with hk; exact hk.symm, cur, hg⟩
set_option maxRecDepth 100000 in
set_option maxHeartbeats 4000000 in
theorem lists_ok (L : List Nat) (v : Value) (w : World) (hv : SetsAt w v L) (hL : ∀ s ∈ L, s < 65536) (h65 : L.length ≤ 65536) (hT : Tab32 w) :
    Calls Tryz.prog 117 #[v] w fun e w' => (∃ u, e = .returned u ∧ RowsI w' w.heap.size u (L.map listS) ∧ (u = .slice none 0 0 ↔ L = [])) ∧ Below w.heap.size w w' := by
  have HT := Lib.hid hT
  have HV := Lib.hid hv
  have HLL := Lib.hid hL
  obtain ⟨i0, hi0, hz0, hz1, hz2⟩ := info_parts info_list
  obtain ⟨pl, cl, rfl, hlx, _⟩ := hv
  clear hT hL
  go_enter Tryz.func117, Tryz.ntmps117
  go_wp2_with fail
  go_loopw [3, 8] (fun lv z wr => ∃ (i : Nat) (vs : List Value), i ≤ L.length ∧ z = .int .i64 i ∧ Hid (vs.length = i) ∧ wr.ownsRow w.heap.size 38 1 lv vs.length vs ∧ (lv = .slice none 0 0 ↔ vs = []) ∧ Hid (∀ (k : Nat) (x : Value) (s : Nat), vs[k]? = some x → L[k]? = some s → wr.ownsRow w.heap.size 3 1 x (listS s).length (flatI (listS s)) ∧ x.oneCell' = true) ∧ Hid (Below w.heap.size w wr)) (fun _ z _ => L.length - (intOf z).toNat)
  case atStart => exact ⟨0, [], by omega, rfl, Lib.hid rfl, World.ownsRow_nil _ _ _ _, by simp, Lib.hid (fun k x s h => by simp at h), Lib.hid (Below.refl _ _)⟩
  case round =>
    obtain ⟨i, vs, hi, rfl, hvl, hrow, hnil, HR, HB⟩ := hrel
    by_cases hlt : i < L.length
    · have di : decide ((i : Int) < (L.length : Int)) = true := decide_eq_true (by omega)
      have hii : (i : Int) < (L.length : Int) := by omega
      obtain ⟨s, hs⟩ : ∃ s, L[i]? = some s := ⟨_, List.getElem?_eq_getElem hlt⟩
      obtain ⟨b1, o1, cl', he, hb1, x0⟩ := HV.out.at hs
      obtain ⟨rfl, rfl⟩ : pl = some ⟨b1, o1, none⟩ ∧ cl = cl' := by injection he with e1 e2 e3; exact ⟨e1, e3⟩
      have y0 := (HB.out.cell (p := ⟨b1, o1 + i, none⟩) hb1).trans x0
      have HLI := Lib.hid (list_ok s wr (HLL.out s (List.mem_of_getElem? hs)) (HT.out.below HB.out (Nat.le_refl _)))
      have HS := Lib.hid hs
      have hsz := HB.out.size
      clear x0 he hs
      go_wp2_with fail
      refine HLI.out.mono ?_
      rintro e w2 ⟨⟨u, rfl, hru, hun⟩, hb2⟩
      have row2 := row_below hrow hb2
      have HB2 := Lib.hid (up hb2 HB.out)
      have hsz2 := HB2.out.size
      obtain ⟨pu, cu, rfl⟩ := row_shape hru
      have hone : (Value.slice pu (listS s).length cu).oneCell' = true := rfl
      have hru0 := row_base hru hsz
      have HU := Lib.hid hru0
      have HO := Lib.hid hone
      have hlen : vs.length ≤ 65536 := by have := hvl.out; omega
      have HBW := Lib.hid hb2
      clear y0 hrow hru hun hb2 HLI hru0
      go_wp2_with (at_builtin; refine wpList_append_own _ rfl _ _ 60 rfl w.heap.size 38 i0 (.slice none 0 0) 1 24 under_lists hi0 hz0 hz1 hz2 rfl (by decide) u3 _ _ rfl (row2.alloc _) ⟨w2.heap.size, 0, none⟩ 1 1 [.slice pu (listS s).length cu] rfl rfl (list_new _ rfl _) (by simp [Value.oneCell']) (by simp only [maxLen]; omega) (by omega) (by simp; omega) ?_; intro v' w5 hown' hgrow _; obtain ⟨g', cap', rfl⟩ := ownsRow_succ hown')
      case roundEnd =>
        have hb5 : Below w.heap.size w2 w5 := ((Below.refl w.heap.size w2).alloc hsz2 _).grown hgrow (by simp; omega) fun j ej => (row2.lt j ej).1
        have row22 := row2.alloc (.cells #[.slice pu (listS s).length cu] 38)
        have keep : ∀ (x : Value) (l : List Nat), w2.ownsRow w.heap.size 3 1 x l.length (flatI l) → w5.ownsRow w.heap.size 3 1 x l.length (flatI l) := fun x l hx => by
          have hx' := hx.alloc (.cells #[.slice pu (listS s).length cu] 38)
          refine hx'.kept hgrow ?_
          cases hxo : x.ownBlock with
          | none => exact .inl rfl
          | some k =>
            refine .inr fun he => ?_
            obtain ⟨g, rfl, cur, hgb⟩ := row_block row22 he.symm
            exact not_row hgb (by decide) hx' hxo.symm
        refine ⟨⟨i + 1, vs ++ [.slice pu (listS s).length cu], by omega, by go_num, Lib.hid (by simp [hvl.out]), by simp only [List.length_append, List.length_cons, List.length_nil]; exact hown', by simp, Lib.hid (fun k x t hx ht => ?_), Lib.hid (HB2.out.trans hb5)⟩, by simp [intOf]; omega⟩
        by_cases e : k < vs.length
        · rw [List.getElem?_append_left e] at hx
          obtain ⟨h1, h2⟩ := HR.out k x t hx ht
          exact ⟨keep x _ (row_below h1 HBW.out), h2⟩
        · have ek : k = vs.length := by
            have := (List.getElem?_eq_some_iff.1 hx).1
            simp at this
            omega
          subst ek
          rw [List.getElem?_append_right (Nat.le_refl _)] at hx
          simp at hx
          subst hx
          rw [hvl.out, HS.out] at ht
          cases ht
          exact ⟨keep _ _ HU.out, HO.out⟩
    · obtain rfl : i = L.length := by omega
      have di : decide ((L.length : Int) < (L.length : Int)) = false := decide_eq_false (by omega)
      go_wp2_with fail
      go_ret
      refine ⟨⟨_, rfl, ⟨vs, by simp [hvl.out], hrow, fun k x l hx hl => ?_⟩, ?_⟩, HB.out⟩
      · rw [List.getElem?_map] at hl
        cases hs : L[k]? with
        | none => rw [hs] at hl; cases hl
        | some s =>
          rw [hs] at hl
          cases hl
          exact (HR.out k x s hx hs).1
      · refine hnil.trans ⟨fun h => ?_, fun h => ?_⟩
        · subst h; exact List.length_eq_zero_iff.1 hvl.out.symm
        · subst h; exact List.length_eq_zero_iff.1 hvl.out
end Go.Proofs.YtoajocgfmbakjaaGreatDoor
/-
  Rounds.
-/
set_option linter.unusedVariables false
set_option linter.unusedSimpArgs false
namespace Go.Proofs.YtoajocgfmbakjaaGreatDoor
open Go Go.RowKit Go.Shelf

def roundsL (ms : List Sol) : List (List Nat) := if chkM ms = 0 then (roundsF ms).1.map listS else []
theorem RowsI.base {W : World} {n m : Nat} {u : Value} {L : List (List Nat)} (h : RowsI W n u L) (hm : m ≤ n) : RowsI W m u L := by
  obtain ⟨vs, h1, h2, h3⟩ := h
  exact ⟨vs, h1, row_base h2 hm, fun i x l hx hl => row_base (h3 i x l hx hl) hm⟩
theorem RowsI.nil (W : World) (n : Nat) : RowsI W n (.slice none 0 0) [] := ⟨[], rfl, World.ownsRow_nil _ _ _ _, fun i x l hx _ => by simp at hx⟩
theorem roundsK_each {ms : List Sol} (h12 : ms.length ≤ 12) : ∀ (n g : Nat), ∀ s ∈ (roundsK ms n g).1, s < 65536
  | 0, g, s, h => by simp [roundsK] at h
  | n + 1, g, s, h => by
    unfold roundsK at h
    split at h
    · simp at h
    · rcases List.mem_cons.1 h with rfl | h
      · exact readyK_lt ms g ms.length (by omega)
      · exact roundsK_each h12 n _ s h
theorem roundsK_len {ms : List Sol} (h12 : ms.length ≤ 12) : ∀ (n g : Nat), g < 65536 → (roundsK ms n g).1.length ≤ 65536 - g
  | 0, g, h => by simp [roundsK]
  | n + 1, g, h => by
    unfold roundsK
    by_cases h0 : readyF ms g = 0
    · rw [if_pos h0]; simp
    · rw [if_neg h0]
      have hr := readyK_lt ms g ms.length (by omega)
      have hb := (lowS_bit (x := readyF ms g) hr h0).1
      obtain ⟨_, h2, _⟩ := readyK_bit hb
      have hgt := or_gt2 h2 hb
      have hg2 := or16 h hr
      have := roundsK_len h12 n (g ||| readyF ms g) hg2
      simp only [List.length_cons]
      omega
set_option maxRecDepth 100000 in
set_option maxHeartbeats 2000000 in
theorem roundsT_ok (ms : List Sol) (v : Value) (w : World) (hv : SolsAt w v ms) (hm : ∀ m ∈ ms, Fit m) (hT : Tab32 w) :
    Calls Tryz.prog 50 #[v] w fun e w' => (∃ u, e = .returned (.tuple #[u, .int .i64 (chkM ms)]) ∧ RowsI w' w.heap.size u (roundsL ms) ∧ (u = .slice none 0 0 ↔ roundsL ms = [])) ∧ Below w.heap.size w w' := by
  have HT := Lib.hid hT
  clear hT
  by_cases hc : chkM ms = 0
  · have HY := Lib.hid (look_yes ms v w hv hm hc)
    have h12 := chkM_len hc
    have HM := Lib.hid hm
    have HO := Lib.hid (show roundsL ms = (roundsF ms).1.map listS from if_pos hc)
    rw [hc, HO.out]
    have hrl := roundsK_len h12 65536 0 (ms := ms) (by omega)
    have hre := roundsK_each h12 65536 0 (ms := ms)
    obtain ⟨pa, cap, rfl, _, _⟩ := hv
    clear hm hc
    go_enter Tryz.func50, Tryz.ntmps50
    go_wp2_with fail
    refine HY.out.mono ?_
    rintro e w1 ⟨b, rfl, hb, hM1, hB1⟩
    have q1 : (w1.alloc (.cells #[.slice pa ms.length cap, .map (some b)] 101)).heap[w1.heap.size]? = some (.cells #[.slice pa ms.length cap, .map (some b)] 101 (0, 0)) := World.alloc_heap_new w1 _
    have hA := (Below.refl _ w1).alloc (Nat.le_refl _) (.cells #[.slice pa ms.length cap, .map (some b)] 101)
    have hB2 : Below w.heap.size w (w1.alloc (.cells #[.slice pa ms.length cap, .map (some b)] 101)) := hB1.trans (hA.mono hB1.size)
    have c0 := cells4 q1 0 _ rfl
    have c1 := cells4 q1 1 _ rfl
    have HG := Lib.hid (rounds_ok ms (.slice pa ms.length cap) b _ HM.out h12 noBlk (fun _ h => h.elim) (hM1.below hA))
    have HB2 := Lib.hid hB2
    have HB := Lib.hid hb
    clear q1 hA hB2 hM1 hB1 hb
    go_wp2_with fail
    refine HG.out.mono ?_
    rintro e w3 ⟨⟨u, rfl, hrow, hnil⟩, hk3⟩
    have HB3 := Lib.hid (kept_out hk3 HB.out HB2.out)
    clear c0 c1 hk3 HG
    have HL := Lib.hid (lists_ok (roundsF ms).1 u w3 (setsAt_own hrow) hre hrl (HT.out.below HB3.out (Nat.le_refl _)))
    go_wp2_with fail
    refine HL.out.mono ?_
    rintro e w4 ⟨⟨x, rfl, hrow4, hnil4⟩, hb4⟩
    go_wp2
    go_returns
    exact ⟨⟨x, rfl, hrow4.base HB3.out.size, by rw [hnil4, List.map_eq_nil_iff]⟩, up hb4 HB3.out⟩
  · have HN := Lib.hid (look_no ms v w hv hm hc)
    have HO := Lib.hid (show roundsL ms = [] from if_neg hc)
    rw [HO.out]
    obtain ⟨c, hcc⟩ : ∃ c, c = chkM ms := ⟨_, rfl⟩
    rw [← hcc] at HN hc ⊢
    have hne : (c != 0) = true := by simpa using hc
    clear hcc hc hm
    go_enter Tryz.func50, Tryz.ntmps50
    go_wp2_with fail
    refine HN.out.mono ?_
    rintro e w1 ⟨rfl, hB1⟩
    go_wp2
    go_returns
    exact ⟨⟨_, rfl, RowsI.nil _ _, by simp⟩, hB1.alloc hB1.size _⟩
end Go.Proofs.YtoajocgfmbakjaaGreatDoor
/-
  Draw.
-/
set_option linter.unusedVariables false
set_option linter.unusedSimpArgs false
namespace Go.Proofs.YtoajocgfmbakjaaGreatDoor
open Go Go.RowKit Go.Shelf

/-- Whether there is an order of all pieces; it. -/
def drawB (ms : List Sol) : Bool := if chkM ms = 0 then decide ((orderF ms (allN ms.length)).2 = allN ms.length) else false
def drawL (ms : List Sol) : List Mo := if drawB ms = true then (orderF ms (allN ms.length)).1 else []
theorem kept_refl {b : Nat} {v : Value} {ms : List Sol} {av : Nat → Prop} {W w' : World} (h : Kept b v ms av W w') : Kept b v ms av w' w' := kept_below h.2 (Below.refl _ _)
theorem u16_neq {a b : Nat} (h : a ≠ b) : ((a : Int) != (b : Int)) = true := by
  rw [bne_iff_ne]
  omega
theorem u16_neq' {a : Nat} : ((a : Int) != (a : Int)) = false := by simp
set_option maxRecDepth 100000 in
set_option maxHeartbeats 1000000 in
theorem draw_ok (ms : List Sol) (v : Value) (w : World) (hv : SolsAt w v ms) (hm : ∀ m ∈ ms, Fit m) (hT : Tab32 w) :
    Calls Tryz.prog 43 #[v] w fun e w' => (∃ u, e = .returned (.tuple #[u, .bool (drawB ms), .int .i64 (chkM ms)]) ∧ w'.ownsRow w.heap.size 40 3 u (drawL ms).length (flatM (drawL ms)) ∧ (u = .slice none 0 0 ↔ drawL ms = [])) ∧ Below w.heap.size w w' := by
  by_cases hc : chkM ms = 0
  · have HY := Lib.hid (look_yes ms v w hv hm hc)
    have h12 := chkM_len hc
    have HM := Lib.hid hm
    have HT := Lib.hid hT
    have HDB := Lib.hid (show drawB ms = decide ((orderF ms (allN ms.length)).2 = allN ms.length) from if_pos hc)
    have HDL := Lib.hid (show drawL ms = if (orderF ms (allN ms.length)).2 = allN ms.length then (orderF ms (allN ms.length)).1 else [] by unfold drawL; rw [HDB.out]; simp)
    have ho16 : (orderF ms (allN ms.length)).2 < 65536 := stepsK_lt h12 _ _ (by omega)
    rw [hc]
    obtain ⟨DB, hDB⟩ : ∃ DB, DB = drawB ms := ⟨_, rfl⟩
    obtain ⟨DL, hDL⟩ : ∃ DL, DL = drawL ms := ⟨_, rfl⟩
    rw [← hDB] at HDB ⊢
    rw [← hDL] at HDL ⊢
    obtain ⟨pa, cap, rfl, _, _⟩ := hv
    clear hm hc hT hDB hDL
    go_enter Tryz.func43, Tryz.ntmps43
    go_wp2_with fail
    refine HY.out.mono ?_
    rintro e w1 ⟨b, rfl, hb, hM1, hB1⟩
    obtain ⟨A, hAA⟩ : ∃ A, A = w1.heap.size := ⟨_, rfl⟩
    obtain ⟨W2, hW2⟩ : ∃ W2, W2 = w1.alloc (.cells #[.slice pa ms.length cap, .map (some b)] 101) := ⟨_, rfl⟩
    have q1 : W2.heap[A]? = some (.cells #[.slice pa ms.length cap, .map (some b)] 101 (0, 0)) := by rw [hW2, hAA]; exact World.alloc_heap_new w1 _
    have hA : Below w1.heap.size w1 W2 := by rw [hW2]; exact (Below.refl _ w1).alloc (Nat.le_refl _) _
    have HB2 := Lib.hid (hB1.trans (hA.mono hB1.size))
    have HM2 := Lib.hid (hM1.below hA)
    have HSZ := Lib.hid (show w.heap.size ≤ W2.heap.size from HB2.out.size)
    have HB := Lib.hid hb
    go_wp2_with fail
    rw [← hW2, ← hAA]
    clear hA hW2 hAA hM1 hB1 hb
    have HAL := Lib.hid (fun W => all_ok pa ms.length cap (by omega) W)
    have HOR := Lib.hid (fun W (hT : Tab32 W) (h : Mld W (.slice pa ms.length cap) b ms noBlk) => order_ok ms (allN ms.length) (.slice pa ms.length cap) b W HM.out h12 (allN_lt (by omega)) hT noBlk (fun _ h => h.elim) h)
    have hCd : Kept b (.slice pa ms.length cap) ms noBlk W2 W2.drew := kept_below HM2.out.ways (Below.drew (Below.refl _ _))
    have HW2 := Lib.hid HM2.out.ways
    have lb : b < W2.heap.size := HM2.out.ways.lt
    have HT2 := Lib.hid (HT.out.below HB2.out (Nat.le_refl _))
    refine wp_region_relR (fun (iR : Nat) (v : Value) (W : World) => match iR with | 0 => v = .agg #[.slice pa ms.length cap, .map (some b)] | 1 => v = .pointer (some ⟨A, 0, none⟩) | 2 => v = .slice pa ms.length cap | 3 => v = setV (allN ms.length) | 4 => ∃ u, v = .tuple #[u, setV (orderF ms (allN ms.length)).2] ∧ W.ownsRow W2.heap.size 40 3 u (orderF ms (allN ms.length)).1.length (flatM (orderF ms (allN ms.length)).1) ∧ (u = .slice none 0 0 ↔ (orderF ms (allN ms.length)).1 = []) | 5 => ∃ u, v = .tuple #[u, setV (orderF ms (allN ms.length)).2] ∧ W.ownsRow W2.heap.size 40 3 u (orderF ms (allN ms.length)).1.length (flatM (orderF ms (allN ms.length)).1) ∧ (u = .slice none 0 0 ↔ (orderF ms (allN ms.length)).1 = []) | 6 => W.ownsRow W2.heap.size 40 3 v (orderF ms (allN ms.length)).1.length (flatM (orderF ms (allN ms.length)).1) ∧ (v = .slice none 0 0 ↔ (orderF ms (allN ms.length)).1 = []) | 7 => v = setV (orderF ms (allN ms.length)).2 | 8 => W.ownsRow W2.heap.size 40 3 v (orderF ms (allN ms.length)).1.length (flatM (orderF ms (allN ms.length)).1) ∧ (v = .slice none 0 0 ↔ (orderF ms (allN ms.length)).1 = []) | _ => v = setV (orderF ms (allN ms.length)).2) (fun W => Kept b (.slice pa ms.length cap) ms noBlk W2 W) (fun X Y => Kept b (.slice pa ms.length cap) ms noBlk X Y) (by kernel_rfl) (by kernel_rfl) (by kernel_rfl) hCd (by kernel_rfl) ?hst ?hop ?hend
    case hst =>
      intro j v W W' hC hb hv
      rcases j with _ | _ | _ | _ | _ | _ | _ | _ | _ | _ | j
      all_goals first | exact hv | (obtain ⟨u, h1, h2, h3⟩ := hv; exact ⟨u, h1, row_kept hb h2 lb, h3⟩) | (obtain ⟨h2, h3⟩ := hv; exact ⟨row_kept hb h2 lb, h3⟩)
    case hop =>
      intro iR o ho a' W hC hin hfix
      have q3 := kept_cells hC q1 HW2.out
      have c0 := cells4 q3 0 _ rfl
      have c1 := cells4 q3 1 _ rfl
      have sl5 : a'.tmps[5]? = some (.pointer (some ⟨A, 0, none⟩)) := hfix 5 (by kernel_rfl)
      have hi : iR < 10 := (Array.getElem?_eq_some_iff.1 ho).1
      rcases (show iR = 0 ∨ iR = 1 ∨ iR = 2 ∨ iR = 3 ∨ iR = 4 ∨ iR = 5 ∨ iR = 6 ∨ iR = 7 ∨ iR = 8 ∨ iR = 9 by omega) with rfl | rfl | rfl | rfl | rfl | rfl | rfl | rfl | rfl | rfl
      · obtain rfl := Option.some.inj ho
        refine .inl ⟨rfl, fun K hK => ?_⟩
        clear hin hfix ho
        go_simp
        exact hK _ _ rfl hC (kept_refl hC)
      · obtain rfl := Option.some.inj ho
        refine .inl ⟨rfl, fun K hK => ?_⟩
        clear hin hfix ho
        go_simp
        exact hK _ _ rfl hC (kept_refl hC)
      · obtain ⟨v1, rfl, h1⟩ := hin 1 19 (by kernel_rfl) (by kernel_rfl)
        obtain rfl := Option.some.inj ho
        refine .inl ⟨rfl, fun K hK => ?_⟩
        clear hin hfix ho
        go_simp
        exact hK _ _ rfl hC (kept_refl hC)
      · obtain ⟨v2, rfl, h2⟩ := hin 2 20 (by kernel_rfl) (by kernel_rfl)
        obtain rfl := Option.some.inj ho
        refine .inl ⟨rfl, fun K hK => ?_⟩
        clear hin hfix ho
        go_simp
        refine (HAL.out _).mono ?_
        rintro e W3 ⟨rfl, hb3⟩
        exact hK _ _ rfl (kept_trans hC (kept_below hC.2 hb3)) (kept_below hC.2 hb3)
      · obtain ⟨v0, rfl, h0⟩ := hin 0 18 (by kernel_rfl) (by kernel_rfl)
        obtain ⟨v3, rfl, h3⟩ := hin 3 21 (by kernel_rfl) (by kernel_rfl)
        obtain rfl := Option.some.inj ho
        refine .inl ⟨rfl, fun K hK => ?_⟩
        clear hin hfix ho
        go_simp
        refine (HOR.out _ (fun j hj => kept_cell hC HW2.out rfl (HT2.out j hj)) (HM2.out.kept hC)).mono ?_
        rintro e W3 ⟨⟨u, rfl, hrow, hnil⟩, hk3⟩
        exact hK _ _ ⟨u, rfl, row_base hrow (Nat.le_succ_of_le hC.1.size), hnil⟩ (kept_trans hC hk3) hk3
      · obtain ⟨v4, hv4, h4⟩ := hin 4 22 (by kernel_rfl) (by kernel_rfl)
        obtain rfl := Option.some.inj ho
        refine .inl ⟨rfl, fun K hK => ?_⟩
        clear hin hfix ho
        go_simp
        exact hK _ _ hv4 hC (kept_refl hC)
      · obtain ⟨v5, hv5, h5⟩ := hin 5 17 (by kernel_rfl) (by kernel_rfl)
        obtain rfl := Option.some.inj ho
        refine .inl ⟨rfl, fun K hK => ?_⟩
        clear hin hfix ho
        obtain ⟨u, rfl, hu1, hu2⟩ := hv5
        go_simp
        exact hK _ _ ⟨hu1, hu2⟩ hC (kept_refl hC)
      · obtain ⟨v5, hv5, h5⟩ := hin 5 17 (by kernel_rfl) (by kernel_rfl)
        obtain rfl := Option.some.inj ho
        refine .inl ⟨rfl, fun K hK => ?_⟩
        clear hin hfix ho
        obtain ⟨u, rfl, hu1, hu2⟩ := hv5
        go_simp
        exact hK _ _ rfl hC (kept_refl hC)
      · obtain ⟨v6, hv6, h6⟩ := hin 6 23 (by kernel_rfl) (by kernel_rfl)
        obtain rfl := Option.some.inj ho
        refine .inl ⟨rfl, fun K hK => ?_⟩
        clear hin hfix ho
        go_simp
        exact hK _ _ hv6 hC (kept_refl hC)
      · obtain ⟨v7, rfl, h7⟩ := hin 7 24 (by kernel_rfl) (by kernel_rfl)
        obtain rfl := Option.some.inj ho
        refine .inl ⟨rfl, fun K hK => ?_⟩
        clear hin hfix ho
        go_simp
        exact hK _ _ rfl hC (kept_refl hC)
    case hend =>
    intro vals W hC hV
    have z0 := hV 0 (by decide)
    have z1 := hV 1 (by decide)
    have z2 := hV 2 (by decide)
    have z3 := hV 3 (by decide)
    have z7 := hV 7 (by decide)
    have z9 := hV 9 (by decide)
    have r8 := hV 8 (by decide)
    clear hV
    simp only at z0 z1 z2 z3 z7 z9 r8
    have hr : List.range 10 = [0, 1, 2, 3, 4, 5, 6, 7, 8, 9] := rfl
    simp only [List.size_toArray, List.length_cons, List.length_nil, Nat.reduceAdd, List.drop_succ_cons, List.drop_zero, putA, hr, List.foldl_cons, List.foldl_nil, dstR, List.getElem?_toArray, List.getElem?_cons_succ, List.getElem?_cons_zero, Option.bind_some, Act.put, List.setIfInBounds_toArray, List.set_cons_succ, List.set_cons_zero, z0, z1, z2, z3, z7, z9]
    clear hr z0 z1 z2 z3 z7 z9
    generalize vals 8 = ur at *
    obtain ⟨hrow, hnil⟩ := r8
    have q3 := kept_cells hC q1 HW2.out
    have d0 := cells4 q3 0 _ rfl
    have HK3 := Lib.hid (kept_out hC HB.out HB2.out)
    have HL := Lib.hid hrow
    clear hCd hrow hC q3 q1
    generalize (orderF ms (allN ms.length)).2 = R at *
    by_cases hr : R = allN ms.length
    · have hd : ((R : Int) != ((allN ms.length : Nat) : Int)) = false := by rw [hr]; simp
      go_wp2_with fail
      refine (HAL.out _).mono ?_
      rintro e w5 ⟨rfl, hb5⟩
      have HB5 := Lib.hid (up hb5 HK3.out)
      have HR5 := Lib.hid (row_below HL.out hb5)
      clear d0 hb5
      go_wp2_with fail
      go_returns
      rw [HDL.out, if_pos hr, HDB.out, decide_eq_true hr]
      exact ⟨⟨ur, rfl, row_base HR5.out HSZ.out, hnil⟩, HB5.out⟩
    · have hd : ((R : Int) != ((allN ms.length : Nat) : Int)) = true := u16_neq hr
      go_wp2_with fail
      refine (HAL.out _).mono ?_
      rintro e w5 ⟨rfl, hb5⟩
      have HB5 := Lib.hid (up hb5 HK3.out)
      clear d0 hb5
      go_wp2_with fail
      go_returns
      rw [HDL.out, if_neg hr, HDB.out, decide_eq_false hr]
      exact ⟨⟨_, rfl, World.ownsRow_nil _ _ _ _, by simp⟩, HB5.out⟩
  · have HN := Lib.hid (look_no ms v w hv hm hc)
    have HO := Lib.hid (show drawB ms = false from if_neg hc)
    have HOL := Lib.hid (show drawL ms = [] by unfold drawL; rw [HO.out]; rfl)
    rw [HO.out, HOL.out]
    obtain ⟨c, hcc⟩ : ∃ c, c = chkM ms := ⟨_, rfl⟩
    rw [← hcc] at HN hc ⊢
    have hne : (c != 0) = true := by simpa using hc
    clear hcc hc hm
    go_enter Tryz.func43, Tryz.ntmps43
    go_wp2_with fail
    refine HN.out.mono ?_
    rintro e w1 ⟨rfl, hB1⟩
    go_wp2
    go_returns
    exact ⟨⟨_, rfl, World.ownsRow_nil _ _ _ _, by simp⟩, hB1.alloc hB1.size _⟩
end Go.Proofs.YtoajocgfmbakjaaGreatDoor
/-
  Whether a set is a lock; CheckLock.
-/
set_option linter.unusedVariables false
set_option linter.unusedSimpArgs false
namespace Go.Proofs.YtoajocgfmbakjaaGreatDoor
open Go Go.RowKit Go.Shelf

set_option maxRecDepth 100000 in
set_option maxHeartbeats 1000000 in
theorem isLock_ok (ms : List Sol) (s : Nat) (v : Value) (b : Nat) (w : World) (hm : ∀ m ∈ ms, Fit m) (h12 : ms.length ≤ 12) (hs : s < 65536) (av : Nat → Prop) (hav : ∀ k, av k → k < w.heap.size) (hv : Mld w v b ms av) :
    Calls Tryz.prog 128 #[mldV v b, setV s] w (RetK (.bool (isLockB ms s)) b v ms av w) := by
  have HV := Lib.hid hv
  have HM := Lib.hid hm
  obtain ⟨A, hA⟩ : ∃ A, A = w.heap.size := ⟨_, rfl⟩
  obtain ⟨W1, hW1⟩ : ∃ W1, W1 = w.alloc (.cells #[v, .map (some b)] 101) := ⟨_, rfl⟩
  have hB1 : Below w.heap.size w W1 := by rw [hW1]; exact (Below.refl _ w).alloc (Nat.le_refl _) _
  have m1 : W1.heap[A]? = some (.cells #[v, .map (some b)] 101 (0, 0)) := by rw [hW1, hA]; exact World.alloc_heap_new w _
  have HK1 := Lib.hid (kept_below (v := v) HV.out.ways hB1)
  obtain ⟨pa, cap, rfl, hmx, _⟩ := hv.sols
  have HLB := Lib.hid (show isLockB ms s = (decide (s ≠ 0) && decide (readyF ms (andN (allN ms.length) s) = 0)) from rfl)
  have HAL := Lib.hid (fun W => all_ok pa ms.length cap (by omega) W)
  have HWO := Lib.hid (fun W => without_ok (allN ms.length) s (allN_lt (by omega)) hs W)
  have hg := andN16 (t := s) (allN_lt (n := ms.length) (by omega))
  have HRD := Lib.hid (fun W (hsz : w.heap.size ≤ W.heap.size) (h : Mld W (.slice pa ms.length cap) b ms av) => ready_ok ms (andN (allN ms.length) s) (.slice pa ms.length cap) b W HM.out h12 hg av (fun k hk => Nat.lt_of_lt_of_le (hav k hk) hsz) h)
  have HV1 := Lib.hid (HV.out.kept HK1.out)
  have HW1 := Lib.hid HV1.out.ways
  have hCd : Kept b (.slice pa ms.length cap) ms av W1 W1.drew := kept_below HV1.out.ways (Below.drew (Below.refl _ _))
  have HSZ := Lib.hid hB1.size
  generalize readyF ms (andN (allN ms.length) s) = rd at *
  by_cases h0 : s = 0
  · have hz : ((s : Int) != 0) = false := by rw [h0]; rfl
    have HR := Lib.hid (show isLockB ms s = false by rw [HLB.out, decide_eq_false (by simpa using h0)]; rfl)
    clear hv hB1 hm h0
    go_enter Tryz.func128, Tryz.ntmps128
    go_wp2_with fail
    rw [← hW1, ← hA]
    clear hW1 hA
    refine wp_region_relR (fun (iR : Nat) (v : Value) (W : World) => match iR with | 0 => v = setV s | 1 => v = .bool false | 2 => v = .bool false | 3 => True | 4 => True | 5 => True | 6 => True | 7 => True | 8 => True | 9 => True | 10 => True | 11 => v = .bool false | _ => v = .bool false) (fun W => Kept b (.slice pa ms.length cap) ms av W1 W) (fun X Y => Kept b (.slice pa ms.length cap) ms av X Y) (by kernel_rfl) (by kernel_rfl) (by kernel_rfl) hCd (by kernel_rfl) ?hst ?hop ?hend
    case hst =>
      intro j v W W' hC hb hv
      rcases j with _ | _ | _ | _ | _ | _ | _ | _ | _ | _ | _ | _ | _ | j
      all_goals exact hv
    case hop =>
      intro iR o ho a' W hC hin hfix
      have sl1 : a'.tmps[1]? = some (setV s) := hfix 1 (by kernel_rfl)
      have hi : iR < 13 := (Array.getElem?_eq_some_iff.1 ho).1
      rcases (show iR = 0 ∨ iR = 1 ∨ iR = 2 ∨ iR = 3 ∨ iR = 4 ∨ iR = 5 ∨ iR = 6 ∨ iR = 7 ∨ iR = 8 ∨ iR = 9 ∨ iR = 10 ∨ iR = 11 ∨ iR = 12 by omega) with rfl | rfl | rfl | rfl | rfl | rfl | rfl | rfl | rfl | rfl | rfl | rfl | rfl
      · obtain rfl := Option.some.inj ho
        refine .inl ⟨rfl, fun K hK => ?_⟩
        clear hin hfix ho
        go_simp
        exact hK _ _ rfl hC (kept_refl hC)
      · obtain ⟨v0, rfl, h0⟩ := hin 0 5 (by kernel_rfl) (by kernel_rfl)
        obtain rfl := Option.some.inj ho
        refine .inl ⟨rfl, fun K hK => ?_⟩
        clear hin hfix ho
        go_simp
        exact hK _ _ rfl hC (kept_refl hC)
      · obtain ⟨v1, rfl, h1⟩ := hin 1 6 (by kernel_rfl) (by kernel_rfl)
        obtain rfl := Option.some.inj ho
        refine .inl ⟨rfl, fun K hK => ?_⟩
        clear hin hfix ho
        go_simp
        exact hK _ _ rfl hC (kept_refl hC)
      · obtain ⟨v2, rfl, h2⟩ := hin 2 7 (by kernel_rfl) (by kernel_rfl)
        obtain rfl := Option.some.inj ho
        exact .inr ⟨unwanted_at (j := 2) (t := 7) rfl (by kernel_rfl) h2, trivial⟩
      · obtain ⟨v2, rfl, h2⟩ := hin 2 7 (by kernel_rfl) (by kernel_rfl)
        obtain rfl := Option.some.inj ho
        exact .inr ⟨unwanted_at (j := 2) (t := 7) rfl (by kernel_rfl) h2, trivial⟩
      · obtain ⟨v2, rfl, h2⟩ := hin 2 7 (by kernel_rfl) (by kernel_rfl)
        obtain rfl := Option.some.inj ho
        exact .inr ⟨unwanted_at (j := 2) (t := 7) rfl (by kernel_rfl) h2, trivial⟩
      · obtain ⟨v2, rfl, h2⟩ := hin 2 7 (by kernel_rfl) (by kernel_rfl)
        obtain rfl := Option.some.inj ho
        exact .inr ⟨unwanted_at (j := 2) (t := 7) rfl (by kernel_rfl) h2, trivial⟩
      · obtain ⟨v2, rfl, h2⟩ := hin 2 7 (by kernel_rfl) (by kernel_rfl)
        obtain rfl := Option.some.inj ho
        exact .inr ⟨unwanted_at (j := 2) (t := 7) rfl (by kernel_rfl) h2, trivial⟩
      · obtain ⟨v2, rfl, h2⟩ := hin 2 7 (by kernel_rfl) (by kernel_rfl)
        obtain rfl := Option.some.inj ho
        exact .inr ⟨unwanted_at (j := 2) (t := 7) rfl (by kernel_rfl) h2, trivial⟩
      · obtain ⟨v2, rfl, h2⟩ := hin 2 7 (by kernel_rfl) (by kernel_rfl)
        obtain rfl := Option.some.inj ho
        exact .inr ⟨unwanted_at (j := 2) (t := 7) rfl (by kernel_rfl) h2, trivial⟩
      · obtain ⟨v2, rfl, h2⟩ := hin 2 7 (by kernel_rfl) (by kernel_rfl)
        obtain rfl := Option.some.inj ho
        exact .inr ⟨unwanted_at (j := 2) (t := 7) rfl (by kernel_rfl) h2, trivial⟩
      · obtain ⟨v2, rfl, h2⟩ := hin 2 7 (by kernel_rfl) (by kernel_rfl)
        obtain rfl := Option.some.inj ho
        refine .inl ⟨rfl, fun K hK => ?_⟩
        clear hin hfix ho
        go_simp
        exact hK _ _ rfl hC (kept_refl hC)
      · obtain ⟨v11, rfl, h11⟩ := hin 11 16 (by kernel_rfl) (by kernel_rfl)
        obtain rfl := Option.some.inj ho
        refine .inl ⟨rfl, fun K hK => ?_⟩
        clear hin hfix ho
        go_simp
        exact hK _ _ rfl hC (kept_refl hC)
    case hend =>
    intro vals W hC hV
    have z0 := hV 0 (by decide)
    have z1 := hV 1 (by decide)
    have z2 := hV 2 (by decide)
    have z11 := hV 11 (by decide)
    have z12 := hV 12 (by decide)
    clear hV
    simp only at z0 z1 z2 z11 z12
    have hr : List.range 13 = [0, 1, 2, 3, 4, 5, 6, 7, 8, 9, 10, 11, 12] := rfl
    simp only [List.size_toArray, List.length_cons, List.length_nil, Nat.reduceAdd, List.drop_succ_cons, List.drop_zero, putA, hr, List.foldl_cons, List.foldl_nil, dstR, List.getElem?_toArray, List.getElem?_cons_succ, List.getElem?_cons_zero, Option.bind_some, Act.put, List.setIfInBounds_toArray, List.set_cons_succ, List.set_cons_zero, z0, z1, z2, z11, z12]
    clear hr z0 z1 z2 z11 z12
    go_wp2
    go_ret
    exact ⟨by rw [HR.out]; rfl, kept_trans HK1.out hC⟩
  · have hz : ((s : Int) != 0) = true := by simpa using h0
    have HR := Lib.hid (show isLockB ms s = decide (rd = 0) by rw [HLB.out, decide_eq_true (by simpa using h0)]; rfl)
    have HE := Lib.hid (show ((rd : Int) == 0) = decide (rd = 0) by rw [Bool.eq_iff_iff, beq_iff_eq, decide_eq_true_eq]; omega)
    clear hv hB1 hm h0
    go_enter Tryz.func128, Tryz.ntmps128
    go_wp2_with fail
    rw [← hW1, ← hA]
    clear hW1 hA
    refine wp_region_relR (fun (iR : Nat) (v : Value) (W : World) => match iR with | 0 => v = setV s | 1 => v = .bool true | 2 => v = .bool true | 3 => v = .agg #[.slice pa ms.length cap, .map (some b)] | 4 => v = .pointer (some ⟨A, 0, none⟩) | 5 => v = .slice pa ms.length cap | 6 => v = setV (allN ms.length) | 7 => v = setV s | 8 => v = setV (andN (allN ms.length) s) | 9 => v = setV rd | 10 => v = .bool (decide (rd = 0)) | 11 => v = .bool (decide (rd = 0)) | _ => v = .bool (decide (rd = 0))) (fun W => Kept b (.slice pa ms.length cap) ms av W1 W) (fun X Y => Kept b (.slice pa ms.length cap) ms av X Y) (by kernel_rfl) (by kernel_rfl) (by kernel_rfl) hCd (by kernel_rfl) ?hst ?hop ?hend
    case hst =>
      intro j v W W' hC hb hv
      rcases j with _ | _ | _ | _ | _ | _ | _ | _ | _ | _ | _ | _ | _ | j
      all_goals exact hv
    case hop =>
      intro iR o ho a' W hC hin hfix
      have q3 := kept_cells hC m1 HW1.out
      have c0 := cells4 q3 0 _ rfl
      have c1 := cells4 q3 1 _ rfl
      have sl1 : a'.tmps[1]? = some (setV s) := hfix 1 (by kernel_rfl)
      have sl2 : a'.tmps[2]? = some (.pointer (some ⟨A, 0, none⟩)) := hfix 2 (by kernel_rfl)
      have hi : iR < 13 := (Array.getElem?_eq_some_iff.1 ho).1
      rcases (show iR = 0 ∨ iR = 1 ∨ iR = 2 ∨ iR = 3 ∨ iR = 4 ∨ iR = 5 ∨ iR = 6 ∨ iR = 7 ∨ iR = 8 ∨ iR = 9 ∨ iR = 10 ∨ iR = 11 ∨ iR = 12 by omega) with rfl | rfl | rfl | rfl | rfl | rfl | rfl | rfl | rfl | rfl | rfl | rfl | rfl
      · obtain rfl := Option.some.inj ho
        refine .inl ⟨rfl, fun K hK => ?_⟩
        clear hin hfix ho
        go_simp
        exact hK _ _ rfl hC (kept_refl hC)
      · obtain ⟨v0, rfl, h0⟩ := hin 0 5 (by kernel_rfl) (by kernel_rfl)
        obtain rfl := Option.some.inj ho
        refine .inl ⟨rfl, fun K hK => ?_⟩
        clear hin hfix ho
        go_simp
        exact hK _ _ rfl hC (kept_refl hC)
      · obtain ⟨v1, rfl, h1⟩ := hin 1 6 (by kernel_rfl) (by kernel_rfl)
        obtain rfl := Option.some.inj ho
        refine .inl ⟨rfl, fun K hK => ?_⟩
        clear hin hfix ho
        go_simp
        exact hK _ _ rfl hC (kept_refl hC)
      · obtain ⟨v2, rfl, h2⟩ := hin 2 7 (by kernel_rfl) (by kernel_rfl)
        obtain rfl := Option.some.inj ho
        refine .inl ⟨wanted_at (j := 2) (t := 7) rfl (by kernel_rfl) h2, fun K hK => ?_⟩
        clear hin hfix ho
        go_simp
        exact hK _ _ rfl hC (kept_refl hC)
      · obtain ⟨v2, rfl, h2⟩ := hin 2 7 (by kernel_rfl) (by kernel_rfl)
        obtain rfl := Option.some.inj ho
        refine .inl ⟨wanted_at (j := 2) (t := 7) rfl (by kernel_rfl) h2, fun K hK => ?_⟩
        clear hin hfix ho
        go_simp
        exact hK _ _ rfl hC (kept_refl hC)
      · obtain ⟨v4, rfl, h4⟩ := hin 4 9 (by kernel_rfl) (by kernel_rfl)
        obtain ⟨v2, rfl, h2⟩ := hin 2 7 (by kernel_rfl) (by kernel_rfl)
        obtain rfl := Option.some.inj ho
        refine .inl ⟨wanted_at (j := 2) (t := 7) rfl (by kernel_rfl) h2, fun K hK => ?_⟩
        clear hin hfix ho
        go_simp
        exact hK _ _ rfl hC (kept_refl hC)
      · obtain ⟨v5, rfl, h5⟩ := hin 5 10 (by kernel_rfl) (by kernel_rfl)
        obtain ⟨v2, rfl, h2⟩ := hin 2 7 (by kernel_rfl) (by kernel_rfl)
        obtain rfl := Option.some.inj ho
        refine .inl ⟨wanted_at (j := 2) (t := 7) rfl (by kernel_rfl) h2, fun K hK => ?_⟩
        clear hin hfix ho
        go_simp
        refine (HAL.out _).mono ?_
        rintro e W3 ⟨rfl, hb3⟩
        exact hK _ _ rfl (kept_trans hC (kept_below hC.2 hb3)) (kept_below hC.2 hb3)
      · obtain ⟨v2, rfl, h2⟩ := hin 2 7 (by kernel_rfl) (by kernel_rfl)
        obtain rfl := Option.some.inj ho
        refine .inl ⟨wanted_at (j := 2) (t := 7) rfl (by kernel_rfl) h2, fun K hK => ?_⟩
        clear hin hfix ho
        go_simp
        exact hK _ _ rfl hC (kept_refl hC)
      · obtain ⟨v6, rfl, h6⟩ := hin 6 11 (by kernel_rfl) (by kernel_rfl)
        obtain ⟨v7, rfl, h7⟩ := hin 7 12 (by kernel_rfl) (by kernel_rfl)
        obtain ⟨v2, rfl, h2⟩ := hin 2 7 (by kernel_rfl) (by kernel_rfl)
        obtain rfl := Option.some.inj ho
        refine .inl ⟨wanted_at (j := 2) (t := 7) rfl (by kernel_rfl) h2, fun K hK => ?_⟩
        clear hin hfix ho
        go_simp
        refine (HWO.out _).mono ?_
        rintro e W3 ⟨rfl, hb3⟩
        exact hK _ _ rfl (kept_trans hC (kept_below hC.2 hb3)) (kept_below hC.2 hb3)
      · obtain ⟨v3, rfl, h3⟩ := hin 3 8 (by kernel_rfl) (by kernel_rfl)
        obtain ⟨v8, rfl, h8⟩ := hin 8 13 (by kernel_rfl) (by kernel_rfl)
        obtain ⟨v2, rfl, h2⟩ := hin 2 7 (by kernel_rfl) (by kernel_rfl)
        obtain rfl := Option.some.inj ho
        refine .inl ⟨wanted_at (j := 2) (t := 7) rfl (by kernel_rfl) h2, fun K hK => ?_⟩
        clear hin hfix ho
        go_simp
        refine (HRD.out _ (Nat.le_trans HSZ.out hC.1.size) (HV1.out.kept hC)).mono ?_
        rintro e W3 ⟨rfl, hk3⟩
        exact hK _ _ rfl (kept_trans hC hk3) hk3
      · obtain ⟨v9, rfl, h9⟩ := hin 9 14 (by kernel_rfl) (by kernel_rfl)
        obtain ⟨v2, rfl, h2⟩ := hin 2 7 (by kernel_rfl) (by kernel_rfl)
        obtain rfl := Option.some.inj ho
        refine .inl ⟨wanted_at (j := 2) (t := 7) rfl (by kernel_rfl) h2, fun K hK => ?_⟩
        clear hin hfix ho
        have he := HE.out
        go_simp
        exact hK _ _ rfl hC (kept_refl hC)
      · obtain ⟨v2, rfl, h2⟩ := hin 2 7 (by kernel_rfl) (by kernel_rfl)
        obtain ⟨v10, rfl, h10⟩ := hin 10 15 (by kernel_rfl) (by kernel_rfl)
        obtain rfl := Option.some.inj ho
        refine .inl ⟨rfl, fun K hK => ?_⟩
        clear hin hfix ho
        go_simp
        exact hK _ _ rfl hC (kept_refl hC)
      · obtain ⟨v11, rfl, h11⟩ := hin 11 16 (by kernel_rfl) (by kernel_rfl)
        obtain rfl := Option.some.inj ho
        refine .inl ⟨rfl, fun K hK => ?_⟩
        clear hin hfix ho
        go_simp
        exact hK _ _ rfl hC (kept_refl hC)
    case hend =>
    intro vals W hC hV
    have z0 := hV 0 (by decide)
    have z1 := hV 1 (by decide)
    have z2 := hV 2 (by decide)
    have z3 := hV 3 (by decide)
    have z4 := hV 4 (by decide)
    have z5 := hV 5 (by decide)
    have z6 := hV 6 (by decide)
    have z7 := hV 7 (by decide)
    have z8 := hV 8 (by decide)
    have z9 := hV 9 (by decide)
    have z10 := hV 10 (by decide)
    have z11 := hV 11 (by decide)
    have z12 := hV 12 (by decide)
    clear hV
    simp only at z0 z1 z2 z3 z4 z5 z6 z7 z8 z9 z10 z11 z12
    have hr : List.range 13 = [0, 1, 2, 3, 4, 5, 6, 7, 8, 9, 10, 11, 12] := rfl
    simp only [List.size_toArray, List.length_cons, List.length_nil, Nat.reduceAdd, List.drop_succ_cons, List.drop_zero, putA, hr, List.foldl_cons, List.foldl_nil, dstR, List.getElem?_toArray, List.getElem?_cons_succ, List.getElem?_cons_zero, Option.bind_some, Act.put, List.setIfInBounds_toArray, List.set_cons_succ, List.set_cons_zero, z0, z1, z2, z3, z4, z5, z6, z7, z8, z9, z10, z11, z12]
    clear hr z0 z1 z2 z3 z4 z5 z6 z7 z8 z9 z10 z11 z12
    go_wp2
    go_ret
    exact ⟨by rw [HR.out]; rfl, kept_trans HK1.out hC⟩
end Go.Proofs.YtoajocgfmbakjaaGreatDoor
/-
  InWay.
-/
set_option linter.unusedVariables false
set_option linter.unusedSimpArgs false
namespace Go.Proofs.YtoajocgfmbakjaaGreatDoor
open Go Go.RowKit Go.Shelf

def inWayE (ms : List Sol) (m : Mo) : Int := if chkM ms = 0 then (if moveB ms.length m.1 m.2.1 m.2.2 = true then 0 else 1) else chkM ms
/-- The way of a move, if it is one and free of sand. -/
def inWayF (ms : List Sol) (m : Mo) : Option Nat := if inWayE ms m = 0 then (match ms[m.1.toNat]? with | some f => wayF ms m.1.toNat f (m.2.1.toNat, m.2.2.toNat) | none => none) else none
def inWayL (ms : List Sol) (m : Mo) : List Nat := listS ((inWayF ms m).getD 0)
theorem wayV_agg (p : Nat) (x : SD) (o : Option Nat) : ∃ a b c : Int, wayV p x o = .agg #[.int .i64 a, .int .i64 b, .int .i64 c, .int .u16 ((o.getD 0 : Nat) : Int)] := by
  cases o with
  | none => exact ⟨_, _, _, rfl⟩
  | some q => exact ⟨_, _, _, rfl⟩
theorem listS_zero : listS 0 = [] := rfl
set_option maxRecDepth 100000 in
set_option maxHeartbeats 4000000 in
theorem inWay_ok (ms : List Sol) (p s far : Int) (v : Value) (w : World) (hv : SolsAt w v ms) (hm : ∀ m ∈ ms, Fit m) (hT : Tab32 w) :
    Calls Tryz.prog 32 #[v, .agg #[.int .i64 (p), .int .i64 (s), .int .i64 (far)]] w fun e w' => (∃ u, e = .returned (.tuple #[u, .bool (inWayF ms (p, s, far)).isSome, .int .i64 (inWayE ms (p, s, far))]) ∧ w'.ownsRow w.heap.size 3 1 u (inWayL ms (p, s, far)).length (flatI (inWayL ms (p, s, far))) ∧ (u = .slice none 0 0 ↔ inWayL ms (p, s, far) = [])) ∧ Below w.heap.size w w' := by
  have b0 : BoxM (w.alloc (.cells #[.int .i64 (p), .int .i64 (s), .int .i64 (far)] 40)) w.heap.size p s far := World.alloc_heap_new w _
  have hB0 : Below w.heap.size w (w.alloc (.cells #[.int .i64 (p), .int .i64 (s), .int .i64 (far)] 40)) := (Below.refl _ w).alloc (Nat.le_refl _) _
  have HT := Lib.hid hT
  clear hT
  by_cases hc : chkM ms = 0
  · have HY := Lib.hid (look_yes ms v (w.alloc (.cells #[.int .i64 (p), .int .i64 (s), .int .i64 (far)] 40)) (hv.below hB0 (Nat.le_refl _)) hm hc)
    have h12 := chkM_len hc
    have HM := Lib.hid hm
    have HE := Lib.hid (show inWayE ms (p, s, far) = if moveB ms.length p s far = true then 0 else 1 from if_pos hc)
    have HF := Lib.hid (show inWayF ms (p, s, far) = if inWayE ms (p, s, far) = 0 then (match ms[p.toNat]? with | some f => wayF ms p.toNat f (s.toNat, far.toNat) | none => none) else none from rfl)
    have HL := Lib.hid (show inWayL ms (p, s, far) = listS ((inWayF ms (p, s, far)).getD 0) from rfl)
    obtain ⟨E, hE⟩ : ∃ E, E = inWayE ms (p, s, far) := ⟨_, rfl⟩
    obtain ⟨F, hF⟩ : ∃ F, F = inWayF ms (p, s, far) := ⟨_, rfl⟩
    obtain ⟨L, hL⟩ : ∃ L, L = inWayL ms (p, s, far) := ⟨_, rfl⟩
    rw [← hE] at HE HF ⊢
    rw [← hF] at HF HL ⊢
    rw [← hL] at HL ⊢
    obtain ⟨pa, cap, rfl, _, _⟩ := hv
    clear hm hc hE hF hL
    go_enter Tryz.func32, Tryz.ntmps32
    go_wp2_with fail
    refine HY.out.mono ?_
    rintro e w1 ⟨b, rfl, hb, hM1, hB1⟩
    have b1 := heap_below b0 hB1 (Array.getElem?_eq_some_iff.1 b0).1
    have hBw := up hB1 hB0
    have q2 : (w1.alloc (.cells #[.slice pa ms.length cap, .map (some b)] 101)).heap[w1.heap.size]? = some (.cells #[.slice pa ms.length cap, .map (some b)] 101 (0, 0)) := World.alloc_heap_new w1 _
    have hA := (Below.refl _ w1).alloc (Nat.le_refl _) (.cells #[.slice pa ms.length cap, .map (some b)] 101)
    have b2 := heap_below b1 hA (Array.getElem?_eq_some_iff.1 b1).1
    have HB2 := Lib.hid (hBw.trans (hA.mono hBw.size))
    have HM2 := Lib.hid (hM1.below hA)
    have HBB := Lib.hid (show w.heap.size ≤ b by rw [World.size_alloc] at hb; omega)
    have HIM := Lib.hid (fun W => isMove_ok pa ms.length cap p s far W)
    have c0 := cells4 q2 0 _ rfl
    obtain ⟨x0, x1, x2⟩ := cells3 b2
    clear b0 hB0 b1 hBw hA hM1 hB1 hb
    go_wp2_with fail
    refine (HIM.out _).mono ?_
    rintro e w3 ⟨rfl, hb3⟩
    have b3 := heap_below b2 hb3 (Array.getElem?_eq_some_iff.1 b2).1
    have q3 := heap_below q2 hb3 (Array.getElem?_eq_some_iff.1 q2).1
    have HM3 := Lib.hid (HM2.out.below hb3)
    have HB3 := Lib.hid (up hb3 HB2.out)
    clear c0 x0 x1 x2 b2 q2 hb3
    cases hmv : moveB ms.length p s far with
    | false =>
      have HE1 := Lib.hid (show E = 1 by rw [HE.out, hmv]; rfl)
      have HF1 := Lib.hid (show F = none by rw [HF.out, HE1.out]; rfl)
      have HL1 := Lib.hid (show L = [] by rw [HL.out, HF1.out]; rfl)
      clear HE HF HL
      go_wp2_with fail
      go_returns
      rw [HE1.out, HF1.out, HL1.out]
      exact ⟨⟨_, rfl, World.ownsRow_nil _ _ _ _, by simp⟩, HB3.out⟩
    | true =>
      obtain ⟨p', x, rfl, rfl, rfl, hp', ht, hx⟩ := moveB_ok hmv
      obtain ⟨f, hf⟩ : ∃ f, ms[p']? = some f := ⟨_, List.getElem?_eq_getElem hp'⟩
      have HE1 := Lib.hid (show E = 0 by rw [HE.out, hmv]; rfl)
      have HF1 := Lib.hid (show F = wayF ms p' f x by rw [HF.out, HE1.out, ht, hx, hf]; rfl)
      have HWO := Lib.hid (fun W (h : Mld W (.slice pa ms.length cap) b ms noBlk) => wayOf_ok ms p' x f (.slice pa ms.length cap) b W hf HM.out h12 noBlk (fun _ h => h.elim) h)
      have hq : ∀ q, wayF ms p' f x = some q → q < 65536 := fun q h => wayK_lt (by omega) h
      have hF16 : F.getD 0 < 65536 := by
        rw [HF1.out]
        cases hw : wayF ms p' f x with
        | none => simp
        | some q => exact hq q hw
      rw [← HF1.out] at HWO
      clear HE HF hf ht hx hmv hq
      have c0 := cells4 q3 0 _ rfl
      have c1 := cells4 q3 1 _ rfl
      obtain ⟨x0, x1, x2⟩ := cells3 b3
      go_wp2_with fail
      refine (HWO.out _ HM3.out).mono ?_
      rintro e w5 ⟨rfl, hk5⟩
      have HB5 := Lib.hid (kept_out hk5 HBB.out HB3.out)
      obtain ⟨a1, a2, a3, ha⟩ := wayV_agg p' x F
      rw [ha]
      clear c0 c1 x0 x1 x2 hk5 ha b3 q3
      have q6 : (w5.alloc (.cells #[.int .i64 a1, .int .i64 a2, .int .i64 a3, .int .u16 ((F.getD 0 : Nat) : Int)] 108)).heap[w5.heap.size]? = some (.cells #[.int .i64 a1, .int .i64 a2, .int .i64 a3, .int .u16 ((F.getD 0 : Nat) : Int)] 108 (0, 0)) := World.alloc_heap_new w5 _
      have y3 := cells4 q6 3 _ rfl
      have HB6 := Lib.hid (HB5.out.alloc HB5.out.size (.cells #[.int .i64 a1, .int .i64 a2, .int .i64 a3, .int .u16 ((F.getD 0 : Nat) : Int)] 108))
      have HLI := Lib.hid (list_ok (F.getD 0) _ hF16 (HT.out.below HB6.out (Nat.le_refl _)))
      go_wp2_with fail
      refine HLI.out.mono ?_
      rintro e w7 ⟨⟨u, rfl, hrow, hnil⟩, hb7⟩
      go_wp2
      go_returns
      rw [HL.out, HE1.out]
      exact ⟨⟨u, rfl, row_base hrow HB6.out.size, hnil⟩, up hb7 HB6.out⟩
  · have HN := Lib.hid (look_no ms v (w.alloc (.cells #[.int .i64 (p), .int .i64 (s), .int .i64 (far)] 40)) (hv.below hB0 (Nat.le_refl _)) hm hc)
    have HE := Lib.hid (show inWayE ms (p, s, far) = chkM ms from if_neg hc)
    have HF := Lib.hid (show inWayF ms (p, s, far) = none by unfold inWayF; rw [HE.out, if_neg hc])
    have HL := Lib.hid (show inWayL ms (p, s, far) = [] by unfold inWayL; rw [HF.out]; rfl)
    rw [HE.out, HF.out, HL.out]
    obtain ⟨c, hcc⟩ : ∃ c, c = chkM ms := ⟨_, rfl⟩
    rw [← hcc] at HN hc ⊢
    have hne : (c != 0) = true := by simpa using hc
    clear hcc hc hm HE HF HL
    go_enter Tryz.func32, Tryz.ntmps32
    go_wp2_with fail
    refine HN.out.mono ?_
    rintro e w1 ⟨rfl, hB1⟩
    have hBw := up hB1 hB0
    go_wp2
    go_returns
    exact ⟨⟨_, rfl, World.ownsRow_nil _ _ _ _, by simp⟩, hBw.alloc hBw.size _⟩
end Go.Proofs.YtoajocgfmbakjaaGreatDoor
