/-
  The way of a move.
-/
import Derived.Test.YtoajocgfmbakjaaGreatDoorPaF
set_option linter.unusedVariables false
set_option linter.unusedSimpArgs false
namespace Go.Proofs.YtoajocgfmbakjaaGreatDoor
open Go Go.RowKit Go.Shelf

/-- The world behind a store of a way. -/
abbrev put4 (W : World) (B : Nat) (x y z u : Value) : World := (((W.setCell ⟨B, 0, none⟩ x).setCell ⟨B, 1, none⟩ y).setCell ⟨B, 2, none⟩ z).setCell ⟨B, 3, none⟩ u
theorem blk4_set {W : World} {B : Nat} {a b c d : Value} {T : TypeId} (h : W.heap[B]? = some (.cells #[a, b, c, d] T (0, 0))) (x y z u : Value) : (put4 W B x y z u).heap[B]? = some (.cells #[x, y, z, u] T (0, 0)) := by
  have one : ∀ {V : World} {cs : Array Value} (k : Nat) (v : Value), V.heap[B]? = some (.cells cs T (0, 0)) → (V.setCell ⟨B, k, none⟩ v).heap[B]? = some (.cells (cs.set! k v) T (0, 0)) := fun {V cs} k v hV => by
    obtain ⟨hlt, he⟩ := Array.getElem?_eq_some_iff.1 hV
    show (V.heap.modify B _)[B]? = _
    rw [Array.getElem?_eq_getElem (by rw [Array.size_modify]; exact hlt), Array.getElem_modify_self, he]
    rfl
  exact one 3 u (one 2 z (one 1 y (one 0 x h)))
theorem put4_grown (W : World) (B : Nat) (x y z u : Value) : W.grownBy (put4 W B x y z u) (some B) :=
  ⟨rfl, rfl, rfl, by simp, fun i _ hne => by
    have h : i ≠ B := fun e => hne (by rw [e])
    exact (((Below.heap_setCell _ ⟨B, 3, none⟩ u i h).trans (Below.heap_setCell _ ⟨B, 2, none⟩ z i h)).trans (Below.heap_setCell _ ⟨B, 1, none⟩ y i h)).trans (Below.heap_setCell W ⟨B, 0, none⟩ x i h)⟩
theorem cells4 {W : World} {B : Nat} {cs : Array Value} {T : TypeId} (h : W.heap[B]? = some (.cells cs T (0, 0))) (k : Nat) (u : Value) (hu : cs[k]? = some u) : W.cell? ⟨B, k, none⟩ = some u := by
  unfold World.cell?
  rw [h]
  exact hu
theorem kept_imp {b : Nat} {v : Value} {ms : List Sol} {av av' : Nat → Prop} {n : Nat} {w w' : World} (h : Kept b v ms av' w w') (e : av' = fun k => av k ∨ k = n) : Kept b v ms av w w' :=
  ⟨h.1, h.2.imp fun k hk => .inl (by rw [e]; exact .inl hk)⟩
set_option maxRecDepth 100000 in
set_option maxHeartbeats 2000000 in
theorem wayOf_ok (ms : List Sol) (p : Nat) (x : SD) (f : Sol) (v : Value) (b : Nat) (w : World) (hf : ms[p]? = some f) (hm : ∀ m ∈ ms, Fit m) (h12 : ms.length ≤ 12) (av : Nat → Prop) (hav : ∀ k, av k → k < w.heap.size) (hv : Mld w v b ms av) :
    Calls Tryz.prog 91 #[mldV v b, .agg #[.int .i64 (p), .int .i64 (x.1), .int .i64 (x.2)]] w (RetK (.tuple #[wayV p x (wayF ms p f x), .bool (wayF ms p f x).isSome]) b v ms av w) := by
  have HM := Lib.hid hm
  have HF := Lib.hid hf
  have HV := Lib.hid hv
  have lb := hv.ways.lt
  clear hm hf
  obtain ⟨A, hA⟩ : ∃ A, A = w.heap.size := ⟨_, rfl⟩
  obtain ⟨W1, hW1⟩ : ∃ W1, W1 = ((w.alloc (.cells #[v, .map (some b)] 101)).alloc (.cells #[.int .i64 (p), .int .i64 (x.1), .int .i64 (x.2)] 40)).alloc (.cells #[.int .i64 0, .int .i64 0, .int .i64 0, .int .u16 0] 108) := ⟨_, rfl⟩
  have hB1 : Below w.heap.size w W1 := by rw [hW1]; exact (((Below.refl _ w).alloc (Nat.le_refl _) _).alloc (by simp) _).alloc (by simp; omega) _
  have n1 : BoxM W1 (A + 1) p x.1 x.2 := by
    rw [hW1, hA]; refine (Below.heap_alloc _ _ _ (by simp)).trans ?_
    have := World.alloc_heap_new (w.alloc (.cells #[v, .map (some b)] 101)) (.cells #[.int .i64 (p), .int .i64 (x.1), .int .i64 (x.2)] 40); rwa [World.size_alloc] at this
  have r1 : W1.heap[A + 1 + 1]? = some (.cells #[.int .i64 0, .int .i64 0, .int .i64 0, .int .u16 0] 108 (0, 0)) := by
    rw [hW1, hA]; have := World.alloc_heap_new ((w.alloc (.cells #[v, .map (some b)] 101)).alloc (.cells #[.int .i64 (p), .int .i64 (x.1), .int .i64 (x.2)] 40)) (.cells #[.int .i64 0, .int .i64 0, .int .i64 0, .int .u16 0] 108); rwa [World.size_alloc, World.size_alloc] at this
  have z1 : W1.heap.size = A + 1 + 1 + 1 := by rw [hW1, hA]; simp
  obtain ⟨av', hav'⟩ : ∃ av' : Nat → Prop, av' = fun k => av k ∨ k = A + 1 + 1 := ⟨_, rfl⟩
  have hva : ∀ k, av' k → k < W1.heap.size := fun k hk => by
    rw [hav'] at hk
    rcases hk with hk | hk
    · have := hav k hk; omega
    · omega
  have HV' : Mld w v b ms av' := ⟨HV.out.sols, HV.out.ways.imp fun k hk => by
    rw [hav'] at hk
    rcases hk with hk | hk
    · exact .inl hk
    · right; omega⟩
  have hK1 := kept_below (v := v) HV'.ways hB1
  have hV1 := HV'.kept hK1
  have H0 := waysOf_ok ms p f v b W1 HF.out HM.out h12 hV1.sols av' hva hV1.ways
  rw [hW1] at H0
  have HWO := Lib.hid H0
  clear H0 hV1
  obtain ⟨pa, cap, rfl, hmx, _⟩ := hv.sols
  have HAA := Lib.hid hav'
  have HA2 := Lib.hid (show av' (A + 1 + 1) by rw [hav']; exact .inr rfl)
  have HZ1 := Lib.hid z1
  clear hav' z1 hva
  go_enter Tryz.func91, Tryz.ntmps91
  go_wp2_with fail
  refine (HWO.out).mono ?_
  rw [← hW1, ← hA]
  rintro e w2 ⟨⟨r, rfl, hR, _, hW2⟩, hg2⟩
  have hK2 : Kept b (.slice pa ms.length cap) ms av' W1 w2 := ⟨hg2, hW2⟩
  have r2 := kept_cells hK2 r1 (HV'.kept hK1).ways
  have n2 := kept_cells hK2 n1 (HV'.kept hK1).ways
  have hK := kept_trans hK1 hK2
  obtain ⟨L, hL⟩ : ∃ L, L = waysL ms p f := ⟨_, rfl⟩
  rw [← hL] at hR
  obtain ⟨pr, cr, rfl, hlm⟩ := rowW_shape hR
  have HL := Lib.hid (show wayF ms p f x = wayK x L by rw [hL]; rfl)
  rw [HL.out]
  have HRW := Lib.hid hR
  have hq16 : ∀ y ∈ L, y.2 < 65536 := by rw [hL]; exact waysL_lt ms p f (by omega)
  have hl29 : L.length ≤ 29 := by rw [hL]; exact waysL_len ms p f
  have HK := Lib.hid hK
  have lA : A + 1 + 1 < w2.heap.size := (Array.getElem?_eq_some_iff.1 r2).1
  have HLA := Lib.hid (show w.heap.size ≤ A + 1 + 1 by omega)
  have HA := Lib.hid hA
  clear hA hW1 hB1 r1 n1 HV' hK1 hK2 hK hg2 hW2 hR hv HWO
  clear hL
  go_wp2_with fail
  go_loopw [13] (fun z wr => ∃ i : Nat, i ≤ L.length ∧ z = .int .i64 i ∧ Hid (wayK x L = wayK x (L.drop i)) ∧ BoxM wr (A + 1) p x.1 x.2 ∧ wr.heap[A + 1 + 1]? = some (.cells #[.int .i64 0, .int .i64 0, .int .i64 0, .int .u16 0] 108 (0, 0)) ∧ Hid (Below w2.heap.size w2 wr)) (fun z _ => L.length - (intOf z).toNat)
  case atStart => exact ⟨0, by omega, rfl, Lib.hid rfl, n2, r2, Lib.hid (Below.refl _ _)⟩
  case round =>
    clear r2 n2
    obtain ⟨i, hi, rfl, HT, n3, r3, HB⟩ := hrel
    by_cases hlt : i < L.length
    · have di : decide ((i : Int) < (L.length : Int)) = true := decide_eq_true (by omega)
      have hii : (i : Int) < (L.length : Int) := by omega
      have hne : L ≠ [] := fun e => by rw [e] at hlt; cases hlt
      obtain ⟨y, hy⟩ : ∃ y, L[i]? = some y := ⟨_, List.getElem?_eq_getElem hlt⟩
      obtain ⟨g, cr', he, hgl, hlm', hat⟩ := rowW_at (HRW.out.below HB.out) hne
      obtain ⟨rfl, rfl⟩ : pr = some ⟨g, 0, none⟩ ∧ cr = cr' := by injection he with e1 e2 e3; exact ⟨e1, e3⟩
      obtain ⟨x0, x1, x2, x3⟩ := hat i y hy
      rw [Nat.add_zero] at x0
      obtain ⟨⟨ys, yf⟩, yq⟩ := y
      have hyq : yq < 65536 := hq16 _ (List.mem_of_getElem? hy)
      have HE := Lib.hid (show wayK x (L.drop i) = if (ys, yf) = x then some yq else wayK x (L.drop (i + 1)) by
        rw [List.drop_eq_getElem_cons hlt]
        have : L[i] = ((ys, yf), yq) := by rw [List.getElem?_eq_getElem hlt] at hy; exact Option.some.inj hy
        rw [this]; rfl)
      have hBa : Below w2.heap.size w2 (wr.alloc (.cells #[.int .i64 p, .int .i64 ys, .int .i64 yf, .int .u16 yq] 108)) := HB.out.alloc HB.out.size _
      have r4 := (Below.heap_alloc wr (.cells #[.int .i64 p, .int .i64 ys, .int .i64 yf, .int .u16 yq] 108) _ (Array.getElem?_eq_some_iff.1 r3).1).trans r3
      have n4 : BoxM (wr.alloc (.cells #[.int .i64 p, .int .i64 ys, .int .i64 yf, .int .u16 yq] 108)) (A + 1) p x.1 x.2 := (Below.heap_alloc wr _ _ (Array.getElem?_eq_some_iff.1 n3).1).trans n3
      have q4 : (wr.alloc (.cells #[.int .i64 p, .int .i64 ys, .int .i64 yf, .int .u16 yq] 108)).heap[wr.heap.size]? = some (.cells #[.int .i64 p, .int .i64 ys, .int .i64 yf, .int .u16 yq] 108 (0, 0)) := World.alloc_heap_new wr _
      have y0 := way_cells (x := (ys, yf)) q4 0 _ rfl
      have y1 := way_cells (x := (ys, yf)) q4 1 _ rfl
      have y2 := way_cells (x := (ys, yf)) q4 2 _ rfl
      have y3 := way_cells (x := (ys, yf)) q4 3 _ rfl
      obtain ⟨m0, m1, m2⟩ := BoxM.cells n4
      have f0 := free3 r4 0
      have f1 := free3 r4 1
      have f2 := free3 r4 2
      have f3 := free3 r4 3
      have w0 := cells4 r4 0 _ rfl
      have w1 := cells4 r4 1 _ rfl
      have w2' := cells4 r4 2 _ rfl
      have w3 := cells4 r4 3 _ rfl
      have HBA := Lib.hid hBa
      clear hat he hy r3 n3 hBa
      by_cases hx : (ys, yf) = x
      · have HR := Lib.hid (show wayK x L = some yq by rw [HT.out, HE.out, if_pos hx])
        subst hx
        dsimp only at m1 m2
        go_wp2_with fail
        have b6 := blk4_set r4 (.int .i64 p) (.int .i64 ys) (.int .i64 yf) (.int .u16 yq)
        refine bodyPost_ret (res_we Tryz.results91 rfl (cells4 b6 0 _ rfl) (cells4 b6 1 _ rfl) (cells4 b6 2 _ rfl) (cells4 b6 3 _ rfl)) rfl ⟨by rw [HL.out, HR.out]; rfl, ?_⟩
        exact kept_imp ((kept_trans HK.out (kept_below HK.out.2 HBA.out)).set HLA.out r4 (.inr HA2.out) (put4_grown _ _ _ _ _ _)) HAA.out
      · have HN := Lib.hid (show wayK x L = wayK x (L.drop (i + 1)) by rw [HT.out, HE.out, if_neg hx])
        have hxx : ¬ (ys = x.1 ∧ yf = x.2) := fun h => hx (Prod.ext h.1 h.2)
        clear hx HE w0 w1 w2' w3 f0 f1 f2 f3
        go_wp2_with fail
        all_goals first
          | exact ⟨⟨i + 1, by omega, by go_num, HN, n4, r4, HBA⟩, by simp [intOf]; omega⟩
          | (have e : ys = x.1 := by omega
             subst e
             exact ⟨⟨i + 1, by omega, by go_num, HN, n4, r4, HBA⟩, by simp [intOf]; omega⟩)
    · obtain rfl : i = L.length := by omega
      have di : decide ((L.length : Int) < (L.length : Int)) = false := decide_eq_false (by omega)
      have HR := Lib.hid (show wayK x L = none by rw [HT.out, List.drop_length]; rfl)
      have f0 := free3 r3 0
      have f1 := free3 r3 1
      have f2 := free3 r3 2
      have f3 := free3 r3 3
      have w0 := cells4 r3 0 _ rfl
      have w1 := cells4 r3 1 _ rfl
      have w2' := cells4 r3 2 _ rfl
      have w3 := cells4 r3 3 _ rfl
      go_wp2_with fail
      have b6 := blk4_set r3 (.int .i64 0) (.int .i64 0) (.int .i64 0) (.int .u16 0)
      refine bodyPost_ret (res_we Tryz.results91 rfl (cells4 b6 0 _ rfl) (cells4 b6 1 _ rfl) (cells4 b6 2 _ rfl) (cells4 b6 3 _ rfl)) rfl ⟨by rw [HL.out, HR.out]; rfl, ?_⟩
      exact kept_imp ((kept_trans HK.out (kept_below HK.out.2 HB.out)).set HLA.out r3 (.inr HA2.out) (put4_grown _ _ _ _ _ _)) HAA.out
end Go.Proofs.YtoajocgfmbakjaaGreatDoor
