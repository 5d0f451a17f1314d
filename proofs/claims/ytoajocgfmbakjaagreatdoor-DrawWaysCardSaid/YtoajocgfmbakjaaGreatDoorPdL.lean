/-
  Undercut.
-/
import Derived.Test.YtoajocgfmbakjaaGreatDoorPdB
import Derived.Test.YtoajocgfmbakjaaGreatDoorPdI
import Derived.Test.YtoajocgfmbakjaaGreatDoorPdC
import Derived.Test.YtoajocgfmbakjaaGreatDoorPdK
set_option linter.unusedVariables false
set_option linter.unusedSimpArgs false
namespace Go.Proofs.YtoajocgfmbakjaaGreatDoor
open Go Go.RowKit Go.Shelf
attribute [local go_sem] Oper.semAt_some

/-- Undercut: the solid, the error. -/
def undE (f : Sol) : Int := if emptyS f = true then 1 else 0
def undL (f : Sol) : Sol := if emptyS f = true then fun _ => 0 else underF f
theorem res_sol {fn : Func} {t s : Tmp} {tmps : Array Value} {W : World} {B : Nat} {f : Sol} (h : fn.results = #[.cell t 25, .tmp s]) (ht : tmps[t]?.getD undef = .pointer (some ⟨B, 0, none⟩)) (hb : BoxS W B f) :
    (results fn tmps).run Tryz.prog W = .ok (.tuple #[sol f, tmps.getD s undef]) W := by
  simp [results, h, ht, go_sem, hb.cell (k := 0) (by decide), hb.cell (k := 1) (by decide), hb.cell (k := 2) (by decide), hb.cell (k := 3) (by decide), hb.cell (k := 4) (by decide), hb.cell (k := 5) (by decide), hb.cell (k := 6) (by decide), hb.cell (k := 7) (by decide)]
theorem gset {V X : World} {G : Nat} (h : V.grownBy X (some G)) (k : Nat) (v : Value) : V.grownBy (X.setCell ⟨G, k, none⟩ v) (some G) :=
  ⟨h.os, h.tape, h.output, by simpa using h.size, fun i hi hne => (Below.heap_setCell X ⟨G, k, none⟩ v i (fun e => hne (by rw [e]))).trans (h.block i hi hne)⟩
theorem grown_put8 {V X : World} {G : Nat} (h : V.grownBy X (some G)) (g : Sol) : V.grownBy (put8 X G g) (some G) := gset (gset (gset (gset (gset (gset (gset (gset h 0 _) 1 _) 2 _) 3 _) 4 _) 5 _) 6 _) 7 _
theorem put8_grown1 (W : World) (G : Nat) (g : Sol) : W.grownBy (put8 W G g) (some G) := grown_put8 (grown_of_below (Below.refl _ _) _) g
theorem put8_keeps (W : World) (G B : Nat) (g : Sol) : KeepsFrom B W (put8 W G g) := ((((((((KeepsOthers.setCell _ _ _).trans (KeepsOthers.setCell _ _ _)).trans (KeepsOthers.setCell _ _ _)).trans (KeepsOthers.setCell _ _ _)).trans (KeepsOthers.setCell _ _ _)).trans (KeepsOthers.setCell _ _ _)).trans (KeepsOthers.setCell _ _ _)).trans (KeepsOthers.setCell _ _ _)).from B
theorem over_snoc : ∀ (L : List SB) (t : Sol) (x : SB), overF (L ++ [x]) t = joinF (overF L t) x.1
  | [], t, x => rfl
  | s :: L, t, x => over_snoc L (joinF t s.1) x
theorem over_fit : ∀ (L : List SB) (t : Sol), Fit t → (∀ x ∈ L, Fit x.1) → Fit (overF L t)
  | [], t, h, _ => h
  | s :: L, t, h, hL => over_fit L _ (fun i => Nat.or_lt_two_pow (n := 64) (h i) (hL s (by simp) i)) (fun x hx => hL x (by simp [hx]))
theorem keepA_grown {X Y : World} {G n₁ : Nat} (g : X.grownBy Y (some G)) (hG : G < n₁) : KeepA 0 n₁ X Y :=
  ⟨⟨g.os, g.tape, g.output, g.size, fun i hi => absurd hi (Nat.not_lt_zero i)⟩, fun k o hk ho _ => (g.block k (Array.getElem?_eq_some_iff.1 ho).1 (fun e => by injection e with e; omega)).trans ho⟩
set_option maxRecDepth 100000 in
set_option maxHeartbeats 2000000 in
theorem undercut_ok (f : Sol) (w : World) (hf : Fit f) :
    Calls Tryz.prog 26 #[sol f] w (RetB (.tuple #[sol (undL f), .int .i64 (undE f)]) w) := by
  obtain ⟨B, hBB⟩ : ∃ B, B = w.heap.size := ⟨_, rfl⟩
  obtain ⟨W0, hW0⟩ : ∃ W0, W0 = (w.alloc (.cells #[.int .u64 ((f 0 : Nat) : Int), .int .u64 ((f 1 : Nat) : Int), .int .u64 ((f 2 : Nat) : Int), .int .u64 ((f 3 : Nat) : Int), .int .u64 ((f 4 : Nat) : Int), .int .u64 ((f 5 : Nat) : Int), .int .u64 ((f 6 : Nat) : Int), .int .u64 ((f 7 : Nat) : Int)] 25)).alloc (.cells #[.int .u64 0, .int .u64 0, .int .u64 0, .int .u64 0, .int .u64 0, .int .u64 0, .int .u64 0, .int .u64 0] 25) := ⟨_, rfl⟩
  have hB0 : Below w.heap.size w W0 := by rw [hW0]; exact ((Below.refl _ w).alloc (Nat.le_refl _) _).alloc (by simp) _
  have k0 : BoxS W0 B f := by rw [hW0, hBB]; exact (BoxK.new _ w f).alloc _
  have r0 : BoxS W0 (B + 1) (fun _ => 0) := by rw [hW0, hBB]; exact BoxK.zero (by simp)
  have HBE := Lib.hid hBB
  have HE := Lib.hid (fun W => isEmpty_ok f W)
  have HF := Lib.hid hf
  clear hf hBB
  refine (callsIn_wide (n := 9)).1 ?_
  refine callsIn_of_wp_marks Tryz.func26 rfl trivial ?_ rfl
  simp only [Tryz.ntmps26, List.size_toArray, List.length_cons, List.length_nil, Nat.reduceAdd, Nat.reduceSub, Array.replicate_succ, Array.replicate_zero, List.push_toArray, List.append_toArray, List.nil_append, List.cons_append]
  refine wpIn_wide.2 ?_
  have d0 := (k0).cell (k := 0) (by omega); have d1 := (k0).cell (k := 1) (by omega); have d2 := (k0).cell (k := 2) (by omega); have d3 := (k0).cell (k := 3) (by omega); have d4 := (k0).cell (k := 4) (by omega); have d5 := (k0).cell (k := 5) (by omega); have d6 := (k0).cell (k := 6) (by omega); have d7 := (k0).cell (k := 7) (by omega)
  rw [hW0] at d0 d1 d2 d3 d4 d5 d6 d7
  go_wp2_with fail
  refine (HE.out _).mono ?_
  rw [← hW0, ← HBE.out]
  rintro e w1 ⟨rfl, hb1⟩
  have HB1 := Lib.hid (up hb1 hB0)
  have k1 := k0.below hb1 k0.lt
  have r1 := r0.below hb1 r0.lt
  clear d0 d1 d2 d3 d4 d5 d6 d7 hB0 k0 r0 hb1 hW0 HE
  cases hem : emptyS f with
  | true =>
    have HU := Lib.hid (show undL f = fun _ => 0 from if_pos hem)
    have HUE := Lib.hid (show undE f = 1 from if_pos hem)
    have d0 := (r1).cell (k := 0) (by omega); have d1 := (r1).cell (k := 1) (by omega); have d2 := (r1).cell (k := 2) (by omega); have d3 := (r1).cell (k := 3) (by omega); have d4 := (r1).cell (k := 4) (by omega); have d5 := (r1).cell (k := 5) (by omega); have d6 := (r1).cell (k := 6) (by omega); have d7 := (r1).cell (k := 7) (by omega)
    have q0 := (r1).free 0; have q1 := (r1).free 1; have q2 := (r1).free 2; have q3 := (r1).free 3; have q4 := (r1).free 4; have q5 := (r1).free 5; have q6 := (r1).free 6; have q7 := (r1).free 7
    go_wp2_with fail
    have r2 := r1.put (fun _ => 0)
    have HB2 := Lib.hid (below_put8 (b := B + 1) HB1.out (by have := HBE.out; omega) (fun _ => 0))
    rw [HU.out, HUE.out]
    exact ⟨_, res_sol Tryz.results26 rfl r2, rfl, HB2.out⟩
  | false =>
    have HU := Lib.hid (show undL f = underF f from if_neg (by rw [hem]; exact Bool.false_ne_true))
    have HUE := Lib.hid (show undE f = 0 from if_neg (by rw [hem]; exact Bool.false_ne_true))
    rw [HUE.out]
    obtain ⟨G, hG⟩ : ∃ G, G = w1.heap.size := ⟨_, rfl⟩
    obtain ⟨W2, hW2⟩ : ∃ W2, W2 = w1.alloc (.cells #[.int .u64 0, .int .u64 0, .int .u64 0, .int .u64 0, .int .u64 0, .int .u64 0, .int .u64 0, .int .u64 0] 88) := ⟨_, rfl⟩
    have HGE := Lib.hid hG
    have g2 : BoxD W2 G (fun _ => 0) := by rw [hW2, hG]; exact BoxK.zero rfl
    have hb2 : Below w1.heap.size w1 W2 := by rw [hW2]; exact (Below.refl _ _).alloc (Nat.le_refl _) _
    have k2 := k1.below hb2 k1.lt
    have r2 := r1.below hb2 r1.lt
    have HB2 := Lib.hid (up hb2 HB1.out)
    have HGB := Lib.hid (show B + 1 < G by rw [hG]; exact r1.lt)
    have d0 := (k2).cell (k := 0) (by omega); have d1 := (k2).cell (k := 1) (by omega); have d2 := (k2).cell (k := 2) (by omega); have d3 := (k2).cell (k := 3) (by omega); have d4 := (k2).cell (k := 4) (by omega); have d5 := (k2).cell (k := 5) (by omega); have d6 := (k2).cell (k := 6) (by omega); have d7 := (k2).cell (k := 7) (by omega)
    rw [hW2] at d0 d1 d2 d3 d4 d5 d6 d7
    clear hem hb2 k1 r1 HB1 hG
    go_wp2_with fail
    rw [← hW2, ← HGE.out]
    refine ((callsIn_wide (n := 9)).1 (stands_in 9 f 0 0 0 _)).mono ?_
    rintro e w9 ⟨rfl, rfl⟩
    clear d0 d1 d2 d3 d4 d5 d6 d7 hW2
    obtain ⟨B1, hB1⟩ : ∃ B1, B1 = W2.heap.size := ⟨_, rfl⟩
    obtain ⟨U, hU⟩ : ∃ U, U = (W2.alloc (.cells (solC f) 25)).alloc (.cells #[.int .i64 ((0 : Int)), .int .i64 ((0 : Nat)), .int .i64 ((0 : Nat))] 40) := ⟨_, rfl⟩
    have hbU : Below W2.heap.size W2 U := by rw [hU]; exact ((Below.refl _ _).alloc (Nat.le_refl _) _).alloc (by simp) _
    have bS : BoxS U B1 f := by rw [hU, hB1]; exact (BoxK.new _ W2 f).alloc _
    have bM : BoxM U (B1 + 1) 0 (0 : Nat) (0 : Nat) := by
      rw [hU, hB1]; have := World.alloc_heap_new (W2.alloc (.cells (solC f) 25)) (.cells #[.int .i64 ((0 : Int)), .int .i64 ((0 : Nat)), .int .i64 ((0 : Nat))] 40); rwa [World.size_alloc] at this
    have kU := k2.below hbU k2.lt
    have rU := r2.below hbU r2.lt
    have gU := g2.below hbU g2.lt
    have HBU := Lib.hid (up hbU HB2.out)
    have lG2 := g2.lt
    rw [← hU, ← hB1]
    have HB1 := Lib.hid hB1
    clear hU hB1 hbU k2 r2 g2 HB2
    go_wp2_with fail
    refine (wpIn_wide (n := 9)).1 ?_
    have lGU := gU.lt
    have HFS := Lib.hid (show ∀ x ∈ standsL f 0 0, Fit x.1 from sideL_fit _ _ _ _ HF.out)
    have HZF : Fit (fun _ => 0) := fun i => by show 0 < _; decide
    refine range_b rfl (by omega) (gf := 146) (lb := #[.pointer (some ⟨B1, 0, none⟩), .pointer (some ⟨B1 + 1, 0, none⟩)]) rfl trivial (enters_of Tryz.func146 (by kernel_rfl) rfl)
      (stands_stops _ (by omega) B1 (B1 + 1) 0 B1 f 0 0 0 HF.out (by omega) (by omega) U bS bM (by omega)) keepA_t (keepA_b (by omega)) (Below.refl _ _) (fun _ => rfl)
      (fun (pr : List SF) W' => U.grownBy W' (some G) ∧ BoxD W' G (overF (pr.map Subtype.val) (fun _ => 0)))
      (fun c (pr : List SF) W' => False)
      (fun pr X C hx hb => ⟨grown_low hx.1 hb, hx.2.below hb lGU⟩)
      (fun c pr X C hx hb => hx)
      ⟨grown_of_below (Below.refl _ _) _, gU⟩
      (fun (z : SF) a' W' => ∃ h, U.heap.size ≤ h ∧ BoxD W' h z.1.1 ∧ a' = { tmps := #[sol f, .pointer (some ⟨B, 0, none⟩), .pointer (some ⟨B + 1, 0, none⟩), .int .i64 0, .pointer (some ⟨G, 0, none⟩), .pointer (some ⟨h, 0, none⟩), sol f, .bool false, undef, sol f, .agg #[.int .i64 0, .int .i64 0, .int .i64 0], .func (.func 146) #[] #[.pointer (some ⟨B1, 0, none⟩), .pointer (some ⟨B1 + 1, 0, none⟩)], sol z.1.1, .bool z.1.2, undef, undef, undef, undef, undef, undef], defers := [] })
      (fun z a' X l' o o' ⟨h, h1, h2, h3⟩ hl hc => ⟨h, h1, (World.putObj_heap_other (fun e => by rw [e] at h2; rw [h2] at hl; cases hl; cases hc)).trans h2, h3⟩) ?assign ?body ?done ?stop
    case assign =>
      rintro l' pr z X K ⟨q1, q2⟩ hK
      have zX := q1.size
      have hbX : Below U.heap.size X (X.alloc (.cells (solC z.1.1) 88)) := (Below.refl _ X).alloc zX _
      gi_wp2
      exact hK _ _ ((KeepsOthers.alloc _ _).from _) (keepA_below ((Below.refl _ X).alloc (Nat.le_refl _) _) (Nat.zero_le _)) ⟨grown_low q1 hbX, q2.alloc _⟩ ⟨X.heap.size, zX, BoxK.new _ X _, rfl⟩
    case body =>
      rintro l' pr ⟨⟨t, c⟩, htf⟩ a' X hl' ⟨rc', hrc'⟩ ⟨q1, q2⟩ ⟨h, hh, bD, rfl⟩ hlt'
      dsimp only at bD htf
      have Q1 := Lib.hid q1
      have HTF := Lib.hid htf
      have HPF := Lib.hid (over_fit (pr.map Subtype.val) (fun _ => 0) HZF (fun x hx => by obtain ⟨y, _, rfl⟩ := List.mem_map.1 hx; exact y.2))
      obtain ⟨ov, hov⟩ : ∃ ov, ov = overF (pr.map Subtype.val) (fun _ => 0) := ⟨_, rfl⟩
      rw [← hov] at q2 HPF
      have HOV := Lib.hid (show overF ((pr ++ [(⟨(t, c), htf⟩ : SF)]).map Subtype.val) (fun _ => 0) = joinF ov t by rw [List.map_append, List.map_cons, List.map_nil, over_snoc, hov])
      have HJ := Lib.hid (fun W => join_ok ov t W HPF.out HTF.out)
      have lq := q2.lt
      have HQ2 := Lib.hid q2
      clear q1 hrc' hov
      have d0 := (q2).cell (k := 0) (by omega); have d1 := (q2).cell (k := 1) (by omega); have d2 := (q2).cell (k := 2) (by omega); have d3 := (q2).cell (k := 3) (by omega); have d4 := (q2).cell (k := 4) (by omega); have d5 := (q2).cell (k := 5) (by omega); have d6 := (q2).cell (k := 6) (by omega); have d7 := (q2).cell (k := 7) (by omega)
      have e0 := (bD).cell (k := 0) (by omega); have e1 := (bD).cell (k := 1) (by omega); have e2 := (bD).cell (k := 2) (by omega); have e3 := (bD).cell (k := 3) (by omega); have e4 := (bD).cell (k := 4) (by omega); have e5 := (bD).cell (k := 5) (by omega); have e6 := (bD).cell (k := 6) (by omega); have e7 := (bD).cell (k := 7) (by omega)
      obtain ⟨jn, hjn⟩ : ∃ jn, jn = joinF ov t := ⟨_, rfl⟩
      rw [← hjn] at HOV HJ
      clear hjn
      gi_wp2_with fail
      refine ⟨trivial, ?_⟩
      gi_at_call 84
      (with_reducible refine CallsIn.mono (CallsIn.inRound l' (callsIn_wide.2 (HJ.out _))) ?_)
      rintro e w8 ⟨rfl, hb8⟩
      clear d0 d1 d2 d3 d4 d5 d6 d7 e0 e1 e2 e3 e4 e5 e6 e7 HJ
      have q8 := HQ2.out.below hb8 lq
      have HP8 := Lib.hid (q8.put jn)
      have HG8 := Lib.hid (grown_put8 (grown_of_below hb8 (some G)) jn)
      have HU8 := Lib.hid (grown_put8 (grown_low Q1.out (hb8.mono Q1.out.size)) jn)
      have HK8 := Lib.hid ((keeps_below hb8 U.heap.size).trans (put8_keeps w8 G U.heap.size jn))
      have d0 := (q8).cell (k := 0) (by omega); have d1 := (q8).cell (k := 1) (by omega); have d2 := (q8).cell (k := 2) (by omega); have d3 := (q8).cell (k := 3) (by omega); have d4 := (q8).cell (k := 4) (by omega); have d5 := (q8).cell (k := 5) (by omega); have d6 := (q8).cell (k := 6) (by omega); have d7 := (q8).cell (k := 7) (by omega)
      have k0 := (q8).free 0; have k1 := (q8).free 1; have k2 := (q8).free 2; have k3 := (q8).free 3; have k4 := (q8).free 4; have k5 := (q8).free 5; have k6 := (q8).free 6; have k7 := (q8).free 7
      clear q8 q2 bD
      gi_wp2
      exact ⟨HK8.out, keepA_grown HG8.out (by have := HB1.out; omega), HU8.out, by rw [HOV.out]; exact HP8.out⟩
    case done =>
      rintro D xs X hD hxs ⟨hg, hG⟩ hK
      obtain ⟨ov, hov⟩ : ∃ ov, ov = overF (xs.map Subtype.val) (fun _ => 0) := ⟨_, rfl⟩
      have HPF := Lib.hid (over_fit (xs.map Subtype.val) (fun _ => 0) HZF (fun x hx => by obtain ⟨y, _, rfl⟩ := List.mem_map.1 hx; exact y.2))
      rw [← hov] at hG HPF
      have hxs' : xs.map Subtype.val = standsL f 0 0 := hxs
      have HUL := Lib.hid (show undL f = lessF ov f by rw [HU.out, hov, hxs']; rfl)
      obtain ⟨ans, hans⟩ : ∃ ans, ans = undL f := ⟨_, rfl⟩
      rw [← hans] at HUL
      have HAN2 := Lib.hid hans
      have HL := Lib.hid (fun W => (show Calls Tryz.prog 87 #[sol ov, sol f] W (RetB (sol ans) W) by rw [HUL.out]; exact less_ok ov f W HPF.out HF.out))
      have kX : BoxS X B f := (hg.block B kU.lt (fun e => by injection e with e; have := HGB.out; omega)).trans kU
      have rX : BoxS X (B + 1) (fun _ => 0) := (hg.block (B + 1) rU.lt (fun e => by injection e with e; have := HGB.out; omega)).trans rU
      have HBX := Lib.hid (show Below w.heap.size w X from ⟨hg.os.trans HBU.out.os, hg.tape.trans HBU.out.tape, hg.output.trans HBU.out.output, Nat.le_trans HBU.out.size hg.size, fun i hi => (hg.block i (Nat.lt_of_lt_of_le hi HBU.out.size) (fun e => by injection e with e; have := HGB.out; have := HBE.out; omega)).trans (HBU.out.block i hi)⟩)
      have HDB := Lib.hid (show B + 1 < D by have := rU.lt; omega)
      have HKD := Lib.hid hK
      have HRX := Lib.hid rX
      have lD := (Array.getElem?_eq_some_iff.1 hK).1
      clear hov hans hxs' hxs hg hK
      have d0 := (hG).cell (k := 0) (by omega); have d1 := (hG).cell (k := 1) (by omega); have d2 := (hG).cell (k := 2) (by omega); have d3 := (hG).cell (k := 3) (by omega); have d4 := (hG).cell (k := 4) (by omega); have d5 := (hG).cell (k := 5) (by omega); have d6 := (hG).cell (k := 6) (by omega); have d7 := (hG).cell (k := 7) (by omega)
      have e0 := (kX).cell (k := 0) (by omega); have e1 := (kX).cell (k := 1) (by omega); have e2 := (kX).cell (k := 2) (by omega); have e3 := (kX).cell (k := 3) (by omega); have e4 := (kX).cell (k := 4) (by omega); have e5 := (kX).cell (k := 5) (by omega); have e6 := (kX).cell (k := 6) (by omega); have e7 := (kX).cell (k := 7) (by omega)
      gi_wp2
      go_wp2_with fail
      refine (HL.out _).mono ?_
      rintro e w8 ⟨rfl, hb8⟩
      clear d0 d1 d2 d3 d4 d5 d6 d7 e0 e1 e2 e3 e4 e5 e6 e7 HL
      have r8 := HRX.out.below hb8 HRX.out.lt
      have HD8 := Lib.hid (heap_below HKD.out hb8 lD)
      have HB8 := Lib.hid (up hb8 HBX.out)
      have HP8 := Lib.hid (r8.put ans)
      have HBP := Lib.hid (below_put8 (b := B + 1) HB8.out (by have := HBE.out; omega) ans)
      have HD9 := Lib.hid (show (put8 w8 (B + 1) ans).heap[D]? = some (.deferred (some [])) from ((put8_grown1 w8 (B + 1) ans).block D (Array.getElem?_eq_some_iff.1 HD8.out).1 (fun e => by injection e with e; have := HDB.out; omega)).trans HD8.out)
      have d0 := (r8).cell (k := 0) (by omega); have d1 := (r8).cell (k := 1) (by omega); have d2 := (r8).cell (k := 2) (by omega); have d3 := (r8).cell (k := 3) (by omega); have d4 := (r8).cell (k := 4) (by omega); have d5 := (r8).cell (k := 5) (by omega); have d6 := (r8).cell (k := 6) (by omega); have d7 := (r8).cell (k := 7) (by omega)
      have k0 := (r8).free 0; have k1 := (r8).free 1; have k2 := (r8).free 2; have k3 := (r8).free 3; have k4 := (r8).free 4; have k5 := (r8).free 5; have k6 := (r8).free 6; have k7 := (r8).free 7
      clear r8 rX kX hG
      go_wp2_with fail
      refine leaves_marks w.heap.size [D] _ (by simp) (fun D' h => by simp at h; subst h; exact ⟨by have := HDB.out; have := HBE.out; omega, HD9.out⟩) fun W3 hb hk => ?_
      have HPP : BoxS W3 (B + 1) ans := hk _ _ (fun D' h => by simp at h; have := HDB.out; omega) HP8.out
      exact ⟨_, res_sol Tryz.results26 rfl HPP, by rw [HUE.out, ← HAN2.out]; rfl, HBP.out.trans hb⟩
    case stop =>
      rintro D c pr X hD hpre h hK
      exact h.elim
end Go.Proofs.YtoajocgfmbakjaaGreatDoor
/-
  A solid alone in its mould, straight up.
-/
set_option linter.unusedVariables false
set_option linter.unusedSimpArgs false
namespace Go.Proofs.YtoajocgfmbakjaaGreatDoor
open Go Go.RowKit Go.Shelf

theorem chk_one (f : Sol) : chkM [f] = undE f := by
  have h : touchB (fun _ => 0) f = false := by simp [touchB, meetF, emptyS, eqS]
  unfold chkM undE
  rw [if_neg (by simp)]
  simp only [goodF, h, Bool.or_false, Bool.and_true]
  cases emptyS f <;> rfl
theorem way_one_E (f : Sol) : inWayE [f] (0, 0, 0) = undE f := by
  unfold inWayE
  rw [chk_one, show moveB [f].length (0, 0, 0).1 (0, 0, 0).2.1 (0, 0, 0).2.2 = true from by simp [moveB, wayB]]
  by_cases h : undE f = 0
  · rw [if_pos h, if_pos rfl, h]
  · rw [if_neg h]
theorem touch_one (f g : Sol) : touchK [f] g 0 1 = 0 := by simp [touchK]
theorem met_one (f : Sol) (L : List SB) : metK [f] 0 L = 0 := by
  have key : ∀ (L : List SB) (q : Nat), L.foldl (fun q x => q ||| touchK [f] x.1 0 [f].length) q = q := by
    intro L
    induction L with
    | nil => intro q; rfl
    | cons x L ih => intro q; rw [List.foldl_cons, ih, show [f].length = 1 from rfl, touch_one, Nat.or_zero]
  exact key L 0
theorem way_off (l : List Wy) (x : SD) (h : ∀ y ∈ l, y.1 ≠ x) : wayK x l = none := by
  induction l with
  | nil => rfl
  | cons y l ih => rw [wayK, if_neg (h y (by simp)), ih fun z hz => h z (by simp [hz])]
theorem way_one_F (f : Sol) : wayF [f] 0 f (0, 0) = if freeK (sandF [f]) (standsL f 0 0) = true then some 0 else none := by
  unfold wayF waysL movesL
  by_cases h : freeK (sandF [f]) (standsL f 0 0) = true
  · rw [List.filterMap_cons]
    simp only [h, if_true]
    rw [wayK, if_pos rfl, show metK [f] ((0 : Nat) : Int) (standsL f 0 0) = 0 from met_one f _]
  · rw [List.filterMap_cons]
    simp only [h, if_false]
    refine way_off _ _ fun y hy => ?_
    obtain ⟨x, hx, he⟩ := List.mem_filterMap.1 hy
    have hne : ∀ x ∈ sidesM 1, x ≠ (0, 0) := by decide
    split at he
    · cases he; exact hne x hx
    · cases he
theorem one_way (f : Sol) (hf : Fit f) : (inWayF [f] (0, 0, 0)).isSome = (decide (undE f = 0) && emptyS (underF f)) ∧ inWayL [f] (0, 0, 0) = [] := by
  have hw : inWayF [f] (0, 0, 0) = if undE f = 0 then (if freeK (sandF [f]) (standsL f 0 0) = true then some 0 else none) else none := by
    unfold inWayF
    rw [way_one_E]
    by_cases h : undE f = 0
    · rw [if_pos h, if_pos h]
      exact way_one_F f
    · rw [if_neg h, if_neg h]
  unfold inWayL
  rw [hw, under_free hf]
  by_cases h : undE f = 0
  · rw [if_pos h]
    by_cases h2 : freeK (sandF [f]) (standsL f 0 0) = true
    · rw [if_pos h2]; exact ⟨by simp [h, h2], rfl⟩
    · rw [if_neg h2]; exact ⟨by simp [h, h2], rfl⟩
  · rw [if_neg h]; exact ⟨by simp [h], rfl⟩
end Go.Proofs.YtoajocgfmbakjaaGreatDoor
/-
  DrawStraight.
-/
set_option linter.unusedVariables false
set_option linter.unusedSimpArgs false
namespace Go.Proofs.YtoajocgfmbakjaaGreatDoor
open Go Go.RowKit Go.Shelf

set_option maxRecDepth 100000 in
set_option maxHeartbeats 2000000 in
theorem straight_core (f u : Sol) (E : Int) (is : Bool) (w : World) (hf : Fit f) (hT : Tab32 w) (h64 : Tab64 w) (hU : ∀ W, Calls Tryz.prog 26 #[sol f] W (RetB (.tuple #[sol u, .int .i64 E]) W))
    (hW : ∀ W v, SolsAt W v [f] → Tab32 W → Calls Tryz.prog 32 #[v, .agg #[.int .i64 ((0 : Int)), .int .i64 ((0 : Int)), .int .i64 ((0 : Int))]] W fun e w' => (∃ p c, e = .returned (.tuple #[.slice p 0 c, .bool is, .int .i64 E])) ∧ Below W.heap.size W w')
    (hE : E = 1 ∧ is = false ∨ E = 0 ∧ is = emptyS u) : Calls Tryz.prog 17 #[sol f] w (RetB (.bool true) w) := by
  have HT := Lib.hid hT
  have H6 := Lib.hid h64
  have HU := Lib.hid hU
  have HW := Lib.hid hW
  obtain ⟨B, hBB⟩ : ∃ B, B = w.heap.size := ⟨_, rfl⟩
  obtain ⟨W0, hW0⟩ : ∃ W0, W0 = w.alloc (.cells #[.int .u64 ((f 0 : Nat) : Int), .int .u64 ((f 1 : Nat) : Int), .int .u64 ((f 2 : Nat) : Int), .int .u64 ((f 3 : Nat) : Int), .int .u64 ((f 4 : Nat) : Int), .int .u64 ((f 5 : Nat) : Int), .int .u64 ((f 6 : Nat) : Int), .int .u64 ((f 7 : Nat) : Int)] 25) := ⟨_, rfl⟩
  have k0 : BoxS W0 B f := by rw [hW0, hBB]; exact BoxK.new _ w f
  have hB0 : Below w.heap.size w W0 := by rw [hW0]; exact (Below.refl _ w).alloc (Nat.le_refl _) _
  have HBE := Lib.hid hBB
  clear hT h64 hU hW hBB
  go_enter Tryz.func17, Tryz.ntmps17
  have d0 := (k0).cell (k := 0) (by omega); have d1 := (k0).cell (k := 1) (by omega); have d2 := (k0).cell (k := 2) (by omega); have d3 := (k0).cell (k := 3) (by omega); have d4 := (k0).cell (k := 4) (by omega); have d5 := (k0).cell (k := 5) (by omega); have d6 := (k0).cell (k := 6) (by omega); have d7 := (k0).cell (k := 7) (by omega)
  rw [hW0] at d0 d1 d2 d3 d4 d5 d6 d7
  go_wp2_with fail
  refine (HU.out _).mono ?_
  rw [← hW0, ← HBE.out]
  rintro e w1 ⟨rfl, hb1⟩
  clear d0 d1 d2 d3 d4 d5 d6 d7
  have HB1 := Lib.hid (up hb1 hB0)
  have k1 := k0.below hb1 k0.lt
  obtain ⟨G, hG⟩ : ∃ G, G = w1.heap.size := ⟨_, rfl⟩
  obtain ⟨W2, hW2⟩ : ∃ W2, W2 = w1.alloc (.cells #[.int .u64 ((u 0 : Nat) : Int), .int .u64 ((u 1 : Nat) : Int), .int .u64 ((u 2 : Nat) : Int), .int .u64 ((u 3 : Nat) : Int), .int .u64 ((u 4 : Nat) : Int), .int .u64 ((u 5 : Nat) : Int), .int .u64 ((u 6 : Nat) : Int), .int .u64 ((u 7 : Nat) : Int)] 25) := ⟨_, rfl⟩
  have g2 : BoxS W2 G u := by rw [hW2, hG]; exact BoxK.new _ w1 u
  have k2 : BoxS W2 B f := by rw [hW2]; exact k1.alloc _
  have hb2 : Below w1.heap.size w1 W2 := by rw [hW2]; exact (Below.refl _ _).alloc (Nat.le_refl _) _
  have HB2 := Lib.hid (up hb2 HB1.out)
  have HGE := Lib.hid hG
  clear hW0 hB0 k0 hb1 k1 hb2 HB1 hG
  have d0 := (k2).cell (k := 0) (by omega); have d1 := (k2).cell (k := 1) (by omega); have d2 := (k2).cell (k := 2) (by omega); have d3 := (k2).cell (k := 3) (by omega); have d4 := (k2).cell (k := 4) (by omega); have d5 := (k2).cell (k := 5) (by omega); have d6 := (k2).cell (k := 6) (by omega); have d7 := (k2).cell (k := 7) (by omega)
  rw [hW2] at d0 d1 d2 d3 d4 d5 d6 d7
  go_wp2_with fail
  rw [← hW2, ← HGE.out]
  have HS : ∀ n cap, n = W2.heap.size → SolsAt (W2.alloc (.cells #[.int .u64 ((f 0 : Nat) : Int), .int .u64 ((f 1 : Nat) : Int), .int .u64 ((f 2 : Nat) : Int), .int .u64 ((f 3 : Nat) : Int), .int .u64 ((f 4 : Nat) : Int), .int .u64 ((f 5 : Nat) : Int), .int .u64 ((f 6 : Nat) : Int), .int .u64 ((f 7 : Nat) : Int)] 25)) (.slice (some ⟨n, 0, none⟩) 1 cap) [f] := fun n cap hn => sols_new hn [f] rfl (by decide) fun i m hm j hj => by
    rcases i with _ | i
    · cases hm; rcases lt8 hj with rfl | rfl | rfl | rfl | rfl | rfl | rfl | rfl <;> rfl
    · simp at hm
  refine (HW.out _ _ (HS _ _ (by rw [hW2, HGE.out]; simp)) (HT.out.below (up (grow1 _ _) HB2.out) (Nat.le_refl _))).mono ?_
  rintro e w3 ⟨⟨p, c, rfl⟩, hb3⟩
  have hb3 := up hb3 (grow1 W2 _)
  have g3 := g2.below hb3 g2.lt
  have HB3 := Lib.hid (up hb3 HB2.out)
  clear d0 d1 d2 d3 d4 d5 d6 d7 hW2 hb3 g2 k2 HB2 HS
  go_wp2_with fail
  refine (cast_ok _ (HT.out.below HB3.out (Nat.le_refl _)) (H6.out.below HB3.out (Nat.le_refl _))).mono ?_
  rintro e w4 ⟨rfl, hb4⟩
  have g4 := g3.below hb4 g3.lt
  have HB4 := Lib.hid (up hb4 HB3.out)
  clear hb4 g3 HB3
  rcases hE with ⟨rfl, rfl⟩ | ⟨rfl, rfl⟩
  · go_wp2_with fail
    go_ret
    exact ⟨rfl, HB4.out⟩
  · have d0 := (g4).cell (k := 0) (by omega); have d1 := (g4).cell (k := 1) (by omega); have d2 := (g4).cell (k := 2) (by omega); have d3 := (g4).cell (k := 3) (by omega); have d4 := (g4).cell (k := 4) (by omega); have d5 := (g4).cell (k := 5) (by omega); have d6 := (g4).cell (k := 6) (by omega); have d7 := (g4).cell (k := 7) (by omega)
    go_wp2_with fail
    go_ret
    exact ⟨by simp, HB4.out⟩
theorem straight_walk (f : Sol) (w : World) (hf : Fit f) (hT : Tab32 w) (h64 : Tab64 w) : Calls Tryz.prog 17 #[sol f] w (RetB (.bool true) w) := by
  obtain ⟨h1, h2⟩ := one_way f hf
  refine straight_core f (undL f) (undE f) (inWayF [f] (0, 0, 0)).isSome w hf hT h64 (fun W => undercut_ok f W hf) (fun W v hv hT => ?_) ?_
  · have h := inWay_ok [f] 0 0 0 v W hv (fun m hm => by simp at hm; subst hm; exact hf) hT
    rw [h2, way_one_E] at h
    refine h.mono ?_
    rintro e w' ⟨⟨u, rfl, hrow, _⟩, hb⟩
    obtain ⟨p, c, rfl⟩ := row_shape hrow
    exact ⟨⟨p, c, rfl⟩, hb⟩
  · rw [h1]
    unfold undE undL
    cases emptyS f with
    | true => exact .inl ⟨rfl, rfl⟩
    | false => exact .inr ⟨rfl, rfl⟩
end Go.Proofs.YtoajocgfmbakjaaGreatDoor
