/-
  The reference's terms and convergents, and its comparison of lists.
-/
import Derived.Test.YtgonaamjjhhiiaaDoorRefT
import Derived.Test.YtgonaamjjhhiiaaDoorStepW
import Derived.Laws.AppendOwn
set_option linter.unusedVariables false
set_option linter.unusedSimpArgs false
namespace Go.Proofs.YtgonaamjjhhiiaaDoor
open Go Go.RowKit

theorem rfloor_any (n d : Int) (w : World) (hd : 1 ≤ d) (hd' : d ≤ 4000000000000000000) (h1 : -4000000000000000000 ≤ n) (h2 : n ≤ 4000000000000000000) :
    Calls Tryd.prog 34 #[.int .i64 n, .int .i64 d] w fun e w' => e = .returned (.int .i64 (n / d)) ∧ w = w' := by
  have hf := Lib.hid (floor_ref (n := n) hd)
  have h3 := Int.tmod_add_mul_tdiv n d
  have h4 := tmod_lt n (b := d) (by omega)
  have h5 : (n.tmod d).natAbs ≤ n.natAbs := by rw [Int.natAbs_tmod]; exact Nat.mod_le _ _
  have b1 := Int.natAbs_tdiv_le_natAbs n d
  have b3 : -4000000000000000000 ≤ n.tdiv d := by omega
  have b4 : n.tdiv d ≤ 4000000000000000000 := by omega
  rw [Int.mul_comm] at h3
  have b5 : -8000000000000000000 ≤ n.tdiv d * d := by omega
  have b6 : n.tdiv d * d ≤ 8000000000000000000 := by omega
  have hne : ¬ d = 0 := by omega
  clear h3 h4 h5 b1
  by_cases h : n < n.tdiv d * d
  · go_enter Tryd.func34, Tryd.ntmps34
    go_wp2
    go_ret
    exact ⟨retI (by have := hf.out; rw [if_pos h] at this; exact this), rfl⟩
  · have h' : n.tdiv d * d ≤ n := by omega
    clear h
    go_enter Tryd.func34, Tryd.ntmps34
    go_wp2
    go_ret
    exact ⟨retI (by have := hf.out; rw [if_neg (by omega)] at this; exact this), rfl⟩

theorem ownsRow_below {W W' : World} {base B : Nat} {e : TypeId} {size : Nat} {v : Value} {k : Nat} {xs : List Value} (h : W.ownsRow base e size v k xs) (hb : Below W.heap.size W W') : W'.ownsRow base e size v k xs := by
  refine ⟨h.1, ?_⟩
  rcases h.2 with hn | ⟨g, cap, cur, rfl, h1, h2, h3⟩
  · exact .inl hn
  · exact .inr ⟨g, cap, cur, rfl, h1, (hb.block g (Array.getElem?_eq_some_iff.1 h2).1).trans h2, h3⟩

theorem ownsRow_less {W : World} {base base' : Nat} {e : TypeId} {size : Nat} {v : Value} {k : Nat} {xs : List Value} (h : W.ownsRow base e size v k xs) (hb : base' ≤ base) : W.ownsRow base' e size v k xs := by
  refine ⟨h.1, ?_⟩
  rcases h.2 with hn | ⟨g, cap, cur, rfl, h1, h2, h3⟩
  · exact .inl hn
  · exact .inr ⟨g, cap, cur, rfl, Nat.le_trans hb h1, h2, h3⟩

theorem below_grown {n₀ : Nat} {w W w1 : World} {e : TypeId} {size k : Nat} {v : Value} {xs : List Value} {tmp : Obj} (hB : Below n₀ w W) (hn : n₀ ≤ W.heap.size) (hrow : W.ownsRow n₀ e size v k xs) (hgrow : (W.alloc tmp).grownBy w1 v.ownBlock) : Below n₀ w w1 := by
  refine (hB.alloc hn tmp).grown hgrow (by simp; omega) fun j ej => ?_
  rcases hrow.2 with ⟨rfl, _⟩ | ⟨g, cap, cur, rfl, hb, _, _⟩
  · simp [Value.ownBlock] at ej
  · obtain rfl : g = j := by simpa [Value.ownBlock] using ej
    exact hb

set_option maxRecDepth 100000 in
set_option maxHeartbeats 4000000 in
theorem rTerms_ok (p q : Int) (w : World) (ha : okQ p q = true) : Calls Tryd.prog 8 #[.agg #[.int .i64 (p), .int .i64 (q)]] w (TermsPost p q w) := by
  obtain ⟨h1, h2, h3, h4, _⟩ := okQ_iff.1 ha
  obtain ⟨i0, hi, iz0, iz1, iz2⟩ := info_parts infoI
  have hlen := tl_len40 (p := p) (q := q) (by omega) h2
  have hk := fun (W : World) => rCheck_any p q W
  rw [if_pos ha] at hk
  have HK := Lib.hid hk
  have HF := Lib.hid fun (n d : Int) (W : World) a1 a2 a3 a4 => rfloor_any n d W a1 a2 a3 a4
  clear hk ha
  have hML : 1000001 ≤ maxLen := by unfold maxLen; omega
  go_enter Tryd.func8, Tryd.ntmps8
  go_wp2_with fail
  (refine (HK.out _).mono ?_; rintro e w1 ⟨rfl, hb1⟩; obtain ⟨hc1, hf1⟩ := bcell hb1; have hB1 : Below w.heap.size w w1 := up hb1 (by go_grown); have hz1 := hb1.size; (try simp at hz1); (try have hz1_w_p1 : w.heap.size < w1.heap.size + 1 := (by omega)); (try have hz1_w_p2 : w.heap.size < w1.heap.size + 1 + 1 := (by omega)); (try have hz1_w_p3 : w.heap.size < w1.heap.size + 1 + 1 + 1 := (by omega)); (try have hz1_w_0 : w.heap.size < w1.heap.size := (by omega)); (try have hz1_w_1 : w.heap.size + 1 < w1.heap.size := (by omega)); (try have hz1_w_2 : w.heap.size + 1 + 1 < w1.heap.size := (by omega)); (try have hz1_w_3 : w.heap.size + 1 + 1 + 1 < w1.heap.size := (by omega)); (try have hz1_w_4 : w.heap.size + 1 + 1 + 1 + 1 < w1.heap.size := (by omega)); (try have hz1_w_5 : w.heap.size + 1 + 1 + 1 + 1 + 1 < w1.heap.size := (by omega)); (try have hz1_w_6 : w.heap.size + 1 + 1 + 1 + 1 + 1 + 1 < w1.heap.size := (by omega)))
  go_wp2
  go_loopw [5, 6, 7] (fun o x y wr => ∃ (pre : List Int) (a b : Int), x = .int .i64 a ∧ y = .int .i64 b ∧ Hid (tl p q = pre ++ tl a b) ∧ 0 ≤ b ∧ b ≤ 1000000 ∧ -1000000000 ≤ a ∧ a ≤ 1000000000 ∧ wr.ownsRow w.heap.size 3 1 o pre.length (pre.map (Value.int .i64)) ∧ Below w.heap.size w wr)
    (fun _ _ y _ => (intOf y).toNat)
  case atStart => exact ⟨[], p, q, rfl, rfl, Lib.hid rfl, by omega, h2, h3, h4, World.ownsRow_nil _ _ _ _, hB1⟩
  case round =>
    obtain ⟨pre, a, b, rfl, rfl, HT, b0, b1, a0, a1, hrow, hBr⟩ := hrel
    by_cases hb : b = 0
    · subst hb
      go_wp2
      go_ret2
      have e : tl p q = pre := by rw [HT.out, tl_zero (by omega)]; simp
      exact ⟨_, rfl, by rw [e]; exact hrow, hBr⟩
    · have hbp : 0 < b := by omega
      obtain ⟨t1, t2, t3, t4⟩ := tl_rest HT.out hbp
      have HT1 := Lib.hid t1
      have HT2 := Lib.hid t2
      have fl := floor_le (n := a) (d := b) (by omega)
      obtain ⟨fb1, fb2⟩ := floor_bd (n := a) (d := b) (B := 1000000000) (by omega) (by omega) (by omega)
      have fx : -1001000000 ≤ a / b * b := by omega
      have HFb := Lib.hid fun (W : World) => HF.out a b W (by omega) (by omega) (by omega) (by omega)
      have hpl : pre.length < 40 := by have := HT2.out; omega
      have hsz : w.heap.size ≤ wr.heap.size := hBr.size
      clear t1 t2
      go_wp2_with fail
      refine (HFb.out _).mono ?_
      rintro e w2 ⟨rfl, rfl⟩
      go_wp2_with (at_builtin; go_loud (refine wpList_append_own _ rfl _ _ 24 rfl w.heap.size 3 i0 (.int .i64 0) 1 8 Tryd.underlying24 hi iz0 iz1 iz2 rfl (by decide) _ _ _ rfl (hrow.alloc _) ⟨wr.heap.size, 0, none⟩ 1 1 [.int .i64 (a / b)] rfl rfl (cell_one_new _ _ _) (by simp [Value.oneCell']) (by omega) (by omega) (by simp; omega) ?_; intro v' w3 hown' hgrow _))
      have hB3 := below_grown hBr hsz hrow hgrow
      exact ⟨⟨pre ++ [a / b], b, a - a / b * b, rfl, rfl, HT1, t3, by omega, by omega, by omega, by simpa using hown', hB3⟩, by simp [intOf]; omega⟩
theorem rTerms_arg (n d : Int) (w : World) (ha : okQ n d = false) :
    Calls Tryd.prog 8 #[.agg #[.int .i64 (n), .int .i64 (d)]] w fun e w' => e = .returned (.tuple #[.slice none 0 0, .int .i64 1]) ∧ Below w.heap.size w w' := by
  have hk := fun (W : World) => rCheck_any n d W
  rw [if_neg (by rw [ha]; exact Bool.false_ne_true)] at hk
  have HK := Lib.hid hk
  clear hk ha
  go_enter Tryd.func8, Tryd.ntmps8
  go_wp2_with fail
  (refine (HK.out _).mono ?_; rintro e w1 ⟨rfl, hb1⟩; obtain ⟨hc1, hf1⟩ := bcell hb1; have hB1 : Below w.heap.size w w1 := up hb1 (by go_grown); have hz1 := hb1.size; (try simp at hz1); (try have hz1_w_p1 : w.heap.size < w1.heap.size + 1 := (by omega)); (try have hz1_w_p2 : w.heap.size < w1.heap.size + 1 + 1 := (by omega)); (try have hz1_w_p3 : w.heap.size < w1.heap.size + 1 + 1 + 1 := (by omega)); (try have hz1_w_0 : w.heap.size < w1.heap.size := (by omega)); (try have hz1_w_1 : w.heap.size + 1 < w1.heap.size := (by omega)); (try have hz1_w_2 : w.heap.size + 1 + 1 < w1.heap.size := (by omega)); (try have hz1_w_3 : w.heap.size + 1 + 1 + 1 < w1.heap.size := (by omega)); (try have hz1_w_4 : w.heap.size + 1 + 1 + 1 + 1 < w1.heap.size := (by omega)); (try have hz1_w_5 : w.heap.size + 1 + 1 + 1 + 1 + 1 < w1.heap.size := (by omega)); (try have hz1_w_6 : w.heap.size + 1 + 1 + 1 + 1 + 1 + 1 < w1.heap.size := (by omega)))
  go_wp2
  go_returns
  exact ⟨rfl, by go_grown⟩

theorem rTerms_row {p q : Int} {m : Nat} (ha : okQ p q = true) (hm : m + 1 = (tl p q).length) (w : World) : Calls Tryd.prog 8 #[.agg #[.int .i64 (p), .int .i64 (q)]] w (TermsRow p q m w) :=
  (rTerms_ok p q w ha).mono fun e w' ⟨v, he, ho, hb⟩ => by
    have ho' := ho
    rcases ho.2 with ⟨_, h0⟩ | ⟨g, cap, cur, rfl, hg, hgb, hcap, _⟩
    · omega
    · have hl := (Array.getElem?_eq_some_iff.1 hgb).1
      refine ⟨g, cap, by rw [hm]; exact he, by omega, hg, hl, fun j hj => ?_, hb⟩
      have := World.ownsRow.cellAt ho' j (by simpa using hj)
      rw [Nat.zero_add, List.getD_eq_getElem?_getD, List.getElem?_eq_getElem hj]
      rw [this]
      simp [hj]

theorem same_nil (v1 v2 : Option Addr) (c1 c2 : Nat) (w : World) : Calls Tryd.prog 13 #[.slice v1 0 c1, .slice v2 0 c2] w fun e w' => e = .returned (.bool true) ∧ Below w.heap.size w w' := by
  go_enter Tryd.func13, Tryd.ntmps13
  go_wp2
  go_loopw [5] (fun i wr => i = .int .i64 0 ∧ wr = w) (fun _ _ => 0)
  case atStart => exact ⟨rfl, rfl⟩
  case round =>
    obtain ⟨rfl, rfl⟩ := hrel
    go_wp2
    go_ret
    exact ⟨rfl, Below.refl _ _⟩
set_option maxHeartbeats 2000000 in
theorem same_row (b1 c1 b2 c2 n : Nat) (l : List Int) (w : World) (hn : n = l.length) (hbig : n ≤ 1000000) (h1 : Row w b1 0 l) (h2 : Row w b2 0 l) :
    Calls Tryd.prog 13 #[.slice (some ⟨b1, 0, none⟩) n c1, .slice (some ⟨b2, 0, none⟩) n c2] w fun e w' => e = .returned (.bool true) ∧ Below w.heap.size w w' := by
  have H1 := Lib.hid h1
  have H2 := Lib.hid h2
  have HN := Lib.hid hn
  clear h1 h2 hn
  go_enter Tryd.func13, Tryd.ntmps13
  go_wp2
  go_loopw [5] (fun i wr => ∃ k j : Nat, k ≤ n ∧ i = .int .i64 k ∧ wr = w.drewN j) (fun i _ => n - (intOf i).toNat)
  case atStart => exact ⟨0, 0, Nat.zero_le _, rfl, rfl⟩
  case round =>
    obtain ⟨k, j, hk, rfl, rfl⟩ := hrel
    by_cases hlt : k < n
    · have x1 : w.cell? ⟨b1, k, none⟩ = some (.int .i64 (l.getD k 0)) := by have := H1.out k (by rw [← HN.out]; exact hlt); rwa [Nat.zero_add] at this
      have x2 : w.cell? ⟨b2, k, none⟩ = some (.int .i64 (l.getD k 0)) := by have := H2.out k (by rw [← HN.out]; exact hlt); rwa [Nat.zero_add] at this
      generalize l.getD k 0 = t at *
      go_wp2_with fail
      go_quiet (fail)
      go_wp2
      exact ⟨⟨k + 1, _, by omega, by go_num, rfl⟩, by simp [intOf]; omega⟩
    · obtain rfl : k = n := by omega
      go_wp2
      go_ret
      exact ⟨rfl, below_drewN (Below.refl _ _) _⟩

theorem fracs_nil (v1 v2 : Option Addr) (c1 c2 : Nat) (w : World) : Calls Tryd.prog 14 #[.slice v1 0 c1, .slice v2 0 c2] w fun e w' => e = .returned (.bool true) ∧ Below w.heap.size w w' := by
  go_enter Tryd.func14, Tryd.ntmps14
  go_wp2
  go_loopw [5] (fun i wr => i = .int .i64 0 ∧ wr = w) (fun _ _ => 0)
  case atStart => exact ⟨rfl, rfl⟩
  case round =>
    obtain ⟨rfl, rfl⟩ := hrel
    go_wp2
    go_ret
    exact ⟨rfl, Below.refl _ _⟩
set_option maxHeartbeats 2000000 in
theorem fracs_row (b1 c1 b2 c2 n : Nat) (l : List (Int × Int)) (w : World) (hn : n = l.length) (hbig : n ≤ 1000000) (h1 : RowP w b1 l) (h2 : RowP w b2 l) :
    Calls Tryd.prog 14 #[.slice (some ⟨b1, 0, none⟩) n c1, .slice (some ⟨b2, 0, none⟩) n c2] w fun e w' => e = .returned (.bool true) ∧ Below w.heap.size w w' := by
  have H1 := Lib.hid h1
  have H2 := Lib.hid h2
  have HN := Lib.hid hn
  clear h1 h2 hn
  go_enter Tryd.func14, Tryd.ntmps14
  go_wp2
  go_loopw [5] (fun i wr => ∃ k j : Nat, k ≤ n ∧ i = .int .i64 k ∧ wr = w.drewN j) (fun i _ => n - (intOf i).toNat)
  case atStart => exact ⟨0, 0, Nat.zero_le _, rfl, rfl⟩
  case round =>
    obtain ⟨k, j, hk, rfl, rfl⟩ := hrel
    by_cases hlt : k < n
    · obtain ⟨⟨P, Q⟩, hpq⟩ : ∃ x, l[k]? = some x := ⟨_, List.getElem?_eq_getElem (by rw [← HN.out]; exact hlt)⟩
      obtain ⟨x1, x2⟩ := H1.out k P Q hpq
      obtain ⟨x3, x4⟩ := H2.out k P Q hpq
      clear hpq
      go_wp2_with fail
      go_quiet (fail)
      go_wp2
      exact ⟨⟨k + 1, _, by omega, by go_num, rfl⟩, by simp [intOf]; omega⟩
    · obtain rfl : k = n := by omega
      go_wp2
      go_ret
      exact ⟨rfl, below_drewN (Below.refl _ _) _⟩

theorem termB_take {l : List Int} {k : Nat} (h : ∀ j, j < l.length → termB l j) : ∀ j, j < (l.take k).length → termB (l.take k) j := by
  intro j hj
  have hj' : j < k ∧ j < l.length := by rw [List.length_take] at hj; omega
  have := h j hj'.2
  unfold termB at *
  have e : (l.take k).getD j 0 = l.getD j 0 := by rw [List.getD_eq_getElem?_getD, List.getD_eq_getElem?_getD, List.getElem?_take_of_lt hj'.1]
  rw [e]; exact this
theorem row_take {W : World} {g : Nat} {l : List Int} {k : Nat} (h : Row W g 0 l) : Row W g 0 (l.take k) := by
  intro j hj
  have hj' : j < k ∧ j < l.length := by rw [List.length_take] at hj; omega
  have := h j hj'.2
  have e : (l.take k).getD j 0 = l.getD j 0 := by rw [List.getD_eq_getElem?_getD, List.getD_eq_getElem?_getD, List.getElem?_take_of_lt hj'.1]
  rw [e]; exact this
theorem cv_den {p q : Int} (ha : okQ p q = true) {k : Nat} (hk : k < (tl p q).length) : ∃ P Q, (cv p q)[k]? = some (P, Q) ∧ 1 ≤ Q ∧ Q ≤ q := by
  obtain ⟨h1, h2, h3, h4, _⟩ := okQ_iff.1 ha
  by_cases h : k + 1 < (tl p q).length
  · obtain ⟨P, Q, r, b, P1, Q1, e0, e1, e2, e3, e4, e5, e6, e7, e8, _⟩ := cv_at h1 k h
    exact ⟨P, Q, e0, e5, by omega⟩
  · have := cv_last ha
    rw [show (tl p q).length - 1 = k by omega] at this
    exact ⟨p, q, this, h1, Int.le_refl _⟩
theorem vok_take {p q : Int} (ha : okQ p q = true) {k : Nat} (hk : k < (tl p q).length) : vok ((tl p q).take (k + 1)) = true := by
  obtain ⟨h1, h2, h3, h4, _⟩ := okQ_iff.1 ha
  obtain ⟨P, Q, c1, c2, c3⟩ := cv_den ha hk
  have m1 := Int.emod_lt_of_pos p (b := q) (by omega)
  rw [cv_vb hk] at c1
  have hp := posL_take (tlF_posL (p % q).toNat (Nat.le_refl _) m1) k
  have e : (tl p q).take (k + 1) = p / q :: (tl q (p % q)).take k := by rw [tl_pos (by omega)]; rfl
  rw [e] at c1 ⊢
  have hq : (vb ((tl q (p % q)).take k)).1 = Q := congrArg Prod.snd (Option.some.inj c1)
  simp only [vok, Bool.and_eq_true, decide_eq_true_eq]
  exact ⟨vok_of _ hp (by omega), by omega⟩

theorem value_cv {p q : Int} (ha : okQ p q = true) {k g c : Nat} (hk : k < (tl p q).length) {P Q : Int} (hc : (cv p q)[k]? = some (P, Q)) (W : World) (hR : Row W g 0 (tl p q)) :
    Calls Tryd.prog 38 #[.slice (some ⟨g, 0, none⟩) (k + 1) c] W fun e w' => e = .returned (.tuple #[.int .i64 P, .int .i64 Q, .bool true]) ∧ W = w' := by
  have hl : ((tl p q).take (k + 1)).length = k + 1 := by rw [List.length_take]; omega
  have h40 := tl_len40 (p := p) (q := q) (by have := (okQ_iff.1 ha).1; omega) (okQ_iff.1 ha).2.1
  have hv := vok_take ha hk
  have h := value_any g 0 c ((tl p q).take (k + 1)) W (by omega) (by omega) (termB_take (okTP_tl ha).2.2.1) (row_take hR)
  rw [hl] at h
  rw [cv_vb hk] at hc
  unfold vvN vvD at h
  rw [if_pos hv, if_pos hv, hv, Option.some.inj hc] at h
  exact h

set_option maxRecDepth 100000 in
set_option maxHeartbeats 4000000 in
theorem rConv_ok (p q : Int) (m : Nat) (w : World) (ha : okQ p q = true) (hm : m + 1 = (tl p q).length) : Calls Tryd.prog 12 #[.agg #[.int .i64 (p), .int .i64 (q)]] w (ConvPost p q w) := by
  obtain ⟨i0, hi, iz0, iz1, iz2⟩ := info_parts infoQ
  have hlen := tl_len40 (p := p) (q := q) (by have := (okQ_iff.1 ha).1; omega) (okQ_iff.1 ha).2.1
  rw [← hm] at hlen
  have hcl := cv_len p q
  rw [← hm] at hcl
  have HT := Lib.hid fun (W : World) => rTerms_row ha hm W
  have HV := Lib.hid fun (k g c : Nat) (P Q : Int) (hk : k < m + 1) (hc : (cv p q)[k]? = some (P, Q)) (W : World) (hR : Row W g 0 (tl p q)) => value_cv ha (k := k) (g := g) (c := c) (by omega) hc W hR
  have HD := Lib.hid fun (k : Nat) (hk : k < m + 1) => cv_den ha (k := k) (by omega)
  have HCL := Lib.hid hcl
  have hML : 1000001 ≤ maxLen := by unfold maxLen; omega
  clear ha hm hcl
  go_enter Tryd.func12, Tryd.ntmps12
  go_wp2_with fail
  refine (HT.out _).mono ?_
  rintro e w1 ⟨g, c, rfl, hc, hg1, hg2, hR, hb1⟩
  have HR := Lib.hid hR
  have hB1 : Below w.heap.size w w1 := up hb1 (by go_grown)
  clear hR
  go_wp2
  go_loopw [6, 7] (fun o i wr => ∃ k : Nat, k ≤ m + 1 ∧ i = .int .i64 k ∧ wr.ownsRow w1.heap.size 23 2 o k (flat ((cv p q).take k)) ∧ Below w1.heap.size w1 wr) (fun _ i _ => m + 1 - (intOf i).toNat)
  case atStart => exact ⟨0, Nat.zero_le _, rfl, World.ownsRow_nil _ _ _ _, Below.refl _ _⟩
  case round =>
    obtain ⟨k, hk, rfl, hrow, hBr⟩ := hrel
    have hsz : w1.heap.size ≤ wr.heap.size := hBr.size
    by_cases hlt : k < m + 1
    · obtain ⟨P, Q, e1, e2, e3⟩ := HD.out k hlt
      have hkc : k + 1 ≤ c := by omega
      have HE := Lib.hid e1
      have hx : ((cv p q).take (k + 1)) = (cv p q).take k ++ [(P, Q)] := by
        rw [List.take_add_one, e1]
        rfl
      have HX := Lib.hid hx
      have hRr : Row wr g 0 (tl p q) := HR.out.on hg2 hBr
      have HVk := Lib.hid (HV.out k g c P Q hlt e1 wr hRr)
      clear e1 hx hRr
      go_wp2_with (first | (refine HVk.out.mono ?_; rintro e w2 ⟨rfl, rfl⟩) | (at_builtin; refine wpList_append_own _ rfl _ _ 31 rfl w1.heap.size 23 i0 (.agg #[.int .i64 (0), .int .i64 (0)]) 2 16 Tryd.underlying31 hi iz0 iz1 iz2 rfl (by decide) _ _ _ rfl (hrow.alloc _) ⟨wr.heap.size, 0, none⟩ 1 1 [.int .i64 P, .int .i64 Q] rfl rfl (cell_two_new _ _ _ _) (by simp [Value.oneCell']) (by omega) (by omega) (by simp; omega) ?_; intro v' w3 hown' hgrow _))
      have hB3 := below_grown hBr hsz hrow hgrow
      exact ⟨⟨k + 1, by omega, by go_num, by rw [HX.out, flat_snoc]; exact hown', hB3⟩, by simp [intOf]; omega⟩
    · obtain rfl : k = m + 1 := by omega
      have e : (cv p q).take (m + 1) = cv p q := by rw [← HCL.out]; exact List.take_length
      rw [e] at hrow
      have HCv := Lib.hid HCL.out.symm
      go_wp2
      go_ret2
      exact ⟨_, rfl, by rw [HCL.out]; exact ownsRow_less hrow hB1.size, hB1.trans (hBr.mono hB1.size)⟩
theorem rConv_arg (n d : Int) (w : World) (ha : okQ n d = false) :
    Calls Tryd.prog 12 #[.agg #[.int .i64 (n), .int .i64 (d)]] w fun e w' => e = .returned (.tuple #[.slice none 0 0, .int .i64 1]) ∧ Below w.heap.size w w' := by
  have HT := Lib.hid fun (W : World) => rTerms_arg n d W ha
  clear ha
  go_enter Tryd.func12, Tryd.ntmps12
  go_wp2_with fail
  (refine (HT.out _).mono ?_; rintro e w1 ⟨rfl, hb1⟩; obtain ⟨hc1, hf1⟩ := bcell hb1; have hB1 : Below w.heap.size w w1 := up hb1 (by go_grown); have hz1 := hb1.size; (try simp at hz1); (try have hz1_w_p1 : w.heap.size < w1.heap.size + 1 := (by omega)); (try have hz1_w_p2 : w.heap.size < w1.heap.size + 1 + 1 := (by omega)); (try have hz1_w_p3 : w.heap.size < w1.heap.size + 1 + 1 + 1 := (by omega)); (try have hz1_w_0 : w.heap.size < w1.heap.size := (by omega)); (try have hz1_w_1 : w.heap.size + 1 < w1.heap.size := (by omega)); (try have hz1_w_2 : w.heap.size + 1 + 1 < w1.heap.size := (by omega)); (try have hz1_w_3 : w.heap.size + 1 + 1 + 1 < w1.heap.size := (by omega)); (try have hz1_w_4 : w.heap.size + 1 + 1 + 1 + 1 < w1.heap.size := (by omega)); (try have hz1_w_5 : w.heap.size + 1 + 1 + 1 + 1 + 1 < w1.heap.size := (by omega)); (try have hz1_w_6 : w.heap.size + 1 + 1 + 1 + 1 + 1 + 1 < w1.heap.size := (by omega)))
  go_wp2
  go_returns
  exact ⟨rfl, by go_grown⟩
theorem rConv_row {p q : Int} {m : Nat} (ha : okQ p q = true) (hm : m + 1 = (tl p q).length) (w : World) : Calls Tryd.prog 12 #[.agg #[.int .i64 (p), .int .i64 (q)]] w (ConvRow p q m w) :=
  (rConv_ok p q m w ha hm).mono fun e w' ⟨v, he, ho, hb⟩ => by
    have ho' := ho
    have hcl := cv_len p q
    rcases ho.2 with ⟨_, h0⟩ | ⟨g, cap, cur, rfl, hg, hgb, hcap, _⟩
    · omega
    · have hl := (Array.getElem?_eq_some_iff.1 hgb).1
      refine ⟨g, cap, by rw [hm, ← hcl]; exact he, by omega, hg, hl, fun i P Q hi => ?_, hb⟩
      obtain ⟨f1, f2⟩ := flat_at hi
      have l1 := (List.getElem?_eq_some_iff.1 f1).1
      have l2 := (List.getElem?_eq_some_iff.1 f2).1
      rw [flat_len] at l1 l2
      exact ⟨(World.ownsRow.cellAt ho' (i * 2) l1).trans f1, (World.ownsRow.cellAt ho' (i * 2 + 1) l2).trans f2⟩
end Go.Proofs.YtgonaamjjhhiiaaDoor
