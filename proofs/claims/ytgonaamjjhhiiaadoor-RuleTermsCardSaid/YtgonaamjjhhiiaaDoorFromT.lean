/-
  The fraction with some terms, by the code and by the reference: the check of the terms, the way from the back, lowest terms.
-/
import Derived.Test.YtgonaamjjhhiiaaDoorTermM
import Derived.Test.YtgonaamjjhhiiaaDoorRefA
import Derived.Test.YtgonaamjjhhiiaaDoorTwice
import Derived.LoopTactic
set_option linter.unusedVariables false
set_option linter.unusedSimpArgs false
namespace Go.Proofs.YtgonaamjjhhiiaaDoor
open Go Go.RowKit

/-- Are numbers as terms are? -/
def termB (l : List Int) (j : Nat) : Prop := -1000000000 ≤ l.getD j 0 ∧ l.getD j 0 ≤ 1000000000 ∧ (0 < j → 1 ≤ l.getD j 0)
instance (l : List Int) (j : Nat) : Decidable (termB l j) := by unfold termB; infer_instance
def okTP (l : List Int) : Prop := 1 ≤ l.length ∧ l.length ≤ 40 ∧ (∀ j, j < l.length → termB l j) ∧ (l.length = 1 ∨ 2 ≤ l.getD (l.length - 1) 0)
instance (l : List Int) : Decidable (okTP l) := by unfold okTP; infer_instance
def okT (l : List Int) : Bool := decide (okTP l)
theorem okT_yes {l : List Int} (h : okTP l) : okT l = true := decide_eq_true h
theorem okT_no {l : List Int} (h : ¬ okTP l) : okT l = false := decide_eq_false h

/-- Ints in a row of cells. -/
def Row (W : World) (b o : Nat) (l : List Int) : Prop := ∀ j, j < l.length → W.cell? ⟨b, o + j, none⟩ = some (.int .i64 (l.getD j 0))

set_option maxHeartbeats 2000000 in
theorem areTerms_few (v : Option Addr) (n c : Nat) (w : World) (hn : n = 0 ∨ 40 < n) (hbig : n ≤ 9223372036854775807) :
    Calls Tryd.prog 35 #[.slice v n c] w fun e w' => e = .returned (.bool false) ∧ w = w' := by
  rcases hn with rfl | hn
  · go_enter Tryd.func35, Tryd.ntmps35
    go_wp2
    go_ret
    exact ⟨rfl, rfl⟩
  · have h1 : ((n : Int) == 0) = false := by simp; omega
    have h2 : decide ((40 : Int) < n) = true := by simp; omega
    go_enter Tryd.func35, Tryd.ntmps35
    go_wp2
    go_ret
    exact ⟨rfl, rfl⟩

set_option maxHeartbeats 4000000 in
theorem areTerms_any (b o c : Nat) (l : List Int) (w : World) (h1 : 1 ≤ l.length) (h40 : l.length ≤ 40) (hc : Row w b o l) :
    Calls Tryd.prog 35 #[.slice (some ⟨b, o, none⟩) l.length c] w fun e w' => e = .returned (.bool (okT l)) ∧ w = w' := by
  have hlen : ∃ n, n = l.length := ⟨_, rfl⟩
  obtain ⟨n, hn⟩ := hlen
  have HN := Lib.hid hn
  rw [← hn] at h1 h40 ⊢
  have HC := Lib.hid hc
  clear hn hc
  have k1 : ((n : Int) == 0) = false := by simp; omega
  have k2 : decide ((40 : Int) < n) = false := by simp; omega
  go_enter Tryd.func35, Tryd.ntmps35
  go_wp2
  go_loop [15] (fun i => ∃ k : Nat, k ≤ n ∧ i = .int .i64 k ∧ Hid (∀ j, j < k → termB l j)) (fun i => n - (intOf i).toNat)
  case atStart => exact ⟨0, Nat.zero_le _, rfl, Lib.hid fun j hj => absurd hj (Nat.not_lt_zero _)⟩
  case round =>
    obtain ⟨k, hk, rfl, HK⟩ := hrel
    have hcell : k < n → w.cell? ⟨b, o + k, none⟩ = some (.int .i64 (l.getD k 0)) := fun hlt => HC.out k (by rw [← HN.out]; exact hlt)
    by_cases hlt : k < n
    · have hx := hcell hlt
      obtain ⟨t, ht⟩ : ∃ t, l.getD k 0 = t := ⟨_, rfl⟩
      have HT := Lib.hid ht
      rw [ht] at hx
      clear hcell ht
      by_cases t1 : t < -1000000000
      · go_wp2
        go_ret
        exact ⟨retB (okT_no fun h => by have := (h.2.2.1 k (by rw [← HN.out]; exact hlt)).1; rw [HT.out] at this; omega).symm, rfl⟩
      · by_cases t2 : 1000000000 < t
        · go_wp2
          go_ret
          exact ⟨retB (okT_no fun h => by have := (h.2.2.1 k (by rw [← HN.out]; exact hlt)).2.1; rw [HT.out] at this; omega).symm, rfl⟩
        · by_cases k0 : k = 0
          · subst k0
            rw [Nat.add_zero] at hx
            have HK' : Hid (∀ j, j < 1 → termB l j) := Lib.hid fun j hj => by
              obtain rfl : j = 0 := by omega
              exact ⟨by rw [HT.out]; omega, by rw [HT.out]; omega, fun h => absurd h (Nat.lt_irrefl _)⟩
            go_wp2
            go_round
            case rel => exact ⟨1, by omega, rfl, HK'⟩
            case measure => simp [intOf] <;> omega
          · have k0' : 0 < k := by omega
            by_cases t3 : t < 1
            · go_wp2
              go_ret
              exact ⟨retB (okT_no fun h => by have := (h.2.2.1 k (by rw [← HN.out]; exact hlt)).2.2 k0'; rw [HT.out] at this; omega).symm, rfl⟩
            · go_wp2
              go_round
              case rel => exact ⟨k + 1, by omega, by go_num, Lib.hid fun j hj => by
                            by_cases hj' : j < k
                            · exact HK.out j hj'
                            · obtain rfl : j = k := by omega
                              exact ⟨by rw [HT.out]; omega, by rw [HT.out]; omega, fun _ => by rw [HT.out]; omega⟩⟩
              case measure => simp [intOf] <;> omega
    · obtain rfl : k = n := by omega
      clear hcell hlt
      by_cases hn1 : k = 1
      · have e1 : ((k : Int) == 1) = true := by simp [hn1]
        go_wp2
        go_ret
        exact ⟨retB (okT_yes ⟨by rw [← HN.out]; exact h1, by rw [← HN.out]; exact h40, by rw [← HN.out]; exact HK.out, .inl (by rw [← HN.out]; exact hn1)⟩).symm, rfl⟩
      · have e1 : ((k : Int) == 1) = false := by simp; omega
        obtain ⟨m, rfl⟩ : ∃ m, k = m + 1 := ⟨k - 1, by omega⟩
        have hx := HC.out m (by rw [← HN.out]; omega)
        obtain ⟨t, ht⟩ : ∃ t, l.getD m 0 = t := ⟨_, rfl⟩
        have HT := Lib.hid ht
        rw [ht] at hx
        clear ht
        have e2 : ((m + 1 : Nat) : Int) - 1 = m := by omega
        have e3 : ((m : Int) == 0) = false := by simp; omega
        have e4 : ((m : Int) + 1 == 1) = false := by simp; omega
        by_cases t4 : 2 ≤ t
        · go_wp2
          go_ret
          exact ⟨retB (okT_yes ⟨by rw [← HN.out]; exact h1, by rw [← HN.out]; exact h40, by rw [← HN.out]; exact HK.out, .inr (by rw [← HN.out, Nat.add_sub_cancel, HT.out]; exact t4)⟩).symm, rfl⟩
        · go_wp2
          go_ret
          exact ⟨retB (okT_no fun h => by
            rcases h.2.2.2 with h' | h'
            · rw [← HN.out] at h'; omega
            · rw [← HN.out, Nat.add_sub_cancel, HT.out] at h'; omega).symm, rfl⟩

theorem drop_cons {l : List Int} {m : Nat} (h : m < l.length) : l.drop m = l.getD m 0 :: l.drop (m + 1) := by
  rw [List.drop_eq_getElem_cons h, List.getD_eq_getElem?_getD, List.getElem?_eq_getElem h]
  rfl
theorem okTP.pos {l : List Int} (h : ∀ j, j < l.length → termB l j) {k : Nat} (hk : 1 ≤ k) : posL (l.drop k) := by
  intro t ht
  obtain ⟨j, hj, rfl⟩ := List.mem_iff_getElem.1 ht
  rw [List.length_drop] at hj
  have := (h (k + j) (by omega)).2.2 (by omega)
  rw [List.getElem_drop]
  rw [List.getD_eq_getElem?_getD, List.getElem?_eq_getElem (by omega)] at this
  exact this
theorem vok_drop {l : List Int} : ∀ {k : Nat}, vok l = true → 1 ≤ k → k ≤ l.length → (vb (l.drop k)).1 ≤ 1000000 := by
  induction l with
  | nil => intro k _ h1 h2; simp at h2; omega
  | cons t l ih =>
    intro k h h1 h2
    simp only [vok, Bool.and_eq_true, decide_eq_true_eq] at h
    cases k with
    | zero => omega
    | succ k =>
      cases k with
      | zero => simpa using h.2
      | succ k => simpa using ih (k := k + 1) h.1 (by omega) (by simpa using h2)

def ftE (l : List Int) : Int := if okT l = true then (if vok l = true then madeE (vb l).1 (vb l).2 else 10) else 1
def ftN (l : List Int) : Int := if okT l = true then (if vok l = true then madeN (vb l).1 (vb l).2 else 0) else 0
def ftD (l : List Int) : Int := if okT l = true then (if vok l = true then madeD (vb l).1 (vb l).2 else 0) else 0
theorem ft_arg {l : List Int} (h : okT l = false) : ftN l = 0 ∧ ftD l = 0 ∧ ftE l = 1 := by
  unfold ftN ftD ftE
  rw [h]
  exact ⟨rfl, rfl, rfl⟩
theorem ft_size {l : List Int} (h : okT l = true) (hv : vok l = false) : ftN l = 0 ∧ ftD l = 0 ∧ ftE l = 10 := by
  unfold ftN ftD ftE
  rw [h, hv]
  exact ⟨rfl, rfl, rfl⟩
theorem ft_made {l : List Int} (h : okT l = true) (hv : vok l = true) : ftN l = madeN (vb l).1 (vb l).2 ∧ ftD l = madeD (vb l).1 (vb l).2 ∧ ftE l = madeE (vb l).1 (vb l).2 := by
  unfold ftN ftD ftE
  rw [h, hv]
  exact ⟨rfl, rfl, rfl⟩

theorem lowest_any (n d : Int) (w : World) (h1 : 1 ≤ d) (h2 : d ≤ 4000000000000000000) (h3 : -4000000000000000000 ≤ n) (h4 : n ≤ 4000000000000000000) :
    Calls Tryd.prog 36 #[.agg #[.int .i64 (n), .int .i64 (d)]] w fun e w' => e = .returned (.tuple #[.agg #[.int .i64 (madeN n d), .int .i64 (madeD n d)], .int .i64 (madeE n d)]) ∧ Below w.heap.size w w' := by
  unfold madeN madeD madeE
  cases hl : lowOk n d with
  | true => exact lowest_ok n d w h1 h2 h3 h4 hl
  | false => exact lowest_bad n d w h1 h2 h3 h4 hl

theorem FromTerms_few (v : Option Addr) (n c : Nat) (w : World) (hn : n = 0 ∨ 40 < n) (hbig : n ≤ 9223372036854775807) :
    Calls Tryd.prog 9 #[.slice v n c] w fun e w' => e = .returned (.tuple #[.agg #[.int .i64 (0), .int .i64 (0)], .int .i64 1]) ∧ Below w.heap.size w w' := by
  have HA := Lib.hid fun (W : World) => areTerms_few v n c W hn hbig
  clear hn hbig
  go_enter Tryd.func9, Tryd.ntmps9
  go_wp2_with fail
  refine (HA.out _).mono ?_
  rintro e w1 ⟨rfl, rfl⟩
  go_wp2
  refine bodyPost_ret (res_qe Tryd.results9 rfl (by go_cell) (by go_cell)) rfl ⟨rfl, by go_grown⟩

set_option maxHeartbeats 4000000 in
theorem FromTerms_any (b o c : Nat) (l : List Int) (w : World) (h1 : 1 ≤ l.length) (hbig : l.length ≤ 60) (hc : Row w b o l) (hb : b < w.heap.size) :
    Calls Tryd.prog 9 #[.slice (some ⟨b, o, none⟩) l.length c] w fun e w' => e = .returned (.tuple #[.agg #[.int .i64 (ftN l), .int .i64 (ftD l)], .int .i64 (ftE l)]) ∧ Below w.heap.size w w' := by
  by_cases h40 : l.length ≤ 40
  · cases hok : okT l with
    | false =>
      obtain ⟨e1, e2, e3⟩ := ft_arg hok
      rw [e1, e2, e3]
      have HA := Lib.hid fun (W : World) (hW : Row W b o l) => areTerms_any b o c l W h1 h40 hW
      rw [hok] at HA
      have HC := Lib.hid hc
      have hlen : ∃ n, n = l.length := ⟨_, rfl⟩
      obtain ⟨n, hn⟩ := hlen
      rw [← hn] at HA ⊢
      clear hn hok e1 e2 e3 h1 h40 hbig hc
      go_enter Tryd.func9, Tryd.ntmps9
      go_wp2_with fail
      refine (HA.out _ (fun j hj => cellA _ (HC.out j hj))).mono ?_
      rintro e w1 ⟨rfl, rfl⟩
      go_wp2
      refine bodyPost_ret (res_qe Tryd.results9 rfl (by go_cell) (by go_cell)) rfl ⟨rfl, by go_grown⟩
    | true =>
      have hT : okTP l := of_decide_eq_true hok
      have HA := Lib.hid fun (W : World) (hW : Row W b o l) => areTerms_any b o c l W h1 h40 hW
      rw [hok] at HA
      have HC := Lib.hid hc
      have HP := Lib.hid hT.2.2.1
      have HL := Lib.hid fun (n d : Int) (W : World) h1 h2 h3 h4 => lowest_any n d W h1 h2 h3 h4
      have HS := Lib.hid fun (hv : vok l = false) => ft_size hok hv
      have HM := Lib.hid fun (hv : vok l = true) => ft_made hok hv
      have hlen : ∃ n, n = l.length := ⟨_, rfl⟩
      obtain ⟨n, hn⟩ := hlen
      have HN := Lib.hid hn
      rw [← hn] at HA ⊢ h1 h40
      clear hn hok hbig hT hc
      go_enter Tryd.func9, Tryd.ntmps9
      go_wp2_with fail
      refine (HA.out _ (fun j hj => cellA _ (HC.out j hj))).mono ?_
      rintro e w1 ⟨rfl, rfl⟩
      go_wp2
      go_loop [4, 5, 6] (fun x y i => ∃ k : Nat, k ≤ n ∧ i = .int .i64 ((k : Int) - 1) ∧ x = .int .i64 (vb (l.drop k)).1 ∧ y = .int .i64 (vb (l.drop k)).2 ∧ Hid (vok (l.drop k) = true)) (fun _ _ i => (intOf i + 1).toNat)
      case atStart => exact ⟨n, Nat.le_refl _, rfl, by rw [HN.out, List.drop_length]; rfl, by rw [HN.out, List.drop_length]; rfl, Lib.hid (by rw [HN.out, List.drop_length]; rfl)⟩
      case round =>
        obtain ⟨k, hk, hi, rfl, rfl, HV⟩ := hrel
        obtain ⟨X, hX⟩ : ∃ X, (vb (l.drop k)).1 = X := ⟨_, rfl⟩
        obtain ⟨Y, hY⟩ : ∃ Y, (vb (l.drop k)).2 = Y := ⟨_, rfl⟩
        cases k with
        | zero =>
          have hi' := hi.trans (show Value.int .i64 (((0 : Nat) : Int) - 1) = .int .i64 (-1) from rfl)
          subst hi'
          rw [hX, hY]
          rw [List.drop_zero] at hX hY
          have hv : vok l = true := by have := HV.out; rwa [List.drop_zero] at this
          have M0 := HM.out hv
          rw [hX, hY] at M0
          have M := Lib.hid M0
          clear M0
          obtain ⟨z1, z2, z3, z4⟩ : 1 ≤ Y ∧ Y ≤ 1000000 ∧ -1000001000000000 ≤ X ∧ X ≤ 1000001000000000 := by
            cases l with
            | nil => exact absurd h1 (by rw [HN.out]; decide)
            | cons t ts =>
              have hp := vb_pos ts (by have := okTP.pos HP.out (k := 1) (Nat.le_refl _); simpa using this)
              simp only [vok, Bool.and_eq_true, decide_eq_true_eq] at hv
              have ht := HP.out 0 (by simp)
              unfold termB at ht
              simp only [List.getD_cons_zero] at ht
              have mb := mul_bd (a := t) (b := (vb ts).1) (A := 1000000000) (B := 1000000) (by omega) (by omega) (by omega) (by omega)
              simp only [vb] at hX hY
              omega
          have HL' := Lib.hid fun (W : World) => HL.out X Y W z1 (by omega) (by omega) (by omega)
          clear hX hY HM hv HS HL HV HC HP
          go_wp2_with fail
          (refine (HL'.out _).mono ?_; rintro e w2 ⟨rfl, hb2⟩; obtain ⟨hc2, hf2⟩ := bcell hb2; have hB2 : Below w.heap.size w w2 := up hb2 (by go_grown); have hz2 := hb2.size; (try simp at hz2); (try have hz2_w_p1 : w.heap.size < w2.heap.size + 1 := (by omega)); (try have hz2_w_p2 : w.heap.size < w2.heap.size + 1 + 1 := (by omega)); (try have hz2_w_p3 : w.heap.size < w2.heap.size + 1 + 1 + 1 := (by omega)); (try have hz2_w1_p1 : w1.heap.size < w2.heap.size + 1 := (by omega)); (try have hz2_w1_p2 : w1.heap.size < w2.heap.size + 1 + 1 := (by omega)); (try have hz2_w1_p3 : w1.heap.size < w2.heap.size + 1 + 1 + 1 := (by omega)); (try have hz2_w_0 : w.heap.size < w2.heap.size := (by omega)); (try have hz2_w_1 : w.heap.size + 1 < w2.heap.size := (by omega)); (try have hz2_w_2 : w.heap.size + 1 + 1 < w2.heap.size := (by omega)); (try have hz2_w_3 : w.heap.size + 1 + 1 + 1 < w2.heap.size := (by omega)); (try have hz2_w_4 : w.heap.size + 1 + 1 + 1 + 1 < w2.heap.size := (by omega)); (try have hz2_w_5 : w.heap.size + 1 + 1 + 1 + 1 + 1 < w2.heap.size := (by omega)); (try have hz2_w_6 : w.heap.size + 1 + 1 + 1 + 1 + 1 + 1 < w2.heap.size := (by omega)); (try have hz2_w1_0 : w1.heap.size < w2.heap.size := (by omega)); (try have hz2_w1_1 : w1.heap.size + 1 < w2.heap.size := (by omega)); (try have hz2_w1_2 : w1.heap.size + 1 + 1 < w2.heap.size := (by omega)); (try have hz2_w1_3 : w1.heap.size + 1 + 1 + 1 < w2.heap.size := (by omega)); have r2_0_0 : w2.cell? ⟨w.heap.size, 0, none⟩ = some (.int .i64 0) := (by go_cell); have r2_0_1 : w2.cell? ⟨w.heap.size, 1, none⟩ = some (.int .i64 0) := (by go_cell))
          go_wp2
          refine bodyPost_ret (v := .tuple #[.agg #[.int .i64 (madeN X Y), .int .i64 (madeD X Y)], .int .i64 (madeE X Y)]) (res_qe Tryd.results9 rfl (by first | (go_cell; done) | (repeat' (first | (with_reducible assumption) | (with_reducible refine cellD ?_) | (with_reducible refine cell_same ?_; repeat' (first | exact ⟨_, by with_reducible assumption⟩ | with_reducible refine cell_exD ?_ | with_reducible refine cell_ex ?_)) | (with_reducible refine cell_other ?_ (by dsimp only; omega))))) (by first | (go_cell; done) | (repeat' (first | (with_reducible assumption) | (with_reducible refine cellD ?_) | (with_reducible refine cell_same ?_; repeat' (first | exact ⟨_, by with_reducible assumption⟩ | with_reducible refine cell_exD ?_ | with_reducible refine cell_ex ?_)) | (with_reducible refine cell_other ?_ (by dsimp only; omega)))))) rfl ⟨by rw [M.out.1, M.out.2.1, M.out.2.2], ?_⟩; repeat' (first | (with_reducible exact Below.refl _ _) | (with_reducible assumption) | (with_reducible refine Below.alloc ?_ ?_ _) | (with_reducible refine Below.drew ?_) | (with_reducible refine below_drewN ?_ _) | (with_reducible refine Below.setCell ?_ ?_ _) | go_size)
        | succ m =>
          have hi' := hi.trans (show Value.int .i64 (((m + 1 : Nat) : Int) - 1) = .int .i64 (m : Int) by congr 1; omega)
          subst hi'
          rw [hX, hY]
          have hx := fun (O : Obj) => cellA O (HC.out m (by rw [← HN.out]; omega))
          obtain ⟨t, ht⟩ : ∃ t, l.getD m 0 = t := ⟨_, rfl⟩
          rw [ht] at hx
          have hT := HP.out m (by rw [← HN.out]; omega)
          unfold termB at hT
          rw [ht] at hT
          obtain ⟨t1, t2, _⟩ := hT
          have hp := vb_pos (l.drop (m + 1)) (okTP.pos HP.out (by omega))
          rw [hX, hY] at hp
          obtain ⟨p1, p2, p3⟩ := hp
          have hd : l.drop m = t :: l.drop (m + 1) := by rw [drop_cons (by rw [← HN.out]; omega), ht]
          have hv1 : (vb (l.drop m)).1 = t * X + Y := by rw [hd]; simp only [vb, hX, hY]
          have hv2 : (vb (l.drop m)).2 = X := by rw [hd]; simp only [vb, hX]
          have HD := Lib.hid hd
          have HX := Lib.hid hX
          have HV1 := Lib.hid hv1
          have HV2 := Lib.hid hv2
          clear hX hY hd hv1 hv2 ht
          by_cases hb1 : 1000000 < X
          · have hno : vok l = false := by
              cases hv : vok l with
              | false => rfl
              | true => have := vok_drop hv (k := m + 1) (by omega) (by rw [← HN.out]; exact hk); rw [HX.out] at this; omega
            have M := Lib.hid (HS.out hno)
            clear hno HS HM HV1 HV2
            go_wp2
            refine bodyPost_ret (v := .tuple #[.agg #[.int .i64 (0), .int .i64 (0)], .int .i64 (10)]) (res_qe Tryd.results9 rfl (by first | (go_cell; done) | (repeat' (first | (with_reducible assumption) | (with_reducible refine cellD ?_) | (with_reducible refine cell_same ?_; repeat' (first | exact ⟨_, by with_reducible assumption⟩ | with_reducible refine cell_exD ?_ | with_reducible refine cell_ex ?_)) | (with_reducible refine cell_other ?_ (by dsimp only; omega))))) (by first | (go_cell; done) | (repeat' (first | (with_reducible assumption) | (with_reducible refine cellD ?_) | (with_reducible refine cell_same ?_; repeat' (first | exact ⟨_, by with_reducible assumption⟩ | with_reducible refine cell_exD ?_ | with_reducible refine cell_ex ?_)) | (with_reducible refine cell_other ?_ (by dsimp only; omega)))))) rfl ⟨by rw [M.out.1, M.out.2.1, M.out.2.2], ?_⟩; repeat' (first | (with_reducible exact Below.refl _ _) | (with_reducible assumption) | (with_reducible refine Below.alloc ?_ ?_ _) | (with_reducible refine Below.drew ?_) | (with_reducible refine below_drewN ?_ _) | (with_reducible refine Below.setCell ?_ ?_ _) | go_size)
          · have mb := mul_bd (a := t) (b := X) (A := 1000000000) (B := 1000000) (by omega) (by omega) (by omega) (by omega)
            have HV' : Hid (vok (l.drop m) = true) := Lib.hid (by
              rw [HD.out]
              simp only [vok, HV.out, HX.out, Bool.true_and, decide_eq_true_eq]
              omega)
            go_wp2
            go_round
            case rel => exact ⟨m, by omega, rfl, by rw [HV1.out], by rw [HV2.out], HV'⟩
            case measure => simp [intOf] <;> omega
  · have hok : okT l = false := okT_no fun h => h40 h.2.1
    obtain ⟨e1, e2, e3⟩ := ft_arg hok
    rw [e1, e2, e3]
    exact FromTerms_few _ _ c w (.inr (by omega)) (by omega)
end Go.Proofs.YtgonaamjjhhiiaaDoor
