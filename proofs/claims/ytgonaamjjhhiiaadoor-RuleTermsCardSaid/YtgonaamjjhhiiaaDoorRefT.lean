/-
  The reference's fraction with some terms.
-/
import Derived.Test.YtgonaamjjhhiiaaDoorFromT
set_option linter.unusedVariables false
set_option linter.unusedSimpArgs false
namespace Go.Proofs.YtgonaamjjhhiiaaDoor
open Go Go.RowKit

def vvN (l : List Int) : Int := if vok l = true then (vb l).1 else 0
def vvD (l : List Int) : Int := if vok l = true then (vb l).2 else 0

theorem vals3 {a b x y : Int} {c z : Bool} (h1 : x = a) (h2 : y = b) (h3 : z = c) : Ending.returned (.tuple #[.int .i64 a, .int .i64 b, .bool c]) = .returned (.tuple #[.int .i64 x, .int .i64 y, .bool z]) := by rw [h1, h2, h3]
theorem vb_one (t : Int) : vb [t] = (t, 1) := by simp [vb]

set_option maxHeartbeats 4000000 in
theorem value_any (b o c : Nat) (l : List Int) (w : World) (h1 : 1 ≤ l.length) (hbig : l.length ≤ 1000000) (hP : ∀ j, j < l.length → termB l j) (hc : Row w b o l) :
    Calls Tryd.prog 38 #[.slice (some ⟨b, o, none⟩) l.length c] w fun e w' => e = .returned (.tuple #[.int .i64 (vvN l), .int .i64 (vvD l), .bool (vok l)]) ∧ w = w' := by
  have HC := Lib.hid hc
  have HP := Lib.hid hP
  have hlen : ∃ n, n = l.length := ⟨_, rfl⟩
  obtain ⟨n, hn⟩ := hlen
  have HN := Lib.hid hn
  rw [← hn] at h1 hbig ⊢
  clear hn hP hc
  obtain ⟨m, rfl⟩ : ∃ m, n = m + 1 := ⟨n - 1, by omega⟩
  have hx := HC.out m (by rw [← HN.out]; omega)
  obtain ⟨t, ht⟩ : ∃ t, l.getD m 0 = t := ⟨_, rfl⟩
  rw [ht] at hx
  have hd : l.drop m = [t] := by rw [drop_cons (by rw [← HN.out]; omega), ht, HN.out, List.drop_length]
  have HD := Lib.hid hd
  clear hd ht
  go_enter Tryd.func38, Tryd.ntmps38
  go_wp2
  go_loop [5, 6, 7] (fun x y i => ∃ k : Nat, k ≤ m ∧ i = .int .i64 ((k : Int) - 1) ∧ x = .int .i64 (vb (l.drop k)).1 ∧ y = .int .i64 (vb (l.drop k)).2 ∧ Hid (vok (l.drop k) = true)) (fun _ _ i => (intOf i + 1).toNat)
  case atStart => exact ⟨m, Nat.le_refl _, by congr 1; omega, by rw [HD.out, vb_one], by rw [HD.out, vb_one], Lib.hid (by rw [HD.out]; rfl)⟩
  case round =>
    clear hx
    obtain ⟨k, hk, hi, rfl, rfl, HV⟩ := hrel
    obtain ⟨X, hX⟩ : ∃ X, (vb (l.drop k)).1 = X := ⟨_, rfl⟩
    obtain ⟨Y, hY⟩ : ∃ Y, (vb (l.drop k)).2 = Y := ⟨_, rfl⟩
    cases k with
    | zero =>
      have hi' := hi.trans (show Value.int .i64 (((0 : Nat) : Int) - 1) = .int .i64 (-1) from rfl)
      subst hi'
      rw [hX, hY]
      rw [List.drop_zero] at hX hY
      have hv : vok l = true := by have := HV.out; rwa [List.drop_zero] at this
      have e1 : vvN l = X := by unfold vvN; rw [if_pos hv]; exact hX
      have e2 : vvD l = Y := by unfold vvD; rw [if_pos hv]; exact hY
      have M := Lib.hid (And.intro e1 (And.intro e2 hv))
      clear hX hY hv e1 e2
      go_wp2
      go_ret3
      exact ⟨vals3 M.out.1 M.out.2.1 M.out.2.2, rfl⟩
    | succ i =>
      have hi' := hi.trans (show Value.int .i64 (((i + 1 : Nat) : Int) - 1) = .int .i64 (i : Int) by congr 1; omega)
      subst hi'
      rw [hX, hY]
      have hx := HC.out i (by rw [← HN.out]; omega)
      obtain ⟨s, hs⟩ : ∃ s, l.getD i 0 = s := ⟨_, rfl⟩
      rw [hs] at hx
      have hT := HP.out i (by rw [← HN.out]; omega)
      unfold termB at hT
      rw [hs] at hT
      obtain ⟨t1, t2, _⟩ := hT
      have hp := vb_pos (l.drop (i + 1)) (okTP.pos HP.out (by omega))
      rw [hX, hY] at hp
      obtain ⟨p1, p2, p3⟩ := hp
      have hd : l.drop i = s :: l.drop (i + 1) := by rw [drop_cons (by rw [← HN.out]; omega), hs]
      have hv1 : (vb (l.drop i)).1 = s * X + Y := by rw [hd]; simp only [vb, hX, hY]
      have hv2 : (vb (l.drop i)).2 = X := by rw [hd]; simp only [vb, hX]
      have HE := Lib.hid hd
      have HX := Lib.hid hX
      have HV1 := Lib.hid hv1
      have HV2 := Lib.hid hv2
      clear hX hY hd hv1 hv2 hs
      by_cases hb1 : 1000000 < X
      · have hno : vok l = false := by
          cases hv : vok l with
          | false => rfl
          | true => have := vok_drop hv (k := i + 1) (by omega) (by rw [← HN.out]; omega); rw [HX.out] at this; omega
        have e1 : vvN l = 0 := by unfold vvN; rw [hno]; rfl
        have e2 : vvD l = 0 := by unfold vvD; rw [hno]; rfl
        have M := Lib.hid (And.intro e1 (And.intro e2 hno))
        clear e1 e2 hno HV1 HV2
        go_wp2
        go_ret3
        exact ⟨vals3 M.out.1 M.out.2.1 M.out.2.2, rfl⟩
      · have mb := mul_bd (a := s) (b := X) (A := 1000000000) (B := 1000000) (by omega) (by omega) (by omega) (by omega)
        have HV' : Hid (vok (l.drop i) = true) := Lib.hid (by
          rw [HE.out]
          simp only [vok, HV.out, HX.out, Bool.true_and, decide_eq_true_eq]
          omega)
        go_wp2
        go_round
        case rel => exact ⟨i, by omega, rfl, by rw [HV1.out], by rw [HV2.out], HV'⟩
        case measure => simp [intOf] <;> omega

theorem rFromTerms_few (v : Option Addr) (n c : Nat) (w : World) (hn : n = 0 ∨ 40 < n) (hbig : n ≤ 9223372036854775807) :
    Calls Tryd.prog 10 #[.slice v n c] w fun e w' => e = .returned (.tuple #[.agg #[.int .i64 (0), .int .i64 (0)], .int .i64 1]) ∧ Below w.heap.size w w' := by
  have hb : inB (n : Int) 1 40 = false := by unfold inB; simp; omega
  go_enter Tryd.func10, Tryd.ntmps10
  go_wp2_with fail
  refine (within_any _ _ _ _).mono ?_
  rintro e w1 ⟨rfl, rfl⟩
  rw [hb]
  clear hb
  go_wp2
  refine bodyPost_ret (res_qe Tryd.results10 rfl (by go_cell) (by go_cell)) rfl ⟨rfl, by go_grown⟩

/-- What the loop of the reference has held of the first terms. -/
def heldB (l : List Int) (n j : Nat) : Prop := termB l j ∧ (0 < j → j + 1 = n → 2 ≤ l.getD j 0)

set_option maxHeartbeats 8000000 in
theorem rFromTerms_any (b o c : Nat) (l : List Int) (w : World) (h1 : 1 ≤ l.length) (hbig : l.length ≤ 60) (hc : Row w b o l) (hb : b < w.heap.size) :
    Calls Tryd.prog 10 #[.slice (some ⟨b, o, none⟩) l.length c] w fun e w' => e = .returned (.tuple #[.agg #[.int .i64 (ftN l), .int .i64 (ftD l)], .int .i64 (ftE l)]) ∧ Below w.heap.size w w' := by
  by_cases h40 : l.length ≤ 40
  · have HC := Lib.hid hc
    have HNo := Lib.hid fun (h : ¬ okTP l) => ft_arg (okT_no h)
    have HVal := Lib.hid fun (hP : ∀ j, j < l.length → termB l j) (W : World) (hW : Row W b o l) => value_any b o c l W h1 (by omega) hP hW
    have HS := Lib.hid fun (h : okTP l) (hv : vok l = false) => ft_size (okT_yes h) hv
    have HM := Lib.hid fun (h : okTP l) (hv : vok l = true) => ft_made (okT_yes h) hv
    have HL := Lib.hid fun (n d : Int) (W : World) h1 h2 h3 h4 => made_any n d W h1 h2 h3 h4
    have HW := Lib.hid fun (n lo hi : Int) (W : World) => within_any n lo hi W
    have hlen : ∃ n, n = l.length := ⟨_, rfl⟩
    obtain ⟨n, hn⟩ := hlen
    have HN := Lib.hid hn
    rw [← hn] at HVal ⊢ h1 h40
    clear hn hbig hc
    have hw1 : inB (n : Int) 1 40 = true := by unfold inB; simp; omega
    go_enter Tryd.func10, Tryd.ntmps10
    go_wp2_with fail
    refine (HW.out _ _ _ _).mono ?_
    rintro e w1 ⟨rfl, rfl⟩
    rw [hw1]
    clear hw1
    go_wp2
    go_loop [4] (fun i => ∃ k : Nat, k ≤ n ∧ i = .int .i64 k ∧ Hid (∀ j, j < k → heldB l n j)) (fun i => n - (intOf i).toNat)
    case atStart => exact ⟨0, Nat.zero_le _, rfl, Lib.hid fun j hj => absurd hj (Nat.not_lt_zero _)⟩
    case round =>
      obtain ⟨k, hk, rfl, HK⟩ := hrel
      by_cases hlt : k < n
      · have hx := fun (O : Obj) => cellA O (HC.out k (by rw [← HN.out]; exact hlt))
        obtain ⟨t, ht⟩ : ∃ t, l.getD k 0 = t := ⟨_, rfl⟩
        rw [ht] at hx
        have HT := Lib.hid ht
        clear ht
        by_cases hA : -1000000000 ≤ t ∧ t ≤ 1000000000
        · have hw2 : inB t (-1000000000) 1000000000 = true := inB_iff.2 hA
          obtain ⟨a1, a2⟩ := hA
          by_cases k0 : k = 0
          · subst k0
            simp only [Nat.add_zero] at hx
            have HK' : Hid (∀ j, j < 1 → heldB l n j) := Lib.hid fun j hj => by
              obtain rfl : j = 0 := by omega
              exact ⟨⟨by rw [HT.out]; exact a1, by rw [HT.out]; exact a2, fun h => absurd h (Nat.lt_irrefl _)⟩, fun h => absurd h (Nat.lt_irrefl _)⟩
            go_wp2_with fail
            refine (HW.out _ _ _ _).mono ?_
            rintro e w2 ⟨rfl, rfl⟩
            rw [hw2]
            clear hw2
            go_wp2
            go_round
            case rel => exact ⟨1, by omega, rfl, HK'⟩
            case measure => simp [intOf] <;> omega
          · have k1 : 0 < k := by omega
            have k2 : (0 : Int) < (k : Int) := by omega
            by_cases t1 : t < 1
            · have M := Lib.hid (HNo.out fun h => by have := (h.2.2.1 k (by rw [← HN.out]; exact hlt)).2.2 k1; rw [HT.out] at this; omega)
              clear HNo
              by_cases kn : k + 1 = n
              · have kn' : ((k : Int) == (n : Int) - 1) = true := by simp; omega
                clear kn
                go_wp2_with fail
                refine (HW.out _ _ _ _).mono ?_
                rintro e w2 ⟨rfl, rfl⟩
                rw [hw2]
                clear hw2
                go_wp2
                refine bodyPost_ret (v := .tuple #[.agg #[.int .i64 (0), .int .i64 (0)], .int .i64 (1)]) (res_qe Tryd.results10 rfl (by first | (go_cell; done) | (repeat' (first | (with_reducible assumption) | (with_reducible refine cellD ?_) | (with_reducible refine cell_same ?_; repeat' (first | exact ⟨_, by with_reducible assumption⟩ | with_reducible refine cell_exD ?_ | with_reducible refine cell_ex ?_)) | (with_reducible refine cell_other ?_ (by dsimp only; omega))))) (by first | (go_cell; done) | (repeat' (first | (with_reducible assumption) | (with_reducible refine cellD ?_) | (with_reducible refine cell_same ?_; repeat' (first | exact ⟨_, by with_reducible assumption⟩ | with_reducible refine cell_exD ?_ | with_reducible refine cell_ex ?_)) | (with_reducible refine cell_other ?_ (by dsimp only; omega)))))) rfl ⟨by rw [M.out.1, M.out.2.1, M.out.2.2], ?_⟩; repeat' (first | (with_reducible exact Below.refl _ _) | (with_reducible assumption) | (with_reducible refine Below.alloc ?_ ?_ _) | (with_reducible refine Below.drew ?_) | (with_reducible refine below_drewN ?_ _) | (with_reducible refine Below.setCell ?_ ?_ _) | go_size)
              · have kn' : ((k : Int) == (n : Int) - 1) = false := by simp; omega
                clear kn
                go_wp2_with fail
                refine (HW.out _ _ _ _).mono ?_
                rintro e w2 ⟨rfl, rfl⟩
                rw [hw2]
                clear hw2
                go_wp2
                refine bodyPost_ret (v := .tuple #[.agg #[.int .i64 (0), .int .i64 (0)], .int .i64 (1)]) (res_qe Tryd.results10 rfl (by first | (go_cell; done) | (repeat' (first | (with_reducible assumption) | (with_reducible refine cellD ?_) | (with_reducible refine cell_same ?_; repeat' (first | exact ⟨_, by with_reducible assumption⟩ | with_reducible refine cell_exD ?_ | with_reducible refine cell_ex ?_)) | (with_reducible refine cell_other ?_ (by dsimp only; omega))))) (by first | (go_cell; done) | (repeat' (first | (with_reducible assumption) | (with_reducible refine cellD ?_) | (with_reducible refine cell_same ?_; repeat' (first | exact ⟨_, by with_reducible assumption⟩ | with_reducible refine cell_exD ?_ | with_reducible refine cell_ex ?_)) | (with_reducible refine cell_other ?_ (by dsimp only; omega)))))) rfl ⟨by rw [M.out.1, M.out.2.1, M.out.2.2], ?_⟩; repeat' (first | (with_reducible exact Below.refl _ _) | (with_reducible assumption) | (with_reducible refine Below.alloc ?_ ?_ _) | (with_reducible refine Below.drew ?_) | (with_reducible refine below_drewN ?_ _) | (with_reducible refine Below.setCell ?_ ?_ _) | go_size)
            · by_cases kn : k + 1 = n
              · have kn' : ((k : Int) == (n : Int) - 1) = true := by simp; omega
                by_cases t2 : t < 2
                · have M := Lib.hid (HNo.out fun h => by
                    rcases h.2.2.2 with h' | h'
                    · rw [← HN.out] at h'; omega
                    · rw [← HN.out, ← kn, Nat.add_sub_cancel, HT.out] at h'; omega)
                  clear HNo kn
                  go_wp2_with fail
                  refine (HW.out _ _ _ _).mono ?_
                  rintro e w2 ⟨rfl, rfl⟩
                  rw [hw2]
                  clear hw2
                  go_wp2
                  refine bodyPost_ret (v := .tuple #[.agg #[.int .i64 (0), .int .i64 (0)], .int .i64 (1)]) (res_qe Tryd.results10 rfl (by first | (go_cell; done) | (repeat' (first | (with_reducible assumption) | (with_reducible refine cellD ?_) | (with_reducible refine cell_same ?_; repeat' (first | exact ⟨_, by with_reducible assumption⟩ | with_reducible refine cell_exD ?_ | with_reducible refine cell_ex ?_)) | (with_reducible refine cell_other ?_ (by dsimp only; omega))))) (by first | (go_cell; done) | (repeat' (first | (with_reducible assumption) | (with_reducible refine cellD ?_) | (with_reducible refine cell_same ?_; repeat' (first | exact ⟨_, by with_reducible assumption⟩ | with_reducible refine cell_exD ?_ | with_reducible refine cell_ex ?_)) | (with_reducible refine cell_other ?_ (by dsimp only; omega)))))) rfl ⟨by rw [M.out.1, M.out.2.1, M.out.2.2], ?_⟩; repeat' (first | (with_reducible exact Below.refl _ _) | (with_reducible assumption) | (with_reducible refine Below.alloc ?_ ?_ _) | (with_reducible refine Below.drew ?_) | (with_reducible refine below_drewN ?_ _) | (with_reducible refine Below.setCell ?_ ?_ _) | go_size)
                · have HK' : Hid (∀ j, j < k + 1 → heldB l n j) := Lib.hid fun j hj => by
                    by_cases hj' : j < k
                    · exact HK.out j hj'
                    · obtain rfl : j = k := by omega
                      exact ⟨⟨by rw [HT.out]; exact a1, by rw [HT.out]; exact a2, fun _ => by rw [HT.out]; omega⟩, fun _ _ => by rw [HT.out]; omega⟩
                  clear kn
                  go_wp2_with fail
                  refine (HW.out _ _ _ _).mono ?_
                  rintro e w2 ⟨rfl, rfl⟩
                  rw [hw2]
                  clear hw2
                  go_wp2
                  all_goals first | (exfalso; omega) | exact ⟨⟨k + 1, by omega, by go_num, HK'⟩, by simp [intOf] <;> omega⟩
              · have kn' : ((k : Int) == (n : Int) - 1) = false := by simp; omega
                have HK' : Hid (∀ j, j < k + 1 → heldB l n j) := Lib.hid fun j hj => by
                    by_cases hj' : j < k
                    · exact HK.out j hj'
                    · obtain rfl : j = k := by omega
                      exact ⟨⟨by rw [HT.out]; exact a1, by rw [HT.out]; exact a2, fun _ => by rw [HT.out]; omega⟩, fun _ h => absurd h kn⟩
                clear kn
                go_wp2_with fail
                refine (HW.out _ _ _ _).mono ?_
                rintro e w2 ⟨rfl, rfl⟩
                rw [hw2]
                clear hw2
                go_wp2
                go_round
                case rel => exact ⟨k + 1, by omega, by go_num, HK'⟩
                case measure => simp [intOf] <;> omega
        · have hw2 : inB t (-1000000000) 1000000000 = false := inB_no.2 hA
          have M := Lib.hid (HNo.out fun h => by have := h.2.2.1 k (by rw [← HN.out]; exact hlt); unfold termB at this; rw [HT.out] at this; exact hA ⟨this.1, this.2.1⟩)
          clear HNo hA
          have h3 : (k = 0) ∨ (0 < k ∧ (0 : Int) < (k : Int) ∧ ((k : Int) == (n : Int) - 1) = true) ∨ (0 < k ∧ (0 : Int) < (k : Int) ∧ ((k : Int) == (n : Int) - 1) = false) := by
            by_cases k0 : k = 0
            · exact .inl k0
            · by_cases kn : k + 1 = n
              · exact .inr (.inl ⟨by omega, by omega, by simp; omega⟩)
              · exact .inr (.inr ⟨by omega, by omega, by simp; omega⟩)
          rcases h3 with rfl | ⟨k1, k2, kn'⟩ | ⟨k1, k2, kn'⟩
          all_goals
            try simp only [Nat.add_zero] at hx
            go_wp2_with fail
            refine (HW.out _ _ _ _).mono ?_
            rintro e w2 ⟨rfl, rfl⟩
            rw [hw2]
            clear hw2
            go_wp2
            refine bodyPost_ret (v := .tuple #[.agg #[.int .i64 (0), .int .i64 (0)], .int .i64 (1)]) (res_qe Tryd.results10 rfl (by first | (go_cell; done) | (repeat' (first | (with_reducible assumption) | (with_reducible refine cellD ?_) | (with_reducible refine cell_same ?_; repeat' (first | exact ⟨_, by with_reducible assumption⟩ | with_reducible refine cell_exD ?_ | with_reducible refine cell_ex ?_)) | (with_reducible refine cell_other ?_ (by dsimp only; omega))))) (by first | (go_cell; done) | (repeat' (first | (with_reducible assumption) | (with_reducible refine cellD ?_) | (with_reducible refine cell_same ?_; repeat' (first | exact ⟨_, by with_reducible assumption⟩ | with_reducible refine cell_exD ?_ | with_reducible refine cell_ex ?_)) | (with_reducible refine cell_other ?_ (by dsimp only; omega)))))) rfl ⟨by rw [M.out.1, M.out.2.1, M.out.2.2], ?_⟩; repeat' (first | (with_reducible exact Below.refl _ _) | (with_reducible assumption) | (with_reducible refine Below.alloc ?_ ?_ _) | (with_reducible refine Below.drew ?_) | (with_reducible refine below_drewN ?_ _) | (with_reducible refine Below.setCell ?_ ?_ _) | go_size)
      · obtain rfl : k = n := by omega
        have hP : ∀ j, j < k → termB l j := fun j hj => (HK.out j hj).1
        have hP' : ∀ j, j < l.length → termB l j := by have e := HN.out; intro j hj; exact hP j (by omega)
        have hTP : okTP l := ⟨by rw [← HN.out]; exact h1, by rw [← HN.out]; exact h40, hP', by
          by_cases k1 : k = 1
          · exact .inl (by rw [← HN.out]; exact k1)
          · exact .inr (by rw [← HN.out]; exact (HK.out (k - 1) (by omega)).2 (by omega) (by omega))⟩
        have HV := Lib.hid fun (W : World) (hW : Row W b o l) => HVal.out hP W hW
        cases hv : vok l with
        | false =>
          have M := Lib.hid (HS.out hTP hv)
          rw [hv] at HV
          clear HS HM HL HNo HVal hP hP' hTP hv HK
          go_wp2_with fail
          refine (HV.out _ (fun j hj => cellA _ (HC.out j hj))).mono ?_
          rintro e w2 ⟨rfl, rfl⟩
          go_wp2
          refine bodyPost_ret (v := .tuple #[.agg #[.int .i64 (0), .int .i64 (0)], .int .i64 (10)]) (res_qe Tryd.results10 rfl (by first | (go_cell; done) | (repeat' (first | (with_reducible assumption) | (with_reducible refine cellD ?_) | (with_reducible refine cell_same ?_; repeat' (first | exact ⟨_, by with_reducible assumption⟩ | with_reducible refine cell_exD ?_ | with_reducible refine cell_ex ?_)) | (with_reducible refine cell_other ?_ (by dsimp only; omega))))) (by first | (go_cell; done) | (repeat' (first | (with_reducible assumption) | (with_reducible refine cellD ?_) | (with_reducible refine cell_same ?_; repeat' (first | exact ⟨_, by with_reducible assumption⟩ | with_reducible refine cell_exD ?_ | with_reducible refine cell_ex ?_)) | (with_reducible refine cell_other ?_ (by dsimp only; omega)))))) rfl ⟨by rw [M.out.1, M.out.2.1, M.out.2.2], ?_⟩; repeat' (first | (with_reducible exact Below.refl _ _) | (with_reducible assumption) | (with_reducible refine Below.alloc ?_ ?_ _) | (with_reducible refine Below.drew ?_) | (with_reducible refine below_drewN ?_ _) | (with_reducible refine Below.setCell ?_ ?_ _) | go_size)
        | true =>
          have M0 := HM.out hTP hv
          have e1 : vvN l = (vb l).1 := if_pos hv
          have e2 : vvD l = (vb l).2 := if_pos hv
          rw [hv, e1, e2] at HV
          obtain ⟨X, hX⟩ : ∃ X, (vb l).1 = X := ⟨_, rfl⟩
          obtain ⟨Y, hY⟩ : ∃ Y, (vb l).2 = Y := ⟨_, rfl⟩
          rw [hX, hY] at HV M0
          have M := Lib.hid M0
          clear M0
          obtain ⟨z1, z2, z3, z4⟩ : 1 ≤ Y ∧ Y ≤ 1000000 ∧ -1000001000000000 ≤ X ∧ X ≤ 1000001000000000 := by
            cases l with
            | nil => exact absurd h1 (by rw [HN.out]; decide)
            | cons t ts =>
              have hp := vb_pos ts (by have := okTP.pos hTP.2.2.1 (k := 1) (Nat.le_refl _); simpa using this)
              simp only [vok, Bool.and_eq_true, decide_eq_true_eq] at hv
              have ht := hP 0 (by omega)
              unfold termB at ht
              simp only [List.getD_cons_zero] at ht
              have mb := mul_bd (a := t) (b := (vb ts).1) (A := 1000000000) (B := 1000000) (by omega) (by omega) (by omega) (by omega)
              simp only [vb] at hX hY
              omega
          have HL' := Lib.hid fun (W : World) => HL.out X Y W z1 (by omega) (by omega) (by omega)
          clear HS HM HL HNo HVal hP hP' hTP hv HK e1 e2 hX hY
          go_wp2_with fail
          refine (HV.out _ (fun j hj => cellA _ (HC.out j hj))).mono ?_
          rintro e w2 ⟨rfl, rfl⟩
          go_wp2_with fail
          (refine (HL'.out _).mono ?_; rintro e w3 ⟨rfl, hb3⟩; obtain ⟨hc3, hf3⟩ := bcell hb3; have hB3 : Below w.heap.size w w3 := up hb3 (by go_grown); have hz3 := hb3.size; (try simp at hz3); (try have hz3_w_p1 : w.heap.size < w3.heap.size + 1 := (by omega)); (try have hz3_w_p2 : w.heap.size < w3.heap.size + 1 + 1 := (by omega)); (try have hz3_w_p3 : w.heap.size < w3.heap.size + 1 + 1 + 1 := (by omega)); (try have hz3_w1_p1 : w1.heap.size < w3.heap.size + 1 := (by omega)); (try have hz3_w1_p2 : w1.heap.size < w3.heap.size + 1 + 1 := (by omega)); (try have hz3_w1_p3 : w1.heap.size < w3.heap.size + 1 + 1 + 1 := (by omega)); (try have hz3_w2_p1 : w2.heap.size < w3.heap.size + 1 := (by omega)); (try have hz3_w2_p2 : w2.heap.size < w3.heap.size + 1 + 1 := (by omega)); (try have hz3_w2_p3 : w2.heap.size < w3.heap.size + 1 + 1 + 1 := (by omega)); (try have hz3_w_0 : w.heap.size < w3.heap.size := (by omega)); (try have hz3_w_1 : w.heap.size + 1 < w3.heap.size := (by omega)); (try have hz3_w_2 : w.heap.size + 1 + 1 < w3.heap.size := (by omega)); (try have hz3_w_3 : w.heap.size + 1 + 1 + 1 < w3.heap.size := (by omega)); (try have hz3_w_4 : w.heap.size + 1 + 1 + 1 + 1 < w3.heap.size := (by omega)); (try have hz3_w_5 : w.heap.size + 1 + 1 + 1 + 1 + 1 < w3.heap.size := (by omega)); (try have hz3_w_6 : w.heap.size + 1 + 1 + 1 + 1 + 1 + 1 < w3.heap.size := (by omega)); (try have hz3_w1_0 : w1.heap.size < w3.heap.size := (by omega)); (try have hz3_w1_1 : w1.heap.size + 1 < w3.heap.size := (by omega)); (try have hz3_w1_2 : w1.heap.size + 1 + 1 < w3.heap.size := (by omega)); (try have hz3_w1_3 : w1.heap.size + 1 + 1 + 1 < w3.heap.size := (by omega)); (try have hz3_w2_0 : w2.heap.size < w3.heap.size := (by omega)); (try have hz3_w2_1 : w2.heap.size + 1 < w3.heap.size := (by omega)); (try have hz3_w2_2 : w2.heap.size + 1 + 1 < w3.heap.size := (by omega)); (try have hz3_w2_3 : w2.heap.size + 1 + 1 + 1 < w3.heap.size := (by omega)); have r3_0_0 : w3.cell? ⟨w.heap.size, 0, none⟩ = some (.int .i64 0) := (by go_cell); have r3_0_1 : w3.cell? ⟨w.heap.size, 1, none⟩ = some (.int .i64 0) := (by go_cell))
          go_wp2
          refine bodyPost_ret (v := .tuple #[.agg #[.int .i64 (madeN X Y), .int .i64 (madeD X Y)], .int .i64 (madeE X Y)]) (res_qe Tryd.results10 rfl (by first | (go_cell; done) | (repeat' (first | (with_reducible assumption) | (with_reducible refine cellD ?_) | (with_reducible refine cell_same ?_; repeat' (first | exact ⟨_, by with_reducible assumption⟩ | with_reducible refine cell_exD ?_ | with_reducible refine cell_ex ?_)) | (with_reducible refine cell_other ?_ (by dsimp only; omega))))) (by first | (go_cell; done) | (repeat' (first | (with_reducible assumption) | (with_reducible refine cellD ?_) | (with_reducible refine cell_same ?_; repeat' (first | exact ⟨_, by with_reducible assumption⟩ | with_reducible refine cell_exD ?_ | with_reducible refine cell_ex ?_)) | (with_reducible refine cell_other ?_ (by dsimp only; omega)))))) rfl ⟨by rw [M.out.1, M.out.2.1, M.out.2.2], ?_⟩; repeat' (first | (with_reducible exact Below.refl _ _) | (with_reducible assumption) | (with_reducible refine Below.alloc ?_ ?_ _) | (with_reducible refine Below.drew ?_) | (with_reducible refine below_drewN ?_ _) | (with_reducible refine Below.setCell ?_ ?_ _) | go_size)
  · have hok : okT l = false := okT_no fun h => h40 h.2.1
    obtain ⟨e1, e2, e3⟩ := ft_arg hok
    rw [e1, e2, e3]
    exact rFromTerms_few _ _ c w (.inr (by omega)) (by omega)
end Go.Proofs.YtgonaamjjhhiiaaDoor
