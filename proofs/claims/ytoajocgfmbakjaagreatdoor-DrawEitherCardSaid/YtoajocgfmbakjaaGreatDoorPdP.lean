/-
  Either an order of all pieces, or a lock: mathematics.
-/
import Derived.Test.YtoajocgfmbakjaaGreatDoorPdF
import Derived.Test.YtoajocgfmbakjaaGreatDoorPdC
import Derived.Test.YtoajocgfmbakjaaGreatDoorPdM
import Derived.Test.YtoajocgfmbakjaaGreatDoorPdN
import Derived.Test.YtoajocgfmbakjaaGreatDoorPdK
set_option linter.unusedVariables false
set_option linter.unusedSimpArgs false
namespace Go.Proofs.YtoajocgfmbakjaaGreatDoor
open Go Go.RowKit

abbrev ints (l : List Nat) : List Int := l.map fun x : Nat => (x : Int)
theorem listS_z : listS 0 = [] := by simp [listS, listK]
theorem listS_nil {s : Nat} (hs : s < 65536) (h : listS s = []) : s = 0 := by
  have := setL_list hs
  rw [h] at this
  exact this.symm
theorem either_bad {ms : List Sol} (hc : chkM ms ≠ 0) : drawB ms = false ∧ drawL ms = [] ∧ lockL ms = [] ∧ leastT ms = none ∧ leastLL ms = [] ∧ (∀ l, chkO ms l = false) ∧ ∀ k, chkL ms k = false := by
  have h1 : drawB ms = false := if_neg hc
  have h2 : leastT ms = none := if_neg hc
  refine ⟨h1, ?_, if_neg hc, h2, ?_, fun l => if_neg hc, fun k => if_neg hc⟩
  · unfold drawL; rw [h1]; rfl
  · unfold leastLL; rw [h2]; rfl
theorem chkL_spec {ms : List Sol} (hc : chkM ms = 0) {k : List Int} (h : chkL ms k = true) : ∃ s, k = ints (listS s) ∧ s < 65536 ∧ sub s (allN ms.length) ∧ isLockB ms s = true := by
  unfold chkL at h
  rw [if_pos hc] at h
  cases hs : setF ms.length k with
  | none => rw [hs] at h; cases h
  | some s =>
    rw [hs] at h
    obtain ⟨h1, h2, h3⟩ := setF_spec (chkM_len hc) hs
    exact ⟨s, h1, h2, h3, h⟩
theorem chkL_list {ms : List Sol} (hc : chkM ms = 0) {s : Nat} (hs : s < 65536) (hn : sub s (allN ms.length)) (h : isLockB ms s = true) : chkL ms (ints (listS s)) = true := by
  unfold chkL
  rw [if_pos hc, setF_list hs hn]
  exact h
theorem isLockB_ne {ms : List Sol} {s : Nat} (h : isLockB ms s = true) : s ≠ 0 := by
  unfold isLockB at h
  rw [Bool.and_eq_true] at h
  exact of_decide_eq_true h.1
theorem either_ok {ms : List Sol} (hc : chkM ms = 0) :
    (drawB ms = true ∧ lockL ms = [] ∧ leastT ms = none ∧ leastLL ms = [] ∧ (∀ k, chkL ms k = false) ∧ chkO ms (drawL ms) = true ∧ (drawL ms).length = ms.length) ∨
    (drawB ms = false ∧ drawL ms = [] ∧ lockL ms ≠ [] ∧ (leastT ms).isSome = true ∧ (∀ l : List Mo, chkO ms l = true → l.length ≠ ms.length) ∧ chkL ms (ints (lockL ms)) = true ∧ chkL ms (ints (leastLL ms)) = true ∧
      (∀ x ∈ ints (leastLL ms), x ∈ ints (lockL ms)) ∧ ∀ k, chkL ms k = true → (leastLL ms).length ≤ k.length ∧ ∀ x ∈ k, x ∈ ints (lockL ms)) := by
  have h12 := chkM_len hc
  have hz := lockF_zero h12
  have hl := lockF_lt h12
  have e1 : drawB ms = decide (reach ms (allN ms.length) = allN ms.length) := if_pos hc
  have e2 : lockL ms = listS (lockF ms) := if_pos hc
  have e3 : leastT ms = leastF ms := if_pos hc
  have hls := least_some h12
  by_cases h : reach ms (allN ms.length) = allN ms.length
  · have h0 := hz.2 h
    have hT : leastT ms = none := by
      rw [e3]
      rw [h0] at hls
      cases hf : leastF ms with
      | none => rfl
      | some t => rw [hf] at hls; simp at hls
    have hD : drawB ms = true := by rw [e1]; exact decide_eq_true h
    have hL : drawL ms = (orderF ms (allN ms.length)).1 := by unfold drawL; rw [if_pos hD]
    refine .inl ⟨hD, by rw [e2, h0, listS_z], hT, by unfold leastLL; rw [hT]; rfl, fun k => ?_, ?_, ?_⟩
    · cases hk : chkL ms k with
      | false => rfl
      | true =>
        obtain ⟨s, _, _, h3, h4⟩ := chkL_spec hc hk
        have := lock_part h12 h3 h4
        rw [h0] at this
        exact absurd (sub_antisymm this (sub_zero _)) (isLockB_ne h4)
    · rw [hL]
      unfold chkO
      rw [if_pos hc]
      exact order_ord h12 _
    · rw [hL]
      obtain ⟨k1, k2⟩ := ordK_goes _ 0 (order_ord (ms := ms) h12 (allN ms.length))
      have := goes_len k1 fun p hp => by have := k2 p hp; omega
      have hs : setL 0 (pcs (orderF ms (allN ms.length)).1) = (orderF ms (allN ms.length)).2 := steps_pcs h12 65536 0
      rw [hs, show (orderF ms (allN ms.length)).2 = allN ms.length from h, list_all_len h12] at this
      unfold pcs at this
      rw [List.length_map] at this
      exact this.symm
  · have h0 : lockF ms ≠ 0 := fun e => h (hz.1 e)
    have hD : drawB ms = false := by rw [e1]; exact decide_eq_false h
    have hS : (leastT ms).isSome = true := by rw [e3, hls]; exact decide_eq_true h0
    obtain ⟨t, ht⟩ := Option.isSome_iff_exists.1 hS
    have e4 : leastLL ms = listS t := by unfold leastLL; rw [ht]; rfl
    rw [e3] at ht
    obtain ⟨k1, k2, k3, k4⟩ := least_spec h12 ht
    refine .inr ⟨hD, by unfold drawL; rw [hD]; rfl, ?_, hS, ?_, ?_, ?_, ?_, ?_⟩
    · rw [e2]
      exact fun e => h0 (listS_nil hl e)
    · intro l hl hn
      unfold chkO at hl
      rw [if_pos hc] at hl
      exact h (ord_all h12 hl hn)
    · rw [e2]
      exact chkL_list hc hl (lockF_sub h12) (lockF_lock h12 h0)
    · rw [e4]
      exact chkL_list hc k3 (sub_trans k2 (lockF_sub h12)) k1
    · intro x hx
      rw [e4] at hx
      rw [e2]
      obtain ⟨y, hy, rfl⟩ := List.mem_map.1 hx
      exact List.mem_map.2 ⟨y, (mem_listS hl).2 (k2 y ((mem_listS k3).1 hy)), rfl⟩
    · intro k hk
      obtain ⟨s, rfl, j2, j3, j4⟩ := chkL_spec hc hk
      refine ⟨?_, fun x hx => ?_⟩
      · rw [e4, List.length_map]
        exact k4 s j2 j3 j4
      · rw [e2]
        obtain ⟨y, hy, rfl⟩ := List.mem_map.1 hx
        exact List.mem_map.2 ⟨y, (mem_listS hl).2 (lock_part h12 j3 j4 y ((mem_listS j2).1 hy)), rfl⟩
end Go.Proofs.YtoajocgfmbakjaaGreatDoor
/-
  DrawEither.
-/
set_option linter.unusedVariables false
set_option linter.unusedSimpArgs false
namespace Go.Proofs.YtoajocgfmbakjaaGreatDoor
open Go Go.RowKit Go.Shelf

set_option maxRecDepth 100000 in
set_option maxHeartbeats 4000000 in
theorem either_core (ms : List Sol) (l : List Mo) (lk : List Int) (v lv kv : Value) (w : World) (c : Int) (is some ok held : Bool) (X : List Mo) (A B : List Int)
    (hv : SolsAt w v ms) (hl : MovsAt w lv l) (hk : IntsAt w kv lk) (hT : Tab32 w) (h64 : Tab64 w)
    (HD : ∀ W, SolsAt W v ms → Tab32 W → Calls Tryz.prog 43 #[v] W fun e w' => (∃ u, e = .returned (.tuple #[u, .bool is, .int .i64 c]) ∧ MovsAt w' u X) ∧ Below W.heap.size W w')
    (HK : ∀ W, SolsAt W v ms → Tab32 W → Calls Tryz.prog 57 #[v] W fun e w' => (∃ u, e = .returned (.tuple #[u, .int .i64 c]) ∧ IntsAt w' u A) ∧ Below W.heap.size W w')
    (HL : ∀ W, SolsAt W v ms → Tab32 W → Calls Tryz.prog 59 #[v] W fun e w' => (∃ u, e = .returned (.tuple #[u, .bool some, .int .i64 c]) ∧ IntsAt w' u B) ∧ Below W.heap.size W w')
    (HO : l.length ≤ 20 → ∀ W, SolsAt W v ms → MovsAt W lv l → Calls Tryz.prog 45 #[v, lv] W (RetB (.tuple #[.bool ok, .int .i64 c]) W))
    (HH : lk.length ≤ 20 → ∀ W, SolsAt W v ms → IntsAt W kv lk → Calls Tryz.prog 61 #[v, kv] W (RetB (.tuple #[.bool held, .int .i64 c]) W))
    (HO2 : is = true → ∀ W u, SolsAt W v ms → MovsAt W u X → Calls Tryz.prog 45 #[v, u] W (RetB (.tuple #[.bool true, .int .i64 c]) W))
    (HH2 : c = 0 → is = false → ∀ W u, SolsAt W v ms → IntsAt W u A → Calls Tryz.prog 61 #[v, u] W (RetB (.tuple #[.bool true, .int .i64 c]) W))
    (HH3 : c = 0 → is = false → ∀ W u, SolsAt W v ms → IntsAt W u B → Calls Tryz.prog 61 #[v, u] W (RetB (.tuple #[.bool true, .int .i64 c]) W))
    (HE : (c ≠ 0 ∧ is = false ∧ some = false ∧ ok = false ∧ held = false ∧ X = [] ∧ A = [] ∧ B = []) ∨
      (c = 0 ∧ is = true ∧ some = false ∧ held = false ∧ A = [] ∧ B = []) ∨
      (c = 0 ∧ is = false ∧ some = true ∧ ok = false ∧ X = [] ∧ A ≠ [] ∧ (∀ x ∈ B, x ∈ A) ∧ (held = true → B.length ≤ lk.length ∧ ∀ x ∈ lk, x ∈ A))) :
    Calls Tryz.prog 10 #[v, lv, kv] w (RetB (.bool true) w) := by
  have HT := Lib.hid hT
  have H6 := Lib.hid h64
  have HV := Lib.hid hv
  have HLL := Lib.hid hl
  have HKK := Lib.hid hk
  have HD := Lib.hid HD
  have HK := Lib.hid HK
  have HL := Lib.hid HL
  have HO := Lib.hid HO
  have HH := Lib.hid HH
  have HO2 := Lib.hid HO2
  have HH2 := Lib.hid HH2
  have HH3 := Lib.hid HH3
  have HE := Lib.hid HE
  obtain ⟨pa, ca, rfl, hma, _⟩ := hv
  obtain ⟨pl, cl, rfl, hmb, _⟩ := hl
  obtain ⟨pk, ck, rfl, hmc, _⟩ := hk
  obtain ⟨fw, hfw⟩ : ∃ fw, fw = decide ((ms.length : Int) ≤ 12 ∨ 12 < (ms.length : Int) ∧ (ms.length : Int) ≤ 15) := ⟨_, rfl⟩
  have HF := Lib.hid (fun W => few_ok pa ms.length ca 12 W)
  rw [← hfw] at HF
  clear hfw hT h64
  simp only [maxLen] at hma hmb hmc
  go_enter Tryz.func10, Tryz.ntmps10
  cases fw with
  | false =>
    go_wp2_with fail
    refine (HF.out _).mono ?_
    rintro e w1 ⟨rfl, hb1⟩
    have HB1 := Lib.hid hb1
    go_wp2_with fail
    refine (cast_ok _ (HT.out.below HB1.out (Nat.le_refl _)) (H6.out.below HB1.out (Nat.le_refl _))).mono ?_
    rintro e w4 ⟨rfl, hb4⟩
    go_wp2_with fail
    go_ret
    exact ⟨rfl, up hb4 HB1.out⟩
  | true =>
    by_cases h20 : 20 < l.length
    · have hd20 : decide ((20 : Int) < (l.length : Int)) = true := decide_eq_true (by omega)
      go_wp2_with fail
      refine (HF.out _).mono ?_
      rintro e w1 ⟨rfl, hb1⟩
      have HB1 := Lib.hid hb1
      go_wp2_with fail
      refine (cast_ok _ (HT.out.below HB1.out (Nat.le_refl _)) (H6.out.below HB1.out (Nat.le_refl _))).mono ?_
      rintro e w4 ⟨rfl, hb4⟩
      go_wp2_with fail
      go_ret
      exact ⟨rfl, up hb4 HB1.out⟩
    · have hd20 : decide ((20 : Int) < (l.length : Int)) = false := decide_eq_false (by omega)
      have HO1 := Lib.hid (HO.out (by omega))
      clear HO
      go_wp2_with fail
      refine (HF.out _).mono ?_
      rintro e w1 ⟨rfl, hb1⟩
      have HB1 := Lib.hid hb1
      have HK1 := Lib.hid (HKK.out.below HB1.out (Nat.le_refl _))
      clear hb1
      obtain ⟨sw, hsw⟩ : ∃ sw, sw = decide (∀ x ∈ [lk], x.length ≤ 20) := ⟨_, rfl⟩
      have HS := Lib.hid (fun (n cap : Nat) (h : n = w1.heap.size) => short_ok [lk] (.slice (.some ⟨n, 0, none⟩) 1 cap) _ (lists_one h HK1.out))
      rw [← hsw] at HS
      have HSW := Lib.hid hsw
      clear hsw
      cases sw with
      | false =>
        go_wp2_with fail
        refine (HS.out _ _ rfl).mono ?_
        rintro e w2 ⟨rfl, hb2⟩
        have HB2 := Lib.hid (up (up hb2 (grow1 _ _)) HB1.out)
        clear hb2
        go_wp2_with fail
        refine (cast_ok _ (HT.out.below HB2.out (Nat.le_refl _)) (H6.out.below HB2.out (Nat.le_refl _))).mono ?_
        rintro e w4 ⟨rfl, hb4⟩
        go_wp2_with fail
        go_ret
        exact ⟨rfl, up hb4 HB2.out⟩
      | true =>
        have HH1 := Lib.hid (HH.out (by have := of_decide_eq_true HSW.out.symm; exact this lk (by simp)))
        clear HH HSW
        go_wp2_with fail
        refine (HS.out _ _ rfl).mono ?_
        rintro e w2 ⟨rfl, hb2⟩
        have HB2 := Lib.hid (up (up hb2 (grow1 _ _)) HB1.out)
        clear hb2 HS HK1 HB1
        go_wp2_with fail
        refine (HD.out _ (HV.out.below HB2.out (Nat.le_refl _)) (HT.out.below HB2.out (Nat.le_refl _))).mono ?_
        rintro e w3 ⟨⟨ux, rfl, hux⟩, hb3⟩
        have HB3 := Lib.hid (up hb3 HB2.out)
        have HX3 := Lib.hid hux
        obtain ⟨px, cx, rfl, hmx, _⟩ := hux
        clear hb3 HD HB2
        go_wp2_with fail
        refine (HK.out _ (HV.out.below HB3.out (Nat.le_refl _)) (HT.out.below HB3.out (Nat.le_refl _))).mono ?_
        rintro e w4 ⟨⟨ua, rfl, hua⟩, hb4⟩
        have HB4 := Lib.hid (up hb4 HB3.out)
        have HX4 := Lib.hid (HX3.out.below hb4 (Nat.le_refl _))
        have HA4 := Lib.hid hua
        obtain ⟨qa, da, rfl, hna, _⟩ := hua
        clear hb4 HK HB3 HX3
        go_wp2_with fail
        refine (HL.out _ (HV.out.below HB4.out (Nat.le_refl _)) (HT.out.below HB4.out (Nat.le_refl _))).mono ?_
        rintro e w5 ⟨⟨ub, rfl, hub⟩, hb5⟩
        have HB5 := Lib.hid (up hb5 HB4.out)
        have HX5 := Lib.hid (HX4.out.below hb5 (Nat.le_refl _))
        have HA5 := Lib.hid (HA4.out.below hb5 (Nat.le_refl _))
        have HZ5 := Lib.hid hub
        obtain ⟨qb, db, rfl, hnb, _⟩ := hub
        clear hb5 HL HB4 HX4 HA4
        go_wp2_with fail
        refine (HO1.out _ (HV.out.below HB5.out (Nat.le_refl _)) (HLL.out.below HB5.out (Nat.le_refl _))).mono ?_
        rintro e w6 ⟨rfl, hb6⟩
        have HB6 := Lib.hid (up hb6 HB5.out)
        have HX6 := Lib.hid (HX5.out.below hb6 (Nat.le_refl _))
        have HA6 := Lib.hid (HA5.out.below hb6 (Nat.le_refl _))
        have HZ6 := Lib.hid (HZ5.out.below hb6 (Nat.le_refl _))
        clear hb6 HO1 HB5 HX5 HA5 HZ5
        go_wp2_with fail
        refine (HH1.out _ (HV.out.below HB6.out (Nat.le_refl _)) (HKK.out.below HB6.out (Nat.le_refl _))).mono ?_
        rintro e w7 ⟨rfl, hb7⟩
        have HB7 := Lib.hid (up hb7 HB6.out)
        have HX7 := Lib.hid (HX6.out.below hb7 (Nat.le_refl _))
        have HA7 := Lib.hid (HA6.out.below hb7 (Nat.le_refl _))
        have HZ7 := Lib.hid (HZ6.out.below hb7 (Nat.le_refl _))
        have HKW := Lib.hid (HKK.out.below HB7.out (Nat.le_refl _))
        have HVW := Lib.hid (HV.out.below HB7.out (Nat.le_refl _))
        clear hb7 HH1 HB6 HX6 HA6 HZ6
        simp only [maxLen] at hmx hna hnb
        have hcc : (c != c) = false := by simp
        rcases HE.out with ⟨hc, rfl, rfl, rfl, rfl, rfl, rfl, rfl⟩ | ⟨rfl, rfl, rfl, rfl, rfl, rfl⟩ | ⟨rfl, rfl, rfl, rfl, rfl, hA0, hBA, hhd⟩
        · have hne : (c != 0) = true := by simpa using hc
          clear HE hc
          go_wp2_with fail
          refine (cast_ok _ (HT.out.below HB7.out (Nat.le_refl _)) (H6.out.below HB7.out (Nat.le_refl _))).mono ?_
          rintro e w8 ⟨rfl, hb8⟩
          go_wp2_with fail
          go_ret
          exact ⟨rfl, up hb8 HB7.out⟩
        · have HC1 := Lib.hid (contains_ok [] [] (.slice qa 0 da) (.slice qb 0 db) w7 HA7.out HZ7.out)
          have HO3 := Lib.hid (HO2.out rfl)
          clear HE HO2 HH2 HH3
          cases ok with
          | false =>
            go_wp2_with fail
            refine HC1.out.mono ?_
            rintro e w8 ⟨rfl, hb8⟩
            have HB8 := Lib.hid (up hb8 HB7.out)
            have HX8 := Lib.hid (HX7.out.below hb8 (Nat.le_refl _))
            clear hb8
            go_wp2_with fail
            refine (HO3.out _ _ (HV.out.below HB8.out (Nat.le_refl _)) HX8.out).mono ?_
            rintro e w9 ⟨rfl, hb9⟩
            have HB9 := Lib.hid (up hb9 HB8.out)
            clear hb9
            go_wp2_with fail
            refine (cast_ok _ (HT.out.below HB9.out (Nat.le_refl _)) (H6.out.below HB9.out (Nat.le_refl _))).mono ?_
            rintro e w10 ⟨rfl, hb10⟩
            go_wp2_with fail
            go_ret
            exact ⟨rfl, up hb10 HB9.out⟩
          | true =>
            go_wp2_with fail
            refine HC1.out.mono ?_
            rintro e w8 ⟨rfl, hb8⟩
            have HB8 := Lib.hid (up hb8 HB7.out)
            have HX8 := Lib.hid (HX7.out.below hb8 (Nat.le_refl _))
            clear hb8
            go_wp2_with fail
            refine (HO3.out _ _ (HV.out.below HB8.out (Nat.le_refl _)) HX8.out).mono ?_
            rintro e w9 ⟨rfl, hb9⟩
            have HB9 := Lib.hid (up hb9 HB8.out)
            clear hb9
            go_wp2_with fail
            refine (cast_ok _ (HT.out.below HB9.out (Nat.le_refl _)) (H6.out.below HB9.out (Nat.le_refl _))).mono ?_
            rintro e w10 ⟨rfl, hb10⟩
            go_wp2_with fail
            go_ret
            exact ⟨rfl, up hb10 HB9.out⟩
        · have hA2 : 0 < A.length := Nat.pos_of_ne_zero fun e => hA0 (List.length_eq_zero_iff.1 e)
          have hA1 : decide ((0 : Int) < (A.length : Int)) = true := decide_eq_true (by have : A.length ≠ 0 := fun e => hA0 (List.length_eq_zero_iff.1 e); omega)
          have HC1 := Lib.hid (show Calls Tryz.prog 74 #[.slice qa A.length da, .slice qb B.length db] w7 (RetB (.bool true) w7) by
            have := contains_ok A B _ _ w7 HA7.out HZ7.out
            rwa [show decide (∀ x ∈ B, x ∈ A) = true from decide_eq_true hBA] at this)
          have HHD := Lib.hid hhd
          have HH4 := Lib.hid (HH2.out rfl rfl)
          have HH5 := Lib.hid (HH3.out rfl rfl)
          clear HE HO2 HH2 HH3 hBA hhd hA0
          cases held with
          | false =>
            go_wp2_with fail
            refine HC1.out.mono ?_
            rintro e w8 ⟨rfl, hb8⟩
            have HB8 := Lib.hid (up hb8 HB7.out)
            have HA8 := Lib.hid (HA7.out.below hb8 (Nat.le_refl _))
            have HZ8 := Lib.hid (HZ7.out.below hb8 (Nat.le_refl _))
            clear hb8
            go_wp2_with fail
            refine (HH4.out _ _ (HV.out.below HB8.out (Nat.le_refl _)) HA8.out).mono ?_
            rintro e w9 ⟨rfl, hb9⟩
            have HB9 := Lib.hid (up hb9 HB8.out)
            have HZ9 := Lib.hid (HZ8.out.below hb9 (Nat.le_refl _))
            clear hb9
            go_wp2_with fail
            refine (HH5.out _ _ (HV.out.below HB9.out (Nat.le_refl _)) HZ9.out).mono ?_
            rintro e w10 ⟨rfl, hb10⟩
            have HB10 := Lib.hid (up hb10 HB9.out)
            clear hb10
            go_wp2_with fail
            refine (cast_ok _ (HT.out.below HB10.out (Nat.le_refl _)) (H6.out.below HB10.out (Nat.le_refl _))).mono ?_
            rintro e w11 ⟨rfl, hb11⟩
            go_wp2_with fail
            go_ret
            exact ⟨rfl, up hb11 HB10.out⟩
          | true =>
            have hq2 : B.length ≤ lk.length := (HHD.out rfl).1
            have hq : decide ((lk.length : Int) < (B.length : Int)) = false := decide_eq_false (by have := (HHD.out rfl).1; omega)
            have HC2 := Lib.hid (fun (W : World) (h1 : IntsAt W (.slice qa A.length da) A) (h2 : IntsAt W (.slice pk lk.length ck) lk) => (show Calls Tryz.prog 74 #[.slice qa A.length da, .slice pk lk.length ck] W (RetB (.bool true) W) by
              have := contains_ok A lk _ _ W h1 h2
              rwa [show decide (∀ x ∈ lk, x ∈ A) = true from decide_eq_true (HHD.out rfl).2] at this))
            go_wp2_with fail
            refine HC1.out.mono ?_
            rintro e w7' ⟨rfl, hb7'⟩
            have HB7' := Lib.hid (up hb7' HB7.out)
            have HA7' := Lib.hid (HA7.out.below hb7' (Nat.le_refl _))
            have HZ7' := Lib.hid (HZ7.out.below hb7' (Nat.le_refl _))
            clear hb7'
            go_wp2_with fail
            refine (HC2.out _ HA7'.out (HKK.out.below HB7'.out (Nat.le_refl _))).mono ?_
            rintro e w8 ⟨rfl, hb8⟩
            have HB8 := Lib.hid (up hb8 HB7'.out)
            have HA8 := Lib.hid (HA7'.out.below hb8 (Nat.le_refl _))
            have HZ8 := Lib.hid (HZ7'.out.below hb8 (Nat.le_refl _))
            clear hb8
            go_wp2_with fail
            refine (HH4.out _ _ (HV.out.below HB8.out (Nat.le_refl _)) HA8.out).mono ?_
            rintro e w9 ⟨rfl, hb9⟩
            have HB9 := Lib.hid (up hb9 HB8.out)
            have HZ9 := Lib.hid (HZ8.out.below hb9 (Nat.le_refl _))
            clear hb9
            go_wp2_with fail
            refine (HH5.out _ _ (HV.out.below HB9.out (Nat.le_refl _)) HZ9.out).mono ?_
            rintro e w10 ⟨rfl, hb10⟩
            have HB10 := Lib.hid (up hb10 HB9.out)
            clear hb10
            go_wp2_with fail
            refine (cast_ok _ (HT.out.below HB10.out (Nat.le_refl _)) (H6.out.below HB10.out (Nat.le_refl _))).mono ?_
            rintro e w11 ⟨rfl, hb11⟩
            go_wp2_with fail
            go_ret
            exact ⟨rfl, up hb11 HB10.out⟩
theorem lock_len {ms : List Sol} {k : List Int} (hc : chkM ms = 0) (h : chkL ms k = true) : k.length ≤ 12 := by
  obtain ⟨s, h1, h2, h3, _⟩ := chkL_spec hc h
  have h12 := chkM_len hc
  rw [h1, List.length_map]
  have := part_len (allN_lt (n := ms.length) (by omega)) h2 h3
  rw [list_all_len h12] at this
  omega
theorem either_walk (ms : List Sol) (l : List Mo) (lk : List Int) (v lv kv : Value) (w : World) (hv : SolsAt w v ms) (hm : ∀ m ∈ ms, Fit m) (hl : MovsAt w lv l) (hk : IntsAt w kv lk) (hT : Tab32 w) (h64 : Tab64 w) :
    Calls Tryz.prog 10 #[v, lv, kv] w (RetB (.bool true) w) := by
  have hdl : (drawL ms).length ≤ maxLen := by
    by_cases hc : chkM ms = 0
    · rcases either_ok hc with ⟨_, _, _, _, _, _, h⟩ | ⟨_, h, _⟩
      · rw [h]; have := chkM_len hc; simp only [maxLen]; omega
      · rw [h]; simp
    · rw [(either_bad hc).2.1]; simp
  refine either_core ms l lk v lv kv w (chkM ms) (drawB ms) (leastT ms).isSome (chkO ms l && decide (l.length = ms.length)) (chkL ms lk) (drawL ms) (ints (lockL ms)) (ints (leastLL ms)) hv hl hk hT h64
    (fun W hv hT => (draw_ok ms v W hv hm hT).mono ?_) (fun W hv hT => (lock_ok ms v W hv hm hT).mono ?_) (fun W hv hT => (leastLock_ok ms v W hv hm hT).mono ?_)
    (fun h W hv hl => checkDraw_ok ms l v lv W hv hl hm (by omega)) (fun h W hv hl => checkLock_ok ms lk v kv W hv hl hm (by omega)) (fun hi W u hv hl => ?_) (fun hc hi W u hv hl => ?_) (fun hc hi W u hv hl => ?_) ?_
  · rintro e w' ⟨⟨u, rfl, hrow, _⟩, hb⟩
    exact ⟨⟨u, rfl, movsAt_own hrow hdl⟩, hb⟩
  · rintro e w' ⟨⟨u, rfl, hrow, _⟩, hb⟩
    exact ⟨⟨u, rfl, intsAt_own hrow⟩, hb⟩
  · rintro e w' ⟨⟨u, rfl, hrow, _⟩, hb⟩
    exact ⟨⟨u, rfl, intsAt_own hrow⟩, hb⟩
  · by_cases hc : chkM ms = 0
    · rcases either_ok hc with ⟨_, _, _, _, _, h6, h7⟩ | ⟨h, _⟩
      · have := checkDraw_ok ms (drawL ms) v u W hv hl hm (by rw [h7]; have := chkM_len hc; omega)
        rwa [h6, h7, decide_eq_true rfl] at this
      · rw [h] at hi; cases hi
    · rw [(either_bad hc).1] at hi; cases hi
  · rcases either_ok hc with ⟨h, _⟩ | ⟨_, _, _, _, _, h6, _⟩
    · rw [h] at hi; cases hi
    · have := checkLock_ok ms (ints (lockL ms)) v u W hv hl hm (by have := lock_len hc h6; omega)
      rwa [h6] at this
  · rcases either_ok hc with ⟨h, _⟩ | ⟨_, _, _, _, _, _, h7, _⟩
    · rw [h] at hi; cases hi
    · have := checkLock_ok ms (ints (leastLL ms)) v u W hv hl hm (by have := lock_len hc h7; omega)
      rwa [h7] at this
  · by_cases hc : chkM ms = 0
    · rcases either_ok hc with ⟨h1, h2, h3, h4, h5, h6, h7⟩ | ⟨h1, h2, h3, h4, h5, h6, h7, h8, h9⟩
      · exact .inr (.inl ⟨hc, h1, by rw [h3]; rfl, h5 _, by rw [h2]; rfl, by rw [h4]; rfl⟩)
      · refine .inr (.inr ⟨hc, h1, h4, ?_, h2, ?_, h8, fun h => ?_⟩)
        · cases ho : chkO ms l with
          | false => rfl
          | true => rw [Bool.true_and]; exact decide_eq_false (h5 l ho)
        · intro e
          exact h3 (List.map_eq_nil_iff.1 e)
        · obtain ⟨k1, k2⟩ := h9 lk h
          exact ⟨by rw [List.length_map]; exact k1, k2⟩
    · obtain ⟨h1, h2, h3, h4, h5, h6, h7⟩ := either_bad hc
      exact .inl ⟨hc, h1, by rw [h4]; rfl, by rw [h6]; rfl, h7 _, h2, by rw [h3]; rfl, by rw [h5]; rfl⟩
end Go.Proofs.YtoajocgfmbakjaaGreatDoor
