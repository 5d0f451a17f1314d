/-
  Walk of the reference's Read.
-/
import Derived.Test.YtgonaamjjhhiiaaGreatDoorRefA
import Derived.Test.YtgonaamjjhhiiaaGreatDoorTxtV
import Derived.BigRegion
set_option linter.unusedVariables false
set_option linter.unusedSimpArgs false
namespace Go.Proofs.YtgonaamjjhhiiaaGreatDoor
open Go Go.RowKit

/-- What the loop finds in memory: the result's cells, the two numbers. -/
structure PtAt (s : Nat) (a b : Int) (w : World) : Prop where
  x0 : w.cell? ⟨s, 0, none⟩ = some (.int .i64 0)
  x1 : w.cell? ⟨s, 1, none⟩ = some (.int .i64 0)
  a0 : w.cell? ⟨s + 1, 0, none⟩ = some (.int .i64 a)
  a1 : w.cell? ⟨s + 1, 1, none⟩ = some (.int .i64 b)
  f1 : ∀ o, w.frozen? ⟨s, o, none⟩ = false
  f2 : ∀ o, w.frozen? ⟨s + 1, o, none⟩ = false
  sz : s + 1 + 1 ≤ w.heap.size
theorem PtAt.drew {s : Nat} {a b : Int} {w : World} (h : PtAt s a b w) : PtAt s a b w.drew := by
  obtain ⟨x0, x1, a0, a1, f1, f2, sz⟩ := h
  exact ⟨x0, x1, a0, a1, f1, f2, sz⟩
theorem PtAt.setA {s : Nat} {a b x : Int} {w : World} (h : PtAt s a b w) : PtAt s x b (w.setCell ⟨s + 1, 0, none⟩ (.int .i64 x)) := by
  obtain ⟨x0, x1, a0, a1, f1, f2, sz⟩ := h
  constructor
  all_goals first | go_cell | (go_simp; done) | (intro o; go_simp; done) | (simp; omega) | skip
theorem PtAt.setB {s : Nat} {a b x : Int} {w : World} (h : PtAt s a b w) : PtAt s a x (w.setCell ⟨s + 1, 1, none⟩ (.int .i64 x)) := by
  obtain ⟨x0, x1, a0, a1, f1, f2, sz⟩ := h
  constructor
  all_goals first | go_cell | (go_simp; done) | (intro o; go_simp; done) | (simp; omega) | skip

/-- The reading behind the first k bytes. -/
def rdK (s : ByteArray) (k : Nat) : Int × Int × Int × Bool := (s.data.toList.take k).foldl rdStep (1, 0, 0, false)
theorem rdK_zero (s : ByteArray) : rdK s 0 = (1, 0, 0, false) := rfl
theorem rdK_all (s : ByteArray) : rdK s s.size = rdL s.data.toList := by
  unfold rdK rdL
  rw [List.take_of_length_le (Nat.le_of_eq (show s.data.toList.length = s.size from Array.length_toList))]
theorem rdK_next (s : ByteArray) (k : Nat) (h : k < s.size) : rdK s (k + 1) = rdStep (rdK s k) s[k] := by
  unfold rdK
  have hl : k < s.data.toList.length := by rw [Array.length_toList]; exact h
  rw [List.take_add_one, List.getElem?_eq_getElem hl, List.foldl_append]
  rfl
def rdGood (t : Int × Int × Int × Bool) : Prop := (t.1 = 1 ∨ t.1 = -1) ∧ 0 ≤ t.2.1 ∧ t.2.1 ≤ 10000000000 ∧ 0 ≤ t.2.2.1 ∧ t.2.2.1 ≤ 10000000000
theorem rdGood.step {t : Int × Int × Int × Bool} (h : rdGood t) (c : UInt8) : rdGood (rdStep t c) := by
  obtain ⟨h1, h2, h3, h4, h5⟩ := h
  obtain ⟨t1, t2, t3, t4⟩ := t
  simp only at h1 h2 h3 h4 h5
  unfold rdGood rdStep
  by_cases c1 : c = 45 <;> by_cases c2 : c = 47 <;> by_cases c3 : 48 ≤ c.toNat ∧ c.toNat ≤ 57 <;> cases t4 <;> simp [c1, c2, c3] <;> omega
theorem rdK_good (s : ByteArray) : ∀ k, k ≤ s.size → rdGood (rdK s k)
  | 0, _ => by rw [rdK_zero]; exact ⟨.inl rfl, by decide, by decide, by decide, by decide⟩
  | k + 1, h => by
    rw [rdK_next s k (by omega)]
    exact (rdK_good s k (by omega)).step _

def b01 (t : Bool) : Int := if t = true then 1 else 0
theorem byte_of {c : UInt8} {k : Nat} (h : c.toNat = k) (hk : k < 256) : c = UInt8.ofNat k := by
  apply UInt8.toNat_inj.1
  rw [h, UInt8.toNat_ofNat']
  omega
theorem rdStep_minus {c : UInt8} (h : c.toNat = 45) (p q r : Int) (t : Bool) : rdStep (p, q, r, t) c = (-1, q, r, t) := by
  obtain rfl := byte_of h (by omega)
  rfl
theorem rdStep_bar {c : UInt8} (h : c.toNat = 47) (p q r : Int) (t : Bool) : rdStep (p, q, r, t) c = (p, q, r, true) := by
  obtain rfl := byte_of h (by omega)
  rfl
theorem rdStep_num {c : UInt8} (h : 48 ≤ c.toNat) (h2 : c.toNat ≤ 57) (p q r : Int) (t : Bool) : rdStep (p, q, r, t) c = if t = true then (p, q, min (10 * r + c.toNat - 48) 10000000000, t) else (p, min (10 * q + c.toNat - 48) 10000000000, r, t) := by
  have n1 : ¬ c = 45 := fun hh => by rw [hh] at h; exact absurd h (by decide)
  have n2 : ¬ c = 47 := fun hh => by rw [hh] at h; exact absurd h (by decide)
  unfold rdStep
  simp only [n1, n2, if_false]
  rw [if_pos ⟨h, h2⟩]
theorem rdStep_else {c : UInt8} (h1 : c.toNat ≠ 45) (h2 : c.toNat ≠ 47) (h3 : ¬ (48 ≤ c.toNat ∧ c.toNat ≤ 57)) (p q r : Int) (t : Bool) : rdStep (p, q, r, t) c = (p, q, r, t) := by
  have n1 : ¬ c = 45 := fun hh => h1 (by rw [hh]; rfl)
  have n2 : ¬ c = 47 := fun hh => h2 (by rw [hh]; rfl)
  unfold rdStep
  simp only [n1, n2, if_false]
  rw [if_neg h3]
set_option maxHeartbeats 4000000 in
set_option maxRecDepth 4000 in
theorem rRead_core (s : ByteArray) (w : World) (hs : s.size ≤ 20) (sg a b den c : Int) (dv : Bool) (T : ByteArray) (x y z : Int) (hst : rdL s.data.toList = (sg, a, b, dv)) (hden : dv = true ∧ den = b ∨ dv = false ∧ den = 1)
    (HW : ∀ W, Calls Tryz.prog 6 #[.agg #[.int .i64 (sg * a), .int .i64 (den)]] W fun e w' => e = .returned (.tuple #[.string T, .int .i64 c]) ∧ Below W.heap.size W w')
    (hO : (¬ c = 0 ∧ x = 0 ∧ y = 0 ∧ z = 4) ∨ (c = 0 ∧ (T.toList == s.toList) = false ∧ x = 0 ∧ y = 0 ∧ z = 4) ∨ (c = 0 ∧ T = s ∧ x = sg * a ∧ y = den ∧ z = 0)) :
    Calls Tryz.prog 8 #[.string s] w fun e w' => e = .returned (.tuple #[.agg #[.int .i64 (x), .int .i64 (y)], .int .i64 z]) ∧ Below w.heap.size w w' := by
  have HW' := Lib.hid HW
  have HO := Lib.hid hO
  have HD := Lib.hid hden
  clear HW hO hden
  go_enter Tryz.func8, Tryz.ntmps8
  go_wp2_with fail
  go_loopw [4, 6, 7] (fun x y z wr => ∃ (k : Nat) (p q r : Int) (t : Bool), k ≤ s.size ∧ rdK s k = (p, q, r, t) ∧ x = .int .i64 p ∧ y = .int .i64 (b01 t) ∧ z = .int .i64 k ∧ PtAt w.heap.size q r wr ∧ Below w.heap.size w wr) (fun _ _ z _ => s.size - (intOf z).toNat)
  case atStart =>
    refine ⟨0, 1, 0, 0, false, by omega, rdK_zero s, rfl, rfl, rfl, ?_, by go_grown⟩
    constructor
    all_goals first | go_cell | (go_simp; done) | (intro o; go_simp; done) | skip
  case round =>
    obtain ⟨k, p, q, r, t, hk, hrd, rfl, rfl, rfl, hP, hB⟩ := hrel
    have k2 : (0 : Int) ≤ k := by omega
    have k3 : (s.size : Int) ≤ 20 := by omega
    have hg := rdK_good s k hk
    rw [hrd] at hg
    obtain ⟨g1, g2, g3, g4, g5⟩ := hg
    simp only at g1 g2 g3 g4 g5
    by_cases hkk : k = s.size
    · subst hkk
      rw [rdK_all, hst] at hrd
      injection hrd with e1 e2
      injection e2 with e2 e3
      injection e3 with e3 e4
      subst e1 e2 e3 e4
      have k4 : ¬ (s.size : Int) < s.size := by omega
      obtain ⟨x0, x1, a0, a1, f1, f2, sz⟩ := id hP
      have z0 : w.heap.size < wr.heap.size := by omega
      have z1 : w.heap.size + 1 < wr.heap.size := by omega
      have m1 : IntKind.i64.wrap (sg * a) = sg * a := IntWalk.i64_in _ (by rcases g1 with h | h <;> rw [h] <;> omega)
      rcases HD.out with ⟨rfl, hden⟩ | ⟨rfl, hden⟩
      · subst hden
        have hb : b01 true = 1 := rfl
        rw [hb]
        go_wp2_with fail
        (refine (HW'.out _).mono ?_; rintro e w1 ⟨rfl, hb1⟩; obtain ⟨hc1, hf1⟩ := bcell hb1; have hB1 : Below wr.heap.size wr w1 := up hb1 (by go_grown); have hz1 := hb1.size; (try simp at hz1); (try have hz1_wr_p1 : wr.heap.size < w1.heap.size + 1 := (by omega)); (try have hz1_wr_p2 : wr.heap.size < w1.heap.size + 1 + 1 := (by omega)); (try have hz1_wr_p3 : wr.heap.size < w1.heap.size + 1 + 1 + 1 := (by omega)); (try have hz1_wr_0 : wr.heap.size < w1.heap.size := (by omega)); (try have hz1_wr_1 : wr.heap.size + 1 < w1.heap.size := (by omega)); (try have hz1_wr_2 : wr.heap.size + 1 + 1 < w1.heap.size := (by omega)); (try have hz1_wr_3 : wr.heap.size + 1 + 1 + 1 < w1.heap.size := (by omega)); (try have hz1_wr_4 : wr.heap.size + 1 + 1 + 1 + 1 < w1.heap.size := (by omega)); (try have hz1_wr_5 : wr.heap.size + 1 + 1 + 1 + 1 + 1 < w1.heap.size := (by omega)); (try have hz1_wr_6 : wr.heap.size + 1 + 1 + 1 + 1 + 1 + 1 < w1.heap.size := (by omega)))
        have hB2 : Below w.heap.size w w1 := hB.trans (hB1.mono hB.size)
        have y0 := (hB1.cell (p := ⟨w.heap.size, 0, none⟩) z0).trans x0
        have y1 := (hB1.cell (p := ⟨w.heap.size, 1, none⟩) z0).trans x1
        have y2 := fun o => (hB1.frozen (p := ⟨w.heap.size, o, none⟩) z0).trans (f1 o)
        have z2 : w.heap.size < w1.heap.size := by have := hB1.size; omega
        rcases HO.out with ⟨o1, rfl, rfl, rfl⟩ | ⟨rfl, o2, rfl, rfl, rfl⟩ | ⟨rfl, o3, rfl, rfl, rfl⟩
        · go_wp2
          refine bodyPost_ret (res_qe Tryz.results8 rfl (by go_cell) (by go_cell)) rfl ⟨rfl, by go_grown⟩
        · go_wp2
          refine bodyPost_ret (res_qe Tryz.results8 rfl (by go_cell) (by go_cell)) rfl ⟨rfl, by go_grown⟩
        · subst o3
          go_wp2
          refine bodyPost_ret (res_qe Tryz.results8 rfl (by go_cell) (by go_cell)) rfl ⟨rfl, by go_grown⟩
      · subst hden
        have hb : b01 false = 0 := rfl
        rw [hb]
        go_wp2_with fail
        (refine (HW'.out _).mono ?_; rintro e w1 ⟨rfl, hb1⟩; obtain ⟨hc1, hf1⟩ := bcell hb1; have hB1 : Below wr.heap.size wr w1 := up hb1 (by go_grown); have hz1 := hb1.size; (try simp at hz1); (try have hz1_wr_p1 : wr.heap.size < w1.heap.size + 1 := (by omega)); (try have hz1_wr_p2 : wr.heap.size < w1.heap.size + 1 + 1 := (by omega)); (try have hz1_wr_p3 : wr.heap.size < w1.heap.size + 1 + 1 + 1 := (by omega)); (try have hz1_wr_0 : wr.heap.size < w1.heap.size := (by omega)); (try have hz1_wr_1 : wr.heap.size + 1 < w1.heap.size := (by omega)); (try have hz1_wr_2 : wr.heap.size + 1 + 1 < w1.heap.size := (by omega)); (try have hz1_wr_3 : wr.heap.size + 1 + 1 + 1 < w1.heap.size := (by omega)); (try have hz1_wr_4 : wr.heap.size + 1 + 1 + 1 + 1 < w1.heap.size := (by omega)); (try have hz1_wr_5 : wr.heap.size + 1 + 1 + 1 + 1 + 1 < w1.heap.size := (by omega)); (try have hz1_wr_6 : wr.heap.size + 1 + 1 + 1 + 1 + 1 + 1 < w1.heap.size := (by omega)))
        have hB2 : Below w.heap.size w w1 := hB.trans (hB1.mono hB.size)
        have y0 := (hB1.cell (p := ⟨w.heap.size, 0, none⟩) z0).trans x0
        have y1 := (hB1.cell (p := ⟨w.heap.size, 1, none⟩) z0).trans x1
        have y2 := fun o => (hB1.frozen (p := ⟨w.heap.size, o, none⟩) z0).trans (f1 o)
        have z2 : w.heap.size < w1.heap.size := by have := hB1.size; omega
        rcases HO.out with ⟨o1, rfl, rfl, rfl⟩ | ⟨rfl, o2, rfl, rfl, rfl⟩ | ⟨rfl, o3, rfl, rfl, rfl⟩
        · go_wp2
          refine bodyPost_ret (res_qe Tryz.results8 rfl (by go_cell) (by go_cell)) rfl ⟨rfl, by go_grown⟩
        · go_wp2
          refine bodyPost_ret (res_qe Tryz.results8 rfl (by go_cell) (by go_cell)) rfl ⟨rfl, by go_grown⟩
        · subst o3
          go_wp2
          refine bodyPost_ret (res_qe Tryz.results8 rfl (by go_cell) (by go_cell)) rfl ⟨rfl, by go_grown⟩
    · have k1 : (k : Int) < (s.size : Int) := by omega
      have hl : k < s.size := by omega
      have hn := rdK_next s k hl
      rw [hrd] at hn
      have mz : s.size - (intOf (.int .i64 ((k : Int) + 1))).toNat < s.size - (intOf (.int .i64 (k : Int))).toNat := by
        show s.size - ((k : Int) + 1).toNat < s.size - (k : Int).toNat
        omega
      clear hst HO HD
      by_cases c1 : s[k].toNat = 45
      · rw [rdStep_minus c1] at hn
        have i1 : ((s[k].toNat : Int) == 45) = true := by rw [c1]; rfl
        have i2 : ((s[k].toNat : Int) == 47) = false := by rw [c1]; rfl
        have i3 : ¬ (48 : Int) ≤ s[k].toNat := by omega
        go_wp2
        exact ⟨⟨k + 1, -1, q, r, t, by omega, hn, rfl, rfl, rfl, hP, hB⟩, mz⟩
      by_cases c2 : s[k].toNat = 47
      · rw [rdStep_bar c2] at hn
        have i1 : ((s[k].toNat : Int) == 45) = false := by rw [c2]; rfl
        have i2 : ((s[k].toNat : Int) == 47) = true := by rw [c2]; rfl
        have i3 : ¬ (48 : Int) ≤ s[k].toNat := by omega
        go_wp2
        exact ⟨⟨k + 1, p, q, r, true, by omega, hn, rfl, rfl, rfl, hP, hB⟩, mz⟩
      have i1 : ((s[k].toNat : Int) == 45) = false := by rw [beq_eq_false_iff_ne]; omega
      have i2 : ((s[k].toNat : Int) == 47) = false := by rw [beq_eq_false_iff_ne]; omega
      by_cases c3 : 48 ≤ s[k].toNat
      · by_cases c4 : s[k].toNat ≤ 57
        · rw [rdStep_num c3 c4] at hn
          have i3 : (48 : Int) ≤ s[k].toNat := by omega
          have i4 : (s[k].toNat : Int) ≤ 57 := by omega
          obtain ⟨x0, x1, a0, a1, f1, f2, sz⟩ := id hP
          have z0 : w.heap.size < wr.heap.size := by omega
          have z1 : w.heap.size + 1 < wr.heap.size := by omega
          cases t with
          | true =>
            have m1 : IntKind.i64.wrap (10 * r) = 10 * r := IntWalk.i64_in _ (by omega)
            have m2 : IntKind.i64.wrap (10 * r + (s[k].toNat : Int)) = 10 * r + (s[k].toNat : Int) := IntWalk.i64_in _ (by omega)
            have m3 : IntKind.i64.wrap (10 * r + (s[k].toNat : Int) - 48) = 10 * r + (s[k].toNat : Int) - 48 := IntWalk.i64_in _ (by omega)
            have hb : b01 true = 1 := rfl
            rw [hb]
            rw [if_pos rfl] at hn
            go_wp2
            go_region
            go_wp2
            refine ⟨⟨k + 1, p, q, _, true, by omega, hn, rfl, rfl, rfl, ?_, ?_⟩, mz⟩
            · first | exact hP.drew.setB | exact hP.setB
            · repeat' (first | (with_reducible exact Below.refl _ _) | (with_reducible assumption) | (with_reducible refine Below.alloc ?_ ?_ _) | (with_reducible refine Below.drew ?_) | (with_reducible refine below_drewN ?_ _) | (with_reducible refine Below.setCell ?_ ?_ _) | go_size)
          | false =>
            have m1 : IntKind.i64.wrap (10 * q) = 10 * q := IntWalk.i64_in _ (by omega)
            have m2 : IntKind.i64.wrap (10 * q + (s[k].toNat : Int)) = 10 * q + (s[k].toNat : Int) := IntWalk.i64_in _ (by omega)
            have m3 : IntKind.i64.wrap (10 * q + (s[k].toNat : Int) - 48) = 10 * q + (s[k].toNat : Int) - 48 := IntWalk.i64_in _ (by omega)
            have hb : b01 false = 0 := rfl
            rw [hb]
            rw [if_neg Bool.false_ne_true] at hn
            go_wp2
            go_region
            go_wp2
            refine ⟨⟨k + 1, p, _, r, false, by omega, hn, rfl, rfl, rfl, ?_, ?_⟩, mz⟩
            · first | exact hP.drew.setA | exact hP.setA
            · repeat' (first | (with_reducible exact Below.refl _ _) | (with_reducible assumption) | (with_reducible refine Below.alloc ?_ ?_ _) | (with_reducible refine Below.drew ?_) | (with_reducible refine below_drewN ?_ _) | (with_reducible refine Below.setCell ?_ ?_ _) | go_size)
        · rw [rdStep_else c1 c2 (fun hh => c4 hh.2)] at hn
          have i3 : (48 : Int) ≤ s[k].toNat := by omega
          have i4 : ¬ (s[k].toNat : Int) ≤ 57 := by omega
          have i5 : (57 : Int) < s[k].toNat := by omega
          go_wp2
          exact ⟨⟨k + 1, p, q, r, t, by omega, hn, rfl, rfl, rfl, hP, hB⟩, mz⟩
      · rw [rdStep_else c1 c2 (fun hh => c3 hh.1)] at hn
        have i3 : ¬ (48 : Int) ≤ s[k].toNat := by omega
        go_wp2
        exact ⟨⟨k + 1, p, q, r, t, by omega, hn, rfl, rfl, rfl, hP, hB⟩, mz⟩
end Go.Proofs.YtgonaamjjhhiiaaGreatDoor
