/-
  The reference's walk over all Dens up to a greatest one.
-/
import Derived.Test.YthoinamncekgmaaDoorBrak
import Derived.Test.YthoinamncekgmaaDoorFracV
set_option linter.unusedVariables false
set_option linter.unusedSimpArgs false
namespace Go.Proofs.YthoinamncekgmaaDoor
open Go Go.RowKit

/-- What the loop finds in memory: the fraction that is asked for, the two results' cells, the two fractions found so far. -/
structure BkAt (s : Nat) (n d p q r t : Int) (w : World) : Prop where
  x0 : w.cell? ⟨s, 0, none⟩ = some (.int .i64 n)
  x1 : w.cell? ⟨s, 1, none⟩ = some (.int .i64 d)
  a0 : w.cell? ⟨s + 1, 0, none⟩ = some (.int .i64 0)
  a1 : w.cell? ⟨s + 1, 1, none⟩ = some (.int .i64 0)
  b0 : w.cell? ⟨s + 1 + 1, 0, none⟩ = some (.int .i64 0)
  b1 : w.cell? ⟨s + 1 + 1, 1, none⟩ = some (.int .i64 0)
  l0 : w.cell? ⟨s + 1 + 1 + 1, 0, none⟩ = some (.int .i64 p)
  l1 : w.cell? ⟨s + 1 + 1 + 1, 1, none⟩ = some (.int .i64 q)
  h0 : w.cell? ⟨s + 1 + 1 + 1 + 1, 0, none⟩ = some (.int .i64 r)
  h1 : w.cell? ⟨s + 1 + 1 + 1 + 1, 1, none⟩ = some (.int .i64 t)
  f1 : ∀ o, w.frozen? ⟨s + 1, o, none⟩ = false
  f2 : ∀ o, w.frozen? ⟨s + 1 + 1, o, none⟩ = false
  f3 : ∀ o, w.frozen? ⟨s + 1 + 1 + 1, o, none⟩ = false
  f4 : ∀ o, w.frozen? ⟨s + 1 + 1 + 1 + 1, o, none⟩ = false
  sz : s + 1 + 1 + 1 + 1 + 1 ≤ w.heap.size

theorem BkAt.below {s : Nat} {n d p q r t : Int} {w w' : World} (h : BkAt s n d p q r t w) (hb : Below w.heap.size w w') : BkAt s n d p q r t w' := by
  obtain ⟨x0, x1, a0, a1, b0, b1, l0, l1, h0, h1, f1, f2, f3, f4, sz⟩ := h
  have hs := hb.size
  have yx0 := (hb.cell (p := ⟨s, 0, none⟩) (show s < w.heap.size by omega)).trans x0
  have yx1 := (hb.cell (p := ⟨s, 1, none⟩) (show s < w.heap.size by omega)).trans x1
  have ya0 := (hb.cell (p := ⟨s + 1, 0, none⟩) (show s + 1 < w.heap.size by omega)).trans a0
  have ya1 := (hb.cell (p := ⟨s + 1, 1, none⟩) (show s + 1 < w.heap.size by omega)).trans a1
  have yb0 := (hb.cell (p := ⟨s + 1 + 1, 0, none⟩) (show s + 1 + 1 < w.heap.size by omega)).trans b0
  have yb1 := (hb.cell (p := ⟨s + 1 + 1, 1, none⟩) (show s + 1 + 1 < w.heap.size by omega)).trans b1
  have yl0 := (hb.cell (p := ⟨s + 1 + 1 + 1, 0, none⟩) (show s + 1 + 1 + 1 < w.heap.size by omega)).trans l0
  have yl1 := (hb.cell (p := ⟨s + 1 + 1 + 1, 1, none⟩) (show s + 1 + 1 + 1 < w.heap.size by omega)).trans l1
  have yh0 := (hb.cell (p := ⟨s + 1 + 1 + 1 + 1, 0, none⟩) (show s + 1 + 1 + 1 + 1 < w.heap.size by omega)).trans h0
  have yh1 := (hb.cell (p := ⟨s + 1 + 1 + 1 + 1, 1, none⟩) (show s + 1 + 1 + 1 + 1 < w.heap.size by omega)).trans h1
  have yf1 := fun o => (hb.frozen (p := ⟨s + 1, o, none⟩) (show s + 1 < w.heap.size by omega)).trans (f1 o)
  have yf2 := fun o => (hb.frozen (p := ⟨s + 1 + 1, o, none⟩) (show s + 1 + 1 < w.heap.size by omega)).trans (f2 o)
  have yf3 := fun o => (hb.frozen (p := ⟨s + 1 + 1 + 1, o, none⟩) (show s + 1 + 1 + 1 < w.heap.size by omega)).trans (f3 o)
  have yf4 := fun o => (hb.frozen (p := ⟨s + 1 + 1 + 1 + 1, o, none⟩) (show s + 1 + 1 + 1 + 1 < w.heap.size by omega)).trans (f4 o)
  exact ⟨yx0, yx1, ya0, ya1, yb0, yb1, yl0, yl1, yh0, yh1, yf1, yf2, yf3, yf4, by omega⟩
theorem BkAt.setL {s : Nat} {n d p q r t x y : Int} {w : World} (h : BkAt s n d p q r t w) : BkAt s n d x y r t ((w.setCell ⟨s + 1 + 1 + 1, 0, none⟩ (.int .i64 x)).setCell ⟨s + 1 + 1 + 1, 1, none⟩ (.int .i64 y)) := by
  obtain ⟨x0, x1, a0, a1, b0, b1, l0, l1, h0, h1, f1, f2, f3, f4, sz⟩ := h
  constructor
  all_goals first | go_cell | (go_simp; done) | (intro o; go_simp; done) | (simp; omega) | skip
theorem BkAt.setH {s : Nat} {n d p q r t x y : Int} {w : World} (h : BkAt s n d p q r t w) : BkAt s n d p q x y ((w.setCell ⟨s + 1 + 1 + 1 + 1, 0, none⟩ (.int .i64 x)).setCell ⟨s + 1 + 1 + 1 + 1, 1, none⟩ (.int .i64 y)) := by
  obtain ⟨x0, x1, a0, a1, b0, b1, l0, l1, h0, h1, f1, f2, f3, f4, sz⟩ := h
  constructor
  all_goals first | go_cell | (go_simp; done) | (intro o; go_simp; done) | (simp; omega) | skip
set_option maxHeartbeats 4000000 in
theorem bracket_ok (n d m a b c f : Int) (w : World) (ha : okQ n d = true) (hm : szB m = true) (hL : Lo n d m a b) (hH : Hi n d m c f) :
    Calls Tryd.prog 97 #[.agg #[.int .i64 (n), .int .i64 (d)], .int .i64 m] w fun e w' => e = .returned (.tuple #[.agg #[.int .i64 (a), .int .i64 (b)], .agg #[.int .i64 (c), .int .i64 (f)]]) ∧ Below w.heap.size w w' := by
  obtain ⟨d1, d2, d3, d4, _⟩ := okQ_iff.1 ha
  obtain ⟨m1, m2⟩ := szB_iff.1 hm
  have hf := fun (k : Int) (W : World) (k1 : 1 ≤ k) (k2 : k ≤ 1000000) => (fun mb => rfl_any (n * k) d W d1 (by omega) (Int.le_trans (by omega) (And.left mb)) (Int.le_trans (And.right mb) (by omega))) (mul_bd (a := n) (b := k) (A := 1000000000) (B := 1000000) (by omega) (by omega) (by omega) (by omega))
  have hc := fun (k : Int) (W : World) (k1 : 1 ≤ k) (k2 : k ≤ 1000000) => (fun mb => rce_any (n * k) d W d1 (by omega) (Int.le_trans (by omega) (And.left mb)) (Int.le_trans (And.right mb) (by omega))) (mul_bd (a := n) (b := k) (A := 1000000000) (B := 1000000) (by omega) (by omega) (by omega) (by omega))
  have HF := hide0 hf
  have HC := hide0 hc
  have HF1 := hide0 fun (W : World) => rfl_any n d W d1 (by omega) (by omega) (by omega)
  have HC1 := hide0 fun (W : World) => rce_any n d W d1 (by omega) (by omega) (by omega)
  have HA := hide0 ha
  have HL := hide0 hL
  have HH := hide0 hH
  clear hf hc ha hL hH
  go_enter Tryd.func97, Tryd.ntmps97
  go_wp2_with fail
  refine (HF1.out _).mono ?_
  rintro e w' ⟨rfl, rfl⟩
  go_wp2_with fail
  refine (HC1.out _).mono ?_
  rintro e w' ⟨rfl, rfl⟩
  go_wp2_with fail
  go_loopw [8] (fun x wr => ∃ k p q r t : Int, x = .int .i64 k ∧ 2 ≤ k ∧ k ≤ m + 1 ∧ Lo n d (k - 1) p q ∧ Hi n d (k - 1) r t ∧ BkAt w.heap.size n d p q r t wr ∧ Below w.heap.size w wr) (fun x _ => (m + 1 - intOf x).toNat)
  case atStart =>
    refine ⟨2, n / d, 1, ceilQ n d, 1, rfl, by omega, by omega, Lo.start d1, Hi.start d1, ?_, by go_grown⟩
    constructor
    all_goals first | go_cell | (go_simp; done) | (intro o; go_simp; done) | skip
  case round =>
    obtain ⟨k, p, q, r, t, rfl, k2, km, hLo, hHi, hBk, hB⟩ := hrel
    obtain ⟨x0, x1, a0, a1, b0, b1, l0, l1, h0, h1, f1, f2, f3, f4, sz⟩ := id hBk
    have z0 : w.heap.size < wr.heap.size := by omega
    have z1 : w.heap.size + 1 < wr.heap.size := by omega
    have z2 : w.heap.size + 1 + 1 < wr.heap.size := by omega
    have z3 : w.heap.size + 1 + 1 + 1 < wr.heap.size := by omega
    have z4 : w.heap.size + 1 + 1 + 1 + 1 < wr.heap.size := by omega
    by_cases hk : k = m + 1
    · subst hk
      rw [show m + 1 - 1 = m by omega] at hLo hHi
      obtain ⟨rfl, rfl⟩ := hLo.unique HL.out
      obtain ⟨rfl, rfl⟩ := hHi.unique HH.out
      go_wp2
      go_region_held3 (fun w' => w'.cell? ⟨w.heap.size + 1 + 1 + 1, 0, none⟩ = some (.int .i64 p) ∧ w'.cell? ⟨w.heap.size + 1 + 1 + 1, 1, none⟩ = some (.int .i64 q) ∧ w'.cell? ⟨w.heap.size + 1 + 1 + 1 + 1, 0, none⟩ = some (.int .i64 r) ∧ w'.cell? ⟨w.heap.size + 1 + 1 + 1 + 1, 1, none⟩ = some (.int .i64 t))
        (first | (go_simp; done) | go_keep) (fail)
      go_wp2
      refine bodyPost_ret (res_qq Tryd.results97 rfl rfl (by go_cell) (by go_cell) (by go_cell) (by go_cell)) rfl ⟨rfl, ?_⟩
      repeat' (first | (with_reducible exact Below.refl _ _) | (with_reducible assumption) | (with_reducible refine Below.alloc ?_ ?_ _) | (with_reducible refine Below.drew ?_) | (with_reducible refine below_drewN ?_ _) | (with_reducible refine Below.setCell ?_ ?_ _) | go_size)
    · have km2 : k ≤ m := by omega
      obtain ⟨q1, q2, _, _⟩ := id hLo
      obtain ⟨t1, t2, _, _⟩ := id hHi
      obtain ⟨q3, p1, p2⟩ := hLo.small HA.out
      obtain ⟨t3, r1, r2⟩ := hHi.small HA.out
      have mb := mul_bd (a := n) (b := k) (A := 1000000000) (B := 1000000) (by omega) (by omega) (by omega) (by omega)
      have u1 := fl_bd HA.out (m := k) (by omega) (by omega) q1 q3
      have u2 := ce_bd HA.out (m := k) (by omega) (by omega) t1 t3
      have u3 := mul_bd (a := p) (b := k) (A := 1000000001) (B := 1000000) (by omega) (by omega) (by omega) (by omega)
      have u4 := mul_bd (a := r) (b := k) (A := 1000000001) (B := 1000000) (by omega) (by omega) (by omega) (by omega)
      have HF2 := hide0 fun (W : World) => HF.out k W (by omega) (by omega)
      have HC2 := hide0 fun (W : World) => HC.out k W (by omega) (by omega)
      have kL := fun h => hLo.keep d1 (m := k - 1) h
      have tL := fun h => hLo.take d1 (m := k - 1) h
      have kH := fun h => hHi.keep d1 (m := k - 1) h
      have tH := fun h => hHi.take d1 (m := k - 1) h
      rw [show k - 1 + 1 = k by omega] at kL tL kH tH
      obtain ⟨fl, hfl⟩ : ∃ fl, (n * k) / d = fl := ⟨_, rfl⟩
      obtain ⟨ce, hce⟩ : ∃ ce, ceilQ (n * k) d = ce := ⟨_, rfl⟩
      rw [hfl] at HF2 u1 kL tL
      rw [hce] at HC2 u2 kH tH
      have HM1 := hide0 fun (W : World) => More_any fl k p q W (by omega) (by omega) (by omega) (by omega)
      have HM2 := hide0 fun (W : World) => More_any ce k r t W (by omega) (by omega) (by omega) (by omega)
      have KL := hide0 kL
      have TL := hide0 tL
      have KH := hide0 kH
      have TH := hide0 tH
      clear kL tL kH tH hfl hce hLo hHi hk
      go_wp2_with fail
      refine (HF2.out _).mono ?_
      rintro e w' ⟨rfl, hw⟩
      replace hw := hw.symm
      subst hw
      go_wp2_with fail
      refine (HC2.out _).mono ?_
      rintro e w' ⟨rfl, hw⟩
      replace hw := hw.symm
      subst hw
      go_wp2_with fail
      (refine (HM1.out _).mono ?_; rintro e w1 ⟨rfl, hb1⟩; obtain ⟨hc1, hf1⟩ := bcell hb1; have hB1 : Below wr.heap.size wr w1 := up hb1 (by go_grown); have hz1 := hb1.size; (try simp at hz1); (try have hz1_wr_p1 : wr.heap.size < w1.heap.size + 1 := (by omega)); (try have hz1_wr_p2 : wr.heap.size < w1.heap.size + 1 + 1 := (by omega)); (try have hz1_wr_p3 : wr.heap.size < w1.heap.size + 1 + 1 + 1 := (by omega)); (try have hz1_wr_0 : wr.heap.size < w1.heap.size := (by omega)); (try have hz1_wr_1 : wr.heap.size + 1 < w1.heap.size := (by omega)); (try have hz1_wr_2 : wr.heap.size + 1 + 1 < w1.heap.size := (by omega)); (try have hz1_wr_3 : wr.heap.size + 1 + 1 + 1 < w1.heap.size := (by omega)); (try have hz1_wr_4 : wr.heap.size + 1 + 1 + 1 + 1 < w1.heap.size := (by omega)); (try have hz1_wr_5 : wr.heap.size + 1 + 1 + 1 + 1 + 1 < w1.heap.size := (by omega)); (try have hz1_wr_6 : wr.heap.size + 1 + 1 + 1 + 1 + 1 + 1 < w1.heap.size := (by omega)))
      have hK1 := hBk.below hB1
      have e0 : w1.cell? ⟨wr.heap.size, 0, none⟩ = some (.int .i64 fl) := by go_cell
      have e1 : w1.cell? ⟨wr.heap.size, 1, none⟩ = some (.int .i64 k) := by go_cell
      have e2 : w1.cell? ⟨wr.heap.size + 1, 0, none⟩ = some (.int .i64 ce) := by go_cell
      have e3 : w1.cell? ⟨wr.heap.size + 1, 1, none⟩ = some (.int .i64 k) := by go_cell
      have hBw1 : Below w.heap.size w w1 := up hB1 hB
      have s1 : wr.heap.size + 1 < w1.heap.size := by omega
      have s2 : w.heap.size + 1 + 1 + 1 + 1 < w1.heap.size := by omega
      clear x0 x1 a0 a1 b0 b1 l0 l1 h0 h1 f1 f2 f3 f4 hc1 hf1 hb1
      by_cases g1 : 0 < fl * q - p * k
      · obtain ⟨x0, x1, a0, a1, b0, b1, l0, l1, h0, h1, f1, f2, f3, f4, sz1⟩ := id hK1
        have hLn := TL.out (by omega)
        have hK2 := hK1.setL (x := fl) (y := k)
        have e2' : ((w1.setCell ⟨w.heap.size + 1 + 1 + 1, 0, none⟩ (.int .i64 fl)).setCell ⟨w.heap.size + 1 + 1 + 1, 1, none⟩ (.int .i64 k)).cell? ⟨wr.heap.size + 1, 0, none⟩ = some (.int .i64 ce) := by go_cell
        have e3' : ((w1.setCell ⟨w.heap.size + 1 + 1 + 1, 0, none⟩ (.int .i64 fl)).setCell ⟨w.heap.size + 1 + 1 + 1, 1, none⟩ (.int .i64 k)).cell? ⟨wr.heap.size + 1, 1, none⟩ = some (.int .i64 k) := by go_cell
        have hBx : Below w.heap.size w ((w1.setCell ⟨w.heap.size + 1 + 1 + 1, 0, none⟩ (.int .i64 fl)).setCell ⟨w.heap.size + 1 + 1 + 1, 1, none⟩ (.int .i64 k)) := by go_grown
        have s3 : wr.heap.size + 1 < ((w1.setCell ⟨w.heap.size + 1 + 1 + 1, 0, none⟩ (.int .i64 fl)).setCell ⟨w.heap.size + 1 + 1 + 1, 1, none⟩ (.int .i64 k)).heap.size := by simp; omega
        go_wp2_with fail
        generalize ((w1.setCell ⟨w.heap.size + 1 + 1 + 1, 0, none⟩ (.int .i64 fl)).setCell ⟨w.heap.size + 1 + 1 + 1, 1, none⟩ (.int .i64 k)) = wx at *
        clear x0 x1 a0 a1 b0 b1 l0 l1 h0 h1 f1 f2 f3 f4
        obtain ⟨x0, x1, a0, a1, b0, b1, l0, l1, h0, h1, f1, f2, f3, f4, sz2⟩ := id hK2
        (refine (HM2.out _).mono ?_; rintro e w2 ⟨rfl, hb2⟩; obtain ⟨hc2, hf2⟩ := bcell hb2; have hB2 : Below wx.heap.size wx w2 := up hb2 (by go_grown); have hz2 := hb2.size; (try simp at hz2); (try have hz2_wx_p1 : wx.heap.size < w2.heap.size + 1 := (by omega)); (try have hz2_wx_p2 : wx.heap.size < w2.heap.size + 1 + 1 := (by omega)); (try have hz2_wx_p3 : wx.heap.size < w2.heap.size + 1 + 1 + 1 := (by omega)); (try have hz2_w1_p1 : w1.heap.size < w2.heap.size + 1 := (by omega)); (try have hz2_w1_p2 : w1.heap.size < w2.heap.size + 1 + 1 := (by omega)); (try have hz2_w1_p3 : w1.heap.size < w2.heap.size + 1 + 1 + 1 := (by omega)); (try have hz2_wx_0 : wx.heap.size < w2.heap.size := (by omega)); (try have hz2_wx_1 : wx.heap.size + 1 < w2.heap.size := (by omega)); (try have hz2_wx_2 : wx.heap.size + 1 + 1 < w2.heap.size := (by omega)); (try have hz2_wx_3 : wx.heap.size + 1 + 1 + 1 < w2.heap.size := (by omega)); (try have hz2_wx_4 : wx.heap.size + 1 + 1 + 1 + 1 < w2.heap.size := (by omega)); (try have hz2_wx_5 : wx.heap.size + 1 + 1 + 1 + 1 + 1 < w2.heap.size := (by omega)); (try have hz2_wx_6 : wx.heap.size + 1 + 1 + 1 + 1 + 1 + 1 < w2.heap.size := (by omega)); (try have hz2_w1_0 : w1.heap.size < w2.heap.size := (by omega)); (try have hz2_w1_1 : w1.heap.size + 1 < w2.heap.size := (by omega)); (try have hz2_w1_2 : w1.heap.size + 1 + 1 < w2.heap.size := (by omega)); (try have hz2_w1_3 : w1.heap.size + 1 + 1 + 1 < w2.heap.size := (by omega)))
        have hK3 := hK2.below hB2
        have y2 := (hB2.cell (p := ⟨wr.heap.size + 1, 0, none⟩) (show wr.heap.size + 1 < wx.heap.size by omega)).trans e2'
        have y3 := (hB2.cell (p := ⟨wr.heap.size + 1, 1, none⟩) (show wr.heap.size + 1 < wx.heap.size by omega)).trans e3'
        have hBw2 : Below w.heap.size w w2 := up hB2 hBx
        clear x0 x1 a0 a1 b0 b1 l0 l1 h0 h1 f1 f2 f3 f4 hc2 hf2 hb2
        obtain ⟨x0, x1, a0, a1, b0, b1, l0, l1, h0, h1, f1, f2, f3, f4, sz3⟩ := id hK3
        by_cases g2 : ce * t - r * k < 0
        · have hHn := TH.out (by omega)
          go_wp2
          go_roundw
          case rel => exact ⟨k + 1, fl, k, ce, k, rfl, by omega, by omega, by rw [show k + 1 - 1 = k by omega]; exact hLn, by rw [show k + 1 - 1 = k by omega]; exact hHn, hK3.setH, by go_grown⟩
          case measure => simp [intOf]; omega
        · have hHn := KH.out (by omega)
          go_wp2
          go_roundw
          case rel => exact ⟨k + 1, fl, k, r, t, rfl, by omega, by omega, by rw [show k + 1 - 1 = k by omega]; exact hLn, by rw [show k + 1 - 1 = k by omega]; exact hHn, hK3, hBw2⟩
          case measure => simp [intOf]; omega
      · obtain ⟨x0, x1, a0, a1, b0, b1, l0, l1, h0, h1, f1, f2, f3, f4, sz1⟩ := id hK1
        have hLn := KL.out (by omega)
        go_wp2_with fail
        (refine (HM2.out _).mono ?_; rintro e w2 ⟨rfl, hb2⟩; obtain ⟨hc2, hf2⟩ := bcell hb2; have hB2 : Below w1.heap.size w1 w2 := up hb2 (by go_grown); have hz2 := hb2.size; (try simp at hz2); (try have hz2_w1_p1 : w1.heap.size < w2.heap.size + 1 := (by omega)); (try have hz2_w1_p2 : w1.heap.size < w2.heap.size + 1 + 1 := (by omega)); (try have hz2_w1_p3 : w1.heap.size < w2.heap.size + 1 + 1 + 1 := (by omega)); (try have hz2_w1_p1 : w1.heap.size < w2.heap.size + 1 := (by omega)); (try have hz2_w1_p2 : w1.heap.size < w2.heap.size + 1 + 1 := (by omega)); (try have hz2_w1_p3 : w1.heap.size < w2.heap.size + 1 + 1 + 1 := (by omega)); (try have hz2_w1_0 : w1.heap.size < w2.heap.size := (by omega)); (try have hz2_w1_1 : w1.heap.size + 1 < w2.heap.size := (by omega)); (try have hz2_w1_2 : w1.heap.size + 1 + 1 < w2.heap.size := (by omega)); (try have hz2_w1_3 : w1.heap.size + 1 + 1 + 1 < w2.heap.size := (by omega)); (try have hz2_w1_4 : w1.heap.size + 1 + 1 + 1 + 1 < w2.heap.size := (by omega)); (try have hz2_w1_5 : w1.heap.size + 1 + 1 + 1 + 1 + 1 < w2.heap.size := (by omega)); (try have hz2_w1_6 : w1.heap.size + 1 + 1 + 1 + 1 + 1 + 1 < w2.heap.size := (by omega)); (try have hz2_w1_0 : w1.heap.size < w2.heap.size := (by omega)); (try have hz2_w1_1 : w1.heap.size + 1 < w2.heap.size := (by omega)); (try have hz2_w1_2 : w1.heap.size + 1 + 1 < w2.heap.size := (by omega)); (try have hz2_w1_3 : w1.heap.size + 1 + 1 + 1 < w2.heap.size := (by omega)))
        have hK3 := hK1.below hB2
        have y2 := (hB2.cell (p := ⟨wr.heap.size + 1, 0, none⟩) (show wr.heap.size + 1 < w1.heap.size by omega)).trans e2
        have y3 := (hB2.cell (p := ⟨wr.heap.size + 1, 1, none⟩) (show wr.heap.size + 1 < w1.heap.size by omega)).trans e3
        have hBw2 : Below w.heap.size w w2 := up hB2 hBw1
        clear x0 x1 a0 a1 b0 b1 l0 l1 h0 h1 f1 f2 f3 f4 hc2 hf2 hb2
        obtain ⟨x0, x1, a0, a1, b0, b1, l0, l1, h0, h1, f1, f2, f3, f4, sz3⟩ := id hK3
        by_cases g2 : ce * t - r * k < 0
        · have hHn := TH.out (by omega)
          go_wp2
          go_roundw
          case rel => exact ⟨k + 1, p, q, ce, k, rfl, by omega, by omega, by rw [show k + 1 - 1 = k by omega]; exact hLn, by rw [show k + 1 - 1 = k by omega]; exact hHn, hK3.setH, by go_grown⟩
          case measure => simp [intOf]; omega
        · have hHn := KH.out (by omega)
          go_wp2
          go_roundw
          case rel => exact ⟨k + 1, p, q, r, t, rfl, by omega, by omega, by rw [show k + 1 - 1 = k by omega]; exact hLn, by rw [show k + 1 - 1 = k by omega]; exact hHn, hK3, hBw2⟩
          case measure => simp [intOf]; omega
end Go.Proofs.YthoinamncekgmaaDoor
