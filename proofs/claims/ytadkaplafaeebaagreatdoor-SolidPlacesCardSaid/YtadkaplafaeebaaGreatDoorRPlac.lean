/-
  The reference's Places.
-/
import Derived.Test.YtadkaplafaeebaaGreatDoorPlcM
import Derived.Test.YtadkaplafaeebaaGreatDoorPkUC
import Derived.Test.YtadkaplafaeebaaGreatDoorPkTJ
set_option linter.unusedVariables false
set_option linter.unusedSimpArgs false
namespace Go.Proofs.YtadkaplafaeebaaGreatDoor
open Go Go.RowKit Go.Shelf

def refT (f : Sol) (l : List Sol) : List Sol := l.foldl (fun l m => putAll l (refM f m)) []
theorem refT_snoc (f : Sol) (l : List Sol) (m : Sol) : refT f (l ++ [m]) = putAll (refT f l) (refM f m) := by simp [refT, List.foldl_append]
theorem refT_strict (f : Sol) (L : List Sol) : Strict (refT f L) := by
  unfold refT
  have : ∀ (L : List Sol) (l : List Sol), Strict l → Strict (L.foldl (fun l m => putAll l (refM f m)) l) := fun L => by
    induction L with
    | nil => exact fun l h => h
    | cons m L ih => exact fun l h => ih _ (putAll_strict h _)
  exact this L [] List.Pairwise.nil
theorem insX0 (f g : Sol) (y z : Int) {n k : Nat} (h : k < n) : insX f g y z 0 n k = (if inB (shiftS g (k : Int) y z) f = true then [(((k : Int), y, z), shiftS g (k : Int) y z)] else []) ++ insX f g y z 0 n (k + 1) := by
  have := insX_succ f g y z 0 h
  rwa [Int.zero_add] at this
theorem insY0 (f g : Sol) (z lx : Int) {ny k : Nat} (nx : Nat) (h : k < ny) : insY f g z 0 lx ny nx k = insX f g (k : Int) z lx nx 0 ++ insY f g z 0 lx ny nx (k + 1) := by
  have := insY_succ f g z 0 lx nx h
  rwa [Int.zero_add] at this
theorem insZ0 (f g : Sol) (ly lx : Int) {nz k : Nat} (ny nx : Nat) (h : k < nz) : insZ f g 0 ly lx nz ny nx k = insY f g (k : Int) ly lx ny nx 0 ++ insZ f g 0 ly lx nz ny nx (k + 1) := by
  have := insZ_succ f g 0 ly lx ny nx h
  rwa [Int.zero_add] at this
set_option maxRecDepth 100000 in
set_option maxHeartbeats 8000000 in
theorem rplaces_core (f g : Sol) (Im : List Sol) (w : World) (hf : Fit f) (hge : emptyS g = false)
    (HI : Hid (∀ W : World, Calls Tryz.prog 70 #[sol g] W fun e w' => ∃ v, e = .returned v ∧ OwnS (W.heap.size + 1) w' v Im ∧ Below W.heap.size W w'))
    (HIM : Hid (∀ m ∈ Im, Fit m ∧ emptyS m = false ∧ lowX m = 0 ∧ lowY m = 0 ∧ lowZ m = 0)) (hn1 : 0 < Im.length) (hn2 : Im.length ≤ 24) :
    Calls Tryz.prog 60 #[sol f, sol g] w fun e w' => ∃ v, e = .returned (.tuple #[v, .int .i64 0]) ∧ OwnS (w.heap.size + 1) w' v (refT f Im) ∧ Below w.heap.size w w' := by
  have HF := Lib.hid hf
  clear hf
  have A0 : BoxS ((w.alloc (.cells (solC f) 24)).alloc (.cells (solC g) 24)) w.heap.size f := (BoxS.new _ _).alloc _
  have B0 : BoxS ((w.alloc (.cells (solC f) 24)).alloc (.cells (solC g) 24)) (w.heap.size + 1) g := BoxS.new' (by simp)
  have hB0 : Below w.heap.size w ((w.alloc (.cells (solC f) 24)).alloc (.cells (solC g) 24)) := by repeat' (first | (with_reducible exact Below.refl _ _) | (with_reducible assumption) | (with_reducible refine Below.alloc ?_ ?_ _) | (with_reducible refine Below.drew ?_) | (with_reducible refine below_drewN ?_ _) | (with_reducible refine Below.setCell ?_ ?_ _) | go_size)
  have b0 := (B0).cell (k := 0) (by omega); have b1 := (B0).cell (k := 1) (by omega); have b2 := (B0).cell (k := 2) (by omega); have b3 := (B0).cell (k := 3) (by omega); have b4 := (B0).cell (k := 4) (by omega); have b5 := (B0).cell (k := 5) (by omega); have b6 := (B0).cell (k := 6) (by omega); have b7 := (B0).cell (k := 7) (by omega)
  go_enter Tryz.func60, Tryz.ntmps60
  go_wp2_with fail
  refine (HI.out _).mono ?_
  rintro e w1 ⟨v, rfl, ho, b1'⟩
  have A1 := A0.below b1' A0.lt
  have hB1 : Below w.heap.size w w1 := up b1' hB0
  have ls : w.heap.size + 1 < w1.heap.size := Nat.lt_of_lt_of_le B0.lt b1'.size
  clear b0 b1 b2 b3 b4 b5 b6 b7 A0 B0 hB0 b1' hge
  obtain ⟨p, cap, rfl⟩ := own_len ho.1
  obtain ⟨gI, rfl, hgI, hcI⟩ := rowS_pos ho.1 hn1
  have HCI := Lib.hid hcI
  clear hcI ho
  go_wp2_with fail
  go_loopw [6, 8] (fun lv c wr => ∃ t : Nat, t ≤ Im.length ∧ c = .int .i64 t ∧ OwnS (w.heap.size + 1) wr lv (refT f (Im.take t)) ∧ (refT f (Im.take t)).length ≤ t * 729 ∧ BoxS wr w.heap.size f ∧ Below w1.heap.size w1 wr) (fun _ c _ => Im.length - (intOf c).toNat)
  case atStart => exact ⟨0, by omega, rfl, ownS_nil _ _, by simp [refT], A1, Below.refl _ _⟩
  case round =>
    clear A1
    obtain ⟨t, ht, rfl, hO, hlen, A, hB⟩ := hrel
    by_cases hlt : t < Im.length
    · have hd : decide ((t : Int) < (Im.length : Int)) = true := decide_eq_true (by omega)
      have hib : (t : Int) < (Im.length : Int) := by omega
      have hci : Im[t]? = some Im[t] := List.getElem?_eq_getElem hlt
      obtain ⟨m, hm⟩ : ∃ m, m = Im[t] := ⟨_, rfl⟩
      rw [← hm] at hci
      clear hm
      obtain ⟨hmf, hme, hlow⟩ := HIM.out m (List.mem_of_getElem? hci)
      have HLW := Lib.hid hlow
      clear hlow
      have HMF := Lib.hid hmf
      have HME := Lib.hid hme
      have CB := Lib.hid (fun (W : World) => rbounds_yes m W hmf hme)
      obtain ⟨xa, xb, ya, yb, za, zb⟩ := boundN hmf hme
      have HTK := Lib.hid (show refT f (Im.take (t + 1)) = putAll (refT f (Im.take t)) (refM f m) by rw [List.take_add_one, hci]; exact refT_snoc f _ m)
      have HML := refM_len f m
      have HLL := Lib.hid (show refM f m = insZ f m 0 0 0 (9 - highZ m) (9 - highY m) (9 - highX m) 0 from rfl)
      have HCS := Lib.hid (HCI.out t m hci)
      clear hci hmf hme
      have lg : gI < wr.heap.size := Nat.lt_of_lt_of_le hgI hB.size
      have x := fun j hj => (hB.cell (p := ⟨gI, t * 8 + j, none⟩) hgI).trans (HCS.out j hj)
      have x0 := x 0 (by omega); have x1 := x 1 (by omega); have x2 := x 2 (by omega); have x3 := x 3 (by omega); have x4 := x 4 (by omega); have x5 := x 5 (by omega); have x6 := x 6 (by omega); have x7 := x 7 (by omega)
      rw [Nat.add_zero] at x0
      clear x
      have lA : w.heap.size < wr.heap.size := A.lt
      obtain ⟨l0, hl0⟩ : ∃ l0, l0 = refT f (Im.take t) := ⟨_, rfl⟩
      rw [← hl0] at hO hlen HTK
      clear hl0
      go_wp2_with fail
      refine (CB.out _).mono ?_
      rintro e w2 ⟨rfl, b2⟩
      have A2 := (A.below b2 lA).alloc (.cells #[.int .i64 ((lowX m : Int)), .int .i64 ((lowY m : Int)), .int .i64 ((lowZ m : Int)), .int .i64 ((highX m : Int) - 1), .int .i64 ((highY m : Int) - 1), .int .i64 ((highZ m : Int) - 1)] 40)
      have X2 : Box6 (w2.alloc (.cells #[.int .i64 ((lowX m : Int)), .int .i64 ((lowY m : Int)), .int .i64 ((lowZ m : Int)), .int .i64 ((highX m : Int) - 1), .int .i64 ((highY m : Int) - 1), .int .i64 ((highZ m : Int) - 1)] 40)) w2.heap.size (lowX m) (lowY m) (lowZ m) ((highX m : Int) - 1) ((highY m : Int) - 1) ((highZ m : Int) - 1) := blk_new rfl
      have O2 : OwnS (w.heap.size + 1) (w2.alloc (.cells #[.int .i64 ((lowX m : Int)), .int .i64 ((lowY m : Int)), .int .i64 ((lowZ m : Int)), .int .i64 ((highX m : Int) - 1), .int .i64 ((highY m : Int) - 1), .int .i64 ((highZ m : Int) - 1)] 40)) u6 l0 := ⟨(row_below hO.1 b2).alloc _, hO.2⟩
      have hB2q : Below w1.heap.size w1 w2 := up b2 hB
      have hB2 := hB2q.alloc hB2q.size (.cells #[.int .i64 ((lowX m : Int)), .int .i64 ((lowY m : Int)), .int .i64 ((lowZ m : Int)), .int .i64 ((highX m : Int) - 1), .int .i64 ((highY m : Int) - 1), .int .i64 ((highZ m : Int) - 1)] 40)
      clear x0 x1 x2 x3 x4 x5 x6 x7 A hO hB b2 hB2q lA lg
      have hnz : 9 - highZ m = 9 - highZ m := rfl
      obtain ⟨nz, hnz⟩ : ∃ nz, nz = 9 - highZ m := ⟨_, rfl⟩
      obtain ⟨ny, hny⟩ : ∃ ny, ny = 9 - highY m := ⟨_, rfl⟩
      obtain ⟨nx, hnx⟩ : ∃ nx, nx = 9 - highX m := ⟨_, rfl⟩
      rw [← hnz, ← hny, ← hnx] at HLL
      have HR := Lib.hid (show refT f (Im.take (t + 1)) = putAll l0 (insZ f m 0 0 0 nz ny nx 0) by rw [HTK.out, HLL.out])
      have HLN : l0.length + (insZ f m 0 0 0 nz ny nx 0).length ≤ (t + 1) * 729 := by rw [← HLL.out]; omega
      have hNb : (t + 1) * 729 ≤ 17496 := by omega
      obtain ⟨N, hN⟩ : ∃ N, N = (t + 1) * 729 := ⟨_, rfl⟩
      obtain ⟨R, hRR⟩ : ∃ R, R = refT f (Im.take (t + 1)) := ⟨_, rfl⟩
      rw [← hN] at HLN hNb
      rw [← hRR] at HR
      have HRR := Lib.hid hRR
      have HN := Lib.hid hN
      clear HTK HML HLL hlen hN hRR
      obtain ⟨x0, x1, x2, x3, x4, x5⟩ := Box6.cells X2
      go_wp2_with fail
      go_loopw [6, 11] (fun lv c wr => ∃ (k : Nat) (l : List Sol), k ≤ nz ∧ c = .int .i64 (k : Int) ∧ OwnS (w.heap.size + 1) wr lv l ∧ l.length + (insZ f m 0 0 0 nz ny nx k).length ≤ N ∧ R = putAll l (insZ f m 0 0 0 nz ny nx k) ∧
        BoxS wr w.heap.size f ∧ Box6 wr w2.heap.size (lowX m) (lowY m) (lowZ m) ((highX m : Int) - 1) ((highY m : Int) - 1) ((highZ m : Int) - 1) ∧ Below w1.heap.size w1 wr) (fun _ c _ => nz - (intOf c).toNat)
      case atStart => exact ⟨0, l0, by omega, rfl, O2, HLN, HR.out, A2, X2, hB2⟩
      case round =>
        clear O2 HLN HR A2 X2 hB2 x0 x1 x2 x3 x4 x5
        obtain ⟨k, l, hk, rfl, hO, hlen, hR, A, X, hB⟩ := hrel
        have HR := Lib.hid hR
        clear hR
        have lX := blk_lt X
        obtain ⟨x0, x1, x2, x3, x4, x5⟩ := Box6.cells X
        by_cases hlz : k < nz
        · have hdz : decide ((k : Int) ≤ 7 - ((highZ m : Int) - 1)) = true := decide_eq_true (by omega)
          have hz1 := insZ0 f m 0 0 ny nx hlz
          rw [hz1] at hlen HR
          clear hz1
          have HLN := Lib.hid hlen
          clear hlen
          go_wp2_with fail
          go_loopw [6, 12] (fun lv c wr => ∃ (j : Nat) (l : List Sol), j ≤ ny ∧ c = .int .i64 (j : Int) ∧ OwnS (w.heap.size + 1) wr lv l ∧ l.length + (insY f m (k : Int) 0 0 ny nx j ++ insZ f m 0 0 0 nz ny nx (k + 1)).length ≤ N ∧ R = putAll l (insY f m (k : Int) 0 0 ny nx j ++ insZ f m 0 0 0 nz ny nx (k + 1)) ∧
            BoxS wr w.heap.size f ∧ Box6 wr w2.heap.size (lowX m) (lowY m) (lowZ m) ((highX m : Int) - 1) ((highY m : Int) - 1) ((highZ m : Int) - 1) ∧ Below w1.heap.size w1 wr) (fun _ c _ => ny - (intOf c).toNat)
          case atStart => exact ⟨0, l, by omega, rfl, hO, HLN.out, HR.out, A, X, hB⟩
          case round =>
            clear hO HLN HR A X hB x0 x1 x2 x3 x4 x5 lX l
            obtain ⟨j, l, hj, rfl, hO, hlen, hR, A, X, hB⟩ := hrel
            have HR := Lib.hid hR
            clear hR
            have lX := blk_lt X
            obtain ⟨x0, x1, x2, x3, x4, x5⟩ := Box6.cells X
            by_cases hly : j < ny
            · have hdy : decide ((j : Int) ≤ 7 - ((highY m : Int) - 1)) = true := decide_eq_true (by omega)
              have hy1 := insY0 f m (k : Int) 0 nx hly
              rw [hy1, List.append_assoc] at hlen HR
              clear hy1
              have HLN := Lib.hid hlen
              clear hlen
              go_wp2_with fail
              go_loopw [6, 13] (fun lv c wr => ∃ (i : Nat) (l : List Sol), i ≤ nx ∧ c = .int .i64 (i : Int) ∧ OwnS (w.heap.size + 1) wr lv l ∧ l.length + (insX f m (j : Int) (k : Int) 0 nx i ++ (insY f m (k : Int) 0 0 ny nx (j + 1) ++ insZ f m 0 0 0 nz ny nx (k + 1))).length ≤ N ∧ R = putAll l (insX f m (j : Int) (k : Int) 0 nx i ++ (insY f m (k : Int) 0 0 ny nx (j + 1) ++ insZ f m 0 0 0 nz ny nx (k + 1))) ∧
                BoxS wr w.heap.size f ∧ Box6 wr w2.heap.size (lowX m) (lowY m) (lowZ m) ((highX m : Int) - 1) ((highY m : Int) - 1) ((highZ m : Int) - 1) ∧ Below w1.heap.size w1 wr) (fun _ c _ => nx - (intOf c).toNat)
              case atStart => exact ⟨0, l, by omega, rfl, hO, HLN.out, HR.out, A, X, hB⟩
              case round =>
                clear hO HLN HR A X hB x0 x1 x2 x3 x4 x5 lX l
                obtain ⟨i, l, hi, rfl, hO, hlen, hR, A, X, hB⟩ := hrel
                have HR := Lib.hid hR
                clear hR
                have lA : w.heap.size < wr.heap.size := A.lt
                have lX := blk_lt X
                obtain ⟨x0, x1, x2, x3, x4, x5⟩ := Box6.cells X
                by_cases hlx : i < nx
                · have hdx : decide ((i : Int) ≤ 7 - ((highX m : Int) - 1)) = true := decide_eq_true (by omega)
                  have hox : outB m (i : Int) (j : Int) (k : Int) = false := decide_eq_false (by have := HLW.out; omega)
                  have CM := Lib.hid (rmoved_in m HMF.out HME.out hox)
                  have hx1 := insX0 f m (j : Int) (k : Int) hlx
                  obtain ⟨q, hq⟩ : ∃ q, q = shiftS m (i : Int) (j : Int) (k : Int) := ⟨_, rfl⟩
                  have hqf : Fit q := by rw [hq]; exact shiftF_fit HMF.out _ _ _ 8
                  rw [← hq] at CM hx1
                  have CI := Lib.hid (fun (W : World) => rin_ok q f W hqf HF.out)
                  rw [rin_is hqf] at CI
                  rw [hx1] at hlen HR
                  clear hx1 hq hox hqf
                  have HLN := Lib.hid hlen
                  have hl2 : l.length ≤ 17496 := by omega
                  clear hlen
                  have lg : gI < wr.heap.size := Nat.lt_of_lt_of_le hgI hB.size
                  have y := fun j hj => (hB.cell (p := ⟨gI, t * 8 + j, none⟩) hgI).trans (HCS.out j hj)
                  have y0 := y 0 (by omega); have y1 := y 1 (by omega); have y2 := y 2 (by omega); have y3 := y 3 (by omega); have y4 := y 4 (by omega); have y5 := y 5 (by omega); have y6 := y 6 (by omega); have y7 := y 7 (by omega)
                  rw [Nat.add_zero] at y0
                  clear y
                  go_wp2_with fail
                  refine (CM.out _).mono ?_
                  rintro e w4 ⟨rfl, b4⟩
                  have A4 := (A.below b4 lA).alloc (.cells (solC q) 24)
                  have X4 := blk_alloc (blk_below X b4 lX) (.cells (solC q) 24)
                  have P4 : BoxS (w4.alloc (.cells (solC q) 24)) w4.heap.size q := BoxS.new _ _
                  have O4 : OwnS (w.heap.size + 1) (w4.alloc (.cells (solC q) 24)) u6 l := ⟨(row_below hO.1 b4).alloc _, hO.2⟩
                  have hB4q : Below w1.heap.size w1 w4 := up b4 hB
                  have hB4 := hB4q.alloc hB4q.size (.cells (solC q) 24)
                  have lA4 : w.heap.size < w4.heap.size := Nat.lt_of_lt_of_le lA b4.size
                  clear A X hB b4 hB4q lA lX lg x0 x1 x2 x3 x4 x5 y0 y1 y2 y3 y4 y5 y6 y7 hO
                  have a0 := (A4).cell (k := 0) (by omega); have a1 := (A4).cell (k := 1) (by omega); have a2 := (A4).cell (k := 2) (by omega); have a3 := (A4).cell (k := 3) (by omega); have a4 := (A4).cell (k := 4) (by omega); have a5 := (A4).cell (k := 5) (by omega); have a6 := (A4).cell (k := 6) (by omega); have a7 := (A4).cell (k := 7) (by omega)
                  have p0 := (P4).cell (k := 0) (by omega); have p1 := (P4).cell (k := 1) (by omega); have p2 := (P4).cell (k := 2) (by omega); have p3 := (P4).cell (k := 3) (by omega); have p4 := (P4).cell (k := 4) (by omega); have p5 := (P4).cell (k := 5) (by omega); have p6 := (P4).cell (k := 6) (by omega); have p7 := (P4).cell (k := 7) (by omega)
                  go_wp2_with fail
                  refine (CI.out _).mono ?_
                  rintro e w5 ⟨rfl, b5⟩
                  have A5 := A4.below b5 A4.lt
                  have X5 := blk_below X4 b5 (blk_lt X4)
                  have P5 := P4.below b5 P4.lt
                  have O5 := ownS_below O4 b5
                  have hB5 : Below w1.heap.size w1 w5 := up b5 hB4
                  have lP5 : w4.heap.size < w5.heap.size := P5.lt
                  clear A4 X4 P4 O4 hB4 b5 lA4 p0 p1 p2 p3 p4 p5 p6 p7 a0 a1 a2 a3 a4 a5 a6 a7
                  cases hin : inB q f
                  · have hlen := HLN.out
                    rw [hin, if_neg Bool.false_ne_true, List.nil_append] at hlen HR
                    go_wp2_with fail
                    go_roundw
                    case rel => exact ⟨i + 1, l, by omega, by go_num, O5, hlen, HR.out, A5, X5, hB5⟩
                    case measure => simp [intOf]; omega
                  · have hlen := HLN.out
                    rw [hin, if_pos rfl, List.append_assoc] at hlen HR
                    have CP := Lib.hid (rput_ok l q u6 (w.heap.size + 1) w5 (by omega) (by have := hB5.size; omega) O5)
                    have HLN2 := Lib.hid (show (putS l q).length + (insX f m (j : Int) (k : Int) 0 nx (i + 1) ++ (insY f m (k : Int) 0 0 ny nx (j + 1) ++ insZ f m 0 0 0 nz ny nx (k + 1))).length ≤ N by
                      have := put_len l q
                      simp only [List.length_append, List.length_cons, List.length_nil] at hlen ⊢
                      omega)
                    clear hlen HLN O5
                    have p0 := (P5).cell (k := 0) (by omega); have p1 := (P5).cell (k := 1) (by omega); have p2 := (P5).cell (k := 2) (by omega); have p3 := (P5).cell (k := 3) (by omega); have p4 := (P5).cell (k := 4) (by omega); have p5 := (P5).cell (k := 5) (by omega); have p6 := (P5).cell (k := 6) (by omega); have p7 := (P5).cell (k := 7) (by omega)
                    go_wp2_with fail
                    refine CP.out.mono ?_
                    rintro e w6 ⟨v6, rfl, O6, b6⟩
                    have A6 := A5.below b6 A5.lt
                    have X6 := blk_below X5 b6 (blk_lt X5)
                    have hB6 : Below w1.heap.size w1 w6 := up b6 hB5
                    clear A5 X5 P5 hB5 b6 CP p0 p1 p2 p3 p4 p5 p6 p7 lP5
                    go_wp2_with fail
                    go_roundw
                    case rel => exact ⟨i + 1, putS l q, by omega, by go_num, O6, HLN2.out, HR.out, A6, X6, hB6⟩
                    case measure => simp [intOf]; omega
                · obtain rfl : i = nx := by omega
                  have hdx : decide ((i : Int) ≤ 7 - ((highX m : Int) - 1)) = false := decide_eq_false (by omega)
                  rw [insX_end, List.nil_append] at HR hlen
                  go_wp2_with fail
                  go_roundw
                  case rel => exact ⟨j + 1, l, by omega, by go_num, hO, hlen, HR.out, A, X, hB⟩
                  case measure => simp [intOf]; omega
            · obtain rfl : j = ny := by omega
              have hdy : decide ((j : Int) ≤ 7 - ((highY m : Int) - 1)) = false := decide_eq_false (by omega)
              rw [insY_end, List.nil_append] at HR hlen
              go_wp2_with fail
              go_roundw
              case rel => exact ⟨k + 1, l, by omega, by go_num, hO, hlen, HR.out, A, X, hB⟩
              case measure => simp [intOf]; omega
        · obtain rfl : k = nz := by omega
          have hdz : decide ((k : Int) ≤ 7 - ((highZ m : Int) - 1)) = false := decide_eq_false (by omega)
          rw [insZ_end] at HR hlen
          have hRl : R = l := HR.out
          subst hRl
          go_wp2_with fail
          case roundEnd => exact ⟨⟨t + 1, by omega, by go_num, by rw [← HRR.out]; exact hO, by rw [← HRR.out, ← HN.out]; simpa using hlen, A, hB⟩, by simp [intOf]; omega⟩
    · obtain rfl : t = Im.length := by omega
      have hd : decide ((Im.length : Int) < (Im.length : Int)) = false := decide_eq_false (by omega)
      rw [List.take_length] at hO
      have hB2 := up hB hB1
      go_wp2_with fail
      go_returns
      exact ⟨_, rfl, hO, hB2⟩
end Go.Proofs.YtadkaplafaeebaaGreatDoor
