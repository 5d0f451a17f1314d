/-
  The walk of Write.
-/
import Derived.Test.YtgonaamjjhhiiaaGreatDoorShelf
import Derived.Test.YtgonaamjjhhiiaaGreatDoorCmp
import Derived.Lib.AppendIntMem
import Derived.WalkLawsBesides
import Derived.Lib.ItoaLen
import Derived.Laws.Concat
set_option linter.unusedVariables false
set_option linter.unusedSimpArgs false
namespace Go.Proofs.YtgonaamjjhhiiaaGreatDoor
open Go Go.RowKit

def Pow10 (w : World) : Prop := Lib.TabBelow Tryz.prog w.heap.size w "internal/strconv.uint64pow10" .u64 Lib.pow10Tab
theorem Pow10.below {w w' : World} (h : Pow10 w) (hb : Below w.heap.size w w') : Pow10 w' := fun w2 h2 => h w2 (hb.trans (h2.mono hb.size))

theorem itoa_any (n : Int) (w : World) (h0 : -9223372036854775808 ≤ n) (h1 : n ≤ 9223372036854775807) (ht : Pow10 w) :
    Calls Tryz.prog 22 #[.int .i64 n] w fun e w' => e = .returned (.string ⟨(Lib.itoa n).toArray⟩) ∧ Below w.heap.size w w' :=
  (Tryz.strconv_Itoa n h0 h1 w ht.here).mono fun e w' ⟨he, k, os, hw⟩ => ⟨he, by
    subst hw
    exact Lib.below_grow w.heap.size w (Nat.le_refl _) k os⟩

theorem cellD0 {W : World} {a : Addr} {v : Value} (h : W.cell? a = some v) : W.drew.cell? a = some v := h
theorem Write_arg (n d : Int) (w : World) (hw : W2 n d) (ha : okQ n d = false) :
    Calls Tryz.prog 5 #[.agg #[.int .i64 (n), .int .i64 (d)]] w fun e w' => e = .returned (.tuple #[.string ⟨#[]⟩, .int .i64 1]) ∧ Below w.heap.size w w' := by
  have HA := Lib.hid ha
  have HW := Lib.hid hw
  clear ha hw
  go_enter Tryz.func5, Tryz.ntmps5
  go_wp2_with (go_at_call 21; refine (check1_bad1 _ _ n d _ (by simp [go_sem]) (by simp [go_sem]) HA.out HW.out).mono ?_; rintro e w1 ⟨rfl, hb1⟩; obtain ⟨hc1, hf1⟩ := bcell hb1; have hB1 : Below w.heap.size w w1 := up hb1 (by go_grown); have hz1 := hb1.size; (try simp at hz1); (try have hz1_w_p1 : w.heap.size < w1.heap.size + 1 := (by omega)); (try have hz1_w_p2 : w.heap.size < w1.heap.size + 1 + 1 := (by omega)); (try have hz1_w_p3 : w.heap.size < w1.heap.size + 1 + 1 + 1 := (by omega)); (try have hz1_w_0 : w.heap.size < w1.heap.size := (by omega)); (try have hz1_w_1 : w.heap.size + 1 < w1.heap.size := (by omega)); (try have hz1_w_2 : w.heap.size + 1 + 1 < w1.heap.size := (by omega)); (try have hz1_w_3 : w.heap.size + 1 + 1 + 1 < w1.heap.size := (by omega)); (try have hz1_w_4 : w.heap.size + 1 + 1 + 1 + 1 < w1.heap.size := (by omega)); (try have hz1_w_5 : w.heap.size + 1 + 1 + 1 + 1 + 1 < w1.heap.size := (by omega)); (try have hz1_w_6 : w.heap.size + 1 + 1 + 1 + 1 + 1 + 1 < w1.heap.size := (by omega)))
  go_returns
  exact ⟨rfl, by go_grown⟩

set_option maxHeartbeats 1000000 in
theorem Write_two (n d : Int) (w : World) (ha : okQ n d = true) (hd : ¬ d = 1) (ht : Pow10 w) :
    Calls Tryz.prog 5 #[.agg #[.int .i64 (n), .int .i64 (d)]] w fun e w' => e = .returned (.tuple #[.string ⟨(Lib.itoa n ++ [47] ++ Lib.itoa d).toArray⟩, .int .i64 0]) ∧ Below w.heap.size w w' := by
  obtain ⟨h1, h2, h3, h4, h5⟩ := okQ_iff.1 ha
  have HA := Lib.hid ha
  clear ha h5
  have hd2 : (d == 1) = false := by simpa using hd
  have hi1 := fun (W : World) (hb : Below w.heap.size w W) => itoa_any n W (by omega) (by omega) (ht.below hb)
  have hi2 := fun (W : World) (hb : Below w.heap.size w W) => itoa_any d W (by omega) (by omega) (ht.below hb)
  have H1 := Lib.hid hi1
  have H2 := Lib.hid hi2
  clear hi1 hi2 ht
  have hl1 : (Lib.itoa n).length ≤ 21 := Lib.itoa_length_le n (by omega) (by omega)
  have hl2 : (Lib.itoa d).length ≤ 21 := Lib.itoa_length_le d (by omega) (by omega)
  have hN1 : (Lib.itoa n).length + 1 ≤ 9223372036854775807 := by omega
  have hN2 : (Lib.itoa n).length + 1 + (Lib.itoa d).length ≤ 9223372036854775807 := by omega
  have hM1 : ¬ 9223372036854775807 < (Lib.itoa n).length + 1 := by omega
  have hM2 : ¬ 9223372036854775807 < (Lib.itoa n).length + 1 + (Lib.itoa d).length := by omega
  go_enter Tryz.func5, Tryz.ntmps5
  go_wp2_with (go_at_call 21; refine (check1_ok _ _ n d _ (by simp [go_sem]) (by simp [go_sem]) HA.out).mono ?_; rintro e w1 ⟨rfl, hb1⟩; obtain ⟨hc1, hf1⟩ := bcell hb1; have hB1 : Below w.heap.size w w1 := up hb1 (by go_grown); have hz1 := hb1.size; (try simp at hz1); (try have hz1_w_p1 : w.heap.size < w1.heap.size + 1 := (by omega)); (try have hz1_w_p2 : w.heap.size < w1.heap.size + 1 + 1 := (by omega)); (try have hz1_w_p3 : w.heap.size < w1.heap.size + 1 + 1 + 1 := (by omega)); (try have hz1_w_0 : w.heap.size < w1.heap.size := (by omega)); (try have hz1_w_1 : w.heap.size + 1 < w1.heap.size := (by omega)); (try have hz1_w_2 : w.heap.size + 1 + 1 < w1.heap.size := (by omega)); (try have hz1_w_3 : w.heap.size + 1 + 1 + 1 < w1.heap.size := (by omega)); (try have hz1_w_4 : w.heap.size + 1 + 1 + 1 + 1 < w1.heap.size := (by omega)); (try have hz1_w_5 : w.heap.size + 1 + 1 + 1 + 1 + 1 < w1.heap.size := (by omega)); (try have hz1_w_6 : w.heap.size + 1 + 1 + 1 + 1 + 1 + 1 < w1.heap.size := (by omega)))
  have x10 : w1.cell? ⟨w.heap.size, 0, none⟩ = some (.int .i64 n) := by go_cell
  have x11 : w1.cell? ⟨w.heap.size, 1, none⟩ = some (.int .i64 d) := by go_cell
  go_region_held3 (fun w' => (w'.cell? ⟨w.heap.size, 0, none⟩ = some (.int .i64 n) ∧ w'.cell? ⟨w.heap.size, 1, none⟩ = some (.int .i64 d)) ∧ Below w.heap.size w w')
    (first | (go_simp; done) | (refine ⟨⟨?_, ?_⟩, ?_⟩ <;> first | assumption | exact Below.drew (by assumption) | exact cellD0 (by assumption) | (rw [hc2 _ _ (by simp; omega)]; first | assumption | exact cellD0 (by assumption)) | (rw [hc3 _ _ (by simp; omega)]; first | assumption | exact cellD0 (by assumption))))
    (first | (go_at_call 22; (with_reducible refine Calls.mono (H1.out _ ?_) ?_); (focus (first | assumption | exact Below.drew (by assumption))); rintro e w2 ⟨rfl, hb2⟩; have hB2 : Below w.heap.size w w2 := up hb2 (by first | assumption | exact Below.drew (by assumption)); obtain ⟨hc2, hf2⟩ := bcell hb2; have z2 : w.heap.size < w2.heap.size := (by have := hb2.size; (try simp at this); omega)) | (go_at_call 22; (with_reducible refine Calls.mono (H2.out _ ?_) ?_); (focus (first | assumption | exact Below.drew (by assumption))); rintro e w3 ⟨rfl, hb3⟩; have hB3 : Below w.heap.size w w3 := up hb3 (by first | assumption | exact Below.drew (by assumption)); obtain ⟨hc3, hf3⟩ := bcell hb3; have z3 : w.heap.size < w3.heap.size := (by have := hb3.size; (try simp at this); omega)))
  go_wp2
  go_returns
  exact ⟨by simp [ByteArray.mk_append_mk], by first | assumption | exact Below.drew (by assumption)⟩
end Go.Proofs.YtgonaamjjhhiiaaGreatDoor
