/-
  Contracts of the reference's Read.
-/
import Derived.Test.YtgonaamjjhhiiaaGreatDoorTxtQ
import Derived.Test.YtgonaamjjhhiiaaGreatDoorTxtE
import Derived.Test.YtgonaamjjhhiiaaGreatDoorTxtF
set_option linter.unusedVariables false
set_option linter.unusedSimpArgs false
namespace Go.Proofs.YtgonaamjjhhiiaaGreatDoor
open Go Go.RowKit

set_option maxHeartbeats 4000000 in
set_option maxRecDepth 4000 in
theorem rRead_long (s : ByteArray) (w : World) (hs : 20 < s.size) (hs2 : s.size ≤ 100) (T : ByteArray)
    (HW : ∀ W, Calls Tryz.prog 6 #[.agg #[.int .i64 (0), .int .i64 (1)]] W fun e w' => e = .returned (.tuple #[.string T, .int .i64 0]) ∧ Below W.heap.size W w')
    (o2 : (T.toList == s.toList) = false) :
    Calls Tryz.prog 8 #[.string s] w fun e w' => e = .returned (.tuple #[.agg #[.int .i64 (0), .int .i64 (0)], .int .i64 4]) ∧ Below w.heap.size w w' := by
  have HW' := Lib.hid HW
  clear HW
  go_enter Tryz.func8, Tryz.ntmps8
  go_wp2_with fail
  go_loopw [4, 6, 7] (fun x y z wr => ∃ u v : Int, u = 1 ∧ v = 0 ∧ x = .int .i64 u ∧ y = .int .i64 0 ∧ z = .int .i64 0 ∧ PtAt w.heap.size v v wr ∧ Below w.heap.size w wr) (fun _ _ z _ => 0)
  case atStart =>
    refine ⟨1, 0, rfl, rfl, rfl, rfl, rfl, ?_, by go_grown⟩
    constructor
    all_goals first | go_cell | (go_simp; done) | (intro o; go_simp; done) | skip
  case round =>
    obtain ⟨u, v, hu, hv, rfl, rfl, rfl, hP, hB⟩ := hrel
    have e0 : u * v = 0 := by rw [hu, hv]; rfl
    have m1 : IntKind.i64.wrap (u * v) = u * v := by rw [e0]; decide +kernel
    have HW2 : ∀ W, Calls Tryz.prog 6 #[.agg #[.int .i64 (u * v), .int .i64 (1)]] W fun e w' => e = .returned (.tuple #[.string T, .int .i64 0]) ∧ Below W.heap.size W w' := fun W => by rw [e0]; exact HW'.out W
    replace HW' := Lib.hid HW2
    clear HW2 hu hv e0
    have k2 : (0 : Int) < s.size := by omega
    have k3 : ¬ (s.size : Int) ≤ 20 := by omega
    have k5 : 0 < s.size := by omega
    have k4 : (20 : Int) < s.size := by omega
    obtain ⟨x0, x1, a0, a1, f1, f2, sz⟩ := id hP
    have z0 : w.heap.size < wr.heap.size := by omega
    have z1 : w.heap.size + 1 < wr.heap.size := by omega
    go_wp2_with fail
    (refine (HW'.out _).mono ?_; rintro e w1 ⟨rfl, hb1⟩; obtain ⟨hc1, hf1⟩ := bcell hb1; have hB1 : Below wr.heap.size wr w1 := up hb1 (by go_grown); have hz1 := hb1.size; (try simp at hz1); (try have hz1_wr_p1 : wr.heap.size < w1.heap.size + 1 := (by omega)); (try have hz1_wr_p2 : wr.heap.size < w1.heap.size + 1 + 1 := (by omega)); (try have hz1_wr_p3 : wr.heap.size < w1.heap.size + 1 + 1 + 1 := (by omega)); (try have hz1_wr_0 : wr.heap.size < w1.heap.size := (by omega)); (try have hz1_wr_1 : wr.heap.size + 1 < w1.heap.size := (by omega)); (try have hz1_wr_2 : wr.heap.size + 1 + 1 < w1.heap.size := (by omega)); (try have hz1_wr_3 : wr.heap.size + 1 + 1 + 1 < w1.heap.size := (by omega)); (try have hz1_wr_4 : wr.heap.size + 1 + 1 + 1 + 1 < w1.heap.size := (by omega)); (try have hz1_wr_5 : wr.heap.size + 1 + 1 + 1 + 1 + 1 < w1.heap.size := (by omega)); (try have hz1_wr_6 : wr.heap.size + 1 + 1 + 1 + 1 + 1 + 1 < w1.heap.size := (by omega)))
    have hB2 : Below w.heap.size w w1 := hB.trans (hB1.mono hB.size)
    have y0 := (hB1.cell (p := ⟨w.heap.size, 0, none⟩) z0).trans x0
    have y1 := (hB1.cell (p := ⟨w.heap.size, 1, none⟩) z0).trans x1
    have y2 := fun o => (hB1.frozen (p := ⟨w.heap.size, o, none⟩) z0).trans (f1 o)
    have z2 : w.heap.size < w1.heap.size := by have := hB1.size; omega
    go_wp2
    refine bodyPost_ret (res_qe Tryz.results8 rfl (by go_cell) (by go_cell)) rfl ⟨rfl, by go_grown⟩
theorem rRead_ok (p q : Int) (w : World) (h : okQ p q = true) :
    Calls Tryz.prog 8 #[.string ⟨(txt p q).toArray⟩] w fun e w' => e = .returned (.tuple #[.agg #[.int .i64 (p), .int .i64 (q)], .int .i64 0]) ∧ Below w.heap.size w w' := by
  obtain ⟨a1, a2, a3, a4, _⟩ := okQ_iff.1 h
  have hz := txt_size h
  have hr : rdL (⟨(txt p q).toArray⟩ : ByteArray).data.toList = _ := (congrArg rdL (show (txt p q).toArray.toList = txt p q from List.toList_toArray)).trans (rd_txt h)
  have e1 : (if p < 0 then (-1 : Int) else 1) * (p.natAbs : Int) = p := by split <;> omega
  refine rRead_core _ w (by omega) _ _ _ q 0 _ ⟨(txt p q).toArray⟩ p q 0 hr ?_ ?_ (.inr (.inr ⟨rfl, rfl, e1.symm, rfl, rfl⟩))
  · by_cases hq : q = 1
    · exact .inr ⟨by simp [hq], hq⟩
    · exact .inl ⟨by simp [hq], by rw [if_neg hq]⟩
  · intro W
    rw [e1]
    have := rWrite_any p q W
    rw [wTxt_ok h, wErr_ok h] at this
    exact this
theorem list_no {l : List UInt8} {s : ByteArray} (h : s.data.toList ≠ l) : ((⟨l.toArray⟩ : ByteArray).toList == s.toList) = false := by
  rw [Lib.toList_data, Lib.toList_data, beq_eq_false_iff_ne]
  intro hh
  exact h (hh.symm.trans (by show l.toArray.toList = _; rw [List.toList_toArray]))
theorem rRead_no (s : ByteArray) (w : World) (hs : s.size ≤ 100) (h : ∀ p q, okQ p q = true → s.data.toList ≠ txt p q) :
    Calls Tryz.prog 8 #[.string s] w fun e w' => e = .returned (.tuple #[.agg #[.int .i64 (0), .int .i64 (0)], .int .i64 4]) ∧ Below w.heap.size w w' := by
  by_cases hz : 20 < s.size
  · have ok1 : okQ 0 1 = true := by decide +kernel
    refine rRead_long s w hz hs ⟨(txt 0 1).toArray⟩ (fun W => ?_) (list_no (h 0 1 ok1))
    have := rWrite_any 0 1 W
    rw [wTxt_ok ok1, wErr_ok ok1] at this
    exact this
  · obtain ⟨sg, a, b, dv, hr⟩ : ∃ sg a b dv, rdL s.data.toList = (sg, a, b, dv) := ⟨_, _, _, _, rfl⟩
    have hd : dv = true ∧ (if dv = true then b else 1) = b ∨ dv = false ∧ (if dv = true then b else 1) = 1 := by cases dv <;> simp
    refine rRead_core s w (by omega) sg a b (if dv = true then b else 1) _ dv _ 0 0 4 hr hd (fun W => rWrite_any _ _ W) ?_
    cases ho : okQ (sg * a) (if dv = true then b else 1) with
    | false => exact .inl ⟨by rw [wErr_no ho]; decide, rfl, rfl, rfl⟩
    | true => exact .inr (.inl ⟨wErr_ok ho, by rw [wTxt_ok ho]; exact list_no (h _ _ ho), rfl, rfl, rfl⟩)
end Go.Proofs.YtgonaamjjhhiiaaGreatDoor
