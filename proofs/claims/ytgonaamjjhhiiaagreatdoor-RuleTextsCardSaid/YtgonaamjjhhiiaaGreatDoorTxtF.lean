/-
  Contracts of rule.Read: the text of a fraction, and every other text.
-/
import Derived.Test.YtgonaamjjhhiiaaGreatDoorTxtV
set_option linter.unusedVariables false
namespace Go.Proofs.YtgonaamjjhhiiaaGreatDoor
open Go Go.RowKit

theorem txt_size {p q : Int} (h : okQ p q = true) : (⟨(txt p q).toArray⟩ : ByteArray).size ≤ 19 := by
  have := txt_len h
  show (txt p q).toArray.size ≤ 19
  simpa using this
theorem cut_bytes (s : ByteArray) (w : World) (hs : s.size ≤ 100) {l1 l2 : List UInt8} {dv : Bool} (h : Lib.cut s.data.toList [47] = (l1, l2, dv)) :
    ∀ W, Calls Tryz.prog 26 #[.string s, .string ⟨#[47]⟩] W fun e w' => e = .returned (.tuple #[.string ⟨l1.toArray⟩, .string ⟨l2.toArray⟩, .bool dv]) ∧ Below W.heap.size W w' := fun W => by
  have := cut_any s W hs
  rw [h] at this
  exact this
theorem okQ_w2 {p q : Int} (h : okQ p q = true) : W2 p q := by
  obtain ⟨a1, a2, a3, a4, _⟩ := okQ_iff.1 h
  unfold W2 I64
  omega
theorem bytes_size (l : List UInt8) : (⟨l.toArray⟩ : ByteArray).size = l.length := by
  show l.toArray.size = l.length
  simp
theorem Read_ok (p q : Int) (w : World) (h : okQ p q = true) (ht : TextW w) :
    Calls Tryz.prog 7 #[.string ⟨(txt p q).toArray⟩] w fun e w' => e = .returned (.tuple #[.agg #[.int .i64 (p), .int .i64 (q)], .int .i64 0]) ∧ Below w.heap.size w w' := by
  obtain ⟨a1, a2, a3, a4, _⟩ := okQ_iff.1 h
  have hz := txt_size h
  have l1 := itoa_len a3 a4
  have hw : ∀ W, Below w.heap.size w W → Calls Tryz.prog 5 #[.agg #[.int .i64 (p), .int .i64 (q)]] W fun e w' => e = .returned (.tuple #[.string ⟨(txt p q).toArray⟩, .int .i64 0]) ∧ Below W.heap.size W w' := fun W hb => by
    have := Write_any p q W (okQ_w2 h) (ht.below hb).1
    rw [wTxt_ok h, wErr_ok h] at this
    exact this
  have hA : ∀ W, Calls Tryz.prog 27 #[.string ⟨(Lib.itoa p).toArray⟩] W fun e w' => e = .returned (.tuple #[.int .i64 p, .nilIface]) ∧ Below W.heap.size W w' := fun W =>
    atoi_ok _ p W (by rw [bytes_size]; omega) (by show Lib.atoiAll (Lib.itoa p).toArray.toList = _; rw [List.toList_toArray]; exact atoi_itoa (by omega) (by omega))
  by_cases hq : q = 1
  · have hc : Lib.cut (⟨(txt p q).toArray⟩ : ByteArray).data.toList [47] = (Lib.itoa p, [], false) := by
      show Lib.cut (txt p q).toArray.toList [47] = _
      rw [List.toList_toArray, cut_txt, if_pos hq]
    exact Read_good _ _ _ _ p q 0 _ w (cut_bytes _ w (by omega) hc) (fun W _ => hA W)
      (fun W _ => atoi_ok _ q W (by decide) (by subst hq; decide +kernel)) hw rfl rfl
  · have hc : Lib.cut (⟨(txt p q).toArray⟩ : ByteArray).data.toList [47] = (Lib.itoa p, Lib.itoa q, true) := by
      show Lib.cut (txt p q).toArray.toList [47] = _
      rw [List.toList_toArray, cut_txt, if_neg hq]
    have l2 := itoa_len (n := q) (by omega) (by omega)
    exact Read_good _ _ _ _ p q 0 _ w (cut_bytes _ w (by omega) hc) (fun W _ => hA W)
      (fun W _ => atoi_ok _ q W (by show (⟨(Lib.itoa q).toArray⟩ : ByteArray).size ≤ 100; rw [bytes_size]; omega) (by show Lib.atoiAll (Lib.itoa q).toArray.toList = _; rw [List.toList_toArray]; exact atoi_itoa (by omega) (by omega))) hw rfl rfl

theorem cut_sizes (l : List UInt8) : (Lib.cut l [47]).1.length ≤ l.length ∧ (Lib.cut l [47]).2.1.length ≤ l.length := by
  unfold Lib.cut
  split
  · simp only [List.length_take, List.length_drop]
    omega
  · simp
theorem Read_no (s : ByteArray) (w : World) (hs : s.size ≤ 100) (h : ∀ p q, okQ p q = true → s.data.toList ≠ txt p q) (ht : TextW w) :
    Calls Tryz.prog 7 #[.string s] w fun e w' => e = .returned (.tuple #[.agg #[.int .i64 (0), .int .i64 (0)], .int .i64 4]) ∧ Below w.heap.size w w' := by
  obtain ⟨c1, c2⟩ := cut_sizes s.data.toList
  have hsz : s.data.toList.length = s.size := Array.length_toList
  obtain ⟨l1, l2, dv, hc⟩ : ∃ l1 l2 dv, Lib.cut s.data.toList [47] = (l1, l2, dv) := ⟨_, _, _, rfl⟩
  rw [hc] at c1 c2
  have c1 : l1.length ≤ s.data.toList.length := c1
  have c2 : l2.length ≤ s.data.toList.length := c2
  have HC := cut_bytes s w hs hc
  have z1 : (⟨l1.toArray⟩ : ByteArray).size ≤ 100 := by rw [bytes_size]; omega
  have z2 : (low dv ⟨l2.toArray⟩).size ≤ 100 := by
    unfold low
    split
    · rw [bytes_size]; omega
    · decide
  by_cases hA : ∃ n, Lib.atoiAll (⟨l1.toArray⟩ : ByteArray).data.toList = .ok n
  · obtain ⟨n, hn⟩ := hA
    by_cases hB : ∃ d, Lib.atoiAll (low dv ⟨l2.toArray⟩).data.toList = .ok d
    · obtain ⟨d, hd⟩ := hB
      have bn := Lib.atoiAll_bounds hn
      have bd := Lib.atoiAll_bounds hd
      have hw : ∀ W, Below w.heap.size w W → Calls Tryz.prog 5 #[.agg #[.int .i64 (n), .int .i64 (d)]] W fun e w' => e = .returned (.tuple #[.string ⟨(wTxt n d).toArray⟩, .int .i64 (wErr n d)]) ∧ Below W.heap.size W w' := fun W hb => Write_any n d W ⟨bn, bd⟩ (ht.below hb).1
      cases ho : okQ n d with
      | false => exact Read_err s _ _ _ n d _ _ w HC (fun W _ => atoi_ok _ n W z1 hn) (fun W _ => atoi_ok _ d W z2 hd) hw (by rw [wErr_no ho]; decide)
      | true =>
        refine Read_other s _ _ _ n d _ _ w HC (fun W _ => atoi_ok _ n W z1 hn) (fun W _ => atoi_ok _ d W z2 hd) hw ?_ (wErr_ok ho)
        rw [Lib.toList_data, Lib.toList_data, beq_eq_false_iff_ne]
        intro hh
        rw [wTxt_ok ho] at hh
        exact h n d ho (hh.symm.trans (by show (txt n d).toArray.toList = _; rw [List.toList_toArray]))
    · exact Read_low s _ _ _ n 0 0 ⟨#[]⟩ w HC (fun W _ => atoi_ok _ n W z1 hn) (fun W hb => atoi_no _ W z2 (fun v hv => hB ⟨v, hv⟩) (ht.below hb))
  · refine Read_top s _ _ _ 0 0 0 ⟨#[]⟩ w HC (fun W hb => atoi_no _ W z1 (fun v hv => hA ⟨v, hv⟩) (ht.below hb)) (fun W hb => ?_)
    by_cases hB : ∃ d, Lib.atoiAll (low dv ⟨l2.toArray⟩).data.toList = .ok d
    · obtain ⟨d, hd⟩ := hB
      exact (atoi_ok _ d W z2 hd).mono fun e w' ⟨he, hb⟩ => ⟨⟨_, _, he⟩, hb⟩
    · exact (atoi_no _ W z2 (fun v hv => hB ⟨v, hv⟩) (ht.below hb)).mono fun e w' ⟨⟨v, t, p, he⟩, hb⟩ => ⟨⟨_, _, he⟩, hb⟩
end Go.Proofs.YtgonaamjjhhiiaaGreatDoor
