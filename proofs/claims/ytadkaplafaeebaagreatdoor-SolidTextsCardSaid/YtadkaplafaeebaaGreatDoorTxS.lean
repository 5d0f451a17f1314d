/-
  SplitSeq at a separator of one byte: the parts, one by one; a round's panic goes through.
-/
import Derived.Test.YtadkaplafaeebaaGreatDoorTxM
import Derived.Test.YtadkaplafaeebaaGreatDoorPkS
import Derived.Test.YtadkaplafaeebaaGreatDoorPanL
set_option linter.unusedVariables false
set_option linter.unusedSimpArgs false
namespace Go.Proofs.YtadkaplafaeebaaGreatDoor
open Go Go.RowKit Go.Shelf

attribute [local go_sem] Oper.semAt_some

/-- The three boxes of the iterator lie as they lay. -/
def KpS (Bp Bs Bk : Nat) (A B : World) : Prop := B.heap[Bp]? = A.heap[Bp]? ∧ B.heap[Bs]? = A.heap[Bs]? ∧ B.heap[Bk]? = A.heap[Bk]?
/-- The iterator's own step: the rest of the text is stored. -/
def StS (Bs : Nat) (A B : World) : Prop := ∃ v : ByteArray, B = A.setCell ⟨Bs, 0, none⟩ (.string v)
abbrev txt (l : List UInt8) : ByteArray := ⟨l.toArray⟩
def restOf (W : World) (B : Nat) : Nat := match W.cell? ⟨B, 0, none⟩ with
  | some (.string s) => s.size
  | _ => 0
theorem segs_ne (l : List UInt8) : segs l ≠ [] := by
  cases l with
  | nil => simp [segs]
  | cons c r =>
    unfold segs
    split
    · simp
    · split <;> simp
theorem txt_size (r : List UInt8) : (txt r).size = r.length := by simp [ByteArray.size]
theorem txt_take (r : List UInt8) (i : Nat) : (txt r).extract 0 i = txt (r.take i) := by
  cases h : (txt r).extract 0 i with
  | mk d =>
    have h2 := congrArg ByteArray.data h
    simp at h2
    rw [← h2]
theorem txt_drop (r : List UInt8) (i : Nat) : (txt r).extract i r.length = txt (r.drop i) := by
  cases h : (txt r).extract i r.length with
  | mk d =>
    have h2 := congrArg ByteArray.data h
    simp at h2
    rw [← h2]
    simp [List.extract, List.take_of_length_le]
theorem slice_to (r : List UInt8) (i : Nat) (h : i ≤ r.length) (W : World) : (Instr.sliceAt 9 (.string (txt r)) none (some (.int .i64 (i : Int))) none).run Tryz.prog W = .ok (.string (txt (r.take i))) W := by
  have e1 := run_sliceAt_string (P := Tryz.prog) (w := W) 9 (.string (txt r)) none (some (.int .i64 (i : Int))) none Tryz.underlying9
  have e2 := run_slice_string_h (P := Tryz.prog) W 9 (txt r) Tryz.underlying9 .i64 (i : Int) (by omega) (by rw [txt_size]; omega)
  rw [e1, e2]
  show Result.ok (Value.string ((txt r).extract 0 i)) W = _
  rw [txt_take]
set_option maxRecDepth 100000 in
set_option maxHeartbeats 2000000 in
theorem split_pan (n : Nat) (hn : 1 ≤ n) (Bp Bs Bk : Nat) (hps : Bp ≠ Bs) (hks : Bk ≠ Bs) (L : List UInt8) (hL : L.length ≤ 1000000) (w : World) (hp : Boxed w Bp 9 (.string ⟨#[46]⟩)) (hs : Boxed w Bs 9 (.string (txt L))) (hk : Boxed w Bk 3 (.int .i64 0)) :
    SeqPan Fence.wide n Tryz.prog 170 #[.pointer (some ⟨Bp, 0, none⟩), .pointer (some ⟨Bs, 0, none⟩), .pointer (some ⟨Bk, 0, none⟩)] (fun x : List UInt8 => #[.string (txt x)]) (KpS Bp Bs Bk) (StS Bs) (fun ys => ys = segs L) (fun pre x => ∃ post, segs L = pre ++ x :: post) w := by
  intro l J Jp W hW hJ hSt hY h0
  replace hp : Boxed W Bp 9 (.string ⟨#[46]⟩) := (hW.block _ hp.lt).trans hp
  replace hs : Boxed W Bs 9 (.string (txt L)) := (hW.block _ hs.lt).trans hs
  replace hk : Boxed W Bk 3 (.int .i64 0) := (hW.block _ hk.lt).trans hk
  clear hW
  have hI : ∀ (s : List UInt8) W, Calls Tryz.prog 172 #[.string (txt s), .string ⟨#[46]⟩] W fun e w' => e = .returned (.int .i64 (Lib.indexByte s 46)) ∧ w' = W := fun s W => by
    exact Tryz.strings_Index_one (txt s) 46 W
  have HI := Lib.hid hI
  have HJ := Lib.hid hJ
  have HS := Lib.hid hSt
  have HY := Lib.hid hY
  clear hI hJ hY hSt
  refine callsIn_of_wp Tryz.func170 rfl trivial ?_ rfl
  simp only [Tryz.ntmps170, List.size_toArray, List.length_cons, List.length_nil, Nat.reduceAdd, Nat.reduceSub, Array.replicate_succ, Array.replicate_zero, List.push_toArray, List.append_toArray, List.nil_append, List.cons_append]
  have cp := hp.cell
  gi_wp2
  clear cp
  gi_loopw [7, 8] (fun i f wr => ∃ (pre : List (List UInt8)) (r : List UInt8), Hid (segs L = pre ++ segs r) ∧ Hid (r.length ≤ 1000000) ∧ J pre wr ∧ Boxed wr Bp 9 (.string ⟨#[46]⟩) ∧ Boxed wr Bs 9 (.string (txt r)) ∧ Boxed wr Bk 3 (.int .i64 0)) (fun _ _ wr => restOf wr Bs)
  case atStart => exact ⟨[], L, Lib.hid rfl, Lib.hid hL, h0, hp, hs, hk⟩
  case round =>
    obtain ⟨pre, r, hr, hrl, hj, b1, b2, b3⟩ := hrel
    have c1 := b1.cell
    have c2 := b2.cell
    have c3 := b3.cell
    by_cases hneg : Lib.indexByte r 46 = -1
    · have hI2 := HI.out r
      rw [hneg] at hI2
      have HI2 := Lib.hid hI2
      clear hI2
      have hend : segs L = pre ++ [r] := by rw [hr.out, segs_none r hneg]
      obtain ⟨fn, tmps, assign, body, hy, hR⟩ := HY.out pre r wr hj ⟨[], by rw [hend]⟩
      have HE := Lib.hid hend
      clear hend hneg
      gi_wp2_with (refine ⟨trivial, ?_⟩; gi_at_call 172; refine (callsIn_wide.2 (HI2.out _)).mono ?_; rintro e w1 ⟨rfl, rfl⟩)
      refine hR.mono ?_
      clear hR hy
      rintro e W1 (⟨rfl, hJ1, _⟩ | ⟨ch, rfl, hJp⟩)
      · gi_wp2
        go_end0
        exact .inl ⟨_, rfl, _, rfl, HE.out ▸ hJ1⟩
      · exact ⟨rfl, .inr ⟨_, rfl, hJp⟩⟩
    · have h0 := Lib.indexByte_ge r 46
      obtain ⟨o, ho⟩ : ∃ o : Nat, Lib.indexByte r 46 = o := ⟨(Lib.indexByte r 46).toNat, by omega⟩
      have hsg := segs_some r o ho
      have hol : o + 1 ≤ r.length := by
        obtain ⟨h1, _⟩ := List.getElem?_eq_some_iff.1 (Lib.indexByte_some ho).1
        omega
      have hI2 := HI.out r
      rw [ho] at hI2
      have HI2 := Lib.hid hI2
      have hend : segs L = (pre ++ [r.take o]) ++ segs (r.drop (o + 1)) := by rw [hr.out, hsg]; simp
      obtain ⟨fn, tmps, assign, body, hy, hR⟩ := HY.out pre (r.take o) wr hj ⟨segs (r.drop (o + 1)), by rw [hend]; simp⟩
      have HE := Lib.hid hend
      have s1 := slice_to r o (by omega)
      have s2 := Lib.hid (txt_drop r (o + 1))
      have hlen := hrl.out
      have ho6 : (o : Int) ≤ 1000000 := by omega
      clear hI2 hend hneg hsg h0 ho
      gi_wp2_with (refine ⟨trivial, ?_⟩; gi_at_call 172; refine (callsIn_wide.2 (HI2.out _)).mono ?_; rintro e w1 ⟨rfl, rfl⟩)
      refine hR.mono ?_
      clear hR hy
      rintro e W1 (⟨rfl, hJ1, k1, k2, k3⟩ | ⟨ch, rfl, hJp⟩)
      · have d1 : Boxed W1 Bp 9 (.string ⟨#[46]⟩) := k1.trans b1
        have d2 : Boxed W1 Bs 9 (.string (txt r)) := k2.trans b2
        have d3 : Boxed W1 Bk 3 (.int .i64 0) := k3.trans b3
        have e1 := d1.cell
        have e2 := d2.cell
        have e3 := d3.cell
        have f2 := d2.frozen
        have c2' := c2
        clear c1 c2 c3
        gi_wp2
        rw [s2.out]
        have q2 : Boxed (W1.setCell ⟨Bs, 0, none⟩ (.string (txt (r.drop (o + 1))))) Bs 9 (.string (txt (r.drop (o + 1)))) := d2.set _
        refine ⟨⟨pre ++ [r.take o], r.drop (o + 1), HE, Lib.hid (by simp; omega), HS.out _ _ _ hJ1 ⟨_, rfl⟩, boxed_set d1 hps, q2, boxed_set d3 hks⟩, ?_⟩
        unfold restOf
        rw [q2.cell, c2']
        show (txt (r.drop (o + 1))).size < (txt r).size
        rw [txt_size, txt_size, List.length_drop]
        omega
      · exact ⟨rfl, .inr ⟨_, rfl, hJp⟩⟩
end Go.Proofs.YtadkaplafaeebaaGreatDoor
