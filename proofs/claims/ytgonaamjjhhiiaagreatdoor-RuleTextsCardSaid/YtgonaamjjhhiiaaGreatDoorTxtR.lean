/-
  Walks of the library's functions on texts that rule.Read calls: Cut at one byte, Atoi.
-/
import Derived.Test.YtgonaamjjhhiiaaGreatDoorWrite
import Derived.Test.YtgonaamjjhhiiaaGreatDoorTxtM
import Derived.Lib.CutLaws
import Derived.Shelf.RegionOpenPlain
import Derived.Lib.IndexBytes
import Derived.Lib.AtoiErrMem
set_option linter.unusedVariables false
set_option linter.unusedSimpArgs false
namespace Go.Proofs.YtgonaamjjhhiiaaGreatDoor
open Go Go.RowKit

/-- What the functions on texts want of the world. -/
def TextW (w : World) : Prop := Pow10 w ∧ ∀ w2, Below w.heap.size w w2 → (∃ t p, w2.var? Tryz.prog "strconv.ErrSyntax" = some #[.iface t p]) ∧ (∃ t p, w2.var? Tryz.prog "strconv.ErrRange" = some #[.iface t p])
theorem TextW.below {w w' : World} (h : TextW w) (hb : Below w.heap.size w w') : TextW w' := ⟨h.1.below hb, fun w2 h2 => h.2 w2 (hb.trans (h2.mono hb.size))⟩

theorem index47 (s : ByteArray) : Lib.indexB s ⟨#[47]⟩ = Lib.indexByte s.data.toList 47 := Lib.index_one s.data.toList 47

theorem lcut_any (s : ByteArray) (w : World) (hs : s.size ≤ 100) :
    Calls Tryz.prog 55 #[.string s, .string ⟨#[47]⟩] w fun e w' => e = .returned (.tuple #[.string ⟨(Lib.cut s.data.toList [47]).1.toArray⟩, .string ⟨(Lib.cut s.data.toList [47]).2.1.toArray⟩, .bool (Lib.cut s.data.toList [47]).2.2]) ∧ Below w.heap.size w w' := by
  rcases Lib.indexB_cases s ⟨#[47]⟩ with hix | ⟨i, hix, hroom⟩
  · obtain ⟨e1, e2, e3⟩ := Lib.cutB_miss s ⟨#[47]⟩ hix
    rw [show ([47] : List UInt8) = (⟨#[47]⟩ : ByteArray).data.toList from rfl, e1, e2, e3]
    have hx : Lib.indexByte s.data.toList 47 = -1 := (index47 s).symm.trans hix
    go_enter Tryz.func55, Tryz.ntmps55
    go_wp2_with (go_at_call 75; refine (Tryz.stringslite_Index_one s 47 _).mono ?_; rintro e w' ⟨rfl, rfl⟩; rw [hx])
    go_returns
    exact ⟨rfl, by go_grown⟩
  · obtain ⟨e1, e2, e3⟩ := Lib.cutB_hit s ⟨#[47]⟩ i hix
    rw [show ([47] : List UInt8) = (⟨#[47]⟩ : ByteArray).data.toList from rfl, e1, e2, e3]
    have hx : Lib.indexByte s.data.toList 47 = i := (index47 s).symm.trans hix
    have hz : (⟨#[47]⟩ : ByteArray).size = 1 := rfl
    rw [hz] at hroom ⊢
    have c1 : (0 : Int) ≤ ↑i := by omega
    have c2 : (↑i : Int) ≤ ↑s.size := by omega
    have c3 : (0 : Int) ≤ ↑i + 1 := by omega
    have c4 : (↑i + 1 : Int) ≤ ↑s.size := by omega
    have c5 : IntKind.i64.wrap ((i : Int) + 1) = (i : Int) + 1 := IntWalk.i64_in _ (by omega)
    have c6 : ((i : Int) + 1).toNat = i + 1 := by omega
    go_enter Tryz.func55, Tryz.ntmps55
    go_wp2_with (go_at_call 75; refine (Tryz.stringslite_Index_one s 47 _).mono ?_; rintro e w1 ⟨rfl, rfl⟩; rw [hx])
    go_region_held3 (fun w' => Below w1.heap.size w1 w') (first | (go_simp; done) | exact Below.drew (by assumption) | go_grown) (fail)
    go_wp2
    go_returns
    exact ⟨rfl, by go_grown⟩
theorem cut_any (s : ByteArray) (w : World) (hs : s.size ≤ 100) :
    Calls Tryz.prog 26 #[.string s, .string ⟨#[47]⟩] w fun e w' => e = .returned (.tuple #[.string ⟨(Lib.cut s.data.toList [47]).1.toArray⟩, .string ⟨(Lib.cut s.data.toList [47]).2.1.toArray⟩, .bool (Lib.cut s.data.toList [47]).2.2]) ∧ Below w.heap.size w w' := by
  go_enter Tryz.func26, Tryz.ntmps26
  go_wp2_with (go_at_call 55; refine (lcut_any s _ hs).mono ?_; rintro e w1 ⟨rfl, hb1⟩; obtain ⟨hc1, hf1⟩ := bcell hb1; have hB1 : Below w.heap.size w w1 := up hb1 (by go_grown); have hz1 := hb1.size; (try simp at hz1); (try have hz1_w_p1 : w.heap.size < w1.heap.size + 1 := (by omega)); (try have hz1_w_p2 : w.heap.size < w1.heap.size + 1 + 1 := (by omega)); (try have hz1_w_p3 : w.heap.size < w1.heap.size + 1 + 1 + 1 := (by omega)); (try have hz1_w_0 : w.heap.size < w1.heap.size := (by omega)); (try have hz1_w_1 : w.heap.size + 1 < w1.heap.size := (by omega)); (try have hz1_w_2 : w.heap.size + 1 + 1 < w1.heap.size := (by omega)); (try have hz1_w_3 : w.heap.size + 1 + 1 + 1 < w1.heap.size := (by omega)); (try have hz1_w_4 : w.heap.size + 1 + 1 + 1 + 1 < w1.heap.size := (by omega)); (try have hz1_w_5 : w.heap.size + 1 + 1 + 1 + 1 + 1 < w1.heap.size := (by omega)); (try have hz1_w_6 : w.heap.size + 1 + 1 + 1 + 1 + 1 + 1 < w1.heap.size := (by omega)))
  go_returns
  exact ⟨rfl, by go_grown⟩

theorem atoi_ok (s : ByteArray) (v : Int) (w : World) (hz : s.size ≤ 100) (h : Lib.atoiAll s.data.toList = .ok v) :
    Calls Tryz.prog 27 #[.string s] w fun e w' => e = .returned (.tuple #[.int .i64 v, .nilIface]) ∧ Below w.heap.size w w' :=
  (Tryz.strconv_Atoi_ok s (by omega) v h w).mono fun e w' ⟨he, hw⟩ => ⟨he, by
    rcases hw with rfl | ⟨t, rfl⟩
    · exact Below.refl ..
    · exact Lib.bytesWorld_below _ _ _⟩
theorem atoi_no (s : ByteArray) (w : World) (hz : s.size ≤ 100) (h : ∀ v, Lib.atoiAll s.data.toList ≠ .ok v) (ht : TextW w) :
    Calls Tryz.prog 27 #[.string s] w fun e w' => (∃ v t p, e = .returned (.tuple #[.int .i64 v, .iface t p])) ∧ Below w.heap.size w w' := by
  obtain ⟨⟨t1, p1, h1⟩, t2, p2, h2⟩ := ht.2 w (Below.refl ..)
  cases he : Lib.atoiAll s.data.toList with
  | ok v => exact absurd he (h v)
  | «syntax» => exact (Tryz.strconv_Atoi_syntax_var s (by omega) he t1 p1 w h1).mono fun e w' ⟨N, e1, _, _, hb⟩ => ⟨⟨_, _, _, e1⟩, hb⟩
  | range => exact (Tryz.strconv_Atoi_range_var s (by omega) he t2 p2 w h2).mono fun e w' ⟨N, e1, _, _, hb⟩ => ⟨⟨_, _, _, e1⟩, hb⟩
end Go.Proofs.YtgonaamjjhhiiaaGreatDoor
