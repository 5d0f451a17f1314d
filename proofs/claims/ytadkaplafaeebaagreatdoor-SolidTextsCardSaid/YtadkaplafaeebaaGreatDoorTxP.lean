/-
  A plane's text: ParseUint's answer at every text; planeOf panics where there is none.
-/
import Derived.Test.YtadkaplafaeebaaGreatDoorParU
import Derived.Test.YtadkaplafaeebaaGreatDoorPuLay
import Derived.WalkLawsBesides
set_option linter.unusedVariables false
set_option linter.unusedSimpArgs false
namespace Go.Proofs.YtadkaplafaeebaaGreatDoor
open Go Go.RowKit

/-- The two errors lie as laid. -/
def ErrW (w : World) : Prop := (∃ t p, w.cell? ⟨5, 0, none⟩ = some (.iface t p)) ∧ ∃ t p, w.cell? ⟨6, 0, none⟩ = some (.iface t p)
theorem ErrW.below {n : Nat} {w w' : World} (h : ErrW w) (hb : Below n w w') (hn : w.heap.size ≤ n) : ErrW w' := by
  obtain ⟨⟨t, p, h1⟩, u, q, h2⟩ := h
  exact ⟨⟨t, p, (hb.cell (Nat.lt_of_lt_of_le (cell_lt h1) hn)).trans h1⟩, u, q, (hb.cell (Nat.lt_of_lt_of_le (cell_lt h2) hn)).trans h2⟩
set_option maxRecDepth 100000 in
set_option maxHeartbeats 2000000 in
theorem parse_ok (s : ByteArray) (hlim : s.size ≤ 1000000) (w : World) (hE : ErrW w) :
    Calls Tryz.prog 160 #[.string s, .int .i64 16, .int .i64 64] w fun e w' => (∃ u er, e = .returned (.tuple #[.int .u64 u, er]) ∧
      ((∃ n : Nat, parT s.data.toList = .ok n ∧ u = (n : Int) ∧ er = .nilIface) ∨ (∃ c t p, parT s.data.toList = .error c ∧ er = .iface t p))) ∧ Below w.heap.size w w' := by
  have H := Lib.hid (parI_ok s hlim w)
  cases hp : parT s.data.toList with
  | ok n =>
    rw [hp] at H
    have HH : Hid (Calls Tryz.prog 173 #[.string s, .int .i64 16, .int .i64 64] w fun e w' => e = .returned (.tuple #[.int .u64 n, .nilIface]) ∧ Below w.heap.size w w') := H
    clear H
    go_enter Tryz.func160, Tryz.ntmps160
    go_wp2_with (refine HH.out.mono ?_; rintro e w1 ⟨rfl, hb1⟩)
    go_returns
    exact ⟨⟨_, _, rfl, .inl ⟨n, rfl, rfl, rfl⟩⟩, hb1⟩
  | error c =>
    rw [hp] at H
    by_cases hc : c = 1
    · subst hc
      have HH : Hid (Calls Tryz.prog 173 #[.string s, .int .i64 16, .int .i64 64] w fun e w' => e = .returned (.tuple #[.int .u64 18446744073709551615, .iface 177 (.int .i64 1)]) ∧ Below w.heap.size w w') := H
      have HT : Hid (∀ W, ErrW W → Calls Tryz.prog 174 #[.string ⟨#[80, 97, 114, 115, 101, 85, 105, 110, 116]⟩, .string s, .int .i64 16, .int .i64 64, .iface 177 (.int .i64 1)] W fun e w' => (∃ t p, e = .returned (.iface t p)) ∧ Below W.heap.size W w') := Lib.hid fun W hW => by
        obtain ⟨_, t, p, h2⟩ := hW
        refine (AnyPu.strconv_toError_range Tryz.laysPu17 ⟨#[80, 97, 114, 115, 101, 85, 105, 110, 116]⟩ s 16 64 _ W (by omega) h2 (.inr ⟨t, p, rfl⟩)).mono ?_
        rintro e w' ⟨N, rfl, _, _, hb⟩
        exact ⟨⟨_, _, rfl⟩, hb⟩
      clear H
      go_enter Tryz.func160, Tryz.ntmps160
      go_wp2_with (refine HH.out.mono ?_; rintro e w1 ⟨rfl, hb1⟩)
      go_wp2_with (refine (HT.out _ (hE.below hb1 (Nat.le_refl _))).mono ?_; rintro e w2 ⟨⟨t, p, rfl⟩, hb2⟩)
      go_returns
      exact ⟨⟨_, _, rfl, .inr ⟨_, _, _, rfl, rfl⟩⟩, hb1.trans (hb2.mono hb1.size)⟩
    · have HH : Hid (Calls Tryz.prog 173 #[.string s, .int .i64 16, .int .i64 64] w fun e w' => e = .returned (.tuple #[.int .u64 0, .iface 177 (.int .i64 2)]) ∧ Below w.heap.size w w') := by
        have e : parV (.error c) = .tuple #[.int .u64 0, .iface 177 (.int .i64 2)] := by
          unfold parV
          split
          · rename_i h; cases h
          · rename_i h; injection h with h; exact absurd h hc
          · rfl
        rw [e] at H
        exact H
      have HT : Hid (∀ W, ErrW W → Calls Tryz.prog 174 #[.string ⟨#[80, 97, 114, 115, 101, 85, 105, 110, 116]⟩, .string s, .int .i64 16, .int .i64 64, .iface 177 (.int .i64 2)] W fun e w' => (∃ t p, e = .returned (.iface t p)) ∧ Below W.heap.size W w') := Lib.hid fun W hW => by
        obtain ⟨⟨t, p, h1⟩, _⟩ := hW
        refine (AnyPu.strconv_toError_syntax Tryz.laysPu17 ⟨#[80, 97, 114, 115, 101, 85, 105, 110, 116]⟩ s 16 64 _ W (by omega) h1 (.inr ⟨t, p, rfl⟩)).mono ?_
        rintro e w' ⟨N, rfl, _, _, hb⟩
        exact ⟨⟨_, _, rfl⟩, hb⟩
      clear H
      go_enter Tryz.func160, Tryz.ntmps160
      go_wp2_with (refine HH.out.mono ?_; rintro e w1 ⟨rfl, hb1⟩)
      go_wp2_with (refine (HT.out _ (hE.below hb1 (Nat.le_refl _))).mono ?_; rintro e w2 ⟨⟨t, p, rfl⟩, hb2⟩)
      go_returns
      exact ⟨⟨_, _, rfl, .inr ⟨_, _, _, rfl, rfl⟩⟩, hb1.trans (hb2.mono hb1.size)⟩
/-- A plane's text: its number, or a panic. -/
def planeE (l : List UInt8) : Ending := match parT l with
  | .ok n => .returned (.int .u64 n)
  | .error _ => .panicked [{ v := .iface 29 (.int .i64 4), recovered := false }]
set_option maxRecDepth 100000 in
set_option maxHeartbeats 2000000 in
theorem plane_ok (s : ByteArray) (hlim : s.size ≤ 1000000) (w : World) (hE : ErrW w) :
    Calls Tryz.prog 134 #[.string s] w fun e w' => e = planeE s.data.toList ∧ Below w.heap.size w w' := by
  have H := Lib.hid (parse_ok s hlim w hE)
  go_enter Tryz.func134, Tryz.ntmps134
  go_wp2_with (refine H.out.mono ?_; rintro e w1 ⟨⟨u, er, rfl, h⟩, hb1⟩; rcases h with ⟨n, hp, rfl, rfl⟩ | ⟨c, t, p, hp, rfl⟩)
  · go_wp2
    go_ret
    exact ⟨by unfold planeE; rw [hp]; rfl, hb1⟩
  · go_wp2
    exact ⟨rfl, by unfold planeE; rw [hp], hb1⟩
end Go.Proofs.YtadkaplafaeebaaGreatDoor
