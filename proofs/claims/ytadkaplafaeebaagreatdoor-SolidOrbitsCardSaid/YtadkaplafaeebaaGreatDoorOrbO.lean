/-
  The law of orbits, for every solid and number.
-/
import Derived.Test.YtadkaplafaeebaaGreatDoorOrbL
import Derived.Test.YtadkaplafaeebaaGreatDoorOrbM
import Derived.Test.YtadkaplafaeebaaGreatDoorPkV
set_option linter.unusedVariables false
set_option linter.unusedSimpArgs false
namespace Go.Proofs.YtadkaplafaeebaaGreatDoor
open Go Go.RowKit

theorem own_ints {w W : World} {v : Value} {l : List Nat} (h : OwnInts w W v l) : ∃ p cap, v = .slice p l.length cap := by
  rcases h.1.2 with ⟨e1, e2⟩ | ⟨g, cap, cur, e1, _⟩
  · exact ⟨none, 0, by rw [e1, e2]⟩
  · exact ⟨_, _, e1⟩
theorem sym_len (f : Sol) (hf : Fit f) (n : Nat) (hn : (symN f 24).length = n) (W : World) (hT : Tab64 W) : Calls Tryz.prog 67 #[sol f] W fun e w' => (∃ p cap, e = .returned (.slice p n cap)) ∧ Below W.heap.size W w' :=
  (sym_any f W hf hT).mono fun e w' ⟨v, he, ho, hb⟩ => by
    obtain ⟨p, cap, rfl⟩ := own_ints ho
    rw [hn] at he
    exact ⟨⟨p, cap, he⟩, hb⟩
theorem row_at {w W : World} {v : Value} {l : List Sol} (h : OwnSols w W v l) (hl : 0 < l.length) : ∃ g cap, v = .slice (some ⟨g, 0, none⟩) l.length cap ∧ g < W.heap.size ∧ ∀ k x, l[k]? = some x → SolAt W g k x := by
  rcases h.1.2 with ⟨e1, e2⟩ | ⟨g, cap, cur, e1, _, e3, _⟩
  · omega
  · refine ⟨g, cap, e1, (Array.getElem?_eq_some_iff.1 e3).1, fun k x hk j hj => ?_⟩
    have h1 := h.1.cells (g := g) (by rw [e1]; rfl) (8 * k + j) _ (flatS_get l k j x hk hj)
    rw [addr_add, Nat.mul_comm 8 k] at h1
    exact h1
theorem orbits_of (f : Sol) (hf : Fit f) (which : Int) (w : World) (hT : Tab64 w) :
    Calls Tryz.prog 14 #[sol f, .int .i64 which] w (RetB (.bool true) w) := by
  have hc := imgs_count hf
  obtain ⟨m, hm⟩ : ∃ m, m = (imgsF f).length := ⟨_, rfl⟩
  obtain ⟨n, hn⟩ : ∃ n, n = (symN f 24).length := ⟨_, rfl⟩
  rw [← hm, ← hn] at hc
  have hm0 : 0 < m := Nat.pos_of_ne_zero fun e => by rw [e] at hc; omega
  have hm2 : m ≤ 24 := Nat.le_of_dvd (by omega) ⟨n, hc.symm⟩
  have hn2 : n ≤ 24 := Nat.le_of_dvd (by omega) ⟨m, by rw [Nat.mul_comm]; exact hc.symm⟩
  obtain ⟨k, hk⟩ : ∃ k : Nat, k = (Int.tmod (IntKind.u64.wrap which) (m : Int)).toNat := ⟨_, rfl⟩
  have hw0 : 0 ≤ IntKind.u64.wrap which := by rw [IntKind.wrap_u64]; omega
  have ht1 : 0 ≤ Int.tmod (IntKind.u64.wrap which) (m : Int) := Int.tmod_nonneg _ hw0
  have ht2 : Int.tmod (IntKind.u64.wrap which) (m : Int) < m := Int.tmod_lt_of_pos _ (by omega)
  have hk2 : k < m := by omega
  have hk1 : IntKind.i64.wrap (Int.tmod (IntKind.u64.wrap which) (m : Int)) = k := by
    rw [IntWalk.i64_in _ (by omega), hk]
    omega
  obtain ⟨x, hx⟩ : ∃ x, x = (imgsF f)[k]'(by omega) := ⟨_, rfl⟩
  have hxk : (imgsF f)[k]? = some x := by rw [List.getElem?_eq_getElem (by omega), hx]
  have hxm : x ∈ imgsF f := List.mem_of_getElem? hxk
  obtain ⟨y, l, hy, hye⟩ := imgs_first hf
  have hy0 : (imgsF f)[0]? = some y := by rw [hy]; rfl
  have hfx := (imgs_at hxm).1
  refine orbits_core f x y (canonF x) (canonF f) n m k which w hT hm0 hm2 hn2 hk2 hc hk1 (Lib.hid fun W h => ?_) (Lib.hid fun W h => sym_len f hf n hn.symm W h) (Lib.hid fun W h => sym_len x hfx n (by rw [sym_at hf hxm]; exact hn.symm) W h)
    (Lib.hid fun W h => canon_any x W hfx h) (Lib.hid fun W h => canon_any f W hf h) (Lib.hid fun W h => carved_of ev_cav W h) (Lib.hid (canon_at hf hxm)) (Lib.hid hye)
  refine (images_any f W hf h).mono fun e w' ⟨v, he, ho, hb⟩ => ?_
  obtain ⟨g, cap, rfl, hg, hrow⟩ := row_at ho (by omega)
  rw [← hm] at he
  exact ⟨⟨g, cap, he, hg, hrow k x hxk, hrow 0 y hy0⟩, hb⟩
end Go.Proofs.YtadkaplafaeebaaGreatDoor
