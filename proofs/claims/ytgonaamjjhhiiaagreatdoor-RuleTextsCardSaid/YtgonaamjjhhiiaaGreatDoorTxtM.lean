/-
  Plain mathematics of the texts of fractions: the text, its parts, and that it is read again.
-/
import Derived.Test.YtgonaamjjhhiiaaGreatDoorMath
import Derived.Lib.ItoaNum
import Derived.Lib.ItoaMem
import Derived.Lib.AtoiAllCases
import Derived.Lib.IndexMore
set_option linter.unusedVariables false
namespace Go.Proofs.YtgonaamjjhhiiaaGreatDoor
open Go

/-- The text of a fraction. -/
def txt (p q : Int) : List UInt8 := if q = 1 then Lib.itoa p else Lib.itoa p ++ [47] ++ Lib.itoa q

def digL (l : List UInt8) : Prop := ∀ c ∈ l, 48 ≤ c.toNat ∧ c.toNat ≤ 57
theorem dig_toNat {k : Nat} (h : k < 10) : (UInt8.ofNat (48 + k)).toNat = 48 + k := by
  rw [UInt8.toNat_ofNat']
  omega
theorem dec_small {u : Nat} (h : u < 10) : Lib.decDigits u = [UInt8.ofNat (48 + u)] := by rw [Lib.decDigits, dif_pos h]
theorem dec_big {u : Nat} (h : ¬ u < 10) : Lib.decDigits u = Lib.decDigits (u / 10) ++ [UInt8.ofNat (48 + u % 10)] := by rw [Lib.decDigits, dif_neg h]
theorem dec_digL (u : Nat) : digL (Lib.decDigits u) := by
  induction u using Nat.strongRecOn with
  | _ u ih =>
    by_cases h : u < 10
    · rw [dec_small h]
      intro c hc
      rw [List.mem_singleton] at hc
      subst hc
      rw [dig_toNat h]; omega
    · rw [dec_big h]
      intro c hc
      rcases List.mem_append.1 hc with hc | hc
      · exact ih (u / 10) (by omega) c hc
      · rw [List.mem_singleton] at hc
        subst hc
        rw [dig_toNat (Nat.mod_lt _ (by omega))]; omega
theorem dec_ne (u : Nat) : Lib.decDigits u ≠ [] := by
  by_cases h : u < 10
  · rw [dec_small h]; simp
  · rw [dec_big h]; simp

theorem parse_append : ∀ (l m : List UInt8) (acc : Nat), Lib.parseUint10 acc (l ++ m) = match Lib.parseUint10 acc l with
    | .ok a => Lib.parseUint10 a m
    | .syntax => .syntax
    | .range => .range
  | [], m, acc => rfl
  | c :: l, m, acc => by
    simp only [List.cons_append, Lib.parseUint10]
    split
    · split
      · rfl
      · split
        · rfl
        · exact parse_append l m _
    · rfl
theorem parse_dec (u : Nat) : u < 1000000000000000000 → Lib.parseUint10 0 (Lib.decDigits u) = .ok u := by
  induction u using Nat.strongRecOn with
  | _ u ih =>
    intro hb
    by_cases h : u < 10
    · rw [dec_small h]
      simp only [Lib.parseUint10, dig_toNat h]
      rw [if_pos ⟨by omega, by omega⟩, if_neg (by omega), if_neg (by omega)]
      congr 1
      omega
    · have hm := Nat.mod_lt u (show 0 < 10 by omega)
      rw [dec_big h, parse_append, ih (u / 10) (by omega) (by omega)]
      simp only [Lib.parseUint10, dig_toNat hm]
      rw [if_pos ⟨by omega, by omega⟩, if_neg (by omega), if_neg (by omega)]
      congr 1
      omega
theorem atoi_itoa {n : Int} (h1 : -1000000000000 ≤ n) (h2 : n ≤ 1000000000000) : Lib.atoiAll (Lib.itoa n) = .ok n := by
  unfold Lib.itoa
  by_cases h : n < 0
  · rw [if_pos h, Lib.atoiAll_minus]
    have hp : Lib.parseMag (Lib.decDigits n.natAbs) = .ok n.natAbs := by
      unfold Lib.parseMag
      rw [if_neg (dec_ne _), parse_dec _ (by omega)]
    rw [hp]
    unfold Lib.signed
    simp only
    rw [if_neg (by omega)]
    congr 1
    omega
  · rw [if_neg h]
    have hd := dec_digL n.toNat
    have hp : Lib.parseMag (Lib.decDigits n.toNat) = .ok n.toNat := by
      unfold Lib.parseMag
      rw [if_neg (dec_ne _), parse_dec _ (by omega)]
    cases hc : Lib.decDigits n.toNat with
    | nil => exact absurd hc (dec_ne _)
    | cons c r =>
      rw [hc] at hd hp
      have := hd c (List.mem_cons_self ..)
      rw [Lib.atoiAll_plain c r (by omega) (by omega), hp]
      unfold Lib.signless
      simp only
      rw [if_neg (by omega)]
      congr 1
      omega

/-- No stroke in a numeral. -/
theorem itoa_no47 (n : Int) : ∀ c ∈ Lib.itoa n, c ≠ 47 := by
  intro c hc he
  subst he
  unfold Lib.itoa at hc
  split at hc
  · rcases List.mem_cons.1 hc with h | h
    · exact absurd h (by decide)
    · have := dec_digL _ _ h
      exact absurd this.1 (by decide)
  · have := dec_digL _ _ hc
    exact absurd this.1 (by decide)
theorem index47_none : ∀ (l : List UInt8), (∀ c ∈ l, c ≠ 47) → Lib.index l [47] = -1
  | [], _ => rfl
  | c :: l, h => by
    have hc := h c (List.mem_cons_self ..)
    have ih := index47_none l fun x hx => h x (List.mem_cons_of_mem _ hx)
    unfold Lib.index
    rw [ih]
    have : ([47] : List UInt8).isPrefixOf (c :: l) = false := by
      simp only [List.isPrefixOf, Bool.and_true, beq_eq_false_iff_ne]
      exact fun hh => hc hh.symm
    rw [this]
    rfl
theorem index47_at : ∀ (l m : List UInt8), (∀ c ∈ l, c ≠ 47) → Lib.index (l ++ 47 :: m) [47] = l.length
  | [], m, _ => by
    unfold Lib.index
    simp [List.isPrefixOf]
  | c :: l, m, h => by
    have hc := h c (List.mem_cons_self ..)
    have ih := index47_at l m fun x hx => h x (List.mem_cons_of_mem _ hx)
    simp only [List.cons_append]
    unfold Lib.index
    rw [ih]
    have : ([47] : List UInt8).isPrefixOf (c :: (l ++ 47 :: m)) = false := by
      simp only [List.isPrefixOf, Bool.and_true, beq_eq_false_iff_ne]
      exact fun hh => hc hh.symm
    rw [this]
    have h2 : ((l.length : Int) == -1) = false := by rw [beq_eq_false_iff_ne]; omega
    simp [h2]
theorem cut_txt (p q : Int) : Lib.cut (txt p q) [47] = if q = 1 then (Lib.itoa p, [], false) else (Lib.itoa p, Lib.itoa q, true) := by
  unfold txt Lib.cut
  by_cases h : q = 1
  · rw [if_pos h, if_pos h, index47_none _ (itoa_no47 p), if_neg (by decide)]
  · rw [if_neg h, if_neg h, List.append_assoc, List.singleton_append, index47_at _ _ (itoa_no47 p), if_pos (by omega)]
    refine Prod.ext ?_ (Prod.ext ?_ rfl)
    · simp
    · simp

/-- One text, one fraction. -/
theorem itoa_inj {a b : Int} (ha : -1000000000000 ≤ a ∧ a ≤ 1000000000000) (hb : -1000000000000 ≤ b ∧ b ≤ 1000000000000) (h : Lib.itoa a = Lib.itoa b) : a = b := by
  have h1 := atoi_itoa ha.1 ha.2
  rw [h, atoi_itoa hb.1 hb.2] at h1
  injection h1 with h1
  exact h1.symm
theorem txt_inj {p q p' q' : Int} (h1 : okQ p q = true) (h2 : okQ p' q' = true) (h : txt p q = txt p' q') : p = p' ∧ q = q' := by
  obtain ⟨a1, a2, a3, a4, _⟩ := okQ_iff.1 h1
  obtain ⟨b1, b2, b3, b4, _⟩ := okQ_iff.1 h2
  have hc := congrArg (fun s => Lib.cut s [47]) h
  simp only [cut_txt] at hc
  by_cases e : q = 1 <;> by_cases e' : q' = 1
  · rw [if_pos e, if_pos e'] at hc
    exact ⟨itoa_inj ⟨by omega, by omega⟩ ⟨by omega, by omega⟩ (congrArg Prod.fst hc), by omega⟩
  · rw [if_pos e, if_neg e'] at hc
    exact absurd (congrArg (fun x => x.2.2) hc) (by simp)
  · rw [if_neg e, if_pos e'] at hc
    exact absurd (congrArg (fun x => x.2.2) hc) (by simp)
  · rw [if_neg e, if_neg e'] at hc
    exact ⟨itoa_inj ⟨by omega, by omega⟩ ⟨by omega, by omega⟩ (congrArg Prod.fst hc), itoa_inj ⟨by omega, by omega⟩ ⟨by omega, by omega⟩ (congrArg (fun x => x.2.1) hc)⟩
theorem dec_len (u : Nat) : ∀ k, u < 10 ^ k → 1 ≤ k → (Lib.decDigits u).length ≤ k := by
  induction u using Nat.strongRecOn with
  | _ u ih =>
    intro k hk h1
    by_cases h : u < 10
    · rw [dec_small h]; simpa using h1
    · rw [dec_big h, List.length_append, List.length_singleton]
      cases k with
      | zero => omega
      | succ k =>
        rw [Nat.pow_succ] at hk
        have hk0 : 1 ≤ k := by
          rcases Nat.eq_zero_or_pos k with h0 | h0
          · subst h0; simp at hk; omega
          · exact h0
        have := ih (u / 10) (by omega) k (by omega) hk0
        omega
theorem itoa_len {n : Int} (h1 : -1000000000 ≤ n) (h2 : n ≤ 1000000000) : (Lib.itoa n).length ≤ 11 := by
  unfold Lib.itoa
  split
  · have := dec_len n.natAbs 10 (by omega) (by omega); simp; omega
  · have := dec_len n.toNat 10 (by omega) (by omega); omega
theorem txt_len {p q : Int} (h : okQ p q = true) : (txt p q).length ≤ 19 := by
  obtain ⟨a1, a2, a3, a4, _⟩ := okQ_iff.1 h
  have l1 := itoa_len a3 a4
  unfold txt
  split
  · omega
  · have l2 : (Lib.itoa q).length ≤ 7 := by
      unfold Lib.itoa
      rw [if_neg (by omega)]
      exact dec_len q.toNat 7 (by omega) (by omega)
    simp; omega

/-- What the reference makes of a text, byte after byte: the sign, the two numbers, whether the stroke has come. -/
def rdStep (s : Int × Int × Int × Bool) (c : UInt8) : Int × Int × Int × Bool :=
  let s1 := if c = 45 then ((-1 : Int), s.2.1, s.2.2.1, s.2.2.2) else s
  let s2 := if c = 47 then (s1.1, s1.2.1, s1.2.2.1, true) else s1
  if 48 ≤ c.toNat ∧ c.toNat ≤ 57 then (if s2.2.2.2 = true then (s2.1, s2.2.1, min (10 * s2.2.2.1 + c.toNat - 48) 10000000000, s2.2.2.2) else (s2.1, min (10 * s2.2.1 + c.toNat - 48) 10000000000, s2.2.2.1, s2.2.2.2)) else s2
def rdL (s : List UInt8) : Int × Int × Int × Bool := s.foldl rdStep (1, 0, 0, false)
theorem rdStep_dig {s : Int × Int × Int × Bool} {k : Nat} (h : k < 10) : rdStep s (UInt8.ofNat (48 + k)) = if s.2.2.2 = true then (s.1, s.2.1, min (10 * s.2.2.1 + k) 10000000000, s.2.2.2) else (s.1, min (10 * s.2.1 + k) 10000000000, s.2.2.1, s.2.2.2) := by
  have e := dig_toNat h
  have n1 : ¬ UInt8.ofNat (48 + k) = 45 := fun hh => by rw [hh] at e; simp at e; omega
  have n2 : ¬ UInt8.ofNat (48 + k) = 47 := fun hh => by rw [hh] at e; simp at e; omega
  unfold rdStep
  simp only [n1, n2, if_false, e]
  rw [if_pos ⟨by omega, by omega⟩]
  have e2 : ∀ x : Int, 10 * x + ((48 + k : Nat) : Int) - 48 = 10 * x + (k : Int) := fun x => by omega
  simp only [e2]
theorem rd_dec (u : Nat) : ∀ (s : Int × Int × Int × Bool), u ≤ 10000000000 → (if s.2.2.2 = true then s.2.2.1 else s.2.1) = 0 →
    (Lib.decDigits u).foldl rdStep s = if s.2.2.2 = true then (s.1, s.2.1, (u : Int), s.2.2.2) else (s.1, (u : Int), s.2.2.1, s.2.2.2) := by
  induction u using Nat.strongRecOn with
  | _ u ih =>
    intro s hb h0
    by_cases h : u < 10
    · rw [dec_small h]
      simp only [List.foldl_cons, List.foldl_nil, rdStep_dig h]
      cases hs : s.2.2.2 with
      | true =>
        rw [hs] at h0
        simp only [if_true] at h0 ⊢
        rw [h0]
        congr 3
        omega
      | false =>
        rw [hs] at h0
        simp only [Bool.false_eq_true, if_false] at h0 ⊢
        rw [h0]
        congr 2
        omega
    · have hm := Nat.mod_lt u (show 0 < 10 by omega)
      rw [dec_big h, List.foldl_append, ih (u / 10) (by omega) s (by omega) h0]
      simp only [List.foldl_cons, List.foldl_nil, rdStep_dig hm]
      cases hs : s.2.2.2 with
      | true =>
        simp only [if_true]
        congr 3
        omega
      | false =>
        simp only [Bool.false_eq_true, if_false]
        congr 2
        omega
theorem rd_txt {p q : Int} (h : okQ p q = true) : rdL (txt p q) = (if p < 0 then -1 else 1, (p.natAbs : Int), (if q = 1 then 0 else q), decide (q ≠ 1)) := by
  obtain ⟨a1, a2, a3, a4, _⟩ := okQ_iff.1 h
  have hp : (Lib.itoa p).foldl rdStep (1, 0, 0, false) = ((if p < 0 then (-1 : Int) else 1), (p.natAbs : Int), (0 : Int), false) := by
    unfold Lib.itoa
    by_cases hn : p < 0
    · rw [if_pos hn, if_pos hn, List.foldl_cons]
      have e : rdStep (1, 0, 0, false) 45 = (-1, 0, 0, false) := by decide +kernel
      rw [e, rd_dec _ _ (by omega) rfl]
      rfl
    · rw [if_neg hn, if_neg hn, rd_dec _ _ (by omega) rfl]
      have : p.toNat = p.natAbs := by omega
      rw [this]
      rfl
  unfold rdL txt
  by_cases hq : q = 1
  · rw [if_pos hq, hp, if_pos hq]
    simp [hq]
  · rw [if_neg hq, List.foldl_append, List.foldl_append, hp, if_neg hq]
    have e : ∀ a b : Int, List.foldl rdStep (a, b, 0, false) [47] = (a, b, 0, true) := fun a b => by
      simp only [List.foldl_cons, List.foldl_nil]
      unfold rdStep
      simp
    rw [e]
    unfold Lib.itoa
    rw [if_neg (show ¬ q < 0 by omega), rd_dec _ _ (by omega) rfl]
    simp [hq]
    omega
end Go.Proofs.YtgonaamjjhhiiaaGreatDoor
