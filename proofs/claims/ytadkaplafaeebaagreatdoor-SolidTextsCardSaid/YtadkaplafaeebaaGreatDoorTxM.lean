/-
  Texts of solids: what both Reads find (mathematics).
-/
import Derived.Test.YtadkaplafaeebaaGreatDoorPkS
import Derived.Lib.IndexLaws
set_option linter.unusedVariables false
set_option linter.unusedSimpArgs false
namespace Go.Proofs.YtadkaplafaeebaaGreatDoor
open Go

/-- A digit's number as ParseUint sees it; none: no digit. -/
def digP (c : Nat) : Option Nat :=
  if 48 ≤ c ∧ c ≤ 57 then some (c - 48) else if 97 ≤ c ||| 32 ∧ c ||| 32 ≤ 102 then some ((c ||| 32) - 87) else none
/-- A digit's number as the reference sees it. -/
def digR (c : Nat) : Option Nat :=
  if 48 ≤ c ∧ c ≤ 57 then some (c - 48) else if 97 ≤ c ∧ c ≤ 102 then some (c - 87) else none
/-- ParseUint at base 16 from a number on; the errors: 1 out of range, 2 no number. -/
def parU : Nat → List UInt8 → Except Nat Nat
  | a, [] => .ok a
  | a, c :: r => match digP c.toNat with
    | none => .error 2
    | some d => if 1152921504606846976 ≤ a then .error 1 else parU (16 * a + d) r
def parT (l : List UInt8) : Except Nat Nat := if l = [] then .error 2 else parU 0 l
theorem dig_toNat {d : Nat} (h : d < 16) : (dig d).toNat = if d < 10 then 48 + d else 87 + d := by
  have : ∀ d : Fin 16, (dig d.val).toNat = if d.val < 10 then 48 + d.val else 87 + d.val := by decide
  exact this ⟨d, h⟩
theorem digP_dig {d : Nat} (h : d < 16) : digP (dig d).toNat = some d := by
  have : ∀ d : Fin 16, digP (dig d.val).toNat = some d.val := by decide
  exact this ⟨d, h⟩
theorem digR_dig {d : Nat} (h : d < 16) : digR (dig d).toNat = some d := by
  have : ∀ d : Fin 16, digR (dig d.val).toNat = some d.val := by decide
  exact this ⟨d, h⟩
theorem dig_dot {d : Nat} (h : d < 16) : dig d ≠ 46 := by
  have : ∀ d : Fin 16, dig d.val ≠ 46 := by decide
  exact this ⟨d, h⟩
theorem digP_lt {c d : Nat} (h : digP c = some d) : d < 16 := by
  unfold digP at h
  split at h
  · injection h with h; omega
  · split at h
    · injection h with h; omega
    · cases h
theorem digR_lt {c d : Nat} (h : digR c = some d) : d < 16 := by
  unfold digR at h
  split at h
  · injection h with h; omega
  · split at h
    · injection h with h; omega
    · cases h
theorem hexL_dot : ∀ m u, ∀ c ∈ hexL m u, c ≠ 46
  | 0, _, c, h => by simp [hexL] at h
  | m + 1, u, c, h => by
    unfold hexL at h
    split at h
    · rcases List.mem_append.1 h with h | h
      · exact hexL_dot m _ c h
      · rw [List.mem_singleton] at h; subst h; exact dig_dot (Nat.mod_lt _ (by omega))
    · rw [List.mem_singleton] at h; subst h; exact dig_dot (by omega)
theorem hexL_ne (m u : Nat) : hexL (m + 1) u ≠ [] := by
  unfold hexL
  split <;> simp
theorem pow16 {m u : Nat} (h : u < 16 ^ (m + 1)) : u / 16 < 16 ^ m := by
  rw [Nat.pow_succ] at h
  omega
theorem pow_le {m : Nat} (h : m ≤ 15) : 16 ^ m ≤ 1152921504606846976 := by
  have h1 : 16 ^ m ≤ 16 ^ 15 := Nat.pow_le_pow_right (by omega) h
  have h2 : (16 : Nat) ^ 15 = 1152921504606846976 := by decide
  omega
theorem par_hex : ∀ m u (r : List UInt8), u < 16 ^ m → 0 < m → m ≤ 16 → parU 0 (hexL m u ++ r) = parU u r
  | 0, u, r, h, h0, _ => by omega
  | m + 1, u, r, h, _, hm => by
    unfold hexL
    by_cases hu : 16 ≤ u
    · rw [if_pos hu, List.append_assoc]
      have h1 := pow16 h
      have h2 := pow_le (m := m) (by omega)
      have hm0 : 0 < m := Nat.pos_of_ne_zero fun e => by subst e; simp at h1; omega
      rw [par_hex m (u / 16) _ h1 hm0 (by omega)]
      simp only [List.singleton_append, List.cons_append, List.nil_append, parU]
      rw [digP_dig (Nat.mod_lt _ (by omega))]
      simp only
      rw [if_neg (by omega), show 16 * (u / 16) + u % 16 = u by omega]
    · rw [if_neg hu]
      simp only [List.singleton_append, parU]
      rw [digP_dig (by omega)]
      simp
theorem parT_hex {u : Nat} (h : u < 18446744073709551616) : parT (hexL 16 u) = .ok u := by
  unfold parT
  rw [if_neg (hexL_ne 15 u)]
  have h1 := par_hex 16 u [] (by simpa using h) (by omega) (by omega)
  rw [List.append_nil] at h1
  rw [h1]
  rfl
theorem parU_lt : ∀ (l : List UInt8) (a v : Nat), a < 18446744073709551616 → parU a l = .ok v → v < 18446744073709551616
  | [], a, v, h, e => by
    unfold parU at e
    injection e with e
    omega
  | c :: r, a, v, h, e => by
    unfold parU at e
    split at e
    · cases e
    · rename_i d hd
      split at e
      · cases e
      · have := digP_lt hd
        exact parU_lt r _ v (by omega) e
theorem parT_lt {l : List UInt8} {v : Nat} (e : parT l = .ok v) : v < 18446744073709551616 := by
  unfold parT at e
  split at e
  · cases e
  · exact parU_lt l 0 v (by omega) e
/-- The parts of a text between its dots. -/
def segs : List UInt8 → List (List UInt8)
  | [] => [[]]
  | c :: r => if c = 46 then [] :: segs r else match segs r with
    | [] => [[c]]
    | t :: ts => (c :: t) :: ts
theorem segs_none : ∀ l : List UInt8, Lib.indexByte l 46 = -1 → segs l = [l]
  | [], _ => rfl
  | c :: r, h => by
    unfold Lib.indexByte at h
    by_cases hc : c = 46
    · subst hc; simp at h
    · have hb : (c == 46) = false := by simpa using hc
      rw [hb] at h
      simp only [Bool.false_eq_true, if_false] at h
      have hr : Lib.indexByte r 46 = -1 := by
        split at h
        · rename_i h1; simpa using h1
        · have := Lib.indexByte_ge r 46; omega
      unfold segs
      rw [if_neg hc, segs_none r hr]
theorem segs_some : ∀ (l : List UInt8) (i : Nat), Lib.indexByte l 46 = i → segs l = l.take i :: segs (l.drop (i + 1))
  | [], i, h => by simp [Lib.indexByte] at h
  | c :: r, i, h => by
    unfold Lib.indexByte at h
    by_cases hc : c = 46
    · subst hc
      simp at h
      obtain rfl : i = 0 := by omega
      simp [segs]
    · have hb : (c == 46) = false := by simpa using hc
      rw [hb] at h
      simp only [Bool.false_eq_true, if_false] at h
      split at h
      · omega
      · have h1 := Lib.indexByte_ge r 46
        rename_i h2
        have h2' : Lib.indexByte r 46 ≠ -1 := by simpa using h2
        obtain ⟨j, hj⟩ : ∃ j : Nat, Lib.indexByte r 46 = j := ⟨(Lib.indexByte r 46).toNat, by omega⟩
        obtain rfl : i = j + 1 := by omega
        have := segs_some r j hj
        rw [segs, if_neg hc, this]
        simp
theorem segs_word : ∀ (t r : List UInt8), (∀ c ∈ t, c ≠ 46) → segs (t ++ 46 :: r) = t :: segs r
  | [], r, _ => by simp [segs]
  | c :: t, r, h => by
    rw [List.cons_append, segs, if_neg (h c List.mem_cons_self), segs_word t r fun x hx => h x (List.mem_cons_of_mem _ hx)]
theorem segs_last : ∀ (t : List UInt8), (∀ c ∈ t, c ≠ 46) → segs t = [t]
  | [], _ => rfl
  | c :: t, h => by
    rw [segs, if_neg (h c List.mem_cons_self), segs_last t fun x hx => h x (List.mem_cons_of_mem _ hx)]
theorem segs_join : ∀ (ws : List (List UInt8)) (w : List UInt8), (∀ c ∈ w, c ≠ 46) → (∀ x ∈ ws, ∀ c ∈ x, c ≠ 46) → segs (w ++ Lib.joinTail [46] ws) = w :: ws
  | [], w, h, _ => by simp [Lib.joinTail, segs_last w h]
  | x :: ws, w, h, hs => by
    have e : Lib.joinTail [46] (x :: ws) = 46 :: (x ++ Lib.joinTail [46] ws) := by simp [Lib.joinTail]
    rw [e, segs_word w _ h, segs_join ws x (hs x List.mem_cons_self) fun y hy => hs y (List.mem_cons_of_mem _ hy)]
/-- How many parts there are at most. -/
theorem segs_len : ∀ l : List UInt8, (segs l).length ≤ l.length + 1
  | [] => by simp [segs]
  | c :: r => by
    have := segs_len r
    unfold segs
    split
    · simp; omega
    · split
      · simp
      · rename_i t ts h
        rw [h] at this
        simp at this ⊢
        omega
/-- What the program reads, part by part. -/
def readP : Nat → Sol → List (List UInt8) → Option Sol
  | k, f, [] => some f
  | k, f, t :: r => if k = 8 then none else match parT t with
    | .error _ => none
    | .ok u => readP (k + 1) (up8 f k u) r
/-- What the reference reads, byte by byte. -/
def readR : Nat → Sol → List UInt8 → Option Sol
  | z, f, [] => some f
  | z, f, c :: r => if c = 46 then readR (z + 1) f r else match digR c.toNat with
    | none => none
    | some d => if 7 < z ∨ 1152921504606846976 ≤ f z then none else readR z (up8 f z (16 * f z + d)) r
theorem up8_up8 (f : Sol) (k a b : Nat) : up8 (up8 f k a) k b = up8 f k b := by
  funext i
  unfold up8
  split <;> rfl
theorem up8_fit {f : Sol} (h : Fit f) (k : Nat) {v : Nat} (hv : v < 18446744073709551616) : Fit (up8 f k v) := fun i => by
  unfold up8
  split
  · exact hv
  · exact h i
theorem readR_hex : ∀ m u z (f : Sol) (r : List UInt8), u < 16 ^ m → 0 < m → m ≤ 16 → z ≤ 7 → f z = 0 → readR z f (hexL m u ++ r) = readR z (up8 f z u) r
  | 0, u, z, f, r, h, h0, _, _, _ => by omega
  | m + 1, u, z, f, r, h, _, hm, hz, hf => by
    unfold hexL
    by_cases hu : 16 ≤ u
    · rw [if_pos hu, List.append_assoc]
      have h1 := pow16 h
      have h2 := pow_le (m := m) (by omega)
      have hm0 : 0 < m := Nat.pos_of_ne_zero fun e => by subst e; simp at h1; omega
      rw [readR_hex m (u / 16) z f _ h1 hm0 (by omega) hz hf]
      simp only [List.singleton_append, readR]
      rw [if_neg (dig_dot (Nat.mod_lt _ (by omega))), digR_dig (Nat.mod_lt _ (by omega))]
      simp only
      have e : up8 f z (u / 16) z = u / 16 := by simp [up8]
      rw [e, if_neg (by omega), up8_up8, show 16 * (u / 16) + u % 16 = u by omega]
    · rw [if_neg hu]
      simp only [List.singleton_append, readR]
      rw [if_neg (dig_dot (by omega)), digR_dig (by omega)]
      simp only
      rw [hf, if_neg (by omega)]
      simp
theorem readR_tail (x : Sol) (hx : Fit x) : ∀ n z (f : Sol), z + n ≤ 7 → (∀ i, z < i → f i = 0) →
    readR z f (Lib.joinTail [46] ((List.range' (z + 1) n).map fun i => hexL 16 (x i))) = some fun i => if z < i ∧ i ≤ z + n then x i else f i
  | 0, z, f, h, hf => by
    simp only [List.range'_zero, List.map_nil, Lib.joinTail, List.flatten_nil, readR]
    congr 1
    funext i
    rw [if_neg (by omega)]
  | n + 1, z, f, h, hf => by
    have e : Lib.joinTail [46] ((List.range' (z + 1) (n + 1)).map fun i => hexL 16 (x i)) = 46 :: (hexL 16 (x (z + 1)) ++ Lib.joinTail [46] ((List.range' (z + 1 + 1) n).map fun i => hexL 16 (x i))) := by
      simp [Lib.joinTail, List.range'_succ]
    rw [e, readR, if_pos rfl, readR_hex 16 _ (z + 1) f _ (by simpa using hx (z + 1)) (by omega) (by omega) (by omega) (hf _ (by omega)), readR_tail x hx n (z + 1) _ (by omega) fun i hi => by
      unfold up8
      rw [if_neg (by omega)]
      exact hf i (by omega)]
    congr 1
    funext i
    unfold up8
    by_cases h1 : i = z + 1
    · subst h1
      rw [if_neg (by omega), if_pos rfl, if_pos (by omega)]
    · by_cases h2 : z + 1 < i ∧ i ≤ z + 1 + n
      · rw [if_pos h2, if_pos (by omega)]
      · rw [if_neg h2, if_neg h1, if_neg (by omega)]
theorem readP_tail (x : Sol) (hx : Fit x) : ∀ n k (f : Sol), k + n ≤ 8 →
    readP k f ((List.range' k n).map fun i => hexL 16 (x i)) = some fun i => if k ≤ i ∧ i < k + n then x i else f i
  | 0, k, f, h => by
    simp only [List.range'_zero, List.map_nil, readP]
    congr 1
    funext i
    rw [if_neg (by omega)]
  | n + 1, k, f, h => by
    rw [List.range'_succ, List.map_cons, readP, if_neg (by omega), parT_hex (hx k)]
    simp only
    rw [readP_tail x hx n (k + 1) _ (by omega)]
    congr 1
    funext i
    unfold up8
    by_cases h1 : i = k
    · subst h1
      rw [if_neg (by omega), if_pos rfl, if_pos (by omega)]
    · by_cases h2 : k + 1 ≤ i ∧ i < k + 1 + n
      · rw [if_pos h2, if_pos (by omega)]
      · rw [if_neg h2, if_neg h1, if_neg (by omega)]
def writeL (f : Sol) : List UInt8 := Lib.join ((wordsN f (topP f 8)).map (·.data.toList)) [46]
theorem writeF_eq (f : Sol) : writeF f = ⟨(writeL f).toArray⟩ := rfl
theorem words_map (f : Sol) (n : Nat) : (wordsN f n).map (·.data.toList) = (List.range n).map fun i => hexL 16 (f i) := by
  unfold wordsN
  rw [List.map_map]
  rfl
theorem words_from (f : Sol) {n : Nat} (h : 0 < n) : (wordsN f n).map (·.data.toList) = hexL 16 (f 0) :: (List.range' 1 (n - 1)).map fun i => hexL 16 (f i) := by
  obtain ⟨m, rfl⟩ : ∃ m, n = m + 1 := ⟨n - 1, by omega⟩
  rw [words_map, List.range_eq_range', List.range'_succ]
  simp
theorem writeL_eq (f : Sol) : writeL f = hexL 16 (f 0) ++ Lib.joinTail [46] ((List.range' 1 (topP f 8 - 1)).map fun i => hexL 16 (f i)) := by
  unfold writeL
  rw [words_from f (topP_pos f 8 (by omega)), Lib.join_cons]
theorem topP_zero (f : Sol) : ∀ p i, topP f p ≤ i → i < p → f i = 0
  | 0, i, _, h => by omega
  | p + 1, i, h1, h2 => by
    unfold topP at h1
    split at h1
    · rename_i h
      by_cases e : i = p
      · subst e; exact h.2
      · exact topP_zero f p i h1 (by omega)
    · omega
theorem topP_congr {f g : Sol} : ∀ p, (∀ k, k < p → f k = g k) → topP f p = topP g p
  | 0, _ => rfl
  | p + 1, h => by
    unfold topP
    rw [h p (by omega), topP_congr p fun k hk => h k (by omega)]
theorem writeL_congr {f g : Sol} (h : ∀ k, k < 8 → f k = g k) : writeL f = writeL g := by
  unfold writeL
  rw [words_map, words_map, topP_congr 8 h]
  have : (List.range (topP g 8)).map (fun i => hexL 16 (f i)) = (List.range (topP g 8)).map fun i => hexL 16 (g i) := by
    refine List.map_congr_left fun i hi => ?_
    have h1 := List.mem_range.1 hi
    have h2 := topP_le g 8
    rw [h i (by omega)]
  rw [this]
def zeroS : Sol := fun _ => 0
/-- What both Reads answer. -/
def rdF (s : List UInt8) : Option Sol := (readP 0 zeroS (segs s)).bind fun x => if writeL x = s then some x else none
def rdR (s : List UInt8) : Option Sol := (readR 0 zeroS s).bind fun x => if writeL x = s then some x else none
theorem rdF_write {x : Sol} (hx : Fit x) : ∃ y, rdF (writeL x) = some y ∧ ∀ k, k < 8 → y k = x k := by
  have h1 : readP 0 zeroS (segs (writeL x)) = some fun i => if 0 ≤ i ∧ i < 0 + topP x 8 then x i else zeroS i := by
    rw [writeL_eq, segs_join _ _ (hexL_dot 16 _) fun w hw => by
      obtain ⟨i, _, rfl⟩ := List.mem_map.1 hw
      exact hexL_dot 16 _]
    rw [← readP_tail x hx (topP x 8) 0 zeroS (by have := topP_le x 8; omega)]
    congr 1
    obtain ⟨m, hm⟩ : ∃ m, topP x 8 = m + 1 := ⟨topP x 8 - 1, by have := topP_pos x 8 (by omega); omega⟩
    rw [hm, List.range'_succ]
    simp
  have h2 : ∀ k, k < 8 → (if 0 ≤ k ∧ k < 0 + topP x 8 then x k else zeroS k) = x k := fun k hk => by
    split
    · rfl
    · rw [topP_zero x 8 k (by omega) hk]; rfl
  refine ⟨_, ?_, h2⟩
  unfold rdF
  rw [h1]
  simp only [Option.bind_some]
  rw [if_pos (writeL_congr h2)]
theorem rdR_write {x : Sol} (hx : Fit x) : ∃ y, rdR (writeL x) = some y ∧ ∀ k, k < 8 → y k = x k := by
  have h1 : readR 0 zeroS (writeL x) = some fun i => if 0 < i ∧ i ≤ 0 + (topP x 8 - 1) then x i else up8 zeroS 0 (x 0) i := by
    rw [writeL_eq, readR_hex 16 _ 0 zeroS _ (by simpa using hx 0) (by omega) (by omega) (by omega) rfl]
    exact readR_tail x hx (topP x 8 - 1) 0 _ (by have := topP_le x 8; omega) fun i hi => by
      unfold up8 zeroS
      rw [if_neg (by omega)]
  have hp := topP_pos x 8 (by omega)
  have h2 : ∀ k, k < 8 → (if 0 < k ∧ k ≤ 0 + (topP x 8 - 1) then x k else up8 zeroS 0 (x 0) k) = x k := fun k hk => by
    split
    · rfl
    · unfold up8
      split
      · rename_i h; rw [h]
      · rw [topP_zero x 8 k (by omega) hk]; rfl
  refine ⟨_, ?_, h2⟩
  unfold rdR
  rw [h1]
  simp only [Option.bind_some]
  rw [if_pos (writeL_congr h2)]
theorem readP_fit : ∀ (l : List (List UInt8)) (k : Nat) (f x : Sol), Fit f → readP k f l = some x → Fit x
  | [], k, f, x, h, e => by
    unfold readP at e
    injection e with e
    exact e ▸ h
  | t :: r, k, f, x, h, e => by
    unfold readP at e
    split at e
    · cases e
    · split at e
      · cases e
      · rename_i u hu
        exact readP_fit r _ _ x (up8_fit h k (parT_lt hu)) e
theorem readR_fit : ∀ (l : List UInt8) (k : Nat) (f x : Sol), Fit f → readR k f l = some x → Fit x
  | [], k, f, x, h, e => by
    unfold readR at e
    injection e with e
    exact e ▸ h
  | c :: r, k, f, x, h, e => by
    unfold readR at e
    split at e
    · exact readR_fit r _ _ x h e
    · split at e
      · cases e
      · rename_i d hd
        have := digR_lt hd
        split at e
        · cases e
        · exact readR_fit r _ _ x (up8_fit h k (by omega)) e
theorem zero_fit : Fit zeroS := fun _ => by simp [zeroS]
theorem rdF_some {s : List UInt8} {x : Sol} (h : rdF s = some x) : Fit x ∧ writeL x = s := by
  unfold rdF at h
  cases hr : readP 0 zeroS (segs s) with
  | none => rw [hr] at h; cases h
  | some y =>
    rw [hr] at h
    simp only [Option.bind_some] at h
    split at h
    · rename_i e
      injection h with h
      subst h
      exact ⟨readP_fit _ _ _ _ zero_fit hr, e⟩
    · cases h
theorem rdR_some {s : List UInt8} {x : Sol} (h : rdR s = some x) : Fit x ∧ writeL x = s := by
  unfold rdR at h
  cases hr : readR 0 zeroS s with
  | none => rw [hr] at h; cases h
  | some y =>
    rw [hr] at h
    simp only [Option.bind_some] at h
    split at h
    · rename_i e
      injection h with h
      subst h
      exact ⟨readR_fit _ _ _ _ zero_fit hr, e⟩
    · cases h
/-- Both Reads answer the same. -/
theorem rd_same (s : List UInt8) : (rdF s = none ∧ rdR s = none) ∨ ∃ x y, rdF s = some x ∧ rdR s = some y ∧ ∀ k, k < 8 → x k = y k := by
  cases hf : rdF s with
  | some x =>
    obtain ⟨h1, h2⟩ := rdF_some hf
    obtain ⟨y, hy, e⟩ := rdR_write h1
    rw [h2] at hy
    exact .inr ⟨x, y, rfl, hy, fun k hk => (e k hk).symm⟩
  | none =>
    cases hr : rdR s with
    | none => exact .inl ⟨rfl, rfl⟩
    | some y =>
      obtain ⟨h1, h2⟩ := rdR_some hr
      obtain ⟨x, hx, _⟩ := rdF_write h1
      rw [h2, hf] at hx
      cases hx
end Go.Proofs.YtadkaplafaeebaaGreatDoor
