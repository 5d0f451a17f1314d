/-
  Plain mathematics of convergents, one term after the other: how great their parts are.
-/
import Derived.Test.YtgonaamjjhhiiaaDoorTermM
import Derived.Test.YtgonaamjjhhiiaaDoorProg
set_option linter.unusedVariables false
namespace Go.Proofs.YtgonaamjjhhiiaaDoor

def stepC (s : Int × Int × Int × Int) (t : Int) : Int × Int × Int × Int := (s.2.2.1, s.2.2.2, t * s.2.2.1 + s.1, t * s.2.2.2 + s.2.1)
/-- The last two convergents behind some terms. -/
def stC (l : List Int) : Int × Int × Int × Int := l.foldl stepC (0, 1, 1, 0)

theorem cvF_snoc (pre : List Int) : ∀ (x a b c d : Int), cvF (pre ++ [x]) a b c d = cvF pre a b c d ++ [((stepC (pre.foldl stepC (a, b, c, d)) x).2.2.1, (stepC (pre.foldl stepC (a, b, c, d)) x).2.2.2)] := by
  induction pre with
  | nil => intro x a b c d; rfl
  | cons t pre ih =>
    intro x a b c d
    simp only [List.cons_append, cvF, List.foldl_cons]
    rw [ih x c d (t * c + a) (t * d + b)]
    rfl

theorem St.bound {p q : Int} {i : Nat} {b r P1 Q1 P Q : Int} (h : St p q (i + 1) b r P1 Q1 P Q) (hq1 : 1 ≤ q) (hp0 : -1000000000 ≤ p) (hp1 : p ≤ 1000000000) : -1000000001 ≤ P ∧ P ≤ 1000000001 ∧ 1 ≤ Q ∧ Q ≤ q := by
  obtain ⟨e1, e2, e3, e4, e5⟩ := h
  rcases e5 with ⟨h0, _⟩ | ⟨_, h1, h2, h3, h4⟩
  · omega
  · have g1 : 1 * Q ≤ b * Q := Int.mul_le_mul_of_nonneg_right (by omega) (by omega)
    have g2 : 0 ≤ r * Q1 := Int.mul_nonneg e4 h3
    have g3 : b * 1 ≤ b * Q := Int.mul_le_mul_of_nonneg_left h2 (by omega)
    have hQ : Q ≤ q := by omega
    have hr : r ≤ q := by omega
    have off : P * q = p * Q + r * sg (i + 1) := by rw [← e3, e1, e2]; grind
    have k1 : p * Q ≤ 1000000000 * q := Int.le_trans (Int.mul_le_mul_of_nonneg_right hp1 (by omega)) (Int.mul_le_mul_of_nonneg_left hQ (by omega))
    have k2 : -(1000000000 * q) ≤ p * Q := by
      have a1 : -1000000000 * Q ≤ p * Q := Int.mul_le_mul_of_nonneg_right hp0 (by omega)
      omega
    have k3 : P * q ≤ 1000000001 * q := by
      rcases sg_or (i + 1) with e | e <;> rw [e] at off <;> omega
    have k4 : -1000000001 * q ≤ P * q := by
      rcases sg_or (i + 1) with e | e <;> rw [e] at off <;> omega
    exact ⟨Int.le_of_mul_le_mul_right k4 (by omega), Int.le_of_mul_le_mul_right k3 (by omega), h2, hQ⟩

def Mb (n : Int) : Prop := -1000000001 ≤ n ∧ n ≤ 1000000001
theorem pre_st {p q x : Int} (hq1 : 1 ≤ q) (hq2 : q ≤ 1000000) (hp0 : -1000000000 ≤ p) (hp1 : p ≤ 1000000000) (pre : List Int) : ∀ (n : Nat) (a b P0 Q0 P1 Q1 : Int), St p q n a b P0 Q0 P1 Q1 → Mb P0 → Mb Q0 → Mb P1 → Mb Q1 → pre ++ [x] <+: tl a b →
    Mb (pre.foldl stepC (P0, Q0, P1, Q1)).1 ∧ Mb (pre.foldl stepC (P0, Q0, P1, Q1)).2.1 ∧ Mb (pre.foldl stepC (P0, Q0, P1, Q1)).2.2.1 ∧ Mb (pre.foldl stepC (P0, Q0, P1, Q1)).2.2.2 ∧
    Mb (x * (pre.foldl stepC (P0, Q0, P1, Q1)).2.2.1 + (pre.foldl stepC (P0, Q0, P1, Q1)).1) ∧ Mb (x * (pre.foldl stepC (P0, Q0, P1, Q1)).2.2.2 + (pre.foldl stepC (P0, Q0, P1, Q1)).2.1) := by
  induction pre with
  | nil =>
    intro n a b P0 Q0 P1 Q1 h m0 m1 m2 m3 hp
    have hb : 0 < b := by
      rcases Int.lt_or_le 0 b with hh | hh
      · exact hh
      · rw [tl_zero hh] at hp; simp at hp
    rw [tl_pos hb, List.nil_append, List.cons_prefix_cons] at hp
    obtain ⟨rfl, _⟩ := hp
    have := (h.next hb).bound hq1 hp0 hp1
    simp only [List.foldl_nil]
    exact ⟨m0, m1, m2, m3, ⟨this.1, this.2.1⟩, ⟨by have := this.2.2; show -1000000001 ≤ a / b * Q1 + Q0; omega, by have := this.2.2; show a / b * Q1 + Q0 ≤ 1000000001; omega⟩⟩
  | cons t pre ih =>
    intro n a b P0 Q0 P1 Q1 h m0 m1 m2 m3 hp
    have hb : 0 < b := by
      rcases Int.lt_or_le 0 b with hh | hh
      · exact hh
      · rw [tl_zero hh] at hp; simp at hp
    rw [tl_pos hb, List.cons_append, List.cons_prefix_cons] at hp
    obtain ⟨rfl, hp⟩ := hp
    have hn := h.next hb
    have := hn.bound hq1 hp0 hp1
    have hm : Mb (a / b * Q1 + Q0) := ⟨by omega, by omega⟩
    exact ih (n + 1) b (a % b) P1 Q1 _ _ hn m2 m3 ⟨this.1, this.2.1⟩ hm hp
theorem stC_mb {p q x : Int} (hq1 : 1 ≤ q) (hq2 : q ≤ 1000000) (hp0 : -1000000000 ≤ p) (hp1 : p ≤ 1000000000) {pre : List Int} {a b c d : Int} (hs : stC pre = (a, b, c, d)) (h : pre ++ [x] <+: tl p q) :
    Mb a ∧ Mb b ∧ Mb c ∧ Mb d ∧ Mb (x * c + a) ∧ Mb (x * d + b) := by
  have := pre_st hq1 hq2 hp0 hp1 pre 0 p q 0 1 1 0 (St.start hq1) ⟨by omega, by omega⟩ ⟨by omega, by omega⟩ ⟨by omega, by omega⟩ ⟨by omega, by omega⟩ h
  unfold stC at hs
  rw [hs] at this
  exact this
theorem stC_snoc {pre : List Int} {x a b c d : Int} (hs : stC pre = (a, b, c, d)) : stC (pre ++ [x]) = (c, d, x * c + a, x * d + b) := by
  unfold stC at *
  rw [List.foldl_append, hs]
  rfl
theorem cvC_snoc {pre : List Int} {x a b c d : Int} (hs : stC pre = (a, b, c, d)) : cvF (pre ++ [x]) 0 1 1 0 = cvF pre 0 1 1 0 ++ [(x * c + a, x * d + b)] := by
  have h := cvF_snoc pre x 0 1 1 0
  unfold stC at hs
  rw [hs] at h
  exact h
/-- What is known of the numbers behind some terms: all, if they are first terms of p/q. -/
def CvIs (p q : Int) (pre : List Int) (a b c d : Int) (L : List (Int × Int)) : Prop := pre <+: tl p q → stC pre = (a, b, c, d) ∧ L = cvF pre 0 1 1 0
theorem CvIs.start (p q : Int) : CvIs p q [] 0 1 1 0 [] := fun _ => ⟨rfl, rfl⟩
theorem CvIs.next {p q x : Int} (hq1 : 1 ≤ q) (hq2 : q ≤ 1000000) (hp0 : -1000000000 ≤ p) (hp1 : p ≤ 1000000000) {pre : List Int} {a b c d P Q : Int} {L : List (Int × Int)} (h : CvIs p q pre a b c d L)
    (hP : Mb a → Mb c → Mb (x * c + a) → P = x * c + a) (hQ : Mb b → Mb d → Mb (x * d + b) → Q = x * d + b) : CvIs p q (pre ++ [x]) c d P Q (L ++ [(P, Q)]) := by
  intro hpre
  obtain ⟨h1, h2⟩ := h ((List.prefix_append pre [x]).trans hpre)
  obtain ⟨m1, m2, m3, m4, m5, m6⟩ := stC_mb hq1 hq2 hp0 hp1 h1 hpre
  rw [hP m1 m3 m5, hQ m2 m4 m6]
  exact ⟨stC_snoc h1, by rw [cvC_snoc h1, h2]⟩

/-- The cells of a row of pairs. -/
def flat (L : List (Int × Int)) : List Go.Value := L.flatMap fun x => [.int .i64 x.1, .int .i64 x.2]
theorem flat_snoc (L : List (Int × Int)) (x y : Int) : flat (L ++ [(x, y)]) = flat L ++ [.int .i64 x, .int .i64 y] := by simp [flat]
theorem flat_len (L : List (Int × Int)) : (flat L).length = L.length * 2 := by
  induction L with
  | nil => rfl
  | cons x L ih => simp only [flat, List.flatMap_cons, List.length_append, List.length_cons, List.length_nil] at ih ⊢; omega
theorem flat_at {L : List (Int × Int)} : ∀ {i : Nat} {P Q : Int}, L[i]? = some (P, Q) → (flat L)[i * 2]? = some (.int .i64 P) ∧ (flat L)[i * 2 + 1]? = some (.int .i64 Q) := by
  induction L with
  | nil => intro i P Q h; simp at h
  | cons x L ih =>
    intro i P Q h
    cases i with
    | zero => simp only [List.getElem?_cons_zero, Option.some.injEq] at h; subst h; exact ⟨rfl, rfl⟩
    | succ i =>
      have := ih (i := i) (by simpa using h)
      rw [show (i + 1) * 2 = i * 2 + 1 + 1 by omega]
      exact this
end Go.Proofs.YtgonaamjjhhiiaaDoor
