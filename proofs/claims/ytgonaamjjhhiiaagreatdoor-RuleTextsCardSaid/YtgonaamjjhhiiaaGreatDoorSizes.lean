/-
  The walk of Sizes.
-/
import Derived.Test.YtgonaamjjhhiiaaGreatDoorClos
set_option linter.unusedVariables false
set_option linter.unusedSimpArgs false
namespace Go.Proofs.YtgonaamjjhhiiaaGreatDoor
open Go Go.RowKit

theorem results_tmp4 {fn : Func} {t u v x : Tmp} (h : fn.results = #[.tmp t, .tmp u, .tmp v, .tmp x]) (tmps : Array Value) (P : Program) (w : World) :
    (results fn tmps).run P w = .ok (.tuple #[tmps.getD t undef, tmps.getD u undef, tmps.getD v undef, tmps.getD x undef]) w := by simp [results, h]

/-- All castings of a size measure from lo to hi. -/
def Serves (ln ld mn md lo hi n : Int) : Prop := lo * md ≤ n * (md - mn) ∧ n * (ld - ln) ≤ hi * ld
/-- L to M are the sizes that serve, if ok is true; else none serves. -/
def SizesIs (ln ld mn md lo hi L M : Int) (ok : Bool) : Prop :=
  (ok = true ∧ 1 ≤ L ∧ L ≤ M ∧ M ≤ 1000000 ∧ ∀ n, 1 ≤ n → n ≤ 1000000 → (Serves ln ld mn md lo hi n ↔ L ≤ n ∧ n ≤ M)) ∨ (ok = false ∧ L = 0 ∧ M = 0 ∧ ∀ n, 1 ≤ n → n ≤ 1000000 → ¬ Serves ln ld mn md lo hi n)
def SizesPost (ln ld mn md lo hi : Int) (w : World) (e : Ending) (w' : World) : Prop := ∃ L M ok, e = .returned (.tuple #[.int .i64 L, .int .i64 M, .bool ok, .int .i64 0]) ∧ SizesIs ln ld mn md lo hi L M ok ∧ Below w.heap.size w w'

def pLo (mn md lo n : Int) : Bool := !(decide (n * (md - mn) - lo * md < 0))
def pHi (ln ld hi n : Int) : Bool := decide (hi * ld < n * (ld - ln))
theorem pLo_iff {mn md lo n : Int} : pLo mn md lo n = true ↔ lo * md ≤ n * (md - mn) := by
  unfold pLo; rw [Bool.not_eq_true', decide_eq_false_iff_not]; omega
theorem pHi_iff {ln ld hi n : Int} : pHi ln ld hi n = true ↔ hi * ld < n * (ld - ln) := by unfold pHi; exact decide_eq_true_iff
theorem pLo_mono {mn md lo : Int} (h : mn ≤ md) (n m : Int) (hnm : n ≤ m) (hp : pLo mn md lo n = true) : pLo mn md lo m = true := by
  rw [pLo_iff] at hp ⊢
  have : n * (md - mn) ≤ m * (md - mn) := Int.mul_le_mul_of_nonneg_right hnm (by omega)
  omega
theorem pHi_mono {ln ld hi : Int} (h : ln ≤ ld) (n m : Int) (hnm : n ≤ m) (hp : pHi ln ld hi n = true) : pHi ln ld hi m = true := by
  rw [pHi_iff] at hp ⊢
  have : n * (ld - ln) ≤ m * (ld - ln) := Int.mul_le_mul_of_nonneg_right hnm (by omega)
  omega

theorem sizes_math {ln ld mn md lo hi L R : Int} (hl : ln ≤ ld) (hm : mn ≤ md) (a1 : 1 ≤ L) (a2 : L ≤ 1000001) (a3 : ∀ n, 1 ≤ n → n < L → pLo mn md lo n = false) (a4 : L < 1000001 → pLo mn md lo L = true)
    (b1 : 1 ≤ R) (b2 : R ≤ 1000001) (b3 : ∀ n, 1 ≤ n → n < R → pHi ln ld hi n = false) (b4 : R < 1000001 → pHi ln ld hi R = true) (n : Int) (n1 : 1 ≤ n) (n2 : n ≤ 1000000) : Serves ln ld mn md lo hi n ↔ L ≤ n ∧ n ≤ R - 1 := by
  unfold Serves
  rw [← pLo_iff]
  have e : n * (ld - ln) ≤ hi * ld ↔ pHi ln ld hi n = false := by
    rw [← Bool.not_eq_true, pHi_iff]; omega
  rw [e]
  constructor
  · rintro ⟨h1, h2⟩
    refine ⟨?_, ?_⟩
    · rcases Int.lt_or_le n L with h | h
      · rw [a3 n n1 h] at h1; exact absurd h1 (by decide)
      · exact h
    · rcases Int.lt_or_le n R with h | h
      · omega
      · have := pHi_mono hl R n h (b4 (by omega))
        rw [h2] at this; exact absurd this (by decide)
  · rintro ⟨h1, h2⟩
    exact ⟨pLo_mono hm L n h1 (a4 (by omega)), b3 n n1 (by omega)⟩

theorem RuleB.of_ok {ln ld mn md : Int} (hk : okR ln ld mn md = true) : RuleB ln ld mn md := by
  unfold okR at hk
  rw [Bool.and_eq_true, Bool.and_eq_true] at hk
  obtain ⟨⟨ha, hb⟩, hr⟩ := hk
  obtain ⟨a1, a2, a3, a4, _⟩ := okQ_iff.1 ha
  obtain ⟨b1, b2, b3, b4, _⟩ := okQ_iff.1 hb
  obtain ⟨r1, r2, r3, r4, r5⟩ := ruB_iff.1 hr
  have k1 : mn ≤ md := by omega
  have k2 : ln ≤ ld := by
    rcases Int.lt_or_le ld ln with h | h
    · have h1 : ld * md ≤ ln * md := Int.mul_le_mul_of_nonneg_right (by omega) (by omega)
      have h2 : (ld + 1) * md ≤ ln * md := Int.mul_le_mul_of_nonneg_right (by omega) (by omega)
      have h3 : mn * ld ≤ md * ld := Int.mul_le_mul_of_nonneg_right k1 (by omega)
      rw [Int.add_mul, Int.mul_comm ld md] at h2
      omega
    · exact h
  have k3 : 0 ≤ mn := by
    rcases Int.lt_or_le mn 0 with h | h
    · have : mn * ld < 0 := Int.mul_neg_of_neg_of_pos h (by omega)
      have : 0 ≤ ln * md := Int.mul_nonneg r3 (by omega)
      omega
    · exact h
  exact ⟨r3, k2, a1, r1, k3, k1, b1, r2⟩

set_option maxHeartbeats 4000000 in
theorem Sizes_ok (ln ld mn md lo hi : Int) (w : World) (hk : okR ln ld mn md = true) (hlo : szB lo = true) (hhi : szB hi = true) (hle : lo ≤ hi) :
    Calls Tryz.prog 15 #[.agg #[.int .i64 (ln), .int .i64 (ld), .int .i64 (mn), .int .i64 (md)], .int .i64 lo, .int .i64 hi] w (SizesPost ln ld mn md lo hi w) := by
  have hr := RuleB.of_ok hk
  obtain ⟨l1, l2⟩ := szB_iff.1 hlo
  obtain ⟨h1, h2⟩ := szB_iff.1 hhi
  have hmn : mn ≤ md := hr.2.2.2.2.2.1
  have hln : ln ≤ ld := hr.2.1
  have hmf : ∀ (fn : Fn) (first cap : Array Value) (w : World), (Instr.makeFunc fn first cap).run Tryz.prog w = .ok (.func fn first cap) w := fun _ _ _ _ => rfl
  have HK := hide1 hk
  have HLO := hide1 hlo
  have HHI := hide1 hhi
  have HR := hide1 hr
  clear hk hlo hhi hr
  go_enter Tryz.func15, Tryz.ntmps15
  go_wp2_with (go_at_call 38; refine (task2_ok ln ld mn md _ _ lo hi _ (by simp [go_sem]) (by simp [go_sem]) HK.out HLO.out HHI.out).mono ?_; rintro e w1 ⟨rfl, hb1⟩; obtain ⟨hc1, hf1⟩ := bcell hb1; have hB1 : Below w.heap.size w w1 := up hb1 (by go_grown); have hz1 := hb1.size; (try simp at hz1); (try have hz1_w_p1 : w.heap.size < w1.heap.size + 1 := (by omega)); (try have hz1_w_p2 : w.heap.size < w1.heap.size + 1 + 1 := (by omega)); (try have hz1_w_p3 : w.heap.size < w1.heap.size + 1 + 1 + 1 := (by omega)); (try have hz1_w_0 : w.heap.size < w1.heap.size := (by omega)); (try have hz1_w_1 : w.heap.size + 1 < w1.heap.size := (by omega)); (try have hz1_w_2 : w.heap.size + 1 + 1 < w1.heap.size := (by omega)); (try have hz1_w_3 : w.heap.size + 1 + 1 + 1 < w1.heap.size := (by omega)); (try have hz1_w_4 : w.heap.size + 1 + 1 + 1 + 1 < w1.heap.size := (by omega)); (try have hz1_w_5 : w.heap.size + 1 + 1 + 1 + 1 + 1 < w1.heap.size := (by omega)); (try have hz1_w_6 : w.heap.size + 1 + 1 + 1 + 1 + 1 + 1 < w1.heap.size := (by omega)))
  have T1 : TaskAt (w1.alloc (.cells #[.int .i64 (ln), .int .i64 (ld), .int .i64 (mn), .int .i64 (md), .int .i64 (lo), .int .i64 (hi)] 79)) w1.heap.size ln ld mn md lo hi := ⟨by simp, by simp, by simp, by simp, by simp, by simp⟩
  have S1 : Says (pLo mn md lo) 40 #[.pointer (some ⟨w1.heap.size, 0, none⟩)] 1 1000001 (w1.alloc (.cells #[.int .i64 (ln), .int .i64 (ld), .int .i64 (mn), .int .i64 (md), .int .i64 (lo), .int .i64 (hi)] 79)) :=
    fun n W hB n1 n2 => s1_any ln ld mn md lo hi n w1.heap.size W (T1.below hB (by simp)) HR.out (by omega) (by omega) (by omega) (by omega)
  have S2 : Says (pHi ln ld hi) 43 #[.pointer (some ⟨w1.heap.size, 0, none⟩)] 1 1000001 (w1.alloc (.cells #[.int .i64 (ln), .int .i64 (ld), .int .i64 (mn), .int .i64 (md), .int .i64 (lo), .int .i64 (hi)] 79)) :=
    fun n W hB n1 n2 => s2_any ln ld mn md lo hi n w1.heap.size W (T1.below hB (by simp)) HR.out (by omega) (by omega) (by omega) (by omega)
  have HS1 := hide1 S1
  have HS2 := hide1 S2
  clear S1 S2 T1
  refine (first_s1 (pLo mn md lo) (.pointer (some ⟨w1.heap.size, 0, none⟩)) 1 1000001 _ (by omega) (by omega) (by omega) HS1.out (fun n m _ h _ hp => pLo_mono hmn n m h hp)).mono ?_
  rintro e w2 ⟨L, rfl, a1, a2, a3, a4, hb2⟩
  have HA := hide1 (And.intro a3 a4)
  clear a3 a4
  have hB2 : Below w.heap.size w w2 := up hb2 (by go_grown)
  go_wp2_with fail
  refine (first_s2 (pHi ln ld hi) (.pointer (some ⟨w1.heap.size, 0, none⟩)) 1 1000001 _ (by omega) (by omega) (by omega) (fun n W hB n1 n2 => HS2.out n W (hb2.trans (hB.mono hb2.size)) n1 n2) (fun n m _ h _ hp => pHi_mono hln n m h hp)).mono ?_
  rintro e w3 ⟨R, rfl, d1, d2, d3, d4, hb3⟩
  have HD := hide1 (And.intro d3 d4)
  clear d3 d4
  have hB3 : Below w.heap.size w w3 := up hb3 hB2
  have hmath := fun n n1 n2 => sizes_math (lo := lo) (hi := hi) hln hmn a1 a2 HA.out.1 HA.out.2 d1 d2 HD.out.1 HD.out.2 n n1 n2
  have HMA := hide1 hmath
  clear hmath
  by_cases hLR : R - 1 < L
  · go_wp2
    refine bodyPost_ret (results_tmp4 Tryz.results15 _ _ _) rfl ⟨0, 0, false, rfl, .inr ⟨rfl, rfl, rfl, fun n n1 n2 h => ?_⟩, hB3⟩
    have := (HMA.out n n1 n2).1 h
    omega
  · have hLR' : L ≤ R - 1 := by omega
    clear hLR
    go_wp2
    exact bodyPost_ret (results_tmp4 Tryz.results15 _ _ _) rfl ⟨L, R - 1, true, rfl, .inl ⟨rfl, a1, hLR', by omega, HMA.out⟩, hB3⟩
end Go.Proofs.YtgonaamjjhhiiaaGreatDoor
