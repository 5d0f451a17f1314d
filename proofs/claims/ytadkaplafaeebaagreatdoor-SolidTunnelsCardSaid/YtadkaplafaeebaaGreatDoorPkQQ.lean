/-
  A row of solids as the library's sort knows rows: elements of eight cells.
-/
import Derived.Test.YtadkaplafaeebaaGreatDoorPkAQ
import Derived.Shelf.GgSortFunc.RowK
import Derived.Lib.SlicesCompact
import Derived.Lib.SliceRun
import Derived.Test.YtadkaplafaeebaaGreatDoorPkBQ
import Derived.Deep.LoopGhost
set_option linter.unusedVariables false
set_option linter.unusedSimpArgs false
namespace Go.Proofs.YtadkaplafaeebaaGreatDoor
open Go Go.RowKit Go.Sort Go.Lib

/-- Eight planes: a solid that can be compared. -/
abbrev S8 := Nat × Nat × Nat × Nat × Nat × Nat × Nat × Nat
instance decS8 : DecidableEq S8 := fun x y => decidable_of_iff (x.1 = y.1 ∧ x.2.1 = y.2.1 ∧ x.2.2.1 = y.2.2.1 ∧ x.2.2.2.1 = y.2.2.2.1 ∧ x.2.2.2.2.1 = y.2.2.2.2.1 ∧ x.2.2.2.2.2.1 = y.2.2.2.2.2.1 ∧ x.2.2.2.2.2.2.1 = y.2.2.2.2.2.2.1 ∧ x.2.2.2.2.2.2.2 = y.2.2.2.2.2.2.2) (by
  obtain ⟨a0, a1, a2, a3, a4, a5, a6, a7⟩ := x
  obtain ⟨b0, b1, b2, b3, b4, b5, b6, b7⟩ := y
  simp [Prod.ext_iff])
def ofS (x : S8) : Sol := fun i => match i with
  | 0 => x.1 | 1 => x.2.1 | 2 => x.2.2.1 | 3 => x.2.2.2.1 | 4 => x.2.2.2.2.1 | 5 => x.2.2.2.2.2.1 | 6 => x.2.2.2.2.2.2.1 | 7 => x.2.2.2.2.2.2.2 | _ => 0
def toS (f : Sol) : S8 := (f 0, f 1, f 2, f 3, f 4, f 5, f 6, f 7)
theorem ofS_toS (f : Sol) {k : Nat} (h : k < 8) : ofS (toS f) k = f k := by
  rcases lt8 h with rfl | rfl | rfl | rfl | rfl | rfl | rfl | rfl <;> rfl
def encS (x : S8) : List Value := [.int .u64 (ofS x 0 : Nat), .int .u64 (ofS x 1 : Nat), .int .u64 (ofS x 2 : Nat), .int .u64 (ofS x 3 : Nat), .int .u64 (ofS x 4 : Nat), .int .u64 (ofS x 5 : Nat), .int .u64 (ofS x 6 : Nat), .int .u64 (ofS x 7 : Nat)]
theorem encS_len (x : S8) : (encS x).length = 8 := rfl
theorem encS_one (x : S8) : ∀ v ∈ encS x, v.oneCell' = true := by
  intro v hv
  simp only [encS, List.mem_cons, List.not_mem_nil, or_false] at hv
  rcases hv with rfl | rfl | rfl | rfl | rfl | rfl | rfl | rfl <;> rfl
theorem encS_get (x : S8) {j : Nat} (h : j < 8) : (encS x)[j]! = .int .u64 (ofS x j : Nat) := by
  rcases lt8 h with rfl | rfl | rfl | rfl | rfl | rfl | rfl | rfl <;> rfl
theorem eqS_ofS (x y : S8) : eqS (ofS x) (ofS y) = decide (x = y) := by
  obtain ⟨a0, a1, a2, a3, a4, a5, a6, a7⟩ := x
  obtain ⟨b0, b1, b2, b3, b4, b5, b6, b7⟩ := y
  unfold eqS
  refine decide_eq_decide.2 ?_
  simp [ofS, Prod.ext_iff]
theorem holdsS {w : World} {blk off : Nat} {d : Array S8} (h : HoldsK encS 8 w blk off d) {k j : Nat} (hk : k < d.size) (hj : j < 8) :
    w.cell? ⟨blk, off + (k * 8 + j), none⟩ = some (.int .u64 (ofS d[k]! j : Nat)) ∧ w.frozen? ⟨blk, off + (k * 8 + j), none⟩ = false := by
  have ht : k * 8 + j < (flatK encS 8 d).size := by rw [size_flatK]; omega
  have h1 := h (k * 8 + j) ht
  rw [get_flatK _ _ _ _ (by omega), show (k * 8 + j) / 8 = k by omega, show (k * 8 + j) % 8 = j by omega, encS_get _ hj] at h1
  exact h1
theorem setMany_set (d : Array S8) (i : Nat) (x : S8) (hi : i < d.size) : setMany (flatK encS 8 d) (i * 8) (encS x) = flatK encS 8 (d.setIfInBounds i x) := by
  refine ext_get! (by simp) fun t ht => ?_
  have ht' : t < d.size * 8 := by simpa using ht
  rw [get_setMany _ _ _ t (by simpa using ht'), get_flatK _ _ _ t ht', get_flatK _ _ _ t (by simpa using ht'), encS_len]
  by_cases b : t / 8 = i
  · rw [if_pos (by omega), b, getElem!_set_same d i x hi, show t - i * 8 = t % 8 by omega]
  · rw [if_neg (by omega), getElem!_set_other d i _ x b]
theorem setMany_app : ∀ (a b : List Value) (F : Array Value) (s : Nat), setMany F s (a ++ b) = setMany (setMany F s a) (s + a.length) b
  | [], _, _, _ => by simp [setMany]
  | v :: a, b, F, s => by
    rw [List.cons_append, setMany, setMany_app a b, setMany, List.length_cons, show s + 1 + a.length = s + (a.length + 1) by omega]
theorem setMany_lay : ∀ (xs : List S8) (d : Array S8) (k : Nat), k + xs.length ≤ d.size → setMany (flatK encS 8 d) (k * 8) (xs.flatMap encS) = flatK encS 8 (lay d k xs)
  | [], _, _, _ => rfl
  | x :: r, d, k, h => by
    have hl : k + (r.length + 1) ≤ d.size := by simpa using h
    rw [List.flatMap_cons, setMany_app, setMany_set d k x (by omega), encS_len, show k * 8 + 8 = (k + 1) * 8 by omega, setMany_lay r _ (k + 1) (by simp; omega), lay]
theorem zero_cells (n : Nat) : (List.replicate n (default : S8)).flatMap encS = List.replicate (n * 8) (.int .u64 0) := by
  induction n with
  | zero => rfl
  | succ n ih => rw [List.replicate_succ, List.flatMap_cons, ih, show (n + 1) * 8 = 8 + n * 8 by omega, ← List.replicate_append_replicate]; rfl
theorem store_world (w : World) (q blk : Nat) (dk : Array S8) (i : Nat) (hi : i < dk.size) (x : S8) :
    (putRowK encS 8 (Sort.ahead w q) blk 0 dk).setCells blk (i * 8) (encS x) = putRowK encS 8 (Sort.ahead w q) blk 0 (dk.setIfInBounds i x) := by
  have h := setCells_putRow (Sort.ahead w q) blk 0 (encS x) (i * 8) (flatK encS 8 dk) (by rw [encS_len, size_flatK]; omega)
  rw [Nat.zero_add] at h
  unfold putRowK
  rw [h, setMany_set dk i x hi]
theorem clear_world (w : World) (q blk : Nat) (dk : Array S8) (k n : Nat) (hk : k + n ≤ dk.size) :
    (putRowK encS 8 (Sort.ahead w q) blk 0 dk).setCells blk (k * 8) (List.replicate (n * 8) (.int .u64 0)) = putRowK encS 8 (Sort.ahead w q) blk 0 (lay dk k (List.replicate n default)) := by
  have h := setCells_putRow (Sort.ahead w q) blk 0 (List.replicate (n * 8) (.int .u64 0)) (k * 8) (flatK encS 8 dk) (by rw [List.length_replicate, size_flatK]; omega)
  rw [Nat.zero_add] at h
  unfold putRowK
  rw [h, ← zero_cells, setMany_lay _ dk k (by simpa using hk)]
theorem under_sols8 : Tryz.prog.underlying 58 = some (.slice 24) := by kernel_rfl
theorem zero_sol (w : World) : (zeroValue 24).run Tryz.prog w = .ok (.agg #[.int .u64 0, .int .u64 0, .int .u64 0, .int .u64 0, .int .u64 0, .int .u64 0, .int .u64 0, .int .u64 0]) w := by kernel_rfl
theorem clear_sols (w : World) (ty : TypeId) (b k n c : Nat) (hn : 0 < n)
    (hc : ∀ j, j < n * 8 → (w.cell? ⟨b, k * 8 + j, none⟩).isSome = true) (hf : ∀ j, j < n * 8 → w.frozen? ⟨b, k * 8 + j, none⟩ = false) :
    (Builtin.clear_ #[58] ty #[.slice (some ⟨b, k * 8, none⟩) n c]).run Tryz.prog w = .ok (.tuple #[]) (w.setCells b (k * 8) (List.replicate (n * 8) (.int .u64 0))) := by
  have hzc : (Builtin.zeroCells (Value.agg #[.int .u64 0, .int .u64 0, .int .u64 0, .int .u64 0, .int .u64 0, .int .u64 0, .int .u64 0, .int .u64 0]).cells n).toList = List.replicate (n * 8) (.int .u64 0) := by
    have h8 : ∀ i : Nat, i < 8 → (#[Value.int .u64 0, .int .u64 0, .int .u64 0, .int .u64 0, .int .u64 0, .int .u64 0, .int .u64 0, .int .u64 0] : Array Value)[i]? = some (.int .u64 0) := by
      intro i hi
      rcases lt8 hi with rfl | rfl | rfl | rfl | rfl | rfl | rfl | rfl <;> rfl
    show (Builtin.zeroCells #[.int .u64 0, .int .u64 0, .int .u64 0, .int .u64 0, .int .u64 0, .int .u64 0, .int .u64 0, .int .u64 0] n).toList = _
    apply List.ext_getElem?
    intro i
    simp [Builtin.zeroCells]
    by_cases hi : i < n * 8
    · rw [List.getElem?_range hi, List.getElem?_replicate, if_pos hi]
      have h := h8 (i % 8) (by omega)
      simp only [List.getElem?_toArray] at h
      simp only [Option.map_some, h, Option.getD_some]
    · rw [List.getElem?_eq_none (by simpa using hi), List.getElem?_replicate, if_neg hi]
      rfl
  have hst := run_storeCells_cells (P := Tryz.prog) b (k * 8) (List.replicate (n * 8) (.int .u64 0)) 0 w (by simpa using hc) (by simpa using hf) (by intro v hv'; rw [List.eq_of_mem_replicate hv']; rfl)
  simp only [Nat.add_zero] at hst
  obtain ⟨m, rfl⟩ : ∃ m, n = m + 1 := ⟨n - 1, by omega⟩
  simp [Builtin.clear_, run_underlying under_sols8, zero_sol, hzc, hst]
end Go.Proofs.YtadkaplafaeebaaGreatDoor
/-
  slices.Compact over solids.
-/
set_option linter.unusedVariables false
set_option linter.unusedSimpArgs false
namespace Go.Proofs.YtadkaplafaeebaaGreatDoor
open Go Go.RowKit Go.Sort Go.Lib

/-- The eight cells of an element, as a walk reads them. -/
theorem cellsS {w : World} {g : Nat} {d : Array S8} (h : HoldsK encS 8 w g 0 d) {k : Nat} (hk : k < d.size) {f : Sol} (hf : f = ofS d[k]!) :
    w.cell? ⟨g, k * 8, none⟩ = some (.int .u64 (f 0)) ∧ w.cell? ⟨g, k * 8 + 1, none⟩ = some (.int .u64 (f 1)) ∧ w.cell? ⟨g, k * 8 + 2, none⟩ = some (.int .u64 (f 2)) ∧ w.cell? ⟨g, k * 8 + 3, none⟩ = some (.int .u64 (f 3)) ∧
    w.cell? ⟨g, k * 8 + 4, none⟩ = some (.int .u64 (f 4)) ∧ w.cell? ⟨g, k * 8 + 5, none⟩ = some (.int .u64 (f 5)) ∧ w.cell? ⟨g, k * 8 + 6, none⟩ = some (.int .u64 (f 6)) ∧ w.cell? ⟨g, k * 8 + 7, none⟩ = some (.int .u64 (f 7)) := by
  subst hf
  have q := fun j (hj : j < 8) => (holdsS h hk hj).1
  simp only [Nat.zero_add] at q
  exact ⟨q 0 (by omega), q 1 (by omega), q 2 (by omega), q 3 (by omega), q 4 (by omega), q 5 (by omega), q 6 (by omega), q 7 (by omega)⟩
theorem freesS {w : World} {g : Nat} {d : Array S8} (h : HoldsK encS 8 w g 0 d) {k : Nat} (hk : k < d.size) :
    w.frozen? ⟨g, k * 8, none⟩ = false ∧ w.frozen? ⟨g, k * 8 + 1, none⟩ = false ∧ w.frozen? ⟨g, k * 8 + 2, none⟩ = false ∧ w.frozen? ⟨g, k * 8 + 3, none⟩ = false ∧
    w.frozen? ⟨g, k * 8 + 4, none⟩ = false ∧ w.frozen? ⟨g, k * 8 + 5, none⟩ = false ∧ w.frozen? ⟨g, k * 8 + 6, none⟩ = false ∧ w.frozen? ⟨g, k * 8 + 7, none⟩ = false := by
  have q := fun j (hj : j < 8) => (holdsS h hk hj).2
  simp only [Nat.zero_add] at q
  exact ⟨q 0 (by omega), q 1 (by omega), q 2 (by omega), q 3 (by omega), q 4 (by omega), q 5 (by omega), q 6 (by omega), q 7 (by omega)⟩
def outRow (d : Array S8) : Array S8 := (compactUpTo d d.size ++ List.replicate (d.size - (compactUpTo d d.size).length) default).toArray
set_option maxRecDepth 100000 in
set_option maxHeartbeats 4000000 in
theorem compact_ok (g cap : Nat) (d : Array S8) (w : World) (hH : HoldsK encS 8 w g 0 d) (hsz : d.size ≤ 1000000) (hcap : d.size ≤ cap) :
    Calls Tryz.prog 149 #[.slice (some ⟨g, 0, none⟩) d.size cap] w fun e w' => e = .returned (.slice (some ⟨g, 0, none⟩) (compactUpTo d d.size).length cap) ∧ ∃ q, w' = putRowK encS 8 (Sort.ahead w q) g 0 (outRow d) := by
  have same : ∀ q, (∀ j, j < d.size → keeps d j = true) → (compactUpTo d d.size).length = d.size ∧ w.drewN q = putRowK encS 8 (Sort.ahead w q) g 0 (outRow d) := by
    intro q hall
    unfold outRow
    have e : compactUpTo d d.size = d.toList := by rw [compactUpTo_all d _ hall, range_map_get]
    rw [e]
    refine ⟨by simp, ?_⟩
    simp only [Array.length_toList, Nat.sub_self, List.replicate_zero, List.append_nil, Array.toArray_toList]
    exact (putRowK_self encS 8 (Sort.ahead w q) g 0 d (holdsK_ahead encS 8 w q g 0 d hH)).symm
  have HS := Lib.hid same
  clear same
  have HH := Lib.hid hH
  by_cases h2 : d.size < 2
  · clear hH
    go_enter Tryz.func149, Tryz.ntmps149
    go_wp2
    go_ret
    obtain ⟨e1, e2⟩ := HS.out 0 (fun j hj => keeps_lt_one d j (by omega))
    exact ⟨by rw [e1]; rfl, 0, e2⟩
  · clear hH
    go_enter Tryz.func149, Tryz.ntmps149
    go_wp2
    go_loopg [3] d.size (fun i s3 wr => ∃ k q : Nat, 1 ≤ k ∧ k ≤ d.size ∧ d.size - k ≤ i ∧ s3 = .int .i64 k ∧ wr = w.drewN q ∧ Hid (∀ j, j < k → keeps d j = true))
    case atStart => exact ⟨1, 0, Nat.le_refl _, by omega, by omega, rfl, rfl, Lib.hid (keeps_lt_one d)⟩
    case round =>
      obtain ⟨k, q, hk1, hk, hg, rfl, rfl, hall⟩ := hrel
      by_cases hlt : k < d.size
      · obtain ⟨f, hf⟩ : ∃ f, f = ofS d[k]! := ⟨_, rfl⟩
        obtain ⟨h, hh⟩ : ∃ h, h = ofS d[k - 1]! := ⟨_, rfl⟩
        obtain ⟨c0, c1, c2, c3, c4, c5, c6, c7⟩ := cellsS HH.out hlt hf
        obtain ⟨e0, e1, e2, e3, e4, e5, e6, e7⟩ := cellsS HH.out (k := k - 1) (by omega) hh
        have HQ : eqS f h = decide (d[k]! = d[k - 1]!) := by rw [hf, hh, eqS_ofS]
        clear hf hh
        by_cases hdup : d[k]! = d[k - 1]!
        · have hq : eqS f h = true := by rw [HQ]; exact decide_eq_true hdup
          have HD := Lib.hid hdup
          clear hdup HQ
          go_wp2_with fail
          have wk : IntKind.i64.wrap ((k : Int) - 1) = (k : Int) - 1 := IntWalk.i64_in _ (by omega)
          go_quiet (fail)
          clear c0 c1 c2 c3 c4 c5 c6 c7 e0 e1 e2 e3 e4 e5 e6 e7 wk hq
          go_wp2
          try rw [World.drewN_drewN]
          go_loopg [3, 5] d.size (fun i s3 s5 wr => ∃ (kk k2 q2 : Nat) (dk : Array S8), s3 = .int .i64 kk ∧ s5 = .int .i64 k2 ∧ 1 ≤ k2 ∧ k + k2 ≤ d.size ∧ d.size - (k + k2) ≤ i ∧ Hid (wr = putRowK encS 8 (Sort.ahead w q2) g 0 dk) ∧ Hid (CompInv d (k + k2) kk dk))
          case atStart => exact ⟨k, 1, q + nq, d, rfl, rfl, Nat.le_refl _, by omega, by omega, Lib.hid (putRowK_self encS 8 (Sort.ahead w (q + nq)) g 0 d (holdsK_ahead encS 8 w (q + nq) g 0 d HH.out)).symm, Lib.hid (CompInv.start hall.out (keeps_neg (by omega) HD.out))⟩
          case round =>
            obtain ⟨kk, k2, q2, dk, rfl, rfl, h1, hle, hg2, hwr, hI⟩ := hrel
            have hkk := hI.out.lt
            have hds := hI.out.size
            have hHk : Hid (HoldsK encS 8 wr g 0 dk) := Lib.hid (by rw [hwr.out]; exact holdsK_putRowK encS 8 _ g 0 d dk (holdsK_ahead encS 8 w q2 g 0 d HH.out) hds)
            by_cases hlt2 : k + k2 < d.size
            · obtain ⟨u, hu⟩ : ∃ u, u = ofS dk[k + k2]! := ⟨_, rfl⟩
              obtain ⟨v, hv⟩ : ∃ v, v = ofS dk[k + k2 - 1]! := ⟨_, rfl⟩
              obtain ⟨o, ho⟩ : ∃ o, o = ofS dk[kk]! := ⟨_, rfl⟩
              have eu : dk[k + k2]! = d[k + k2]! := hI.out.high _ (by omega)
              have ev : dk[k + k2 - 1]! = d[k + k2 - 1]! := hI.out.high _ (by omega)
              obtain ⟨c0, c1, c2, c3, c4, c5, c6, c7⟩ := cellsS hHk.out (by omega) hu
              obtain ⟨e0, e1, e2, e3, e4, e5, e6, e7⟩ := cellsS hHk.out (k := k + k2 - 1) (by omega) hv
              obtain ⟨o0, o1, o2, o3, o4, o5, o6, o7⟩ := cellsS hHk.out (by omega) ho
              obtain ⟨z0, z1, z2, z3, z4, z5, z6, z7⟩ := freesS hHk.out (k := kk) (by omega)
              rw [show (k + k2) * 8 = k * 8 + k2 * 8 by omega] at c0 c1 c2 c3 c4 c5 c6 c7
              rw [show (k + k2 - 1) * 8 = k * 8 + (k2 - 1) * 8 by omega] at e0 e1 e2 e3 e4 e5 e6 e7
              have HQ : eqS u v = decide (d[k + k2]! = d[k + k2 - 1]!) := by rw [hu, hv, eqS_ofS, eu, ev]
              have wk : IntKind.i64.wrap ((k2 : Int) - 1) = (k2 : Int) - 1 := IntWalk.i64_in _ (by omega)
              have HU := Lib.hid (show encS d[k + k2]! = [.int .u64 (u 0 : Nat), .int .u64 (u 1 : Nat), .int .u64 (u 2 : Nat), .int .u64 (u 3 : Nat), .int .u64 (u 4 : Nat), .int .u64 (u 5 : Nat), .int .u64 (u 6 : Nat), .int .u64 (u 7 : Nat)] by rw [hu, eu]; rfl)
              clear hu hv ho eu ev
              by_cases huv : d[k + k2]! = d[k + k2 - 1]!
              · have hq : eqS u v = true := by rw [HQ]; exact decide_eq_true huv
                have HV := Lib.hid huv
                clear huv HQ
                go_wp2_with fail
                go_quiet (fail)
                go_wp2
                go_roundg (d.size - (k + (k2 + 1)))
                case measure => omega
                case rel => exact ⟨kk, k2 + 1, q2 + nq, dk, rfl, by go_num, by omega, by omega, Nat.le_refl _, Lib.hid (by rw [hwr.out, putRowK_drewN]), Lib.hid (hI.out.skip (keeps_neg (by omega) HV.out))⟩
              · have hq : eqS u v = false := by rw [HQ]; exact decide_eq_false huv
                have HV := Lib.hid huv
                clear huv HQ
                go_wp2_with fail
                go_quiet (fail)
                go_wp2
                go_roundg (d.size - (k + (k2 + 1)))
                case measure => omega
                case rel => exact ⟨kk + 1, k2 + 1, q2 + nq, dk.setIfInBounds kk d[k + k2]!, by go_num, by go_num, by omega, by omega, Nat.le_refl _, Lib.hid (by rw [← store_world w (q2 + nq) g dk kk (by omega), ← putRowK_drewN, ← hwr.out, HU.out]; rfl), Lib.hid (hI.out.keep hlt2 (keeps_pos HV.out))⟩
            · have hend : k + k2 = d.size := by omega
              have hcl : ∀ ty, (Builtin.clear_ #[58] ty #[.slice (some ⟨g, kk * 8, none⟩) (d.size - kk) (cap - kk)]).run Tryz.prog wr = .ok (.tuple #[]) (wr.setCells g (kk * 8) (List.replicate ((d.size - kk) * 8) (.int .u64 0))) :=
                fun ty => clear_sols wr ty g kk _ _ (by omega)
                  (fun j hj => by
                    have h := hHk.out (kk * 8 + j) (by rw [size_flatK]; omega)
                    rw [Nat.zero_add] at h
                    rw [h.1]; rfl)
                  (fun j hj => by
                    have h := hHk.out (kk * 8 + j) (by rw [size_flatK]; omega)
                    rw [Nat.zero_add] at h
                    exact h.2)
              go_wp2
              go_ret
              have hI := hI.out
              rw [hend] at hI
              refine ⟨by rw [hI.len]; rfl, q2, ?_⟩
              unfold outRow
              rw [hI.len, ← hI.done default, ← clear_world w q2 g dk kk (d.size - kk) (by omega), ← hwr.out]
        · have hq : eqS f h = false := by rw [HQ]; exact decide_eq_false hdup
          have HD := Lib.hid hdup
          clear hdup HQ
          have wk : IntKind.i64.wrap ((k : Int) - 1) = (k : Int) - 1 := IntWalk.i64_in _ (by omega)
          go_wp2_with fail
          go_quiet (fail)
          go_wp2
          go_roundg (d.size - (k + 1))
          case measure => omega
          case rel =>
            refine ⟨k + 1, q + nq, by omega, by omega, Nat.le_refl _, by go_num, by first | rfl | rw [World.drewN_drewN], Lib.hid fun j hj => ?_⟩
            by_cases e : j = k
            · subst e
              exact keeps_pos HD.out
            · exact hall.out j (by omega)
      · have : k = d.size := by omega
        subst this
        go_wp2
        go_ret
        obtain ⟨e1, e2⟩ := HS.out q hall.out
        exact ⟨by rw [e1]; rfl, q, e2⟩
end Go.Proofs.YtadkaplafaeebaaGreatDoor
