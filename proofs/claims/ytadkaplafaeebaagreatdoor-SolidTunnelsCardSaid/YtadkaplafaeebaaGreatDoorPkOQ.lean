/-
  The places of a solid inside another one, in order: the list that inside yields.
-/
import Derived.Test.YtadkaplafaeebaaGreatDoorPkIQ
import Derived.Test.YtadkaplafaeebaaGreatDoorPkCQ
import Derived.Test.YtadkaplafaeebaaGreatDoorPkDQ
set_option linter.unusedVariables false
set_option linter.unusedSimpArgs false
namespace Go.Proofs.YtadkaplafaeebaaGreatDoor
open Go Go.RowKit Go.Shelf

abbrev Pl := I3 × Sol
def insX (f g : Sol) (y z lo : Int) (n k : Nat) : List Pl := (List.range' k (n - k)).flatMap fun (i : Nat) => if inB (shiftF g (lo + (i : Int)) y z 8) f = true then [((lo + (i : Int), y, z), shiftF g (lo + (i : Int)) y z 8)] else []
def insY (f g : Sol) (z ly lx : Int) (ny nx k : Nat) : List Pl := (List.range' k (ny - k)).flatMap fun (j : Nat) => insX f g (ly + (j : Int)) z lx nx 0
def insZ (f g : Sol) (lz ly lx : Int) (nz ny nx k : Nat) : List Pl := (List.range' k (nz - k)).flatMap fun (i : Nat) => insY f g (lz + (i : Int)) ly lx ny nx 0
theorem insX_succ (f g : Sol) (y z lo : Int) {n k : Nat} (h : k < n) : insX f g y z lo n k = (if inB (shiftF g (lo + (k : Int)) y z 8) f = true then [((lo + (k : Int), y, z), shiftF g (lo + (k : Int)) y z 8)] else []) ++ insX f g y z lo n (k + 1) := by
  unfold insX
  rw [show n - k = (n - (k + 1)) + 1 by omega, List.range'_succ, List.flatMap_cons]
theorem insY_succ (f g : Sol) (z ly lx : Int) {ny k : Nat} (nx : Nat) (h : k < ny) : insY f g z ly lx ny nx k = insX f g (ly + (k : Int)) z lx nx 0 ++ insY f g z ly lx ny nx (k + 1) := by
  unfold insY
  rw [show ny - k = (ny - (k + 1)) + 1 by omega, List.range'_succ, List.flatMap_cons]
theorem insZ_succ (f g : Sol) (lz ly lx : Int) {nz k : Nat} (ny nx : Nat) (h : k < nz) : insZ f g lz ly lx nz ny nx k = insY f g (lz + (k : Int)) ly lx ny nx 0 ++ insZ f g lz ly lx nz ny nx (k + 1) := by
  unfold insZ
  rw [show nz - k = (nz - (k + 1)) + 1 by omega, List.range'_succ, List.flatMap_cons]
theorem insX_end (f g : Sol) (y z lo : Int) (n : Nat) : insX f g y z lo n n = [] := by simp [insX]
theorem insY_end (f g : Sol) (z ly lx : Int) (ny nx : Nat) : insY f g z ly lx ny nx ny = [] := by simp [insY]
theorem insZ_end (f g : Sol) (lz ly lx : Int) (nz ny nx : Nat) : insZ f g lz ly lx nz ny nx nz = [] := by simp [insZ]
/-- What a body leaves as it is: what lay below, and all cells from a block on. -/
def KeepA (n₀ n₁ : Nat) (W W' : World) : Prop := Below n₀ W W' ∧ ∀ (k : Nat) (o : Obj), n₁ ≤ k → W.heap[k]? = some o → o.isCells = true → W'.heap[k]? = some o
theorem keepA_t {n₀ n₁ : Nat} {A B C : World} (h : KeepA n₀ n₁ A B) (k : KeepA n₀ n₁ B C) : KeepA n₀ n₁ A C := ⟨h.1.trans k.1, fun i o hi ho hc => k.2 i o hi (h.2 i o hi ho hc) hc⟩
theorem keepA_b {n₀ n₁ : Nat} {w : World} (hn : n₀ ≤ w.heap.size) (W : World) (l : Nat) (o o' : Obj) (hl : w.heap.size ≤ l) (h : W.heap[l]? = some o) (h1 : o.isCells = false) (h2 : o.isWalk = false) : KeepA n₀ n₁ W (W.putObj l o') :=
  ⟨belowK_b hn W l o o' hl h h1 h2, fun k x _ hx hc => ((grownBy_putObj' W l o').block k (Array.getElem?_eq_some_iff.1 hx).1 (fun e => by cases e; rw [h] at hx; cases hx; rw [h1] at hc; cases hc)).trans hx⟩
theorem keepA_below {n₀ n₁ : Nat} {W W' : World} (h : Below W.heap.size W W') (hn : n₀ ≤ W.heap.size) : KeepA n₀ n₁ W W' := ⟨h.mono hn, fun k o _ hk _ => (h.block k (Array.getElem?_eq_some_iff.1 hk).1).trans hk⟩
/-- A block of six numbers. -/
abbrev Box6 (W : World) (b : Nat) (x y z a b' c : Int) : Prop := W.heap[b]? = some (.cells #[.int .i64 x, .int .i64 y, .int .i64 z, .int .i64 a, .int .i64 b', .int .i64 c] 40 (0, 0))
theorem Box6.cells {W : World} {b : Nat} {x y z a b' c : Int} (h : Box6 W b x y z a b' c) : W.cell? ⟨b, 0, none⟩ = some (.int .i64 x) ∧ W.cell? ⟨b, 1, none⟩ = some (.int .i64 y) ∧ W.cell? ⟨b, 2, none⟩ = some (.int .i64 z) ∧ W.cell? ⟨b, 3, none⟩ = some (.int .i64 a) ∧ W.cell? ⟨b, 4, none⟩ = some (.int .i64 b') ∧ W.cell? ⟨b, 5, none⟩ = some (.int .i64 c) := by
  refine ⟨?_, ?_, ?_, ?_, ?_, ?_⟩ <;> simp [World.cell?, h]
/-- What the iterator reads: both solids, and both boxes. -/
structure InsW (Ba Bb Rb Xb : Nat) (f g : Sol) (ax ay az bx by' bz cx cy cz dx dy dz : Int) (W : World) : Prop where
  a : BoxS W Ba f
  b : BoxS W Bb g
  r : Box6 W Rb ax ay az bx by' bz
  x : Box6 W Xb cx cy cz dx dy dz
theorem InsW.keep {Ba Bb Rb Xb : Nat} {f g : Sol} {ax ay az bx by' bz cx cy cz dx dy dz : Int} {W W' : World} {n₀ n₁ : Nat} (h : InsW Ba Bb Rb Xb f g ax ay az bx by' bz cx cy cz dx dy dz W) (hk : KeepA n₀ n₁ W W') (h1 : n₁ ≤ Ba) (h2 : n₁ ≤ Bb) (h3 : n₁ ≤ Rb) (h4 : n₁ ≤ Xb) :
    InsW Ba Bb Rb Xb f g ax ay az bx by' bz cx cy cz dx dy dz W' := ⟨hk.2 _ _ h1 h.a rfl, hk.2 _ _ h2 h.b rfl, hk.2 _ _ h3 h.r rfl, hk.2 _ _ h4 h.x rfl⟩
theorem InsW.below {Ba Bb Rb Xb : Nat} {f g : Sol} {ax ay az bx by' bz cx cy cz dx dy dz : Int} {W W' : World} (h : InsW Ba Bb Rb Xb f g ax ay az bx by' bz cx cy cz dx dy dz W) (hk : Below W.heap.size W W') :
    InsW Ba Bb Rb Xb f g ax ay az bx by' bz cx cy cz dx dy dz W' := h.keep (keepA_below (n₀ := 0) (n₁ := 0) hk (Nat.zero_le _)) (Nat.zero_le _) (Nat.zero_le _) (Nat.zero_le _) (Nat.zero_le _)
end Go.Proofs.YtadkaplafaeebaaGreatDoor
/-
  inside: an iterator of two values; its own boxes lie behind those of its caller.
-/
set_option linter.unusedVariables false
set_option linter.unusedSimpArgs false
namespace Go.Proofs.YtadkaplafaeebaaGreatDoor
open Go Go.RowKit Go.Shelf

attribute [local go_sem] Oper.semAt_some

set_option maxRecDepth 100000 in
set_option maxHeartbeats 1000000 in
theorem ins_walk (n : Nat) (hn : 1 ≤ n) (l Ba Bb n₀ n₁ B0 : Nat) (f g : Sol) (ax ay az bx by' bz cx cy cz dx dy dz : Int) (nx ny nz : Nat) (L : List Pl)
    (sa : -9 ≤ ax ∧ ax ≤ 9 ∧ -9 ≤ ay ∧ ay ≤ 9 ∧ -9 ≤ az ∧ az ≤ 9) (sb : -9 ≤ bx ∧ bx ≤ 9 ∧ -9 ≤ by' ∧ by' ≤ 9 ∧ -9 ≤ bz ∧ bz ≤ 9)
    (sc : -9 ≤ cx ∧ cx ≤ 9 ∧ -9 ≤ cy ∧ cy ≤ 9 ∧ -9 ≤ cz ∧ cz ≤ 9) (sd : -9 ≤ dx ∧ dx ≤ 9 ∧ -9 ≤ dy ∧ dy ≤ 9 ∧ -9 ≤ dz ∧ dz ≤ 9)
    (hx : ∀ k : Nat, decide (ax - cx + (k : Int) ≤ bx - dx) = decide (k < nx)) (hy : ∀ k : Nat, decide (ay - cy + (k : Int) ≤ by' - dy) = decide (k < ny)) (hz : ∀ k : Nat, decide (az - cz + (k : Int) ≤ bz - dz) = decide (k < nz))
    (hfit : Fit f) (hgit : ∀ x y z, Fit (shiftF g x y z 8))
    (hBf : ∀ W, Calls Tryz.prog 38 #[sol f] W fun e w' => e = .returned (.tuple #[.agg #[.int .i64 (ax), .int .i64 (ay), .int .i64 (az), .int .i64 (bx), .int .i64 (by'), .int .i64 (bz)], .bool true]) ∧ Below W.heap.size W w')
    (hBg : ∀ W, Calls Tryz.prog 38 #[sol g] W fun e w' => e = .returned (.tuple #[.agg #[.int .i64 (cx), .int .i64 (cy), .int .i64 (cz), .int .i64 (dx), .int .i64 (dy), .int .i64 (dz)], .bool true]) ∧ Below W.heap.size W w')
    (hSh : ∀ (i j k : Nat) W, i < nx → j < ny → k < nz → Calls Tryz.prog 102 #[sol g, .agg #[.int .i64 (ax - cx + (i : Int)), .int .i64 (ay - cy + (j : Int)), .int .i64 (az - cz + (k : Int))]] W fun e w' => e = .returned (sol (shiftF g (ax - cx + (i : Int)) (ay - cy + (j : Int)) (az - cz + (k : Int)) 8)) ∧ Below W.heap.size W w')
    (hL : L = insZ f g (az - cz) (ay - cy) (ax - cx) nz ny nx 0)
    (J Jx : List Pl → World → Prop) (hA : AbidesFrom B0 J)
    (hY : ∀ pre x W, J pre W → pre.length < L.length → YieldAt Fence.wide (n - 1) Tryz.prog l #[encI x.1, sol x.2] W fun e W' =>
      (e = .returned (.bool true) ∧ J (pre ++ [x]) W' ∧ KeepA n₀ n₁ W W') ∨ (e = .returned (.bool false) ∧ Jx (pre ++ [x]) W'))
    (W : World) (hBa : BoxS W Ba f) (hBb : BoxS W Bb g) (h1 : n₁ ≤ Ba) (h2 : n₁ ≤ Bb) (h0 : J [] W) :
    CallsIn Fence.wide n Tryz.prog 147 #[.func (.yield l) #[] #[], .pointer (some ⟨Ba, 0, none⟩), .pointer (some ⟨Bb, 0, none⟩)] W fun e W' => (∃ v, e = .returned v) ∧
      ((∃ ys, ys = L ∧ J ys W') ∨ (∃ pre, pre <+: L ∧ Jx pre W')) := by
  have HFI := Lib.hid hfit
  have HGI := Lib.hid hgit
  have HBF := Lib.hid hBf
  have HBG := Lib.hid hBg
  have HSH := Lib.hid hSh
  have HLL := Lib.hid hL
  have HX := Lib.hid hx
  have HY := Lib.hid hy
  have HZ := Lib.hid hz
  have HJ := Lib.hid hA
  have HYY := Lib.hid hY
  have HJ0 := Lib.hid h0
  clear hfit hgit hBf hBg hSh hL hx hy hz hA hY h0
  obtain ⟨sa1, sa2, sa3, sa4, sa5, sa6⟩ := sa
  obtain ⟨sb1, sb2, sb3, sb4, sb5, sb6⟩ := sb
  obtain ⟨sc1, sc2, sc3, sc4, sc5, sc6⟩ := sc
  obtain ⟨sd1, sd2, sd3, sd4, sd5, sd6⟩ := sd
  refine callsIn_of_wp Tryz.func147 rfl trivial ?_ rfl
  simp only [Tryz.ntmps147, List.size_toArray, List.length_cons, List.length_nil, Nat.reduceAdd, Nat.reduceSub, Array.replicate_succ, Array.replicate_zero, List.push_toArray, List.append_toArray, List.nil_append, List.cons_append]
  have a0 := (hBa).cell (k := 0) (by omega); have a1 := (hBa).cell (k := 1) (by omega); have a2 := (hBa).cell (k := 2) (by omega); have a3 := (hBa).cell (k := 3) (by omega); have a4 := (hBa).cell (k := 4) (by omega); have a5 := (hBa).cell (k := 5) (by omega); have a6 := (hBa).cell (k := 6) (by omega); have a7 := (hBa).cell (k := 7) (by omega)
  have lBb := hBb.lt
  gi_wp2_with (refine ⟨trivial, ?_⟩; gi_at_call 38; first
    | ((with_reducible refine CallsIn.mono (callsIn_wide.2 (HBF.out _)) ?_); rintro e w1 ⟨rfl, hb1⟩; clear a0 a1 a2 a3 a4 a5 a6 a7; have hBb1 := (hBb.below hb1 lBb).alloc (.cells #[.int .i64 (ax), .int .i64 (ay), .int .i64 (az), .int .i64 (bx), .int .i64 (by'), .int .i64 (bz)] 40); have b0 := (hBb1).cell (k := 0) (by omega); have b1 := (hBb1).cell (k := 1) (by omega); have b2 := (hBb1).cell (k := 2) (by omega); have b3 := (hBb1).cell (k := 3) (by omega); have b4 := (hBb1).cell (k := 4) (by omega); have b5 := (hBb1).cell (k := 5) (by omega); have b6 := (hBb1).cell (k := 6) (by omega); have b7 := (hBb1).cell (k := 7) (by omega))
    | fail)
  refine ⟨trivial, ?_⟩
  gi_at_call 38
  (with_reducible refine CallsIn.mono (callsIn_wide.2 (HBG.out _)) ?_)
  rintro e w2 ⟨rfl, hb2⟩
  clear b0 b1 b2 b3 b4 b5 b6 b7
  have eBa := hBa.lt
  have s1 := hb1.size
  have s2 := hb2.size
  simp only [World.size_alloc] at s2
  have iR : Box6 (w1.alloc (.cells #[.int .i64 (ax), .int .i64 (ay), .int .i64 (az), .int .i64 (bx), .int .i64 (by'), .int .i64 (bz)] 40)) w1.heap.size ax ay az bx by' bz := World.alloc_heap_new w1 _
  have hA1 : Below W.heap.size W (w1.alloc (.cells #[.int .i64 (ax), .int .i64 (ay), .int .i64 (az), .int .i64 (bx), .int .i64 (by'), .int .i64 (bz)] 40)) := hb1.alloc s1 _
  have hA2 : Below W.heap.size W (w2.alloc (.cells #[.int .i64 (cx), .int .i64 (cy), .int .i64 (cz), .int .i64 (dx), .int .i64 (dy), .int .i64 (dz)] 40)) := (hA1.trans (hb2.mono (by simp; omega))).alloc (by omega) _
  have I : InsW Ba Bb w1.heap.size w2.heap.size f g ax ay az bx by' bz cx cy cz dx dy dz (w2.alloc (.cells #[.int .i64 (cx), .int .i64 (cy), .int .i64 (cz), .int .i64 (dx), .int .i64 (dy), .int .i64 (dz)] 40)) :=
    ⟨hBa.below hA2 eBa, hBb.below hA2 lBb, (Below.heap_alloc w2 _ _ (by omega)).trans ((hb2.block _ (by simp)).trans iR), World.alloc_heap_new w2 _⟩
  have hJ2 : J [] (w2.alloc (.cells #[.int .i64 (cx), .int .i64 (cy), .int .i64 (cz), .int .i64 (dx), .int .i64 (dy), .int .i64 (dz)] 40)) := abides_below HJ.out HJ0.out hA2
  obtain ⟨r0, r1, r2, r3, r4, r5⟩ := Box6.cells I.r
  obtain ⟨x0, x1, x2, x3, x4, x5⟩ := Box6.cells I.x
  gi_wp2
  clear r0 r1 r2 r3 r4 r5 x0 x1 x2 x3 x4 x5
  obtain ⟨W2, hW2⟩ : ∃ W2, W2 = w2.alloc (.cells #[.int .i64 (cx), .int .i64 (cy), .int .i64 (cz), .int .i64 (dx), .int .i64 (dy), .int .i64 (dz)] 40) := ⟨_, rfl⟩
  rw [← hW2] at I hJ2 ⊢
  clear hW2 hA2 hA1 iR hBb1
  have hR1 : n₁ ≤ w1.heap.size := by omega
  have hX1 : n₁ ≤ w2.heap.size := by omega
  obtain ⟨Rb, hRb⟩ : ∃ Rb, Rb = w1.heap.size := ⟨_, rfl⟩
  obtain ⟨Xb, hXb⟩ : ∃ Xb, Xb = w2.heap.size := ⟨_, rfl⟩
  rw [← hRb] at I hR1 ⊢
  rw [← hXb] at I hX1 ⊢
  clear hb1 hb2 hRb hXb s1 s2
  gi_loopw [8] (fun c wr => ∃ (k : Nat) (pre : List Pl), k ≤ nz ∧ c = .int .i64 (az - cz + k) ∧ Hid (L = pre ++ insZ f g (az - cz) (ay - cy) (ax - cx) nz ny nx k) ∧ J pre wr ∧ InsW Ba Bb Rb Xb f g ax ay az bx by' bz cx cy cz dx dy dz wr) (fun c _ => (bz - dz + 1 - intOf c).toNat)
  case atStart => exact ⟨0, [], by omega, by simp, Lib.hid (by rw [HLL.out]; rfl), hJ2, I⟩
  case round =>
    clear hJ2 I hBa hBb
    obtain ⟨k, pre, hk, rfl, HT, hJ, hI⟩ := hrel
    obtain ⟨r0, r1, r2, r3, r4, r5⟩ := Box6.cells hI.r
    obtain ⟨x0, x1, x2, x3, x4, x5⟩ := Box6.cells hI.x
    by_cases hlt : k < nz
    · have hd : decide (az - cz + (k : Int) ≤ bz - dz) = true := by rw [HZ.out k]; exact decide_eq_true hlt
      have hle : az - cz + (k : Int) ≤ bz - dz := of_decide_eq_true hd
      gi_wp2
      clear r0 r1 r2 r3 r4 r5 x0 x1 x2 x3 x4 x5 hd
      obtain ⟨wo, rfl⟩ : ∃ wo : World, wo = wr := ⟨_, rfl⟩
      gi_loopw [9] (fun c wr => ∃ (j : Nat) (pre : List Pl), j ≤ ny ∧ c = .int .i64 (ay - cy + j) ∧ Hid (L = pre ++ (insY f g (az - cz + k) (ay - cy) (ax - cx) ny nx j ++ insZ f g (az - cz) (ay - cy) (ax - cx) nz ny nx (k + 1))) ∧ J pre wr ∧ InsW Ba Bb Rb Xb f g ax ay az bx by' bz cx cy cz dx dy dz wr) (fun c _ => (by' - dy + 1 - intOf c).toNat)
      case atStart => exact ⟨0, pre, by omega, by simp, Lib.hid (by rw [HT.out, insZ_succ f g _ _ _ ny nx hlt]), hJ, hI⟩
      case round =>
        clear hJ hI HT pre
        obtain ⟨j, pre, hj, rfl, HT, hJ, hI⟩ := hrel
        obtain ⟨r0, r1, r2, r3, r4, r5⟩ := Box6.cells hI.r
        obtain ⟨x0, x1, x2, x3, x4, x5⟩ := Box6.cells hI.x
        by_cases hlt2 : j < ny
        · have hd2 : decide (ay - cy + (j : Int) ≤ by' - dy) = true := by rw [HY.out j]; exact decide_eq_true hlt2
          have hle2 : ay - cy + (j : Int) ≤ by' - dy := of_decide_eq_true hd2
          gi_wp2
          clear r0 r1 r2 r3 r4 r5 x0 x1 x2 x3 x4 x5 hd2
          obtain ⟨wp, rfl⟩ : ∃ wp : World, wp = wr := ⟨_, rfl⟩
          gi_loopw [10] (fun c wr => ∃ (i : Nat) (pre : List Pl), i ≤ nx ∧ c = .int .i64 (ax - cx + i) ∧ Hid (L = pre ++ (insX f g (ay - cy + j) (az - cz + k) (ax - cx) nx i ++ (insY f g (az - cz + k) (ay - cy) (ax - cx) ny nx (j + 1) ++ insZ f g (az - cz) (ay - cy) (ax - cx) nz ny nx (k + 1)))) ∧ J pre wr ∧ InsW Ba Bb Rb Xb f g ax ay az bx by' bz cx cy cz dx dy dz wr) (fun c _ => (bx - dx + 1 - intOf c).toNat)
          case atStart => exact ⟨0, pre, by omega, by simp, Lib.hid (by rw [HT.out, insY_succ f g _ _ _ nx hlt2]; simp), hJ, hI⟩
          case round =>
            clear hJ hI HT pre
            obtain ⟨i, pre, hi, rfl, HT, hJ, hI⟩ := hrel
            obtain ⟨r0, r1, r2, r3, r4, r5⟩ := Box6.cells hI.r
            obtain ⟨x0, x1, x2, x3, x4, x5⟩ := Box6.cells hI.x
            by_cases hlt3 : i < nx
            · have hd3 : decide (ax - cx + (i : Int) ≤ bx - dx) = true := by rw [HX.out i]; exact decide_eq_true hlt3
              have hle3 : ax - cx + (i : Int) ≤ bx - dx := of_decide_eq_true hd3
              obtain ⟨x, hx⟩ : ∃ x, x = ax - cx + (i : Int) := ⟨_, rfl⟩
              obtain ⟨y, hy⟩ : ∃ y, y = ay - cy + (j : Int) := ⟨_, rfl⟩
              obtain ⟨z, hz⟩ : ∃ z, z = az - cz + (k : Int) := ⟨_, rfl⟩
              have HS0 := fun W => HSH.out i j k W hlt3 hlt2 hlt
              have HSC := Lib.hid (insX_succ f g (ay - cy + (j : Int)) (az - cz + (k : Int)) (ax - cx) hlt3)
              rw [← hx, ← hy, ← hz] at HS0 HSC
              rw [← hx] at hd3 hle3 ⊢
              have HXE := Lib.hid hx
              have HYE := Lib.hid hy
              have HZE := Lib.hid hz
              have bx1 : -40 ≤ x ∧ x ≤ 40 := by omega
              have by1 : -40 ≤ y ∧ y ≤ 40 := by omega
              have bz1 : -40 ≤ z ∧ z ≤ 40 := by omega
              obtain ⟨bx1, bx2⟩ := bx1
              rw [← hy, ← hz]
              clear hx hy hz hle hle2
              obtain ⟨p, hp⟩ : ∃ p, p = shiftF g x y z 8 := ⟨_, rfl⟩
              have hpf : Fit p := by rw [hp]; exact HGI.out x y z
              rw [← hp] at HS0 HSC
              have HS := Lib.hid HS0
              have HPF := Lib.hid hpf
              clear HS0 hp hpf
              have sW : Below wr.heap.size wr (wr.alloc (.cells #[.int .i64 (x), .int .i64 (y), .int .i64 (z)] 26)) := (Below.refl _ wr).alloc (Nat.le_refl _) _
              have bM : BoxC (wr.alloc (.cells #[.int .i64 (x), .int .i64 (y), .int .i64 (z)] 26)) wr.heap.size x y z := World.alloc_heap_new wr _
              have bB := hI.b.alloc (.cells #[.int .i64 (x), .int .i64 (y), .int .i64 (z)] 26)
              have b0 := (bB).cell (k := 0) (by omega); have b1 := (bB).cell (k := 1) (by omega); have b2 := (bB).cell (k := 2) (by omega); have b3 := (bB).cell (k := 3) (by omega); have b4 := (bB).cell (k := 4) (by omega); have b5 := (bB).cell (k := 5) (by omega); have b6 := (bB).cell (k := 6) (by omega); have b7 := (bB).cell (k := 7) (by omega)
              have m0 := bM.c0
              have m1 := bM.c1
              have m2 := bM.c2
              gi_wp2_with fail
              clear b0 b1 b2 b3 b4 b5 b6 b7 m0 m1 m2 r0 r1 r2 r3 r4 r5 x0 x1 x2 x3 x4 x5 hd3
              refine ⟨trivial, ?_⟩
              gi_at_call 102
              (with_reducible refine CallsIn.mono (callsIn_wide.2 (HS.out _)) ?_)
              rintro e w3 ⟨rfl, hb3⟩
              have s3 := hb3.size
              simp only [World.size_alloc] at s3
              have hA3 : Below wr.heap.size wr (w3.alloc (.cells (solC p) 24)) := (sW.trans (hb3.mono (by simp))).alloc (by omega) _
              have bP : BoxS (w3.alloc (.cells (solC p) 24)) w3.heap.size p := BoxS.new w3 p
              have bM3 : BoxC (w3.alloc (.cells (solC p) 24)) wr.heap.size x y z := (Below.heap_alloc w3 _ _ (by omega)).trans ((hb3.block _ (by simp)).trans bM)
              have bA3 := hI.a.below hA3 hI.a.lt
              have p0 := (bP).cell (k := 0) (by omega); have p1 := (bP).cell (k := 1) (by omega); have p2 := (bP).cell (k := 2) (by omega); have p3 := (bP).cell (k := 3) (by omega); have p4 := (bP).cell (k := 4) (by omega); have p5 := (bP).cell (k := 5) (by omega); have p6 := (bP).cell (k := 6) (by omega); have p7 := (bP).cell (k := 7) (by omega)
              have a0 := (bA3).cell (k := 0) (by omega); have a1 := (bA3).cell (k := 1) (by omega); have a2 := (bA3).cell (k := 2) (by omega); have a3 := (bA3).cell (k := 3) (by omega); have a4 := (bA3).cell (k := 4) (by omega); have a5 := (bA3).cell (k := 5) (by omega); have a6 := (bA3).cell (k := 6) (by omega); have a7 := (bA3).cell (k := 7) (by omega)
              gi_wp2_with fail
              clear p0 p1 p2 p3 p4 p5 p6 p7 a0 a1 a2 a3 a4 a5 a6 a7
              refine ⟨trivial, ?_⟩
              gi_at_call 36
              (with_reducible refine CallsIn.mono (callsIn_wide.2 (in_ok p f _ HPF.out HFI.out)) ?_)
              rintro e w4 ⟨rfl, hb4⟩
              have s4 := hb4.size
              simp only [World.size_alloc] at s4
              have hA4 : Below wr.heap.size wr w4 := hA3.trans (hb4.mono (by simp; omega))
              have hI4 := hI.below hA4
              have bM4 : BoxC w4 wr.heap.size x y z := (hb4.block _ (by simp; omega)).trans bM3
              have bP4 : BoxS w4 w3.heap.size p := (hb4.block _ (by simp)).trans bP
              have hJ4 : J pre w4 := abides_below HJ.out hJ hA4
              cases hin : inB p f
              · have HR := Lib.hid (show L = pre ++ (insX f g y z (ax - cx) nx (i + 1) ++ (insY f g z (ay - cy) (ax - cx) ny nx (j + 1) ++ insZ f g (az - cz) (ay - cy) (ax - cx) nz ny nx (k + 1))) by
                  rw [HT.out, ← HYE.out, ← HZE.out, HSC.out, if_neg (by rw [hin]; exact Bool.false_ne_true)]; rfl)
                gi_wp2
                refine ⟨fun _ h => (by cases h), ?_⟩
                gi_wp2
                go_roundw
                case rel => exact ⟨i + 1, pre, by omega, by rw [HXE.out]; simp; omega, HR, hJ4, hI4⟩
                case measure => simp [intOf]; omega
              · have HR := Lib.hid (show L = (pre ++ [((x, y, z), p)]) ++ (insX f g y z (ax - cx) nx (i + 1) ++ (insY f g z (ay - cy) (ax - cx) ny nx (j + 1) ++ insZ f g (az - cz) (ay - cy) (ax - cx) nz ny nx (k + 1))) by
                  rw [HT.out, ← HYE.out, ← HZE.out, HSC.out, if_pos hin]; simp)
                have HL : Hid (pre.length < L.length) := Lib.hid (by rw [HR.out]; simp)
                obtain ⟨fn, tmps, assign, body, hy, hR⟩ := HYY.out _ ((x, y, z), p) w4 hJ4 HL.out
                simp only [encI] at hy
                have m0 := bM4.c0
                have m1 := bM4.c1
                have m2 := bM4.c2
                have p0 := (bP4).cell (k := 0) (by omega); have p1 := (bP4).cell (k := 1) (by omega); have p2 := (bP4).cell (k := 2) (by omega); have p3 := (bP4).cell (k := 3) (by omega); have p4 := (bP4).cell (k := 4) (by omega); have p5 := (bP4).cell (k := 5) (by omega); have p6 := (bP4).cell (k := 6) (by omega); have p7 := (bP4).cell (k := 7) (by omega)
                gi_wp2
                refine hR.mono ?_
                clear hR hy m0 m1 m2 p0 p1 p2 p3 p4 p5 p6 p7
                rintro e W1 (⟨rfl, hJ1, hk1⟩ | ⟨rfl, hJx⟩)
                · have hI1 := hI4.keep hk1 h1 h2 hR1 hX1
                  gi_wp2
                  go_roundw
                  case rel => exact ⟨i + 1, _, by omega, by rw [HXE.out]; simp; omega, HR, hJ1, hI1⟩
                  case measure => simp [intOf]; omega
                · gi_wp2
                  refine bodyPost_ret (results_none rfl _ _ _) rfl ?_
                  exact ⟨⟨_, rfl⟩, .inr ⟨_, ⟨_, HR.out.symm⟩, hJx⟩⟩
            · obtain rfl : i = nx := by omega
              have hd3 : decide (ax - cx + (i : Int) ≤ bx - dx) = false := by rw [HX.out i]; exact decide_eq_false (by omega)
              gi_wp2
              go_roundw
              case rel => exact ⟨j + 1, pre, by omega, by simp; omega, Lib.hid (by rw [HT.out, insX_end]; rfl), hJ, hI⟩
              case measure => simp [intOf]; omega
        · obtain rfl : j = ny := by omega
          have hd2 : decide (ay - cy + (j : Int) ≤ by' - dy) = false := by rw [HY.out j]; exact decide_eq_false (by omega)
          gi_wp2
          go_roundw
          case rel => exact ⟨k + 1, pre, by omega, by simp; omega, Lib.hid (by rw [HT.out, insY_end]; rfl), hJ, hI⟩
          case measure => simp [intOf]; omega
    · obtain rfl : k = nz := by omega
      have hd : decide (az - cz + (k : Int) ≤ bz - dz) = false := by rw [HZ.out k]; exact decide_eq_false (by omega)
      gi_wp2
      go_end0
      exact ⟨⟨_, rfl⟩, .inl ⟨pre, by rw [HT.out, insZ_end]; simp, hJ⟩⟩
end Go.Proofs.YtadkaplafaeebaaGreatDoor
