/-
  What a turn, a move or a mirror leaves the same: cells, parts, cavities, the number of Euler, the skin: mathematics.
-/
import Derived.Test.YtadkaplafaeebaaGreatDoorPkUAQ
set_option linter.unusedVariables false
set_option linter.unusedSimpArgs false
set_option maxRecDepth 100000
namespace Go.Proofs.YtadkaplafaeebaaGreatDoor
open Go Go.RowKit

def dblI (p : I3) : I3 := (2 * p.1 + 1, 2 * p.2.1 + 1, 2 * p.2.2 + 1)
/-- A move of places, and one of points, that keep what touches what. -/
structure Adj (φ D : I3 → I3) : Prop where
  t : ∀ p q, q ∈ touchL p → φ q ∈ touchL (φ p)
  f : ∀ p q, q ∈ facingL p → φ q ∈ facingL (φ p)
  d : ∀ p q, q ∈ touchL (dblI p) → D q ∈ touchL (dblI (φ p))
  s : ∀ q, eulP (D q) = eulP q
theorem Adj.comp {φ D φ' D' : I3 → I3} (h : Adj φ D) (h' : Adj φ' D') : Adj (fun p => φ' (φ p)) (fun q => D' (D q)) :=
  ⟨fun p q hq => h'.t _ _ (h.t p q hq), fun p q hq => h'.f _ _ (h.f p q hq), fun p q hq => h'.d _ _ (h.d p q hq), fun q => (h'.s _).trans (h.s q)⟩
theorem eulP_iff (q : I3) : eulP q = true ↔ (q.1 + q.2.1 + q.2.2) % 2 = 0 := by
  unfold eulP
  rw [beq_iff_eq]
  constructor
  · intro h
    have := Int.dvd_of_tmod_eq_zero h
    omega
  · intro h
    exact Int.tmod_eq_zero_of_dvd (by omega)
theorem eulP_congr {p q : I3} (h : (p.1 + p.2.1 + p.2.2) % 2 = (q.1 + q.2.1 + q.2.2) % 2) : eulP p = eulP q := by
  refine Bool.eq_iff_iff.2 ?_
  rw [eulP_iff, eulP_iff, h]
theorem ab_neg (a b c : Int) : ((c - a) - (c - b)).natAbs = (a - b).natAbs := by omega
theorem ab_add (a b c : Int) : ((a + c) - (b + c)).natAbs = (a - b).natAbs := by omega
theorem mem_fc {p q : I3} : q ∈ facingL p ↔ (p.1 - q.1).natAbs + (p.2.1 - q.2.1).natAbs + (p.2.2 - q.2.2).natAbs = 1 := by
  obtain ⟨x, y, z⟩ := p
  obtain ⟨a, b, c⟩ := q
  rw [mem_face]
  simp only
  constructor
  · rintro (⟨rfl, rfl, rfl⟩ | ⟨rfl, rfl, rfl⟩ | ⟨rfl, rfl, rfl⟩ | ⟨rfl, rfl, rfl⟩ | ⟨rfl, rfl, rfl⟩ | ⟨rfl, rfl, rfl⟩) <;> omega
  · intro h
    by_cases h1 : x = a
    · by_cases h2 : y = b
      · have : c = z + -1 ∨ c = z + 1 := by omega
        rcases this with h3 | h3
        · exact .inr (.inr (.inl ⟨h1.symm, h2.symm, h3⟩))
        · exact .inr (.inr (.inr (.inr (.inr ⟨h1.symm, h2.symm, h3⟩))))
      · have h3 : z = c := by omega
        have : b = y + -1 ∨ b = y + 1 := by omega
        rcases this with h4 | h4
        · exact .inr (.inl ⟨h1.symm, h4, h3.symm⟩)
        · exact .inr (.inr (.inr (.inr (.inl ⟨h1.symm, h4, h3.symm⟩))))
    · have h2 : y = b := by omega
      have h3 : z = c := by omega
      have : a = x + -1 ∨ a = x + 1 := by omega
      rcases this with h4 | h4
      · exact .inl ⟨h4, h2.symm, h3.symm⟩
      · exact .inr (.inr (.inr (.inl ⟨h4, h2.symm, h3.symm⟩)))
theorem adj_up : Adj (upI 7) (upI 16) := by
  refine ⟨fun p q h => ?_, fun p q h => ?_, fun p q h => ?_, fun q => eulP_congr ?_⟩
  · rw [mem_touch] at *; unfold upI; simp only; omega
  · rw [mem_fc] at *; unfold upI; simp only [ab_neg]; omega
  · rw [mem_touch] at *; unfold upI dblI at *; simp only at *; omega
  · unfold upI; simp only; omega
theorem adj_roll (k : Nat) : Adj (rollI 7 k) (rollI 16 k) := by
  refine ⟨fun p q h => ?_, fun p q h => ?_, fun p q h => ?_, fun q => eulP_congr ?_⟩
  · obtain ⟨x, y, z⟩ := p; obtain ⟨a, b, c⟩ := q
    rw [mem_touch] at *
    unfold rollI
    split <;> simp_all <;> omega
  · obtain ⟨x, y, z⟩ := p; obtain ⟨a, b, c⟩ := q
    rw [mem_fc] at *
    unfold rollI
    split <;> simp_all [ab_neg] <;> omega
  · obtain ⟨x, y, z⟩ := p; obtain ⟨a, b, c⟩ := q
    rw [mem_touch] at *
    unfold dblI at *
    unfold rollI
    split <;> simp_all <;> omega
  · obtain ⟨a, b, c⟩ := q
    unfold rollI
    split <;> simp_all <;> omega
theorem adj_id : Adj id id := ⟨fun _ _ h => h, fun _ _ h => h, fun _ _ h => h, fun _ => rfl⟩
theorem adj_ups : ∀ n, Adj (upN 7 n) (upN 16 n)
  | 0 => adj_id
  | n + 1 => (adj_ups n).comp adj_up
theorem adj_turn (t : Nat) : Adj (turnI 7 t) (turnI 16 t) := (adj_roll _).comp (adj_ups _)
theorem adj_move (v : I3) : Adj (fun p => plus p v) (fun q => plus q (2 * v.1, 2 * v.2.1, 2 * v.2.2)) := by
  refine ⟨fun p q h => ?_, fun p q h => ?_, fun p q h => ?_, fun q => eulP_congr ?_⟩
  · rw [mem_touch] at *; unfold plus; simp only at *; omega
  · rw [mem_fc] at *; unfold plus; simp only [ab_add]; exact h
  · rw [mem_touch] at *; unfold plus dblI at *; simp only at *; omega
  · unfold plus; simp only; omega
def mirJ (b : Int) (a : Nat) (p : I3) : I3 := match a with
  | 0 => (b - p.1, p.2.1, p.2.2)
  | 1 => (p.1, b - p.2.1, p.2.2)
  | _ => (p.1, p.2.1, b - p.2.2)
theorem adj_mir (a : Nat) : Adj (mirJ 7 a) (mirJ 16 a) := by
  refine ⟨fun p q h => ?_, fun p q h => ?_, fun p q h => ?_, fun q => eulP_congr ?_⟩
  · rw [mem_touch] at *; unfold mirJ; split <;> simp only <;> omega
  · rw [mem_fc] at *; unfold mirJ; split <;> simp only [ab_neg] <;> exact h
  · rw [mem_touch] at *; unfold mirJ dblI at *; split <;> simp only at * <;> omega
  · unfold mirJ; split <;> simp only <;> omega
/-- One that can be taken back. -/
structure Rig (φ ψ D E : I3 → I3) : Prop where
  a : Adj φ D
  b : Adj ψ E
  pq : ∀ p, ψ (φ p) = p
  qp : ∀ p, φ (ψ p) = p
  de : ∀ q, E (D q) = q
  ed : ∀ q, D (E q) = q
theorem Rig.comp {φ ψ D E φ' ψ' D' E' : I3 → I3} (h : Rig φ ψ D E) (h' : Rig φ' ψ' D' E') : Rig (fun p => φ' (φ p)) (fun p => ψ (ψ' p)) (fun p => D' (D p)) (fun p => E (E' p)) :=
  ⟨h.a.comp h'.a, h'.b.comp h.b, fun p => by show ψ (ψ' (φ' (φ p))) = p; rw [h'.pq, h.pq], fun p => by show φ' (φ (ψ (ψ' p))) = p; rw [h.qp, h'.qp], fun p => by show E (E' (D' (D p))) = p; rw [h'.de, h.de], fun p => by show D' (D (E (E' p))) = p; rw [h.ed, h'.ed]⟩
theorem rig_turn {t : Nat} (h : t < 24) : Rig (turnI 7 t) (turnI 7 (invT t)) (turnI 16 t) (turnI 16 (invT t)) :=
  ⟨adj_turn t, adj_turn _, fun p => turn_inj 7 h (turn_inv 7 h _), fun p => turn_inv 7 h p, fun p => turn_inj 16 h (turn_inv 16 h _), fun p => turn_inv 16 h p⟩
def negI (v : I3) : I3 := (-v.1, -v.2.1, -v.2.2)
theorem plus_negI (p v : I3) : plus (plus p v) (negI v) = p := by unfold plus negI; ext <;> simp <;> omega
theorem negI_plus (p v : I3) : plus (plus p (negI v)) v = p := by unfold plus negI; ext <;> simp <;> omega
theorem rig_move (v : I3) : Rig (fun p => plus p v) (fun p => plus p (negI v)) (fun q => plus q (2 * v.1, 2 * v.2.1, 2 * v.2.2)) (fun q => plus q (2 * (negI v).1, 2 * (negI v).2.1, 2 * (negI v).2.2)) :=
  ⟨adj_move v, adj_move _, fun p => plus_negI p v, fun p => negI_plus p v, fun q => by unfold plus negI; ext <;> simp <;> omega, fun q => by unfold plus negI; ext <;> simp <;> omega⟩
theorem mir_mir (b : Int) (a : Nat) (p : I3) : mirJ b a (mirJ b a p) = p := by
  obtain ⟨x, y, z⟩ := p
  unfold mirJ
  split <;> ext <;> simp <;> omega
theorem rig_mir (a : Nat) : Rig (mirJ 7 a) (mirJ 7 a) (mirJ 16 a) (mirJ 16 a) := ⟨adj_mir a, adj_mir a, mir_mir 7 a, mir_mir 7 a, mir_mir 16 a, mir_mir 16 a⟩
/-- A solid is another one, moved so. -/
def Mv (φ : I3 → I3) (f g : Sol) : Prop := ∀ p, hasI g (φ p) = hasI f p
theorem inj_le {α β : Type} (R : α → β → Prop) : ∀ (L : List α) (M : List β), L.Pairwise (fun a a' => ∀ b ∈ M, R a b → ¬ R a' b) → (∀ a ∈ L, ∃ b ∈ M, R a b) → L.length ≤ M.length
  | [], M, _, _ => Nat.zero_le _
  | a :: L, M, hp, hL => by
    obtain ⟨b, hb, hab⟩ := hL a List.mem_cons_self
    obtain ⟨s, t, rfl⟩ := List.append_of_mem hb
    obtain ⟨h1, h2⟩ := List.pairwise_cons.1 hp
    have := inj_le R L (s ++ t) (h2.imp fun {x y} h z hz => h z (by
      rcases List.mem_append.1 hz with hz | hz
      · exact List.mem_append_left _ hz
      · exact List.mem_append_right _ (List.mem_cons_of_mem _ hz))) fun x hx => by
        obtain ⟨y, hy, hxy⟩ := hL x (List.mem_cons_of_mem _ hx)
        rcases List.mem_append.1 hy with hy | hy
        · exact ⟨y, List.mem_append_left _ hy, hxy⟩
        · rcases List.mem_cons.1 hy with rfl | hy
          · exact absurd hxy (h1 x hx y hb hab)
          · exact ⟨y, List.mem_append_right _ hy, hxy⟩
    simp only [List.length_append, List.length_cons] at *
    omega
theorem reach_map {nb : I3 → List I3} {f g : Sol} {φ : I3 → I3} (hφ : ∀ p q, q ∈ nb p → φ q ∈ nb (φ p)) (h : ∀ p, hasI f p = true → hasI g (φ p) = true) {a b : I3} (hr : Reach nb f a b) : Reach nb g (φ a) (φ b) := by
  induction hr with
  | here h0 => exact .here (h _ h0)
  | on h0 h1 _ ih => exact .on (h _ h0) (hφ _ _ h1) ih
theorem cls_le {nb : I3 → List I3} (hs : ∀ a b, b ∈ nb a → a ∈ nb b) {f g : Sol} (hf : Fit f) (hg : Fit g) {φ ψ : I3 → I3} (hψ : ∀ p q, q ∈ nb p → ψ q ∈ nb (ψ p)) (hm : Mv φ f g) (hn : Mv ψ g f) (h0 : ∀ p, ψ (φ p) = p) : (clsF nb f).length ≤ (clsF nb g).length := by
  have HF := cls_all hs hf
  have HG := cls_all hs hg
  refine inj_le (fun a b => ∃ p, hasI a p = true ∧ hasI b (φ p) = true) _ _ ?_ fun a ha => ?_
  · refine HF.apart.imp_of_mem fun {a a'} ha ha' hap b hb ⟨p, hp, hq⟩ ⟨p', hp', hq'⟩ => ?_
    have hr := (IsCls.joined hs HG hb hq hq').mono (s := g) fun x hx => IsCls.sub HG hb hx
    have h1 : Reach nb f p p' := by
      have := reach_map (g := f) hψ (fun x hx => (hn x).trans hx) hr
      rwa [h0, h0] at this
    have key : ∀ u v, Reach nb f u v → hasI a u = true → hasI a v = true := fun u v hu => by
      induction hu with
      | here _ => exact id
      | on _ e2 e3 ih => exact fun hx => ih (IsCls.closed HF ha hx e2 e3.first)
    have := hap _ (key _ _ h1 hp)
    rw [hp'] at this
    cases this
  · obtain ⟨c, hc⟩ := IsCls.some HF ha
    obtain ⟨b, hb, hcb⟩ := HG.all (φ c) (by rw [hm c]; exact IsCls.sub HF ha hc)
    exact ⟨b, hb, c, hc, hcb⟩
theorem Mv.back {φ ψ : I3 → I3} {f g : Sol} (h : Mv φ f g) (e : ∀ p, φ (ψ p) = p) : Mv ψ g f := fun p => by rw [← h (ψ p), e]
theorem parts_mv {f g : Sol} (hf : Fit f) (hg : Fit g) {φ ψ D E : I3 → I3} (R : Rig φ ψ D E) (h : Mv φ f g) : (partsF f).length = (partsF g).length :=
  Nat.le_antisymm (cls_le touch_symm hf hg R.b.t h (h.back R.qp) R.pq) (cls_le touch_symm hg hf R.a.t (h.back R.qp) h R.qp)
theorem rig_inj {φ ψ D E : I3 → I3} (R : Rig φ ψ D E) {p q : I3} (h : φ p = φ q) : p = q := by rw [← R.pq p, h, R.pq]
theorem rigD_inj {φ ψ D E : I3 → I3} (R : Rig φ ψ D E) {p q : I3} (h : D p = D q) : p = q := by rw [← R.de p, h, R.de]
theorem dbl_is (c : Cl) : dbl c = dblI (toI c) := rfl
theorem eul_mv {f g : Sol} {φ ψ D E : I3 → I3} (R : Rig φ ψ D E) (h : Mv φ f g) : eulF f = eulF g := by
  have h1 := pts_all f
  have e : eulF g = (((pts f).map D).map sg).sum := by
    refine eul_of g _ (List.pairwise_map.2 (h1.1.1.imp fun hab e => hab (rigD_inj R e))) fun q => ?_
    rw [List.mem_map]
    constructor
    · rintro ⟨p, hp, rfl⟩
      obtain ⟨c, hc, hq⟩ := (h1.2 p).1 hp
      have hg : hasI g (φ (toI c)) = true := by rw [h]; exact (mem_cellI f c).1 hc
      obtain ⟨d, hd, e⟩ := cl_of' hg
      refine ⟨d, hd, ?_⟩
      rw [dbl_is, e]
      exact R.a.d _ _ hq
    · rintro ⟨d, hd, hq⟩
      have hg := (mem_cellI g d).1 hd
      rw [← R.qp (toI d), h] at hg
      obtain ⟨c, hc, e⟩ := cl_of' hg
      refine ⟨E q, (h1.2 _).2 ⟨c, hc, ?_⟩, R.ed q⟩
      rw [dbl_is, e]
      exact R.b.d _ _ hq
  rw [e, eul_is f, List.map_map]
  refine congrArg List.sum (List.map_congr_left fun q _ => ?_)
  show sg q = sg (D q)
  unfold sg
  rw [R.a.s]
theorem num_mv {f g : Sol} {φ ψ D E : I3 → I3} (R : Rig φ ψ D E) (h : Mv φ f g) : numF f = numF g := by
  have le : ∀ {f g : Sol} {φ ψ D E : I3 → I3}, Rig φ ψ D E → Mv φ f g → numF f ≤ numF g := fun {f g φ ψ D E} R h => by
    refine inj_le (fun c d => φ (toI c) = toI d) (cellsL f) (cellsL g) ?_ fun c hc => ?_
    · refine (cells_nodup f).imp fun {a b} hab d _ e e' => hab ?_
      have := rig_inj R (e.trans e'.symm)
      exact toI_inj this
    · have hg : hasI g (φ (toI c)) = true := by rw [h]; exact (mem_cellI f c).1 hc
      obtain ⟨d, hd, e⟩ := cl_of' hg
      exact ⟨d, hd, e.symm⟩
  exact Nat.le_antisymm (le R h) (le ⟨R.b, R.a, R.qp, R.pq, R.ed, R.de⟩ (h.back R.qp))
/-- The faces of cells behind which there is no cell. -/
def outL (f : Sol) : List (I3 × I3) := (cellsL f).flatMap fun c => ((facingL (toI c)).filter fun x => !hasI f x).map fun x => (toI c, x)
theorem outL_len (f : Sol) : (outL f).length = skinF f := by
  unfold outL skinF skinN
  rw [List.length_flatMap]
  refine congrArg List.sum (List.map_congr_left fun c _ => ?_)
  rw [List.length_map]
  rfl
theorem outL_mem {f : Sol} {p q : I3} : (p, q) ∈ outL f ↔ hasI f p = true ∧ hasI f q = false ∧ q ∈ facingL p := by
  unfold outL
  rw [List.mem_flatMap]
  constructor
  · rintro ⟨c, hc, h⟩
    obtain ⟨x, hx, e⟩ := List.mem_map.1 h
    obtain ⟨h1, h2⟩ := List.mem_filter.1 hx
    cases e
    exact ⟨(mem_cellI f c).1 hc, by simpa using h2, h1⟩
  · rintro ⟨h1, h2, h3⟩
    obtain ⟨c, hc, rfl⟩ := cl_of' h1
    exact ⟨c, hc, List.mem_map.2 ⟨q, List.mem_filter.2 ⟨h3, by simp [h2]⟩, rfl⟩⟩
theorem face_nodup (p : I3) : (facingL p).Nodup := by
  unfold facingL
  refine List.nodup_append.2 ⟨face3_nodup p (by decide), face3_nodup p (by decide), fun a ha b hb e => ?_⟩
  subst e
  obtain ⟨x, y, z⟩ := p
  obtain ⟨u, v, w⟩ := a
  simp only [face3, List.mem_cons, List.not_mem_nil, or_false, Prod.mk.injEq] at ha hb
  omega
theorem outL_nodup (f : Sol) : (outL f).Nodup := by
  unfold outL
  refine nodup_flatC _ _ (cells_nodup f) (fun c _ => List.pairwise_map.2 ((List.Pairwise.filter _ (face_nodup (toI c))).imp fun hab e => hab (Prod.mk.inj e).2)) fun c d hcd x hx hx' => ?_
  obtain ⟨a, _, rfl⟩ := List.mem_map.1 hx
  obtain ⟨b, _, e⟩ := List.mem_map.1 hx'
  exact hcd (toI_inj (Prod.mk.inj e).1.symm)
theorem skin_mv {f g : Sol} {φ ψ D E : I3 → I3} (R : Rig φ ψ D E) (h : Mv φ f g) : skinF f = skinF g := by
  have le : ∀ {f g : Sol} {φ ψ D E : I3 → I3}, Rig φ ψ D E → Mv φ f g → skinF f ≤ skinF g := fun {f g φ ψ D E} R h => by
    rw [← outL_len, ← outL_len]
    refine inj_le (fun c d => (φ c.1, φ c.2) = d) _ _ ?_ fun c hc => ?_
    · refine (outL_nodup f).imp fun {a b} hab d _ e e' => hab ?_
      have := e.trans e'.symm
      simp only [Prod.mk.injEq] at this
      exact Prod.ext (rig_inj R this.1) (rig_inj R this.2)
    · obtain ⟨p, q⟩ := c
      obtain ⟨h1, h2, h3⟩ := outL_mem.1 hc
      exact ⟨_, outL_mem.2 ⟨(h p).trans h1, (h q).trans h2, R.a.f _ _ h3⟩, rfl⟩
  exact Nat.le_antisymm (le R h) (le ⟨R.b, R.a, R.qp, R.pq, R.ed, R.de⟩ (h.back R.qp))

/-- What is reached from a place through places of all space that a solid has not. -/
inductive ReachZ (f : Sol) : I3 → I3 → Prop
  | here {c : I3} : hasI f c = false → ReachZ f c c
  | on {c d p : I3} : hasI f c = false → d ∈ facingL c → ReachZ f d p → ReachZ f c p
theorem ReachZ.last {f : Sol} {c p : I3} (h : ReachZ f c p) : hasI f p = false := by
  induction h with
  | here h => exact h
  | on _ _ _ ih => exact ih
theorem ReachZ.first {f : Sol} {c p : I3} (h : ReachZ f c p) : hasI f c = false := by
  cases h with
  | here h => exact h
  | on h _ _ => exact h
theorem ReachZ.snoc {f : Sol} {c p q : I3} (h : ReachZ f c p) (hq : q ∈ facingL p) (hh : hasI f q = false) : ReachZ f c q := by
  induction h with
  | here h => exact .on h hq (.here hh)
  | on h hd _ ih => exact .on h hd (ih hq)
theorem reachZ_map {f g : Sol} {φ : I3 → I3} (hφ : ∀ p q, q ∈ facingL p → φ q ∈ facingL (φ p)) (h : Mv φ f g) {a b : I3} (hr : ReachZ f a b) : ReachZ g (φ a) (φ b) := by
  induction hr with
  | here h0 => exact .here ((h _).trans h0)
  | on h0 h1 _ ih => exact .on ((h _).trans h0) (hφ _ _ h1) ih
/-- Only finitely many places are reached. -/
def Enc (f : Sol) (x : I3) : Prop := hasI f x = false ∧ ∃ l : List I3, ∀ y, ReachZ f x y → y ∈ l
theorem enc_mv {f g : Sol} {φ ψ D E : I3 → I3} (R : Rig φ ψ D E) (h : Mv φ f g) {x : I3} (hx : Enc f x) : Enc g (φ x) := by
  obtain ⟨h0, l, hl⟩ := hx
  refine ⟨(h x).trans h0, l.map φ, fun y hy => ?_⟩
  have := reachZ_map R.b.f (h.back R.qp) hy
  rw [R.pq] at this
  exact List.mem_map.2 ⟨ψ y, hl _ this, R.qp y⟩
theorem enc_ray {f : Sol} {x p : I3} (hx : Enc f x) (hp : ReachZ f x p) (e : I3) (he : e.1.natAbs + e.2.1.natAbs + e.2.2.natAbs = 1) (hr : ∀ k : Nat, hasI f (p.1 + k * e.1, p.2.1 + k * e.2.1, p.2.2 + k * e.2.2) = false) : False := by
  obtain ⟨h0, l, hl⟩ := hx
  have all : ∀ k : Nat, ReachZ f x (p.1 + k * e.1, p.2.1 + k * e.2.1, p.2.2 + k * e.2.2) := fun k => by
    induction k with
    | zero => simpa using hp
    | succ k ih =>
      refine ih.snoc ?_ (hr (k + 1))
      rw [mem_fc]
      simp only
      have e1 : ∀ a b : Int, (a + (k : Int) * b) - (a + ((k + 1 : Nat) : Int) * b) = -b := fun a b => by
        rw [Int.natCast_add, Int.add_mul]
        omega
      rw [e1, e1, e1]
      omega
  have := inj_le (fun (k : Nat) (y : I3) => (p.1 + k * e.1, p.2.1 + k * e.2.1, p.2.2 + k * e.2.2) = y) (List.range (l.length + 1)) l ?_ fun k _ => ⟨_, hl _ (all k), rfl⟩
  · simp at this
    omega
  · refine List.nodup_range.imp fun {a b} hab y _ ha hb => hab ?_
    have h := ha.trans hb.symm
    simp only [Prod.mk.injEq] at h
    obtain ⟨h1, h2, h3⟩ := h
    have key : ∀ u v : Int, u + (a : Int) * v = u + (b : Int) * v → v.natAbs = 1 → a = b := fun u v h hv => by
      have : v = 1 ∨ v = -1 := by omega
      rcases this with rfl | rfl <;> omega
    rcases (show e.1.natAbs = 1 ∨ e.2.1.natAbs = 1 ∨ e.2.2.natAbs = 1 by omega) with h4 | h4 | h4
    · exact key _ _ h1 h4
    · exact key _ _ h2 h4
    · exact key _ _ h3 h4
theorem not_in7 {f : Sol} {p : I3} (h : p.1 < 0 ∨ 7 < p.1 ∨ p.2.1 < 0 ∨ 7 < p.2.1 ∨ p.2.2 < 0 ∨ 7 < p.2.2) : hasI f p = false := hasI_out fun h' => by unfold In7 at h'; omega
/-- What is enclosed lies in the inside of the grid. -/
theorem enc_inner {f : Sol} {x p : I3} (hx : Enc f x) (hp : ReachZ f x p) : Inner p := by
  have h0 := hp.last
  refine Classical.byContradiction fun hn => ?_
  have ray : ∀ e : I3, e.1.natAbs + e.2.1.natAbs + e.2.2.natAbs = 1 → (∀ k : Nat, 0 < k → hasI f (p.1 + k * e.1, p.2.1 + k * e.2.1, p.2.2 + k * e.2.2) = false) → False := fun e he hk => by
    refine enc_ray hx hp e he fun k => ?_
    cases k with
    | zero => simpa using h0
    | succ k => exact hk (k + 1) (by omega)
  unfold Inner at hn
  rcases (show p.1 < 1 ∨ 6 < p.1 ∨ p.2.1 < 1 ∨ 6 < p.2.1 ∨ p.2.2 < 1 ∨ 6 < p.2.2 by omega) with h | h | h | h | h | h
  · exact ray (-1, 0, 0) (by decide) fun k hk => not_in7 (by simp only; omega)
  · exact ray (1, 0, 0) (by decide) fun k hk => not_in7 (by simp only; omega)
  · exact ray (0, -1, 0) (by decide) fun k hk => not_in7 (by simp only; omega)
  · exact ray (0, 1, 0) (by decide) fun k hk => not_in7 (by simp only; omega)
  · exact ray (0, 0, -1) (by decide) fun k hk => not_in7 (by simp only; omega)
  · exact ray (0, 0, 1) (by decide) fun k hk => not_in7 (by simp only; omega)
theorem cav_stay {f : Sol} (hf : Fit f) {a : Sol} (ha : a ∈ cavF f) {p q : I3} (h : ReachZ f p q) : hasI a p = true → hasI a q = true := by
  obtain ⟨h1, h2⟩ := cav_mem.1 ha
  have HC := void_cls (f := f)
  have hfa := (HC.each a h1).1
  obtain ⟨c, hc⟩ := IsCls.some HC h1
  have hin := (within_iff hfa (some_ne hc)).1 h2
  induction h with
  | here _ => exact id
  | on e1 e2 e3 ih =>
    intro hp
    refine ih (IsCls.closed HC h1 hp e2 ?_)
    have hi := hin _ hp
    rw [has_void hf, e3.first]
    unfold Inner at hi
    rw [mem_face] at e2
    rw [decide_eq_true (by unfold In7; omega)]
    rfl
theorem cav_enc {f : Sol} (hf : Fit f) {a : Sol} (ha : a ∈ cavF f) {p : I3} (hp : hasI a p = true) : Enc f p := by
  obtain ⟨h1, h2⟩ := cav_mem.1 ha
  have hv := IsCls.sub (void_cls (f := f)) h1 hp
  rw [has_void hf, Bool.and_eq_true, Bool.not_eq_true'] at hv
  refine ⟨hv.2, (cellsL a).map toI, fun y hy => ?_⟩
  obtain ⟨c, hc, e⟩ := cl_of' (cav_stay hf ha hy hp)
  exact List.mem_map.2 ⟨c, hc, e⟩
theorem enc_cav {f : Sol} (hf : Fit f) {p : I3} (h : Enc f p) : ∃ a ∈ cavF f, hasI a p = true := by
  have hi := enc_inner h (.here h.1)
  have h7 : In7 p := by unfold Inner at hi; unfold In7; omega
  have hv : hasI (voidF f) p = true := by rw [has_void hf, h.1, decide_eq_true h7]; rfl
  have HC := void_cls (f := f)
  obtain ⟨a, ha, hp⟩ := HC.all p hv
  refine ⟨a, cav_mem.2 ⟨ha, (within_iff (HC.each a ha).1 (some_ne hp)).2 fun q hq => ?_⟩, hp⟩
  have hr := (IsCls.joined face_symm HC ha hp hq)
  refine enc_inner h ?_
  have sub : ∀ x, hasI a x = true → hasI f x = false := fun x hx => by
    have := IsCls.sub HC ha hx
    rw [has_void hf, Bool.and_eq_true, Bool.not_eq_true'] at this
    exact this.2
  clear hq hi h7 hv hp h
  induction hr with
  | here h0 => exact .here (sub _ h0)
  | on h0 h1 h2 ih => exact .on (sub _ h0) h1 ih
theorem cav_le {f g : Sol} (hf : Fit f) (hg : Fit g) {φ ψ D E : I3 → I3} (R : Rig φ ψ D E) (h : Mv φ f g) : (cavF f).length ≤ (cavF g).length := by
  refine inj_le (fun a b => ∃ p, hasI a p = true ∧ hasI b (φ p) = true) _ _ ?_ fun a ha => ?_
  · refine (cav_apart hf).2.imp_of_mem fun {a a'} ha ha' hap b hb ⟨p, hp, hq⟩ ⟨p', hp', hq'⟩ => ?_
    have hbm := (cav_mem.1 hb).1
    have HC := void_cls (f := g)
    have hr := IsCls.joined face_symm HC hbm hq hq'
    have hz : ReachZ g (φ p) (φ p') := by
      have sub : ∀ x, hasI b x = true → hasI g x = false := fun x hx => by
        have := IsCls.sub HC hbm hx
        rw [has_void hg, Bool.and_eq_true, Bool.not_eq_true'] at this
        exact this.2
      clear hq hq' 
      generalize φ p = u at *
      generalize φ p' = v at *
      induction hr with
      | here h0 => exact .here (sub _ h0)
      | on h0 h1 _ ih => exact .on (sub _ h0) h1 ih
    have := reachZ_map R.b.f (h.back R.qp) hz
    rw [R.pq, R.pq] at this
    have := hap _ (cav_stay hf ha this hp)
    rw [hp'] at this
    cases this
  · obtain ⟨h1, _, _⟩ := (cav_apart hf).1 a ha
    obtain ⟨c, hc⟩ := IsCls.some (void_cls (f := f)) (cav_mem.1 ha).1
    obtain ⟨b, hb, hcb⟩ := enc_cav hg (enc_mv R h (cav_enc hf ha hc))
    exact ⟨b, hb, c, hc, hcb⟩
theorem cav_mv {f g : Sol} (hf : Fit f) (hg : Fit g) {φ ψ D E : I3 → I3} (R : Rig φ ψ D E) (h : Mv φ f g) : (cavF f).length = (cavF g).length :=
  Nat.le_antisymm (cav_le hf hg R h) (cav_le hg hf ⟨R.b, R.a, R.qp, R.pq, R.ed, R.de⟩ (h.back R.qp))
end Go.Proofs.YtadkaplafaeebaaGreatDoor
/-
  Bits added up: of more vectors than places some add up to nothing: mathematics.
-/
set_option linter.unusedVariables false
set_option linter.unusedSimpArgs false
set_option maxRecDepth 100000
namespace Go.Proofs.YtadkaplafaeebaaGreatDoor
open Go Go.RowKit

/-- Whether an odd number of a list has a property. -/
def par {α : Type} (g : α → Bool) (l : List α) : Bool := l.foldr (fun a b => xor (g a) b) false
theorem par_cons {α : Type} (g : α → Bool) (a : α) (l : List α) : par g (a :: l) = xor (g a) (par g l) := rfl
theorem par_xor {α : Type} (g h : α → Bool) (l : List α) : par (fun a => xor (g a) (h a)) l = xor (par g l) (par h l) := by
  induction l with
  | nil => rfl
  | cons a l ih =>
    rw [par_cons, par_cons, par_cons, ih]
    cases g a <;> cases h a <;> cases par g l <;> cases par h l <;> rfl
theorem par_and {α : Type} (g : α → Bool) (b : Bool) (l : List α) : par (fun a => g a && b) l = (par g l && b) := by
  induction l with
  | nil => rfl
  | cons a l ih =>
    rw [par_cons, par_cons, ih]
    cases g a <;> cases b <;> cases par g l <;> rfl
theorem par_false {α : Type} {g : α → Bool} {l : List α} (h : ∀ a ∈ l, g a = false) : par g l = false := by
  induction l with
  | nil => rfl
  | cons a l ih =>
    rw [par_cons, h a List.mem_cons_self, ih fun b hb => h b (List.mem_cons_of_mem _ hb)]
    rfl
theorem par_swap {α β : Type} (g : α → β → Bool) (l : List α) : ∀ m : List β, par (fun b => par (fun a => g a b) l) m = par (fun a => par (fun b => g a b) m) l
  | [] => by
    rw [show par (fun b => par (fun a => g a b) l) [] = false from rfl]
    exact (par_false fun a _ => rfl).symm
  | b :: m => by
    rw [par_cons, par_swap g l m, ← par_xor]
    rfl
theorem par_one {α : Type} [DecidableEq α] {g : α → Bool} {x : α} : ∀ {l : List α}, l.Nodup → (∀ a ∈ l, a ≠ x → g a = false) → x ∈ l → par g l = g x
  | [], _, _, h => by cases h
  | a :: l, hn, hg, hx => by
    obtain ⟨n1, n2⟩ := List.nodup_cons.1 hn
    rw [par_cons]
    by_cases e : a = x
    · subst e
      rw [par_false fun b hb => hg b (List.mem_cons_of_mem _ hb) fun e => n1 (by rw [← e]; exact hb)]
      cases g a <;> rfl
    · rw [hg a List.mem_cons_self e, par_one n2 (fun b hb => hg b (List.mem_cons_of_mem _ hb)) ((List.mem_cons.1 hx).resolve_left fun h => e h.symm)]
      cases g x <;> rfl
/-- Of more vectors of bits than there are places, some add up to nothing. -/
theorem depend {α β : Type} [DecidableEq α] : ∀ (M : List β) (R : List α) (v : α → β → Bool), R.Nodup → M.length < R.length → ∃ Z : List α, Z.Nodup ∧ (∀ z ∈ Z, z ∈ R) ∧ Z ≠ [] ∧ ∀ m ∈ M, par (fun z => v z m) Z = false
  | [], R, v, hn, h => by
    cases R with
    | nil => simp at h
    | cons r R => exact ⟨[r], by simp, fun z hz => by rw [List.mem_singleton.1 hz]; exact List.mem_cons_self, by simp, fun m hm => by cases hm⟩
  | m :: M, R, v, hn, h => by
    by_cases hall : ∀ r ∈ R, v r m = false
    · obtain ⟨Z, h1, h2, h3, h4⟩ := depend M R v hn (by simp at h; omega)
      refine ⟨Z, h1, h2, h3, fun k hk => ?_⟩
      rcases List.mem_cons.1 hk with rfl | hk
      · exact par_false fun z hz => hall z (h2 z hz)
      · exact h4 k hk
    · have : ∃ r, r ∈ R ∧ v r m = true := Classical.byContradiction fun hno => hall fun r hr => by
        cases hv : v r m with
        | false => rfl
        | true => exact absurd ⟨r, hr, hv⟩ hno
      obtain ⟨r0, hr0, hv0⟩ := this
      obtain ⟨Z, h1, h2, h3, h4⟩ := depend M (R.erase r0) (fun r k => xor (v r k) (v r m && v r0 k)) (hn.erase _) (by rw [List.length_erase_of_mem hr0]; simp at h; omega)
      have key : ∀ k ∈ M, par (fun z => v z k) Z = (par (fun z => v z m) Z && v r0 k) := fun k hk => by
        have := h4 k hk
        rw [par_xor, par_and] at this
        cases ha : par (fun z => v z k) Z <;> cases hb : par (fun z => v z m) Z && v r0 k <;> simp_all
      have hsub : ∀ z ∈ Z, z ∈ R := fun z hz => List.mem_of_mem_erase (h2 z hz)
      cases hp : par (fun z => v z m) Z with
      | false =>
        refine ⟨Z, h1, hsub, h3, fun k hk => ?_⟩
        rcases List.mem_cons.1 hk with rfl | hk
        · exact hp
        · rw [key k hk, hp]
          rfl
      | true =>
        refine ⟨r0 :: Z, List.nodup_cons.2 ⟨fun hz => ?_, h1⟩, fun z hz => ?_, by simp, fun k hk => ?_⟩
        · exact (List.Nodup.not_mem_erase hn) (h2 r0 hz)
        · rcases List.mem_cons.1 hz with rfl | hz
          · exact hr0
          · exact hsub z hz
        · rw [par_cons]
          rcases List.mem_cons.1 hk with rfl | hk
          · rw [hv0, hp]
            rfl
          · rw [key k hk, hp]
            cases v r0 k <;> rfl
theorem greatest_of {α : Type} (m : α → Nat) : ∀ l : List α, l ≠ [] → ∃ x ∈ l, ∀ y ∈ l, m y ≤ m x
  | [], h => absurd rfl h
  | [a], _ => ⟨a, List.mem_cons_self, fun y hy => by rw [List.mem_singleton.1 hy]; exact Nat.le_refl _⟩
  | a :: b :: l, _ => by
    obtain ⟨x, hx, h⟩ := greatest_of m (b :: l) (by simp)
    by_cases hle : m x ≤ m a
    · refine ⟨a, List.mem_cons_self, fun y hy => ?_⟩
      rcases List.mem_cons.1 hy with rfl | hy
      · exact Nat.le_refl _
      · exact Nat.le_trans (h y hy) hle
    · refine ⟨x, List.mem_cons_of_mem _ hx, fun y hy => ?_⟩
      rcases List.mem_cons.1 hy with rfl | hy
      · omega
      · exact h y hy
end Go.Proofs.YtadkaplafaeebaaGreatDoor
/-
  Points, edges and faces: mathematics.
-/
set_option linter.unusedVariables false
set_option linter.unusedSimpArgs false
set_option maxRecDepth 100000
namespace Go.Proofs.YtadkaplafaeebaaGreatDoor
open Go Go.RowKit

def od (x : Int) : Nat := (x % 2).toNat
/-- How many coordinates of a point are odd: the extent of what it stands for. -/
def dm (p : I3) : Nat := od p.1 + od p.2.1 + od p.2.2
/-- Whether two points are neighbours. -/
def fc (p q : I3) : Bool := decide ((p.1 - q.1).natAbs + (p.2.1 - q.2.1).natAbs + (p.2.2 - q.2.2).natAbs = 1)
theorem fc_iff {p q : I3} : fc p q = true ↔ (p.1 - q.1).natAbs + (p.2.1 - q.2.1).natAbs + (p.2.2 - q.2.2).natAbs = 1 := decide_eq_true_iff
theorem fc_swap (p q : I3) : fc p q = fc q p := decide_eq_decide.2 (by omega)
/-- The six neighbours of a point. -/
def six (v : I3) : List I3 := [(v.1 - 1, v.2.1, v.2.2), (v.1 + 1, v.2.1, v.2.2), (v.1, v.2.1 - 1, v.2.2), (v.1, v.2.1 + 1, v.2.2), (v.1, v.2.1, v.2.2 - 1), (v.1, v.2.1, v.2.2 + 1)]
theorem mem_six {v e : I3} (h : fc v e = true) : e ∈ six v := by
  obtain ⟨x, y, z⟩ := v
  obtain ⟨a, b, c⟩ := e
  rw [fc_iff] at h
  simp only at h
  have key : ((x - a).natAbs = 1 ∧ b = y ∧ c = z) ∨ ((y - b).natAbs = 1 ∧ a = x ∧ c = z) ∨ ((z - c).natAbs = 1 ∧ a = x ∧ b = y) := by omega
  have two : ∀ p q : Int, (p - q).natAbs = 1 → q = p - 1 ∨ q = p + 1 := fun p q h => by omega
  unfold six
  simp only [List.mem_cons, List.not_mem_nil, or_false, Prod.mk.injEq]
  rcases key with ⟨k, rfl, rfl⟩ | ⟨k, rfl, rfl⟩ | ⟨k, rfl, rfl⟩
  · rcases two _ _ k with h | h
    · exact .inl ⟨h, rfl, rfl⟩
    · exact .inr (.inl ⟨h, rfl, rfl⟩)
  · rcases two _ _ k with h | h
    · exact .inr (.inr (.inl ⟨rfl, h, rfl⟩))
    · exact .inr (.inr (.inr (.inl ⟨rfl, h, rfl⟩)))
  · rcases two _ _ k with h | h
    · exact .inr (.inr (.inr (.inr (.inl ⟨rfl, rfl, h⟩))))
    · exact .inr (.inr (.inr (.inr (.inr ⟨rfl, rfl, h⟩))))
theorem six_nodup (v : I3) : (six v).Nodup := by
  unfold six
  simp only [List.nodup_cons, List.mem_cons, List.not_mem_nil, or_false, Prod.mk.injEq, not_or, not_false_iff, List.nodup_nil, and_true]
  omega
theorem six_fc {v e : I3} (h : e ∈ six v) : fc v e = true := by
  unfold six at h
  rw [fc_iff]
  simp only [List.mem_cons, List.not_mem_nil, or_false] at h
  rcases h with rfl | rfl | rfl | rfl | rfl | rfl <;> simp only <;> omega
theorem pair_xor {p q : Prop} [Decidable p] [Decidable q] (h : ¬ (p ∧ q)) : xor (decide p) (decide q) = decide (p ∨ q) := by
  by_cases hp : p <;> by_cases hq : q <;> simp_all
/-- A face has none or two of the edges at a corner. -/
theorem face_corner {z v : I3} (hz : dm z = 2) (hv : dm v = 0) : par (fun e => fc z e) (six v) = false := by
  obtain ⟨x, y, h⟩ := z
  obtain ⟨a, b, c⟩ := v
  unfold dm od at hz hv
  simp only at hz hv
  unfold six
  simp only [par_cons]
  rw [show par (fun e => fc (x, y, h) e) [] = false from rfl]
  have e1 : xor (fc (x, y, h) (a - 1, b, c)) (fc (x, y, h) (a + 1, b, c)) = decide ((x - a).natAbs = 1 ∧ (y - b).natAbs + (h - c).natAbs = 1) := by
    unfold fc
    rw [pair_xor (by simp only; omega)]
    exact decide_eq_decide.2 (by simp only; omega)
  have e2 : xor (fc (x, y, h) (a, b - 1, c)) (fc (x, y, h) (a, b + 1, c)) = decide ((y - b).natAbs = 1 ∧ (x - a).natAbs + (h - c).natAbs = 1) := by
    unfold fc
    rw [pair_xor (by simp only; omega)]
    exact decide_eq_decide.2 (by simp only; omega)
  have e3 : xor (fc (x, y, h) (a, b, c - 1)) (fc (x, y, h) (a, b, c + 1)) = decide ((h - c).natAbs = 1 ∧ (x - a).natAbs + (y - b).natAbs = 1) := by
    unfold fc
    rw [pair_xor (by simp only; omega)]
    exact decide_eq_decide.2 (by simp only; omega)
  have tot : xor (decide ((x - a).natAbs = 1 ∧ (y - b).natAbs + (h - c).natAbs = 1)) (xor (decide ((y - b).natAbs = 1 ∧ (x - a).natAbs + (h - c).natAbs = 1)) (decide ((h - c).natAbs = 1 ∧ (x - a).natAbs + (y - b).natAbs = 1))) = false := by
    by_cases p1 : (x - a).natAbs = 1 <;> by_cases p2 : (y - b).natAbs = 1 <;> by_cases p3 : (h - c).natAbs = 1 <;> by_cases q1 : (x - a).natAbs = 0 <;> by_cases q2 : (y - b).natAbs = 0 <;> by_cases q3 : (h - c).natAbs = 0 <;> simp [p1, p2, p3, q1, q2, q3] <;> omega
  rw [← e1, ← e2, ← e3, Bool.xor_assoc, Bool.xor_assoc] at tot
  rw [Bool.xor_false]
  exact tot
end Go.Proofs.YtadkaplafaeebaaGreatDoor
/-
  Faces that have each edge an even number of times bound cells: mathematics.
-/
set_option linter.unusedVariables false
set_option linter.unusedSimpArgs false
set_option maxRecDepth 100000
namespace Go.Proofs.YtadkaplafaeebaaGreatDoor
open Go Go.RowKit

/-- How often an edge is of the faces of a list, but for even numbers. -/
def edg (Z : List I3) (e : I3) : Bool := par (fun z => fc z e) Z
def inZ (Z : List I3) (q : I3) : Bool := par (fun z => decide (z = q)) Z
theorem inZ_is {Z : List I3} (hn : Z.Nodup) (q : I3) : inZ Z q = decide (q ∈ Z) := by
  unfold inZ
  by_cases h : q ∈ Z
  · rw [par_one hn (fun a _ hne => decide_eq_false hne) h, decide_eq_true rfl, decide_eq_true h]
  · rw [decide_eq_false h]
    exact par_false fun a ha => decide_eq_false fun e => h (by rw [← e]; exact ha)
/-- How many faces of a list lie above a cell, but for even numbers. -/
def abv (Z : List I3) (p : I3) : Bool := par (fun z => decide (z.1 = p.1 ∧ z.2.1 = p.2.1 ∧ p.2.2 < z.2.2)) Z
theorem par_congr {α : Type} {g h : α → Bool} {l : List α} (e : ∀ a ∈ l, g a = h a) : par g l = par h l := by
  induction l with
  | nil => rfl
  | cons a l ih => rw [par_cons, par_cons, e a List.mem_cons_self, ih fun b hb => e b (List.mem_cons_of_mem _ hb)]
/-- Above a cell there lies what lies above the one two higher, and what lies between. -/
theorem abv_up {Z : List I3} (h2 : ∀ z ∈ Z, dm z = 2) {x y h : Int} (hx : od x = 1) (hy : od y = 1) (hh : od h = 1) : abv Z (x, y, h) = xor (inZ Z (x, y, h + 1)) (abv Z (x, y, h + 2)) := by
  unfold abv inZ
  rw [← par_xor]
  refine par_congr fun z hz => ?_
  have hd := h2 z hz
  obtain ⟨a, b, c⟩ := z
  unfold dm at hd
  simp only at hd ⊢
  by_cases e : a = x ∧ b = y
  · obtain ⟨rfl, rfl⟩ := e
    have hc : od c = 0 := by omega
    unfold od at hc hh
    by_cases e1 : c = h + 1
    · subst e1
      simp only [true_and]
      rw [decide_eq_true (show h < h + 1 by omega), decide_eq_false (show ¬ h + 2 < h + 1 by omega)]
      rfl
    · rw [decide_eq_false (show ¬ ((a, b, c) : I3) = (a, b, h + 1) from fun e => e1 (by simpa using e)), Bool.false_xor]
      exact decide_eq_decide.2 (by simp only [true_and]; omega)
  · rw [decide_eq_false (show ¬ (a = x ∧ b = y ∧ h < c) from fun h => e ⟨h.1, h.2.1⟩), decide_eq_false (show ¬ (a = x ∧ b = y ∧ h + 2 < c) from fun h => e ⟨h.1, h.2.1⟩), decide_eq_false (show ¬ ((a, b, c) : I3) = (x, y, h + 1) from fun h => e (by simp only [Prod.mk.injEq] at h; exact ⟨h.1, h.2.1⟩))]
    rfl
theorem abv_top {Z : List I3} {t : Int} (ht : ∀ z ∈ Z, z.2.2 ≤ t) {p : I3} (hp : t ≤ p.2.2) : abv Z p = false :=
  par_false fun z hz => decide_eq_false fun h => by
    have := ht z hz
    omega
theorem inZ_top {Z : List I3} {t : Int} (ht : ∀ z ∈ Z, z.2.2 ≤ t) {p : I3} (hp : t < p.2.2) : inZ Z p = false :=
  par_false fun z hz => decide_eq_false fun h => by
    have := ht z hz
    rw [h] at this
    omega
/-- The faces of a list at an edge. -/
theorem edg_x {Z : List I3} (h2 : ∀ z ∈ Z, dm z = 2) {x y h : Int} (hx : od x = 0) (hy : od y = 1) (hh : od h = 0) :
    edg Z (x, y, h) = xor (xor (inZ Z (x - 1, y, h)) (inZ Z (x + 1, y, h))) (xor (inZ Z (x, y, h - 1)) (inZ Z (x, y, h + 1))) := by
  unfold edg inZ
  rw [← par_xor, ← par_xor, ← par_xor]
  refine par_congr fun z hz => ?_
  have hd := h2 z hz
  obtain ⟨a, b, c⟩ := z
  unfold dm od at hd
  unfold od at hx hy hh
  simp only at hd
  simp only [Prod.mk.injEq]
  rw [pair_xor (by omega), pair_xor (by omega), pair_xor (by omega)]
  unfold fc
  refine decide_eq_decide.2 ?_
  simp only
  constructor
  · intro hn
    have hb : b = y := by omega
    omega
  · intro hn
    omega
theorem edg_y {Z : List I3} (h2 : ∀ z ∈ Z, dm z = 2) {x y h : Int} (hx : od x = 1) (hy : od y = 0) (hh : od h = 0) :
    edg Z (x, y, h) = xor (xor (inZ Z (x, y - 1, h)) (inZ Z (x, y + 1, h))) (xor (inZ Z (x, y, h - 1)) (inZ Z (x, y, h + 1))) := by
  unfold edg inZ
  rw [← par_xor, ← par_xor, ← par_xor]
  refine par_congr fun z hz => ?_
  have hd := h2 z hz
  obtain ⟨a, b, c⟩ := z
  unfold dm od at hd
  unfold od at hx hy hh
  simp only at hd
  simp only [Prod.mk.injEq]
  rw [pair_xor (by omega), pair_xor (by omega), pair_xor (by omega)]
  unfold fc
  refine decide_eq_decide.2 ?_
  simp only
  constructor
  · intro hn
    have hb : a = x := by omega
    omega
  · intro hn
    omega
/-- Of a list of faces that have each edge an even number of times: a face is one of them just if the cells on its sides differ. -/
theorem side_z {Z : List I3} (h2 : ∀ z ∈ Z, dm z = 2) {x y h : Int} (hx : od x = 1) (hy : od y = 1) (hh : od h = 0) : inZ Z (x, y, h) = xor (abv Z (x, y, h - 1)) (abv Z (x, y, h + 1)) := by
  have hh' : od (h - 1) = 1 := by unfold od at *; omega
  rw [abv_up h2 hx hy hh', show h - 1 + 1 = h by omega, show h - 1 + 2 = h + 1 by omega]
  cases inZ Z (x, y, h) <;> cases abv Z (x, y, h + 1) <;> rfl
theorem side_x {Z : List I3} (h2 : ∀ z ∈ Z, dm z = 2) (he : ∀ e, dm e = 1 → edg Z e = false) {t : Int} (ht : ∀ z ∈ Z, z.2.2 ≤ t) {x y : Int} (hx : od x = 0) (hy : od y = 1) :
    ∀ (n : Nat) (h : Int), od h = 1 → t < h + 2 * n → inZ Z (x, y, h) = xor (abv Z (x - 1, y, h)) (abv Z (x + 1, y, h))
  | 0, h, hh, hn => by
    rw [inZ_top ht (show t < h by omega), abv_top ht (show t ≤ h by omega), abv_top ht (show t ≤ h by omega)]
    rfl
  | n + 1, h, hh, hn => by
    have hh2 : od (h + 2) = 1 := by unfold od at *; omega
    have hh1 : od (h + 1) = 0 := by unfold od at *; omega
    have x1 : od (x - 1) = 1 := by unfold od at *; omega
    have x2 : od (x + 1) = 1 := by unfold od at *; omega
    have ih := side_x h2 he ht hx hy n (h + 2) hh2 (by omega)
    have k := he (x, y, h + 1) (by unfold dm; simp only; omega)
    rw [edg_x h2 hx hy hh1, show h + 1 - 1 = h by omega, show h + 1 + 1 = h + 2 by omega, ih] at k
    rw [abv_up h2 x1 hy hh, abv_up h2 x2 hy hh]
    revert k
    cases inZ Z (x, y, h) <;> cases inZ Z (x - 1, y, h + 1) <;> cases inZ Z (x + 1, y, h + 1) <;> cases abv Z (x - 1, y, h + 2) <;> cases abv Z (x + 1, y, h + 2) <;> decide
theorem side_y {Z : List I3} (h2 : ∀ z ∈ Z, dm z = 2) (he : ∀ e, dm e = 1 → edg Z e = false) {t : Int} (ht : ∀ z ∈ Z, z.2.2 ≤ t) {x y : Int} (hx : od x = 1) (hy : od y = 0) :
    ∀ (n : Nat) (h : Int), od h = 1 → t < h + 2 * n → inZ Z (x, y, h) = xor (abv Z (x, y - 1, h)) (abv Z (x, y + 1, h))
  | 0, h, hh, hn => by
    rw [inZ_top ht (show t < h by omega), abv_top ht (show t ≤ h by omega), abv_top ht (show t ≤ h by omega)]
    rfl
  | n + 1, h, hh, hn => by
    have hh2 : od (h + 2) = 1 := by unfold od at *; omega
    have hh1 : od (h + 1) = 0 := by unfold od at *; omega
    have x1 : od (y - 1) = 1 := by unfold od at *; omega
    have x2 : od (y + 1) = 1 := by unfold od at *; omega
    have ih := side_y h2 he ht hx hy n (h + 2) hh2 (by omega)
    have k := he (x, y, h + 1) (by unfold dm; simp only; omega)
    rw [edg_y h2 hx hy hh1, show h + 1 - 1 = h by omega, show h + 1 + 1 = h + 2 by omega, ih] at k
    rw [abv_up h2 hx x1 hh, abv_up h2 hx x2 hh]
    revert k
    cases inZ Z (x, y, h) <;> cases inZ Z (x, y - 1, h + 1) <;> cases inZ Z (x, y + 1, h + 1) <;> cases abv Z (x, y - 1, h + 2) <;> cases abv Z (x, y + 1, h + 2) <;> decide
end Go.Proofs.YtadkaplafaeebaaGreatDoor
/-
  Trees of edges that reach all corners of a solid: mathematics.
-/
set_option linter.unusedVariables false
set_option linter.unusedSimpArgs false
set_option maxRecDepth 100000
namespace Go.Proofs.YtadkaplafaeebaaGreatDoor
open Go Go.RowKit

theorem edge_end {e u : I3} (he : dm e = 1) (hu : dm u = 0) (h : fc e u = true) :
    (od e.1 = 1 ∧ (u.1 = e.1 - 1 ∨ u.1 = e.1 + 1) ∧ u.2.1 = e.2.1 ∧ u.2.2 = e.2.2) ∨ (od e.2.1 = 1 ∧ u.1 = e.1 ∧ (u.2.1 = e.2.1 - 1 ∨ u.2.1 = e.2.1 + 1) ∧ u.2.2 = e.2.2) ∨ (od e.2.2 = 1 ∧ u.1 = e.1 ∧ u.2.1 = e.2.1 ∧ (u.2.2 = e.2.2 - 1 ∨ u.2.2 = e.2.2 + 1)) := by
  have h6 := mem_six h
  obtain ⟨a, b, c⟩ := e
  obtain ⟨x, y, z⟩ := u
  unfold six at h6
  unfold dm od at *
  simp only [List.mem_cons, List.not_mem_nil, or_false, Prod.mk.injEq] at *
  rcases h6 with ⟨rfl, rfl, rfl⟩ | ⟨rfl, rfl, rfl⟩ | ⟨rfl, rfl, rfl⟩ | ⟨rfl, rfl, rfl⟩ | ⟨rfl, rfl, rfl⟩ | ⟨rfl, rfl, rfl⟩ <;> omega
theorem edge_ends {e u v x : I3} (he : dm e = 1) (hu : dm u = 0) (hv : dm v = 0) (hx : dm x = 0) (h1 : fc e u = true) (h2 : fc e v = true) (h3 : fc e x = true) (hne : u ≠ v) : x = u ∨ x = v := by
  have k1 := edge_end he hu h1
  have k2 := edge_end he hv h2
  have k3 := edge_end he hx h3
  obtain ⟨a, b, c⟩ := e
  obtain ⟨u1, u2, u3⟩ := u
  obtain ⟨v1, v2, v3⟩ := v
  obtain ⟨x1, x2, x3⟩ := x
  unfold dm at he
  simp only at k1 k2 k3 he
  generalize od a = oa at *
  generalize od b = ob at *
  generalize od c = oc at *
  clear h1 h2 h3 hu hv hx
  have hne' : ¬ (u1 = v1 ∧ u2 = v2 ∧ u3 = v3) := fun ⟨p, q, r⟩ => hne (by rw [p, q, r])
  clear hne
  rw [Prod.mk.injEq, Prod.mk.injEq, Prod.mk.injEq, Prod.mk.injEq]
  rcases k1 with ⟨o1, p1, q1, r1⟩ | ⟨o1, p1, q1, r1⟩ | ⟨o1, p1, q1, r1⟩ <;> rcases k2 with ⟨o2, p2, q2, r2⟩ | ⟨o2, p2, q2, r2⟩ | ⟨o2, p2, q2, r2⟩ <;> rcases k3 with ⟨o3, p3, q3, r3⟩ | ⟨o3, p3, q3, r3⟩ | ⟨o3, p3, q3, r3⟩
  all_goals first | (exfalso; clear p1 p2 p3 q1 q2 q3 r1 r2 r3 hne'; omega) | skip
  · subst q1 r1 q2 r2 q3 r3
    rcases p1 with rfl | rfl <;> rcases p2 with rfl | rfl <;> rcases p3 with rfl | rfl <;> simp_all
  · subst p1 r1 p2 r2 p3 r3
    rcases q1 with rfl | rfl <;> rcases q2 with rfl | rfl <;> rcases q3 with rfl | rfl <;> simp_all
  · subst p1 q1 p2 q2 p3 q3
    rcases r1 with rfl | rfl <;> rcases r2 with rfl | rfl <;> rcases r3 with rfl | rfl <;> simp_all
/-- Corners that are reached one after the other, each by an edge of its own. -/
inductive Fo (K : I3 → Prop) (S0 : List I3) : List I3 → List I3 → Prop
  | base : Fo K S0 S0 []
  | grow {S T : List I3} {u v e : I3} : Fo K S0 S T → v ∉ S → u ∈ S → dm v = 0 → dm u = 0 → K e → dm e = 1 → fc e u = true → fc e v = true → Fo K S0 (v :: S) (e :: T)
theorem fo_len {K : I3 → Prop} {S0 S T : List I3} (h : Fo K S0 S T) : S.length = S0.length + T.length := by
  induction h with
  | base => rfl
  | grow _ _ _ _ _ _ _ _ _ ih => simp only [List.length_cons, ih]; omega
theorem fo_edge {K : I3 → Prop} {S0 S T : List I3} (h : Fo K S0 S T) : ∀ e ∈ T, K e ∧ dm e = 1 := by
  induction h with
  | base => intro e he; cases he
  | grow _ _ _ _ _ hk hd _ _ ih =>
    intro e he
    rcases List.mem_cons.1 he with rfl | he
    · exact ⟨hk, hd⟩
    · exact ih e he
theorem fo_ends {K : I3 → Prop} {S0 S T : List I3} (h : Fo K S0 S T) : ∀ e ∈ T, ∀ x, dm x = 0 → fc e x = true → x ∈ S := by
  induction h with
  | base => intro e he; cases he
  | grow hf hv hu dv du hk hd h1 h2 ih =>
    intro e he x hx h3
    rcases List.mem_cons.1 he with rfl | he
    · rcases edge_ends hd du dv hx h1 h2 h3 (fun e => hv (by rw [← e]; exact hu)) with rfl | rfl
      · exact List.mem_cons_of_mem _ hu
      · exact List.mem_cons_self
    · exact List.mem_cons_of_mem _ (ih e he x hx h3)
theorem fo_nodup {K : I3 → Prop} {S0 S T : List I3} (h : Fo K S0 S T) (h0 : S0.Nodup) : S.Nodup ∧ T.Nodup := by
  induction h with
  | base => exact ⟨h0, List.nodup_nil⟩
  | grow hf hv hu dv du hk hd h1 h2 ih => exact ⟨List.nodup_cons.2 ⟨hv, ih.1⟩, List.nodup_cons.2 ⟨fun he => hv (fo_ends hf _ he _ dv h2), ih.2⟩⟩
theorem fo_acyc {K : I3 → Prop} {S0 S T : List I3} (h : Fo K S0 S T) : ∀ Z : List I3, Z.Nodup → (∀ z ∈ Z, z ∈ T) → Z ≠ [] → ∃ v, dm v = 0 ∧ par (fun e => fc e v) Z = true := by
  induction h with
  | base =>
    intro Z _ hs hn
    cases Z with
    | nil => exact absurd rfl hn
    | cons z Z => cases hs z List.mem_cons_self
  | @grow S T u v e hf hv hu dv du hk hd h1 h2 ih =>
    intro Z hz hs hn
    by_cases he : e ∈ Z
    · refine ⟨v, dv, ?_⟩
      rw [par_one (g := fun e => fc e v) hz (x := e) (fun a ha hne => ?_) he]
      · exact h2
      · have hT : a ∈ T := (List.mem_cons.1 (hs a ha)).resolve_left hne
        cases hc : fc a v with
        | false => rfl
        | true => exact absurd (fo_ends hf a hT v dv hc) hv
    · exact ih Z hz (fun z hZ => (List.mem_cons.1 (hs z hZ)).resolve_left fun e' => he (by rw [← e']; exact hZ)) hn
theorem fo_all (K : I3 → Prop) (V S0 : List I3) (hE : ∀ e v, K e → dm e = 1 → dm v = 0 → fc e v = true → v ∈ V)
    (hc : ∀ S : List I3, (∀ r ∈ S0, r ∈ S) → (∀ e u v, K e → dm e = 1 → u ∈ S → dm u = 0 → dm v = 0 → fc e u = true → fc e v = true → v ∈ S) → ∀ v ∈ V, v ∈ S) : ∃ S T, Fo K S0 S T ∧ ∀ v ∈ V, v ∈ S := by
  have key : ∀ (n : Nat) (S T : List I3), Fo K S0 S T → (∀ r ∈ S0, r ∈ S) → (V.filter fun v => decide (v ∉ S)).length ≤ n → ∃ S T, Fo K S0 S T ∧ ∀ v ∈ V, v ∈ S := fun n => by
    induction n with
    | zero =>
      intro S T h _ hn
      refine ⟨S, T, h, fun v hv => ?_⟩
      have h0 := List.eq_nil_of_length_eq_zero (Nat.le_zero.1 hn)
      refine Classical.byContradiction fun hvs => ?_
      have : v ∈ V.filter fun v => decide (v ∉ S) := List.mem_filter.2 ⟨hv, decide_eq_true hvs⟩
      rw [h0] at this
      cases this
    | succ n ih =>
      intro S T h hr hn
      by_cases hcl : ∀ e u v, K e → dm e = 1 → u ∈ S → dm u = 0 → dm v = 0 → fc e u = true → fc e v = true → v ∈ S
      · exact ⟨S, T, h, hc S hr hcl⟩
      · have : ∃ e u v, K e ∧ dm e = 1 ∧ u ∈ S ∧ dm u = 0 ∧ dm v = 0 ∧ fc e u = true ∧ fc e v = true ∧ v ∉ S := Classical.byContradiction fun hno => hcl fun e u v a1 a2 a3 a4 a5 a6 a7 => Classical.byContradiction fun hv => hno ⟨e, u, v, a1, a2, a3, a4, a5, a6, a7, hv⟩
        obtain ⟨e, u, v, a1, a2, a3, a4, a5, a6, a7, hv⟩ := this
        refine ih (v :: S) (e :: T) (.grow h hv a3 a5 a4 a1 a2 a6 a7) (fun r h' => List.mem_cons_of_mem _ (hr r h')) ?_
        have hvV := hE e v a1 a2 a5 a7
        have lt : (V.filter fun x => decide (x ∉ v :: S)).length < (V.filter fun x => decide (x ∉ S)).length := by
          rw [← List.countP_eq_length_filter, ← List.countP_eq_length_filter]
          obtain ⟨s, t, rfl⟩ := List.append_of_mem hvV
          rw [List.countP_append, List.countP_append, List.countP_cons, List.countP_cons]
          have m1 : ∀ l : List I3, l.countP (fun x => decide (x ∉ v :: S)) ≤ l.countP fun x => decide (x ∉ S) := fun l => List.countP_mono_left fun x _ hx => by
            have := of_decide_eq_true hx
            exact decide_eq_true fun h' => this (List.mem_cons_of_mem _ h')
          have q1 := m1 s
          have q2 := m1 t
          have b1 : decide (v ∉ v :: S) = false := decide_eq_false fun h' => h' List.mem_cons_self
          have b2 : decide (v ∉ S) = true := decide_eq_true hv
          rw [b1, b2, if_neg Bool.false_ne_true, if_pos rfl]
          omega
        omega
  exact key _ S0 [] .base (fun r h => h) (Nat.le_refl _)
theorem flip1 {K : I3 → Prop} {S : List I3} (hcl : ∀ e u v, K e → dm e = 1 → u ∈ S → dm u = 0 → dm v = 0 → fc e u = true → fc e v = true → v ∈ S) {x y z a b c a' b' c' : Int} (hK : ∀ q, q ∈ touchL (2 * x + 1, 2 * y + 1, 2 * z + 1) → K q)
    (ha : a = 2 * x ∨ a = 2 * x + 2) (hb : b = 2 * y ∨ b = 2 * y + 2) (hc : c = 2 * z ∨ c = 2 * z + 2) (ha' : a' = 2 * x ∨ a' = 2 * x + 2) (hb' : b' = 2 * y ∨ b' = 2 * y + 2) (hc' : c' = 2 * z ∨ c' = 2 * z + 2) (h : (a, b, c) ∈ S) : (a', b', c') ∈ S := by
  have h1 : (a', b, c) ∈ S := by
    by_cases e : a = a'
    · rw [← e]; exact h
    · refine hcl (2 * x + 1, b, c) (a, b, c) (a', b, c) (hK _ ?_) ?_ h ?_ ?_ ?_ ?_
      · rw [mem_touch]; simp only; omega
      · unfold dm od; simp only; omega
      · unfold dm od; simp only; omega
      · unfold dm od; simp only; omega
      · rw [fc_iff]; simp only; omega
      · rw [fc_iff]; simp only; omega
  have h2 : (a', b', c) ∈ S := by
    by_cases e : b = b'
    · rw [← e]; exact h1
    · refine hcl (a', 2 * y + 1, c) (a', b, c) (a', b', c) (hK _ ?_) ?_ h1 ?_ ?_ ?_ ?_
      · rw [mem_touch]; simp only; omega
      · unfold dm od; simp only; omega
      · unfold dm od; simp only; omega
      · unfold dm od; simp only; omega
      · rw [fc_iff]; simp only; omega
      · rw [fc_iff]; simp only; omega
  by_cases e : c = c'
  · rw [← e]; exact h2
  · refine hcl (a', b', 2 * z + 1) (a', b', c) (a', b', c') (hK _ ?_) ?_ h2 ?_ ?_ ?_ ?_
    · rw [mem_touch]; simp only; omega
    · unfold dm od; simp only; omega
    · unfold dm od; simp only; omega
    · unfold dm od; simp only; omega
    · rw [fc_iff]; simp only; omega
    · rw [fc_iff]; simp only; omega
theorem corner_of {p w : I3} (h : w ∈ touchL (dblI p)) (h0 : dm w = 0) : (w.1 = 2 * p.1 ∨ w.1 = 2 * p.1 + 2) ∧ (w.2.1 = 2 * p.2.1 ∨ w.2.1 = 2 * p.2.1 + 2) ∧ (w.2.2 = 2 * p.2.2 ∨ w.2.2 = 2 * p.2.2 + 2) := by
  rw [mem_touch] at h
  unfold dblI at h
  unfold dm od at h0
  simp only at h
  omega
def rootI (p : I3) : I3 := (2 * p.1, 2 * p.2.1, 2 * p.2.2)
def rootG (g : Sol) : I3 := match cellsL g with
  | [] => (0, 0, 0)
  | c :: _ => rootI (toI c)
theorem rootG_at {g : Sol} {c : I3} (h : hasI g c = true) : ∃ p, hasI g p = true ∧ rootG g = rootI p := by
  obtain ⟨d, hd, _⟩ := cl_of' h
  unfold rootG
  cases he : cellsL g with
  | nil => rw [he] at hd; cases hd
  | cons a l => exact ⟨toI a, (mem_cellI g a).1 (by rw [he]; exact List.mem_cons_self), rfl⟩
theorem isP_iffI {f : Sol} {q : I3} : isP f q = true ↔ ∃ p, hasI f p = true ∧ q ∈ touchL (dblI p) := by
  rw [isP_iff]
  constructor
  · rintro ⟨c, hc, hq⟩
    exact ⟨toI c, (mem_cellI f c).1 hc, hq⟩
  · rintro ⟨p, hp, hq⟩
    obtain ⟨c, hc, rfl⟩ := cl_of' hp
    exact ⟨c, hc, hq⟩
/-- A tree in each part: as many edges as corners, but for one of each part. -/
theorem forest {f : Sol} (hf : Fit f) (V : List I3) (hV : ∀ v, v ∈ V ↔ dm v = 0 ∧ isP f v = true) : ∃ S T, Fo (fun q => isP f q = true) ((partsF f).map rootG) S T ∧ (∀ v ∈ V, v ∈ S) ∧ S.Nodup := by
  have HF : IsCls touchL f f (partsF f) := cls_all touch_symm hf
  have hE : ∀ e v, isP f e = true → dm e = 1 → dm v = 0 → fc e v = true → v ∈ V := fun e v he h1 h0 hc => by
    refine (hV v).2 ⟨h0, isP_iffI.2 ?_⟩
    obtain ⟨p, hp, hq⟩ := isP_iffI.1 he
    refine ⟨p, hp, ?_⟩
    have h6 := edge_end h1 h0 hc
    rw [mem_touch] at *
    unfold dblI at *
    unfold dm od at *
    simp only at *
    omega
  obtain ⟨S, T, h1, h2⟩ := fo_all (fun q => isP f q = true) V ((partsF f).map rootG) hE (fun S hr hcl v hv => by
    obtain ⟨h0, hp⟩ := (hV v).1 hv
    obtain ⟨d, hd, hq⟩ := isP_iffI.1 hp
    obtain ⟨g, hg, hgd⟩ := HF.all d hd
    obtain ⟨c, hc, e⟩ := rootG_at hgd
    have hroot : rootI c ∈ S := by rw [← e]; exact hr _ (List.mem_map_of_mem hg)
    have hreach := IsCls.joined touch_symm HF hg hc hgd
    have hK : ∀ p, hasI g p = true → ∀ q, q ∈ touchL (2 * p.1 + 1, 2 * p.2.1 + 1, 2 * p.2.2 + 1) → isP f q = true := fun p hp q hq => isP_iffI.2 ⟨p, IsCls.sub HF hg hp, hq⟩
    have all : ∀ u x, Reach touchL g u x → (∃ w ∈ S, dm w = 0 ∧ w ∈ touchL (dblI u)) → ∀ w, dm w = 0 → w ∈ touchL (dblI x) → w ∈ S := fun u x hr => by
      induction hr with
      | @here u hu =>
        rintro ⟨w, hw, w0, wt⟩ w' w0' wt'
        have k := corner_of wt w0
        have k' := corner_of wt' w0'
        exact flip1 hcl (hK u hu) k.1 k.2.1 k.2.2 k'.1 k'.2.1 k'.2.2 hw
      | @on u y x hu hy _ ih =>
        rintro ⟨w, hw, w0, wt⟩
        refine ih ⟨(2 * max u.1 y.1, 2 * max u.2.1 y.2.1, 2 * max u.2.2 y.2.2), ?_, ?_, ?_⟩
        · have k := corner_of wt w0
          rw [mem_touch] at hy
          exact flip1 hcl (hK u hu) k.1 k.2.1 k.2.2 (by omega) (by omega) (by omega) hw
        · unfold dm od; simp only; omega
        · rw [mem_touch] at *
          unfold dblI
          simp only
          omega
    refine all c d hreach ⟨rootI c, hroot, ?_, ?_⟩ v h0 hq
    · unfold dm od rootI; simp only; omega
    · rw [mem_touch]; unfold dblI rootI; simp only; omega)
  refine ⟨S, T, h1, h2, (fo_nodup h1 ?_).1⟩
  refine List.pairwise_map.2 ((touch_apart HF).imp_of_mem fun {g h} hg hh hap e => ?_)
  obtain ⟨cg, hcg⟩ := IsCls.some HF hg
  obtain ⟨ch, hch⟩ := IsCls.some HF hh
  obtain ⟨p, hp, e1⟩ := rootG_at hcg
  obtain ⟨q, hq, e2⟩ := rootG_at hch
  have := e1.symm.trans (e.trans e2)
  refine hap p q hp hq ?_
  rw [mem_touch]
  unfold rootI at this
  simp only [Prod.mk.injEq] at this
  omega
end Go.Proofs.YtadkaplafaeebaaGreatDoor
/-
  A surface without an edge that has no top face is empty: mathematics.
-/
set_option linter.unusedVariables false
set_option linter.unusedSimpArgs false
set_option maxRecDepth 100000
namespace Go.Proofs.YtadkaplafaeebaaGreatDoor
open Go Go.RowKit

theorem dm_dbl (p : I3) : dm (dblI p) = 3 := by unfold dm od dblI; simp only; omega
def upT (p : I3) : I3 := (2 * p.1 + 1, 2 * p.2.1 + 1, 2 * p.2.2 + 2)
theorem abv_dbl_up {Z : List I3} (h2 : ∀ z ∈ Z, dm z = 2) (p : I3) (hz : upT p ∉ Z) (hn : Z.Nodup) : abv Z (dblI p) = abv Z (dblI (p.1, p.2.1, p.2.2 + 1)) := by
  have h := abv_up h2 (x := 2 * p.1 + 1) (y := 2 * p.2.1 + 1) (h := 2 * p.2.2 + 1) (by unfold od; omega) (by unfold od; omega) (by unfold od; omega)
  have e : inZ Z (2 * p.1 + 1, 2 * p.2.1 + 1, 2 * p.2.2 + 1 + 1) = false := by
    rw [inZ_is hn]
    exact decide_eq_false (by rw [show 2 * p.2.2 + 1 + 1 = 2 * p.2.2 + 2 by omega]; exact hz)
  rw [e] at h
  unfold dblI
  simp only
  rw [h, show 2 * p.2.2 + 1 + 2 = 2 * (p.2.2 + 1) + 1 by omega]
  cases abv Z (2 * p.1 + 1, 2 * p.2.1 + 1, 2 * (p.2.2 + 1) + 1) <;> rfl
/-- A surface that bounds: its faces part what lies above an odd number of them. -/
structure Surf (f : Sol) (Z : List I3) : Prop where
  nd : Z.Nodup
  two : ∀ z ∈ Z, dm z = 2
  isf : ∀ z ∈ Z, isP f z = true
  edg : ∀ e, dm e = 1 → edg Z e = false
theorem surf_top {f : Sol} {Z : List I3} (h : Surf f Z) : ∀ z ∈ Z, z.2.2 ≤ 16 := fun z hz => by
  obtain ⟨p, hp, hq⟩ := isP_iffI.1 (h.isf z hz)
  have h7 := has_in7 hp
  rw [mem_touch] at hq
  unfold In7 at h7
  unfold dblI at hq
  simp only at hq
  omega
theorem surf_side {f : Sol} {Z : List I3} (h : Surf f Z) {p q : I3} (hq : q ∈ facingL p) : inZ Z (p.1 + q.1 + 1, p.2.1 + q.2.1 + 1, p.2.2 + q.2.2 + 1) = xor (abv Z (dblI p)) (abv Z (dblI q)) := by
  have ht := surf_top h
  obtain ⟨x, y, z⟩ := p
  obtain ⟨a, b, c⟩ := q
  have big : ∀ v : Int, (16 : Int) < v + 2 * ((v.natAbs + 20 : Nat) : Int) := fun v => by omega
  rw [mem_face] at hq
  simp only at hq
  unfold dblI
  simp only
  rcases hq with ⟨rfl, rfl, rfl⟩ | ⟨rfl, rfl, rfl⟩ | ⟨rfl, rfl, rfl⟩ | ⟨rfl, rfl, rfl⟩ | ⟨rfl, rfl, rfl⟩ | ⟨rfl, rfl, rfl⟩
  · have k := side_x h.two h.edg ht (x := 2 * x) (y := 2 * b + 1) (by unfold od; omega) (by unfold od; omega) _ (2 * c + 1) (by unfold od; omega) (big _)
    rw [show x + (x + -1) + 1 = 2 * x by omega, show b + b + 1 = 2 * b + 1 by omega, show c + c + 1 = 2 * c + 1 by omega, k, show 2 * (x + -1) + 1 = 2 * x - 1 by omega, Bool.xor_comm]
  · have k := side_y h.two h.edg ht (x := 2 * a + 1) (y := 2 * y) (by unfold od; omega) (by unfold od; omega) _ (2 * c + 1) (by unfold od; omega) (big _)
    rw [show y + (y + -1) + 1 = 2 * y by omega, show a + a + 1 = 2 * a + 1 by omega, show c + c + 1 = 2 * c + 1 by omega, k, show 2 * (y + -1) + 1 = 2 * y - 1 by omega, Bool.xor_comm]
  · have k := side_z h.two (x := 2 * a + 1) (y := 2 * b + 1) (h := 2 * z) (by unfold od; omega) (by unfold od; omega) (by unfold od; omega)
    rw [show z + (z + -1) + 1 = 2 * z by omega, show a + a + 1 = 2 * a + 1 by omega, show b + b + 1 = 2 * b + 1 by omega, k, show 2 * (z + -1) + 1 = 2 * z - 1 by omega, Bool.xor_comm]
  · have k := side_x h.two h.edg ht (x := 2 * x + 2) (y := 2 * b + 1) (by unfold od; omega) (by unfold od; omega) _ (2 * c + 1) (by unfold od; omega) (big _)
    rw [show x + (x + 1) + 1 = 2 * x + 2 by omega, show b + b + 1 = 2 * b + 1 by omega, show c + c + 1 = 2 * c + 1 by omega, k, show 2 * (x + 1) + 1 = 2 * x + 2 + 1 by omega, show 2 * x + 1 = 2 * x + 2 - 1 by omega]
  · have k := side_y h.two h.edg ht (x := 2 * a + 1) (y := 2 * y + 2) (by unfold od; omega) (by unfold od; omega) _ (2 * c + 1) (by unfold od; omega) (big _)
    rw [show y + (y + 1) + 1 = 2 * y + 2 by omega, show a + a + 1 = 2 * a + 1 by omega, show c + c + 1 = 2 * c + 1 by omega, k, show 2 * (y + 1) + 1 = 2 * y + 2 + 1 by omega, show 2 * y + 1 = 2 * y + 2 - 1 by omega]
  · have k := side_z h.two (x := 2 * a + 1) (y := 2 * b + 1) (h := 2 * z + 2) (by unfold od; omega) (by unfold od; omega) (by unfold od; omega)
    rw [show z + (z + 1) + 1 = 2 * z + 2 by omega, show a + a + 1 = 2 * a + 1 by omega, show b + b + 1 = 2 * b + 1 by omega, k, show 2 * (z + 1) + 1 = 2 * z + 2 + 1 by omega, show 2 * z + 1 = 2 * z + 2 - 1 by omega]
/-- Between two places that a solid has not there is no face of it. -/
theorem surf_void {f : Sol} {Z : List I3} (h : Surf f Z) {p q : I3} (hp : hasI f p = false) (hq : hasI f q = false) (hf : q ∈ facingL p) : abv Z (dblI p) = abv Z (dblI q) := by
  have hs := surf_side h hf
  have hn : inZ Z (p.1 + q.1 + 1, p.2.1 + q.2.1 + 1, p.2.2 + q.2.2 + 1) = false := by
    rw [inZ_is h.nd]
    refine decide_eq_false fun hz => ?_
    obtain ⟨r, hr, ht⟩ := isP_iffI.1 (h.isf _ hz)
    have : r = p ∨ r = q := by
      rw [mem_touch] at ht
      rw [mem_face] at hf
      unfold dblI at ht
      obtain ⟨x, y, z⟩ := p
      obtain ⟨a, b, c⟩ := q
      obtain ⟨u, v, w⟩ := r
      simp only [Prod.mk.injEq] at *
      rcases hf with ⟨rfl, rfl, rfl⟩ | ⟨rfl, rfl, rfl⟩ | ⟨rfl, rfl, rfl⟩ | ⟨rfl, rfl, rfl⟩ | ⟨rfl, rfl, rfl⟩ | ⟨rfl, rfl, rfl⟩ <;> omega
    rcases this with rfl | rfl
    · rw [hp] at hr; cases hr
    · rw [hq] at hr; cases hr
  rw [hn] at hs
  generalize abv Z (dblI p) = a at *
  generalize abv Z (dblI q) = b at *
  clear hn h hp hq hf
  cases a <;> cases b <;> first | rfl | cases hs
theorem surf_reach {f : Sol} {Z : List I3} (h : Surf f Z) {p q : I3} (hr : ReachZ f p q) : abv Z (dblI p) = abv Z (dblI q) := by
  induction hr with
  | here _ => rfl
  | on h0 h1 h2 ih => exact (surf_void h h0 h2.first h1).trans ih
theorem surf_high {f : Sol} {Z : List I3} (h : Surf f Z) {p : I3} (hp : 8 ≤ p.2.2) : abv Z (dblI p) = false :=
  abv_top (surf_top h) (by unfold dblI; simp only; omega)
theorem surf_ray {f : Sol} {Z : List I3} (h : Surf f Z) (p e : I3) (he : e.1.natAbs + e.2.1.natAbs + e.2.2.natAbs = 1) (hr : ∀ k : Nat, hasI f (p.1 + k * e.1, p.2.1 + k * e.2.1, p.2.2 + k * e.2.2) = false) (k : Nat) : abv Z (dblI p) = abv Z (dblI (p.1 + k * e.1, p.2.1 + k * e.2.1, p.2.2 + k * e.2.2)) := by
  induction k with
  | zero => simp
  | succ k ih =>
    rw [ih]
    refine surf_void h (hr k) (hr (k + 1)) ?_
    rw [mem_fc]
    simp only
    have e1 : ∀ a b : Int, (a + (k : Int) * b) - (a + ((k + 1 : Nat) : Int) * b) = -b := fun a b => by
      rw [Int.natCast_add, Int.add_mul]
      omega
    rw [e1, e1, e1]
    omega
theorem surf_up {f : Sol} {Z : List I3} (h : Surf f Z) {p : I3} (hp : p.1 < 0 ∨ 7 < p.1 ∨ p.2.1 < 0 ∨ 7 < p.2.1 ∨ 7 < p.2.2) : abv Z (dblI p) = false := by
  rw [surf_ray h p (0, 0, 1) (by decide) (fun k => not_in7 (by simp only; omega)) (8 + p.2.2.natAbs)]
  exact surf_high h (by simp only; omega)
theorem surf_out {f : Sol} {Z : List I3} (h : Surf f Z) {p : I3} (hp : ¬ In7 p) : abv Z (dblI p) = false := by
  unfold In7 at hp
  by_cases hz : p.2.2 < 0
  · rw [surf_ray h p (1, 0, 0) (by decide) (fun k => not_in7 (by simp only; omega)) (8 + p.1.natAbs)]
    exact surf_up h (by simp only; omega)
  · exact surf_up h (by omega)
/-- The topmost cell of a solid. -/
theorem top_ex (a : Sol) : ∃ t : I3, ∀ c, hasI a c = true → hasI a t = true ∧ ∀ q, hasI a q = true → q.2.2 ≤ t.2.2 := by
  by_cases h : cellsL a = []
  · exact ⟨(0, 0, 0), fun c hc => by obtain ⟨d, hd, _⟩ := cl_of' hc; rw [h] at hd; cases hd⟩
  · obtain ⟨x, hx, hm⟩ := greatest_of (fun c : Cl => cZ c) _ h
    refine ⟨toI x, fun c hc => ⟨(mem_cellI a x).1 hx, fun q hq => ?_⟩⟩
    obtain ⟨d, hd, rfl⟩ := cl_of' hq
    have := hm d hd
    show ((cZ d : Nat) : Int) ≤ ((cZ x : Nat) : Int)
    omega
noncomputable def topC (a : Sol) : I3 := Classical.choose (top_ex a)
theorem topC_has {a : Sol} {c : I3} (h : hasI a c = true) : hasI a (topC a) = true ∧ ∀ q, hasI a q = true → q.2.2 ≤ (topC a).2.2 := Classical.choose_spec (top_ex a) c h
noncomputable def tops (f : Sol) : List I3 := (cellsL f).map (fun c => upT (toI c)) ++ (cavF f).map fun a => upT (topC a)
theorem surf_zero {f : Sol} (hf : Fit f) {Z : List I3} (h : Surf f Z) (ht : ∀ z ∈ Z, z ∉ tops f) : ∀ (k : Nat) (p : I3), 8 - p.2.2 ≤ k → abv Z (dblI p) = false := fun k => by
  induction k with
  | zero => exact fun p hp => surf_high h (by omega)
  | succ k ih =>
    intro p hp
    by_cases hh : hasI f p = true
    · rw [abv_dbl_up h.two p (fun hz => ht _ hz ?_) h.nd]
      · exact ih _ (by simp only; omega)
      · obtain ⟨c, hc, e⟩ := cl_of' hh
        exact List.mem_append_left _ (List.mem_map.2 ⟨c, hc, by rw [e]⟩)
    · have h0 : hasI f p = false := by simpa using hh
      by_cases h7 : In7 p
      · have hv : hasI (voidF f) p = true := by rw [has_void hf, h0, decide_eq_true h7]; rfl
        have HC := void_cls (f := f)
        obtain ⟨a, ha, hpa⟩ := HC.all p hv
        have hfa := (HC.each a ha).1
        have sub : ∀ x, hasI a x = true → hasI f x = false := fun x hx => by
          have := IsCls.sub HC ha hx
          rw [has_void hf, Bool.and_eq_true, Bool.not_eq_true'] at this
          exact this.2
        have toZ : ∀ u v, Reach facingL a u v → ReachZ f u v := fun u v hr => by
          induction hr with
          | here h0 => exact .here (sub _ h0)
          | on h0 h1 _ ih => exact .on (sub _ h0) h1 ih
        cases hw : withinF a with
        | true =>
          obtain ⟨t1, t2⟩ := topC_has hpa
          rw [surf_reach h (toZ _ _ (IsCls.joined face_symm HC ha hpa t1)), abv_dbl_up h.two (topC a) (fun hz => ht _ hz ?_) h.nd]
          · refine ih _ ?_
            have := t2 p hpa
            simp only
            omega
          · exact List.mem_append_right _ (List.mem_map.2 ⟨a, cav_mem.2 ⟨ha, hw⟩, rfl⟩)
        | false =>
          have hn : ¬ ∀ q, hasI a q = true → Inner q := fun hall => by
            rw [(within_iff hfa (some_ne hpa)).2 hall] at hw
            cases hw
          have : ∃ q, hasI a q = true ∧ ¬ Inner q := Classical.byContradiction fun hno => hn fun q hq => Classical.byContradiction fun hi => hno ⟨q, hq, hi⟩
          obtain ⟨q, hq, hi⟩ := this
          have hr := toZ _ _ (IsCls.joined face_symm HC ha hpa hq)
          have out : ∃ q', q' ∈ facingL q ∧ ¬ In7 q' := by
            have hq7 := has_in7 hq
            unfold Inner at hi
            unfold In7 at hq7
            rcases (show q.1 = 0 ∨ q.1 = 7 ∨ q.2.1 = 0 ∨ q.2.1 = 7 ∨ q.2.2 = 0 ∨ q.2.2 = 7 by omega) with e | e | e | e | e | e
            · exact ⟨(q.1 + -1, q.2.1, q.2.2), by rw [mem_face]; simp, by unfold In7; simp only; omega⟩
            · exact ⟨(q.1 + 1, q.2.1, q.2.2), by rw [mem_face]; simp, by unfold In7; simp only; omega⟩
            · exact ⟨(q.1, q.2.1 + -1, q.2.2), by rw [mem_face]; simp, by unfold In7; simp only; omega⟩
            · exact ⟨(q.1, q.2.1 + 1, q.2.2), by rw [mem_face]; simp, by unfold In7; simp only; omega⟩
            · exact ⟨(q.1, q.2.1, q.2.2 + -1), by rw [mem_face]; simp, by unfold In7; simp only; omega⟩
            · exact ⟨(q.1, q.2.1, q.2.2 + 1), by rw [mem_face]; simp, by unfold In7; simp only; omega⟩
          obtain ⟨q', hq', h7'⟩ := out
          rw [surf_reach h (hr.snoc hq' (hasI_out h7'))]
          exact surf_out h h7'
      · exact surf_out h h7
theorem surf_none {f : Sol} (hf : Fit f) {Z : List I3} (h : Surf f Z) (ht : ∀ z ∈ Z, z ∉ tops f) : Z = [] := by
  cases Z with
  | nil => rfl
  | cons z Z =>
    exfalso
    have all : ∀ p, abv (z :: Z) (dblI p) = false := fun p => surf_zero hf h ht (8 - p.2.2).toNat p (by omega)
    have hz : inZ (z :: Z) z = true := by rw [inZ_is h.nd]; exact decide_eq_true List.mem_cons_self
    have h2 := h.two z List.mem_cons_self
    have key : ∀ p q : I3, q ∈ facingL p → z = (p.1 + q.1 + 1, p.2.1 + q.2.1 + 1, p.2.2 + q.2.2 + 1) → False := fun p q hq e => by
      have := surf_side h hq
      rw [← e, hz, all, all] at this
      cases this
    obtain ⟨a, b, c⟩ := z
    unfold dm od at h2
    simp only at h2
    rcases (show a % 2 = 0 ∧ b % 2 = 1 ∧ c % 2 = 1 ∨ a % 2 = 1 ∧ b % 2 = 0 ∧ c % 2 = 1 ∨ a % 2 = 1 ∧ b % 2 = 1 ∧ c % 2 = 0 by omega) with ⟨o1, o2, o3⟩ | ⟨o1, o2, o3⟩ | ⟨o1, o2, o3⟩
    · exact key (a / 2, b / 2, c / 2) (a / 2 + -1, b / 2, c / 2) (by rw [mem_face]; simp) (by ext <;> simp only <;> omega)
    · exact key (a / 2, b / 2, c / 2) (a / 2, b / 2 + -1, c / 2) (by rw [mem_face]; simp) (by ext <;> simp only <;> omega)
    · exact key (a / 2, b / 2, c / 2) (a / 2, b / 2, c / 2 + -1) (by rw [mem_face]; simp) (by ext <;> simp only <;> omega)
end Go.Proofs.YtadkaplafaeebaaGreatDoor
/-
  Tunnels are never fewer than 0: mathematics.
-/
set_option linter.unusedVariables false
set_option linter.unusedSimpArgs false
set_option maxRecDepth 100000
namespace Go.Proofs.YtadkaplafaeebaaGreatDoor
open Go Go.RowKit

theorem par_len {α : Type} (g : α → Bool) : ∀ l : List α, par g l = decide ((l.filter g).length % 2 = 1)
  | [] => rfl
  | a :: l => by
    rw [par_cons, par_len g l, List.filter_cons]
    cases g a with
    | false => simp
    | true =>
      rw [if_pos rfl, List.length_cons, Bool.true_xor]
      by_cases h : (l.filter g).length % 2 = 1
      · rw [decide_eq_true h, decide_eq_false (by omega)]
        rfl
      · rw [decide_eq_false h, decide_eq_true (by omega)]
        rfl
theorem par_ext {g : I3 → Bool} {A B : List I3} (ha : A.Nodup) (hb : B.Nodup) (h : ∀ x, g x = true → (x ∈ A ↔ x ∈ B)) : par g A = par g B := by
  rw [par_len, par_len]
  have : (A.filter g).Perm (B.filter g) := by
    refine (List.perm_ext_iff_of_nodup (List.Pairwise.filter _ ha) (List.Pairwise.filter _ hb)).2 fun x => ?_
    rw [List.mem_filter, List.mem_filter]
    exact ⟨fun ⟨h1, h2⟩ => ⟨(h x h2).1 h1, h2⟩, fun ⟨h1, h2⟩ => ⟨(h x h2).2 h1, h2⟩⟩
  rw [this.length_eq]
theorem par_filter {α : Type} (g p : α → Bool) : ∀ l : List α, par g (l.filter p) = par (fun x => p x && g x) l
  | [] => rfl
  | a :: l => by
    rw [List.filter_cons, par_cons, ← par_filter g p l]
    cases p a <;> simp [par_cons]
theorem subset_len {A B : List I3} (ha : A.Nodup) (h : ∀ x ∈ A, x ∈ B) : A.length ≤ B.length :=
  inj_le (fun a b => a = b) A B (ha.imp fun hab d _ e e' => hab (e.trans e'.symm)) fun a ha => ⟨a, h a ha, rfl⟩
theorem filter_not {A B : List I3} (ha : A.Nodup) : A.length ≤ (A.filter fun x => decide (x ∉ B)).length + B.length := by
  have h1 : (A.filter fun x => decide (x ∈ B)).length ≤ B.length := subset_len (List.Pairwise.filter _ ha) fun x hx => of_decide_eq_true (List.mem_filter.1 hx).2
  have h2 : A.length = (A.filter fun x => decide (x ∈ B)).length + (A.filter fun x => decide (x ∉ B)).length := by
    clear h1 ha
    induction A with
    | nil => rfl
    | cons a A ih =>
      rw [List.filter_cons, List.filter_cons, List.length_cons, ih]
      by_cases h : a ∈ B
      · simp [h]
        omega
      · simp [h]
        omega
  omega
theorem filter_of {A B : List I3} (hb : B.Nodup) (h : ∀ x ∈ B, x ∈ A) : (A.filter fun x => decide (x ∉ B)).length + B.length ≤ A.length := by
  have h1 : B.length ≤ (A.filter fun x => decide (x ∈ B)).length := subset_len hb fun x hx => List.mem_filter.2 ⟨h x hx, decide_eq_true hx⟩
  have h2 : A.length = (A.filter fun x => decide (x ∈ B)).length + (A.filter fun x => decide (x ∉ B)).length := by
    clear h1 h
    induction A with
    | nil => rfl
    | cons a A ih =>
      rw [List.filter_cons, List.filter_cons, List.length_cons, ih]
      by_cases h : a ∈ B
      · simp [h]
        omega
      · simp [h]
        omega
  omega
def dimL (f : Sol) (k : Nat) : List I3 := (pts f).filter fun q => decide (dm q = k)
theorem dim_mem {f : Sol} {k : Nat} {q : I3} : q ∈ dimL f k ↔ dm q = k ∧ isP f q = true := by
  unfold dimL
  rw [List.mem_filter, (pts_all f).2, ← isP_iff, decide_eq_true_eq]
  exact ⟨fun h => ⟨h.2, h.1⟩, fun h => ⟨h.2, h.1⟩⟩
theorem dim_nodup (f : Sol) (k : Nat) : (dimL f k).Nodup := List.Pairwise.filter _ (pts_all f).1.1
theorem sg_dm (q : I3) : sg q = if dm q = 0 then 1 else if dm q = 1 then -1 else if dm q = 2 then 1 else -1 := by
  have e : eulP q = true ↔ dm q % 2 = 0 := by
    rw [eulP_iff]
    unfold dm od
    omega
  have h3 : dm q ≤ 3 := by unfold dm od; omega
  unfold sg
  rcases (show dm q = 0 ∨ dm q = 1 ∨ dm q = 2 ∨ dm q = 3 by omega) with h | h | h | h
  · rw [if_pos (e.2 (by omega)), if_pos h]
  · rw [if_neg (fun h' => by have := e.1 h'; omega), if_neg (by omega), if_pos h]
  · rw [if_pos (e.2 (by omega)), if_neg (by omega), if_neg (by omega), if_pos h]
  · rw [if_neg (fun h' => by have := e.1 h'; omega), if_neg (by omega), if_neg (by omega), if_neg (by omega)]
theorem sg_sum (l : List I3) : (l.map sg).sum = ((l.filter fun q => decide (dm q = 0)).length : Int) - (l.filter fun q => decide (dm q = 1)).length + (l.filter fun q => decide (dm q = 2)).length - (l.filter fun q => decide (dm q = 3)).length := by
  induction l with
  | nil => rfl
  | cons q l ih =>
    rw [List.map_cons, List.sum_cons, ih, sg_dm]
    have h3 : dm q ≤ 3 := by unfold dm od; omega
    simp only [List.filter_cons]
    rcases (show dm q = 0 ∨ dm q = 1 ∨ dm q = 2 ∨ dm q = 3 by omega) with h | h | h | h <;> simp [h] <;> omega
theorem face_edge {f : Sol} {z e : I3} (hz : isP f z = true) (h2 : dm z = 2) (h1 : dm e = 1) (h : fc z e = true) : isP f e = true := by
  obtain ⟨p, hp, ht⟩ := isP_iffI.1 hz
  refine isP_iffI.2 ⟨p, hp, ?_⟩
  have h6 := mem_six h
  obtain ⟨a, b, c⟩ := z
  obtain ⟨u, v, w⟩ := e
  obtain ⟨x, y, t⟩ := p
  rw [mem_touch] at *
  unfold dblI at *
  unfold six at h6
  unfold dm od at h1 h2
  simp only [List.mem_cons, List.not_mem_nil, or_false, Prod.mk.injEq] at *
  rcases h6 with ⟨rfl, rfl, rfl⟩ | ⟨rfl, rfl, rfl⟩ | ⟨rfl, rfl, rfl⟩ | ⟨rfl, rfl, rfl⟩ | ⟨rfl, rfl, rfl⟩ | ⟨rfl, rfl, rfl⟩ <;> omega
theorem six_dm {v e : I3} (hv : dm v = 0) (h : e ∈ six v) : dm e = 1 := by
  obtain ⟨x, y, z⟩ := v
  unfold six at h
  unfold dm od at *
  simp only [List.mem_cons, List.not_mem_nil, or_false] at *
  rcases h with rfl | rfl | rfl | rfl | rfl | rfl <;> simp only <;> omega
/-- The faces but for the tops are no more than the edges but for the trees'. -/
theorem faces_le {f : Sol} (hf : Fit f) {S T : List I3} (hfo : Fo (fun q => isP f q = true) ((partsF f).map rootG) S T) (hT : T.Nodup) :
    ((dimL f 2).filter fun z => decide (z ∉ tops f)).length ≤ ((dimL f 1).filter fun e => decide (e ∉ T)).length := by
  refine Classical.byContradiction fun hlt => ?_
  obtain ⟨Z, n1, n2, n3, n4⟩ := depend ((dimL f 1).filter fun e => decide (e ∉ T)) ((dimL f 2).filter fun z => decide (z ∉ tops f)) (fun z e => fc z e) (List.Pairwise.filter _ (dim_nodup f 2)) (by omega)
  have hZ : ∀ z ∈ Z, dm z = 2 ∧ isP f z = true ∧ z ∉ tops f := fun z hz => by
    obtain ⟨h1, h2⟩ := List.mem_filter.1 (n2 z hz)
    have := dim_mem.1 h1
    exact ⟨this.1, this.2, of_decide_eq_true h2⟩
  have off : ∀ e, dm e = 1 → e ∉ T → edg Z e = false := fun e h1 hT => by
    by_cases hp : isP f e = true
    · exact n4 e (List.mem_filter.2 ⟨dim_mem.2 ⟨h1, hp⟩, decide_eq_true hT⟩)
    · refine par_false fun z hz => ?_
      cases hc : fc z e with
      | false => rfl
      | true => exact absurd (face_edge (hZ z hz).2.1 (hZ z hz).1 h1 hc) hp
  have on : T.filter (edg Z) = [] := by
    refine Classical.byContradiction fun hne => ?_
    obtain ⟨v, hv, hp⟩ := fo_acyc hfo _ (List.Pairwise.filter _ hT) (fun z hz => (List.mem_filter.1 hz).1) hne
    rw [par_filter] at hp
    have e1 : par (fun e => edg Z e && fc e v) T = par (fun e => edg Z e && fc e v) (six v) := par_ext hT (six_nodup v) fun x hx => by
      rw [Bool.and_eq_true] at hx
      have h6 : x ∈ six v := mem_six (by rw [fc_swap]; exact hx.2)
      refine ⟨fun _ => h6, fun _ => Classical.byContradiction fun hn => ?_⟩
      have := off x (six_dm hv h6) hn
      rw [hx.1] at this
      cases this
    have e2 : par (fun e => edg Z e && fc e v) (six v) = par (fun e => edg Z e) (six v) := par_congr fun e he => by
      rw [fc_swap, six_fc he, Bool.and_true]
    have e3 : par (fun e => edg Z e) (six v) = par (fun z => par (fun e => fc z e) (six v)) Z := par_swap (fun z e => fc z e) Z (six v)
    rw [e1, e2, e3, par_false fun z hz => face_corner (hZ z hz).1 hv] at hp
    cases hp
  have hs : Surf f Z := ⟨n1, fun z hz => (hZ z hz).1, fun z hz => (hZ z hz).2.1, fun e h1 => by
    by_cases hT' : e ∈ T
    · cases he : edg Z e with
      | false => rfl
      | true =>
        have : e ∈ T.filter (edg Z) := List.mem_filter.2 ⟨hT', he⟩
        rw [on] at this
        cases this
    · exact off e h1 hT'⟩
  exact n3 (surf_none hf hs fun z hz => (hZ z hz).2.2)
theorem dbl_in {p : I3} {f : Sol} (h : hasI f p = true) : isP f (dblI p) = true := isP_iffI.2 ⟨p, h, by rw [mem_touch]; omega⟩
/-- Tunnels are never fewer than 0. -/
theorem tun_le {f : Sol} (hf : Fit f) : eulF f ≤ ((partsF f).length : Int) + ((cavF f).length : Int) := by
  obtain ⟨S, T, hfo, hVS, hSn⟩ := forest hf (dimL f 0) fun v => dim_mem
  have hTn : T.Nodup := by
    have : ∀ {S T}, Fo (fun q => isP f q = true) ((partsF f).map rootG) S T → T.Nodup := fun {S T} h => by
      induction h with
      | base => exact List.nodup_nil
      | grow hf hv hu dv du hk hd h1 h2 ih => exact List.nodup_cons.2 ⟨fun he => hv (fo_ends hf _ he _ dv h2), ih⟩
    exact this hfo
  have h1 := fo_len hfo
  rw [List.length_map] at h1
  have h2 : (dimL f 0).length ≤ S.length := subset_len (dim_nodup f 0) hVS
  have h3 := faces_le hf hfo hTn
  have h4 := filter_not (B := tops f) (dim_nodup f 2)
  have h5 := filter_of (A := dimL f 1) hTn fun e he => by
    have := fo_edge hfo e he
    exact dim_mem.2 ⟨this.2, this.1⟩
  have h6 : (tops f).length = (cellsL f).length + (cavF f).length := by unfold tops; rw [List.length_append, List.length_map, List.length_map]
  have h7 : (cellsL f).length ≤ (dimL f 3).length := by
    refine inj_le (fun c q => dblI (toI c) = q) _ _ ?_ fun c hc => ⟨_, dim_mem.2 ⟨dm_dbl _, dbl_in ((mem_cellI f c).1 hc)⟩, rfl⟩
    refine (cells_nodup f).imp fun {a b} hab q _ e e' => hab (toI_inj ?_)
    have h0 := e.trans e'.symm
    clear h1 h2 h3 h4 h5 h6 hab e e'
    generalize toI a = u at *
    generalize toI b = v at *
    unfold dblI at h0
    simp only [Prod.mk.injEq] at h0
    ext <;> omega
  have h8 := eul_is f
  rw [sg_sum] at h8
  unfold dimL at *
  omega
end Go.Proofs.YtadkaplafaeebaaGreatDoor
