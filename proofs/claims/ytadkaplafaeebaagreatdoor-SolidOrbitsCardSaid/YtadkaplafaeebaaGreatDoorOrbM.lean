/-
  The images of a solid, their number, their least one, their symmetries.
-/
import Derived.Test.YtadkaplafaeebaaGreatDoorOrb
import Derived.Test.YtadkaplafaeebaaGreatDoorPkR
import Derived.Test.YtadkaplafaeebaaGreatDoorPkM
set_option linter.unusedVariables false
set_option linter.unusedSimpArgs false
set_option maxRecDepth 100000
namespace Go.Proofs.YtadkaplafaeebaaGreatDoor
open Go Go.RowKit Go.Sort

theorem toS_eq (f g : Sol) : toS f = toS g ↔ eqS f g = true := by
  unfold toS eqS
  rw [decide_eq_true_eq]
  simp [Prod.ext_iff]
theorem of_to (f : Sol) : eqS (ofS (toS f)) f = true := eqS_of fun k hk => ofS_toS f hk
theorem fit_ofS {f : Sol} (h : Fit f) : Fit (ofS (toS f)) := fun k => by
  by_cases hk : k < 8
  · rw [ofS_toS f hk]
    exact h k
  · have : ofS (toS f) k = 0 := by
      match k, hk with
      | k + 8, _ => rfl
    rw [this]
    omega
def imK (f : Sol) (t : Nat) : S8 := toS (imgF f t)
theorem imK_acts (f : Sol) : Acts (imK f) := fun t u v ht hu hv e => by
  have h := (toS_eq _ _).1 e
  refine (toS_eq _ _).2 ?_
  exact eqS_trans (eqS_symm (img_img f ht hv)) (eqS_trans (img_congr h hv) (img_img f hu hv))
theorem symP_is {f : Sol} (hf : Fit f) (t : Nat) : symP f t = decide (imK f t = imK f 0) := by
  rw [Bool.eq_iff_iff, decide_eq_true_eq]
  unfold symP imK
  rw [toS_eq]
  exact ⟨fun h => eqS_trans h (eqS_symm (img_zero hf)), fun h => eqS_trans h (img_zero hf)⟩
theorem sym_stab {f : Sol} (hf : Fit f) : (symN f 24).length = stab (imK f) := by
  unfold symN stab
  rw [← List.countP_eq_length_filter]
  exact List.countP_congr fun t _ => by rw [symP_is hf]
theorem imgs_has (f : Sol) (x : S8) : x ∈ once8 ((imgsN f 24).map toS).toArray ↔ ∃ t, t < 24 ∧ imK f t = x := by
  rw [once8_mem]
  show x ∈ (imgsN f 24).map toS ↔ _
  unfold imgsN
  rw [List.map_map, List.mem_map]
  exact ⟨fun ⟨t, h1, h2⟩ => ⟨t, List.mem_range.1 h1, h2⟩, fun ⟨t, h1, h2⟩ => ⟨t, List.mem_range.2 h1, h2⟩⟩
theorem imgs_count {f : Sol} (hf : Fit f) : (imgsF f).length * (symN f 24).length = 24 := by
  unfold imgsF
  rw [List.length_map, sym_stab hf]
  exact orbit (imK_acts f) _ (once8_nodup _) (imgs_has f)
theorem imgs_at {f x : Sol} (h : x ∈ imgsF f) : Fit x ∧ ∃ t, t < 24 ∧ eqS x (imgF f t) = true := by
  unfold imgsF at h
  obtain ⟨y, hy, rfl⟩ := List.mem_map.1 h
  obtain ⟨t, ht, rfl⟩ := (imgs_has f y).1 hy
  exact ⟨fit_ofS (imgF_fit f t), t, ht, of_to _⟩
theorem canon_at {f x : Sol} (hf : Fit f) (h : x ∈ imgsF f) : eqS (canonF x) (canonF f) = true := by
  obtain ⟨hx, t, ht, e⟩ := imgs_at h
  exact eqS_trans (canon_congr hx (imgF_fit f t) e) (canon_img hf ht)
theorem sym_at {f x : Sol} (hf : Fit f) (h : x ∈ imgsF f) : (symN x 24).length = (symN f 24).length := by
  obtain ⟨hx, u, hu, e⟩ := imgs_at h
  rw [sym_stab hf, ← count_conj (imK_acts f) hu]
  unfold symN
  rw [← List.countP_eq_length_filter]
  refine List.countP_congr fun t ht => ?_
  have ht := List.mem_range.1 ht
  rw [decide_eq_true_eq]
  unfold symP imK
  rw [toS_eq]
  have h1 : eqS (imgF x t) (imgF f (compT u t)) = true := eqS_trans (img_congr e ht) (img_img f hu ht)
  have h2 : eqS (cornF x) (imgF f u) = true := eqS_trans (corn_congr hx (imgF_fit f u) e) (img_corn u)
  exact ⟨fun h => eqS_trans (eqS_symm h1) (eqS_trans h h2), fun h => eqS_trans h1 (eqS_trans h (eqS_symm h2))⟩
theorem imgs_first {f : Sol} (hf : Fit f) : ∃ y l, imgsF f = y :: l ∧ eqS y (canonF f) = true := by
  obtain ⟨d, hd⟩ : ∃ d, d = ((imgsN f 24).map toS).toArray := ⟨_, rfl⟩
  have hs : 0 < d.size := by rw [hd]; simp [imgsN]
  obtain ⟨l, hl⟩ := once8_first d hs
  refine ⟨ofS (sort8 d)[0]!, l.map ofS, by unfold imgsF; rw [← hd, hl]; rfl, ?_⟩
  have hmem : (sort8 d)[0]! ∈ once8 d := by rw [hl]; exact List.mem_cons_self
  have hm2 := hmem
  rw [hd] at hm2
  obtain ⟨t, ht, et⟩ := (imgs_has f _).1 hm2
  rw [← hd] at et
  obtain ⟨u, hu, eu⟩ := canonN_mem hf 24 (by omega)
  have hx : imK f u ∈ d.toList := (once8_mem d _).1 (by rw [hd]; exact (imgs_has f _).2 ⟨u, hu, rfl⟩)
  have h1 := once8_least d hs hx
  have h2 := (canonN_le f 24).2 t ht
  refine cmp_anti ?_ ?_
  · have h3 : ¬ cmpS (ofS (imK f u)) (ofS (sort8 d)[0]!) < 0 := of_decide_eq_false h1
    have h4 := cmpFrom_neg (ofS (imK f u)) (ofS (sort8 d)[0]!) 8 0
    have h5 : cmpS (ofS (sort8 d)[0]!) (canonF f) = cmpS (ofS (sort8 d)[0]!) (ofS (imK f u)) := cmp_congr (eqS_of fun _ _ => rfl) (eqS_trans eu (eqS_symm (of_to _)))
    rw [h5]
    unfold cmpS at *
    omega
  · have h5 : cmpS (canonF f) (ofS (sort8 d)[0]!) = cmpS (canonF f) (imgF f t) := cmp_congr (eqS_of fun _ _ => rfl) (by rw [← et]; exact of_to _)
    rw [h5]
    exact h2
end Go.Proofs.YtadkaplafaeebaaGreatDoor
