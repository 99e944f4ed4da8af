/- What Unify says: sound, and the most general. -/
import Derived.Test.YtmggaclaoefdaaaGAN
namespace Go.Proofs.Ytmggaclaoefdaaa
open Go.RowKit

theorem mem_zip {S T : Tm} {p : Tm × Tm} (h : p ∈ zipK S T) : ∃ i, i < S.len ∧ p = (S.f i, T.f i) := by
  simp [zipK] at h
  obtain ⟨i, hi, e⟩ := h
  exact ⟨i, hi, e.symm⟩
theorem zip_mem {S T : Tm} {i : Nat} (h : i < S.len) : (S.f i, T.f i) ∈ zipK S T := by
  simp [zipK]; exact ⟨i, h, rfl, rfl⟩
theorem nm_eq {a b : ByteArray} (h : a.toList = b.toList) : a = b := by
  rw [ByteArray.toList_eq, ByteArray.toList_eq] at h
  cases a; cases b
  simp at h
  simp [h]
/-- The step of meetF, in words. -/
theorem meet_cases {σ : Sg} {F L : Nat} {x y : Tm} {ps : List (Tm × Tm)} :
    ((wha σ x).v ≠ 0 ∧ (wha σ x).v = (wha σ y).v ∧ meetF (F + 1) σ (L + 1) ((x, y) :: ps) = meetF F σ L ps) ∨
    ((∃ X T, ((X = wha σ x ∧ T = wha σ y) ∨ (X = wha σ y ∧ T = wha σ x)) ∧ X.v ≠ 0 ∧ X.v ≠ T.v ∧ meetF (F + 1) σ (L + 1) ((x, y) :: ps) = match within σ X.v L [T] with
        | .over => .over
        | .found k => .no k
        | .free k => meetF F (put σ X T) k ps)) ∨
    ((wha σ x).v = 0 ∧ (wha σ y).v = 0 ∧ (wha σ x).nm = (wha σ y).nm ∧ (wha σ x).len = (wha σ y).len ∧ meetF (F + 1) σ (L + 1) ((x, y) :: ps) = meetF F σ L (zipK (wha σ x) (wha σ y) ++ ps)) ∨
    ((wha σ x).v = 0 ∧ (wha σ y).v = 0 ∧ ¬ ((wha σ x).nm = (wha σ y).nm ∧ (wha σ x).len = (wha σ y).len) ∧ meetF (F + 1) σ (L + 1) ((x, y) :: ps) = .no L) := by
  by_cases h1 : (wha σ x).v = 0
  · by_cases h2 : (wha σ y).v = 0
    · by_cases h3 : (wha σ x).nm = (wha σ y).nm ∧ (wha σ x).len = (wha σ y).len
      · exact .inr (.inr (.inl ⟨h1, h2, h3.1, h3.2, meet_on h1 h2 (by rw [h3.1]) h3.2⟩))
      · exact .inr (.inr (.inr ⟨h1, h2, h3, meet_off h1 h2 (fun h => h3 ⟨nm_eq h.1, h.2⟩)⟩))
    · exact .inr (.inl ⟨_, _, .inr ⟨rfl, rfl⟩, h2, by omega, meet_right h1 h2⟩)
  · by_cases h2 : (wha σ x).v = (wha σ y).v
    · exact .inl ⟨h1, h2, meet_var h1 h2⟩
    · exact .inr (.inl ⟨_, _, .inl ⟨rfl, rfl⟩, h1, h2, meet_left h1 h2⟩)
def PO (ps : List (Tm × Tm)) : Prop := ∀ p ∈ ps, Okv 12 p.1 ∧ Okv 12 p.2
theorem PO.zip {S T : Tm} {ps : List (Tm × Tm)} (h : PO ps) (hS : Okv 12 S) (hT : Okv 12 T) (hl : S.len = T.len) : PO (zipK S T ++ ps) := fun p hp => by
  rcases List.mem_append.1 hp with hp | hp
  · obtain ⟨i, hi, rfl⟩ := mem_zip hp
    exact ⟨hS.kid hi, hT.kid (by omega)⟩
  · exact h p hp
/-- What is put in makes all pairs the same. -/
theorem meet_sound : ∀ (F : Nat) (σ : Sg) (L : Nat) (ps : List (Tm × Tm)) (k : Nat) (σ' : Sg), Inv σ → PO ps → meetF F σ L ps = .yes k σ' → Inv σ' ∧ ∀ θ, Resp θ σ' → Resp θ σ ∧ ∀ p ∈ ps, ap θ p.1 = ap θ p.2 := by
  intro F
  induction F with
  | zero => intro σ L ps k σ' _ _ h; simp [meetF] at h
  | succ F ih =>
    intro σ L ps k σ' hI hP h
    cases ps with
    | nil =>
      have h : MO.yes L σ = .yes k σ' := by rw [← h]; cases L <;> rfl
      injection h with _ h
      subst h
      exact ⟨hI, fun θ hθ => ⟨hθ, fun p hp => by simp at hp⟩⟩
    | cons p ps =>
      obtain ⟨x, y⟩ := p
      cases L with
      | zero => simp [meetF] at h
      | succ L =>
        have hOx := (hP (x, y) (by simp)).1
        have hOy := (hP (x, y) (by simp)).2
        have hPs : PO ps := fun p hp => hP p (by simp [hp])
        rcases meet_cases (σ := σ) (F := F) (L := L) (x := x) (y := y) (ps := ps) with ⟨h1, h2, h3⟩ | ⟨X, T, hXT, h1, h2, h3⟩ | ⟨h1, h2, h4, h5, h3⟩ | ⟨_, _, _, h3⟩
        · rw [h3] at h
          obtain ⟨g1, g2⟩ := ih _ _ _ _ _ hI hPs h
          refine ⟨g1, fun θ hθ => ?_⟩
          obtain ⟨g3, g4⟩ := g2 θ hθ
          refine ⟨g3, fun p hp => ?_⟩
          rcases List.mem_cons.1 hp with rfl | hp
          · rw [← ap_wha g3 x, ← ap_wha g3 y, ap_var θ h1, ap_var θ (by rw [← h2]; exact h1), h2]
          · exact g4 p hp
        · rw [h3] at h
          have hOX : Okv 12 X ∧ Okv 12 T := by
            rcases hXT with ⟨rfl, rfl⟩ | ⟨rfl, rfl⟩
            · exact ⟨hI.what hOx, hI.what hOy⟩
            · exact ⟨hI.what hOy, hI.what hOx⟩
          have hr : σ X.v = none ∧ (T.v ≠ 0 → σ T.v = none) := by
            rcases hXT with ⟨rfl, rfl⟩ | ⟨rfl, rfl⟩
            · exact ⟨hI.root hOx h1, hI.root hOy⟩
            · exact ⟨hI.root hOy h1, hI.root hOx⟩
          split at h
          · simp at h
          · simp at h
          · rename_i q hq
            obtain ⟨g1, g2⟩ := ih _ _ _ _ _ (hI.put hOX.1 hOX.2 h2) hPs h
            refine ⟨g1, fun θ hθ => ?_⟩
            obtain ⟨g3, g4⟩ := g2 θ hθ
            obtain ⟨g5, g6⟩ := (resp_put h1 hOX.1.top.1 hr.1 hr.2).1 g3
            refine ⟨g5, fun p hp => ?_⟩
            rcases List.mem_cons.1 hp with rfl | hp
            · show ap θ x = ap θ y
              rw [← ap_wha g5 x, ← ap_wha g5 y]
              rcases hXT with ⟨rfl, rfl⟩ | ⟨rfl, rfl⟩
              · rw [ap_var θ h1]; exact g6
              · rw [ap_var θ h1]; exact g6.symm
            · exact g4 p hp
        · rw [h3] at h
          obtain ⟨g1, g2⟩ := ih _ _ _ _ _ hI (hPs.zip (hI.what hOx) (hI.what hOy) h5) h
          refine ⟨g1, fun θ hθ => ?_⟩
          obtain ⟨g3, g4⟩ := g2 θ hθ
          refine ⟨g3, fun p hp => ?_⟩
          rcases List.mem_cons.1 hp with rfl | hp
          · show ap θ x = ap θ y
            rw [← ap_wha g3 x, ← ap_wha g3 y]
            exact ap_ext h1 h2 h4 h5 (fun i hi => g4 _ (List.mem_append.2 (.inl (zip_mem hi))))
          · exact g4 p (List.mem_append.2 (.inr hp))
        · rw [h3] at h; simp at h
theorem ex_more {σ : Sg} : ∀ (d : Nat) (T : Tm), Fin σ d T → can (ex σ (d + 1) T) = can (ex σ d T) := by
  intro d
  induction d with
  | zero => intro T h; exact False.elim h
  | succ d ih =>
    intro T h
    rw [ex, ex]
    by_cases hv : (wha σ T).v = 0
    · rw [if_pos hv, if_pos hv]
      exact can_ext rfl rfl rfl (fun i hi => ih _ (h i hi))
    · rw [if_neg hv, if_neg hv]
theorem ex_same {σ : Sg} {d e : Nat} {T : Tm} (hd : Fin σ d T) (he : Fin σ e T) : can (ex σ d T) = can (ex σ e T) := by
  have key : ∀ j d, Fin σ d T → can (ex σ (d + j) T) = can (ex σ d T) ∧ Fin σ (d + j) T := by
    intro j
    induction j with
    | zero => intro d h; exact ⟨rfl, h⟩
    | succ j ih =>
      intro d h
      obtain ⟨h1, h2⟩ := ih d h
      exact ⟨by rw [← Nat.add_assoc, ex_more _ _ h2, h1], by rw [← Nat.add_assoc]; exact h2.mono⟩
  rcases Nat.le_total d e with h | h
  · obtain ⟨j, rfl⟩ := Nat.exists_eq_add_of_le h
    exact (key j d hd).1.symm
  · obtain ⟨j, rfl⟩ := Nat.exists_eq_add_of_le h
    exact (key j e he).1
theorem ex_var {σ : Sg} (hI : Inv σ) {T : Tm} (hO : Okv 12 T) (hv : T.v ≠ 0) (d : Nat) : ex σ d T = ex σ d (vT T.v) ∧ (Fin σ d T ↔ Fin σ d (vT T.v)) := by
  cases hs : σ T.v with
  | none =>
    have e1 : wha σ T = T := wha_none hs
    have e2 : wha σ (vT T.v) = vT T.v := wha_none (T := vT T.v) hs
    cases d with
    | zero => exact ⟨rfl, Iff.rfl⟩
    | succ d =>
      refine ⟨?_, ?_⟩
      · rw [ex, ex, e1, e2, if_neg hv, if_neg (show ¬ (vT T.v).v = 0 from hv)]; rfl
      · show (∀ i, i < (wha σ T).len → _) ↔ (∀ i, i < (wha σ (vT T.v)).len → _)
        rw [e1, e2]
        have := (hO.top.2.2 hv).2
        exact ⟨fun _ i hi => absurd hi (Nat.not_lt_zero i), fun _ i hi => by omega⟩
  | some U =>
    have e : wha σ T = wha σ (vT T.v) := by
      rw [wha_some hI.dec hO.top.1 hv hs, wha_some (T := vT T.v) hI.dec hO.top.1 hv hs]
    cases d with
    | zero => exact ⟨rfl, Iff.rfl⟩
    | succ d =>
      refine ⟨by rw [ex, ex, e], ?_⟩
      show (∀ i, i < (wha σ T).len → Fin σ d ((wha σ T).f i)) ↔ (∀ i, i < (wha σ (vT T.v)).len → Fin σ d ((wha σ (vT T.v)).f i))
      rw [e]
/-- The answer, as what each variable is. -/
def ans (σ : Sg) : Int → Tm := fun v => can (ex σ 200 (vT v))
theorem ans_ap {σ : Sg} (hI : Inv σ) (hF : ∀ v, 0 < v → v ≤ 12 → Fin σ 200 (vT v)) : ∀ (d : Nat) (T : Tm), Okv 12 T → Fin σ d T → can (ex σ d T) = ap (ans σ) T := by
  intro d
  induction d with
  | zero => intro T _ h; exact False.elim h
  | succ d ih =>
    intro T hO h
    by_cases hv : T.v = 0
    · have e : wha σ T = T := wha_fn hv
      rw [ex, e, if_pos hv, ap_fn _ hv]
      show Tm.mk 0 T.nm none T.len 0 (fun i => if i < T.len then can (ex σ d (T.f i)) else .nil) = _
      congr 1
      funext i
      by_cases hi : i < T.len
      · rw [if_pos hi, if_pos hi]
        refine ih _ (hO.kid hi) ?_
        have := h i (by rw [e]; exact hi)
        rwa [e] at this
      · rw [if_neg hi, if_neg hi]
    · have hp := hO.top
      obtain ⟨h1, h2⟩ := ex_var hI hO hv (d + 1)
      rw [h1, ap_var _ hv]
      exact ex_same (h2.1 h) (hF T.v (by omega) hp.2.1)
theorem ans_resp {σ : Sg} (hI : Inv σ) (hF : ∀ v, 0 < v → v ≤ 12 → Fin σ 200 (vT v)) : Resp (ans σ) σ := by
  intro v U hU
  obtain ⟨k1, k2⟩ := hI.key v U hU
  obtain ⟨h1, h2⟩ := ex_bound (T := vT v) hI.dec (by show 0 ≤ v; omega) (by show v ≠ 0; omega) hU 200
  show can (ex σ 200 (vT v)) = _
  rw [h1]
  exact ans_ap hI hF 200 U (hI.ok v U hU) (h2 (hF v k1 k2))
end Go.Proofs.Ytmggaclaoefdaaa
