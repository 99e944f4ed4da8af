/- What is put in: over terms alone. -/
import Derived.Test.YtmggaclaoefdaaaUni2
namespace Go.Proofs.Ytmggaclaoefdaaa
open Go.RowKit

/-- A term without its places. -/
def can : Tm → Tm
  | .nil => .mk 0 ⟨#[]⟩ none 0 0 (fun _ => .nil)
  | .mk v nm _ len _ f => .mk v nm none len 0 (fun i => if i < len then can (f i) else .nil)
theorem can_eq (T : Tm) : can T = .mk T.v T.nm none T.len 0 (fun i => if i < T.len then can (T.f i) else .nil) := by
  cases T with
  | nil =>
    show Tm.mk 0 ⟨#[]⟩ none 0 0 (fun _ => .nil) = Tm.mk 0 ⟨#[]⟩ none 0 0 _
    congr 1
  | mk => rfl
theorem can_ext {T U : Tm} (h1 : T.v = U.v) (h2 : T.nm = U.nm) (h3 : T.len = U.len) (h4 : ∀ i, i < T.len → can (T.f i) = can (U.f i)) : can T = can U := by
  rw [can_eq T, can_eq U, h1, h2, h3]
  congr 1
  funext i
  by_cases hi : i < U.len
  · rw [if_pos hi, if_pos hi]; exact h4 i (by omega)
  · rw [if_neg hi, if_neg hi]
theorem can_inj {T U : Tm} (h : can T = can U) : T.v = U.v ∧ T.nm = U.nm ∧ T.len = U.len ∧ ∀ i, i < T.len → can (T.f i) = can (U.f i) := by
  rw [can_eq T, can_eq U] at h
  injection h with h1 h2 _ h3 _ h4
  refine ⟨h1, h2, h3, fun i hi => ?_⟩
  have := congrFun h4 i
  rwa [if_pos hi, if_pos (by omega)] at this
theorem sim_can {T U : Tm} (h : Sim T U) : can T = can U := by
  induction T generalizing U with
  | nil => exact can_ext h.1.symm h.2.1.symm h.2.2.symm (fun i hi => absurd hi (Nat.not_lt_zero i))
  | mk v nm a len cap f ih => exact can_ext h.1 h.2.1 h.2.2.1 (fun i hi => ih i (h.2.2.2 i hi))
theorem same_can (T : Tm) : ∀ U, sameT T U = true ↔ can T = can U := by
  induction T with
  | nil =>
    intro U
    rw [sameT_eq]
    constructor
    · intro h
      simp only [Bool.and_eq_true, beq_iff_eq, sameTs] at h
      obtain ⟨h1, h2, h3, _⟩ := h
      exact can_ext h1 (nm_eq h2) (by omega) (fun i hi => absurd hi (Nat.not_lt_zero i))
    · intro h
      obtain ⟨h1, h2, h3, _⟩ := can_inj h
      simp only [Bool.and_eq_true, beq_iff_eq, sameTs]
      exact ⟨h1, by rw [h2], by rw [h3], rfl⟩
  | mk v nm a len cap f ih =>
    intro U
    rw [sameT_eq]
    constructor
    · intro h
      simp only [Bool.and_eq_true, beq_iff_eq, sameTs] at h
      obtain ⟨h1, h2, h3, h4⟩ := h
      exact can_ext h1 (nm_eq h2) (by omega) (fun i hi => (ih i _).1 (allTo_iff.1 h4 i hi))
    · intro h
      obtain ⟨h1, h2, h3, h4⟩ := can_inj h
      simp only [Bool.and_eq_true, beq_iff_eq, sameTs]
      exact ⟨h1, by rw [h2], by rw [h3], allTo_iff.2 (fun i hi => (ih i _).2 (h4 i hi))⟩
where
  nm_eq {a b : ByteArray} (h : a.toList = b.toList) : a = b := by
    rw [ByteArray.toList_eq, ByteArray.toList_eq] at h
    cases a; cases b
    simp at h
    simp [h]
theorem can_can (T : Tm) : can (can T) = can T := by
  induction T with
  | nil => rfl
  | mk v nm a len cap f ih =>
    refine can_ext rfl rfl rfl (fun i hi => ?_)
    have hi' : i < len := hi
    show can (if i < len then can (f i) else .nil) = can (f i)
    rw [if_pos hi']; exact ih i

/-- Each variable of a term is what θ says. -/
def ap (θ : Int → Tm) : Tm → Tm
  | .nil => .mk 0 ⟨#[]⟩ none 0 0 (fun _ => .nil)
  | .mk v nm _ len _ f => if v = 0 then .mk 0 nm none len 0 (fun i => if i < len then ap θ (f i) else .nil) else θ v
theorem ap_var (θ : Int → Tm) {T : Tm} (h : T.v ≠ 0) : ap θ T = θ T.v := by
  cases T with
  | nil => exact absurd rfl h
  | mk v nm a len cap f =>
    have h : ¬ v = 0 := h
    rw [ap, if_neg h]; rfl
theorem ap_fn (θ : Int → Tm) {T : Tm} (h : T.v = 0) : ap θ T = .mk 0 T.nm none T.len 0 (fun i => if i < T.len then ap θ (T.f i) else .nil) := by
  cases T with
  | nil =>
    show Tm.mk 0 ⟨#[]⟩ none 0 0 (fun _ => .nil) = Tm.mk 0 ⟨#[]⟩ none 0 0 _
    congr 1
  | mk v nm a len cap f =>
    have h : v = 0 := h
    rw [ap, if_pos h]; rfl
theorem ap_can (θ : Int → Tm) (T : Tm) : ap θ (can T) = ap θ T := by
  induction T with
  | nil =>
    show (if (0 : Int) = 0 then Tm.mk 0 ⟨#[]⟩ none 0 0 (fun i => if i < 0 then ap θ .nil else .nil) else θ 0) = Tm.mk 0 ⟨#[]⟩ none 0 0 (fun _ => .nil)
    rw [if_pos rfl]
    congr 1
  | mk v nm a len cap f ih =>
    show ap θ (.mk v nm none len 0 _) = _
    rw [ap, ap]
    split
    · congr 1
      funext i
      by_cases hi : i < len
      · rw [if_pos hi, if_pos hi, if_pos hi]; exact ih i
      · rw [if_neg hi, if_neg hi]
    · rfl
theorem ap_inj {θ : Int → Tm} {T U : Tm} (h1 : T.v = 0) (h2 : U.v = 0) (h : ap θ T = ap θ U) : T.nm = U.nm ∧ T.len = U.len ∧ ∀ i, i < T.len → ap θ (T.f i) = ap θ (U.f i) := by
  rw [ap_fn θ h1, ap_fn θ h2] at h
  injection h with _ e2 _ e3 _ e4
  refine ⟨e2, e3, fun i hi => ?_⟩
  have := congrFun e4 i
  rwa [if_pos hi, if_pos (by omega)] at this
theorem ap_ext {θ : Int → Tm} {T U : Tm} (h1 : T.v = 0) (h2 : U.v = 0) (h3 : T.nm = U.nm) (h4 : T.len = U.len) (h5 : ∀ i, i < T.len → ap θ (T.f i) = ap θ (U.f i)) : ap θ T = ap θ U := by
  rw [ap_fn θ h1, ap_fn θ h2, h3, h4]
  congr 1
  funext i
  by_cases hi : i < U.len
  · rw [if_pos hi, if_pos hi]; exact h5 i (by omega)
  · rw [if_neg hi, if_neg hi]
/-- θ does what σ says. -/
def Resp (θ : Int → Tm) (σ : Sg) : Prop := ∀ v U, σ v = some U → θ v = ap θ U
theorem ap_wh {θ : Int → Tm} {σ : Sg} (h : Resp θ σ) : ∀ (k : Nat) (T : Tm), ap θ (wh σ k T) = ap θ T := by
  intro k
  induction k with
  | zero => intro T; rfl
  | succ k ih =>
    intro T
    rw [wh]
    by_cases hv : T.v = 0
    · rw [if_pos hv]
    · rw [if_neg hv]
      cases hs : σ T.v with
      | none => rfl
      | some U => simp only; rw [ih U, ap_var θ hv, h _ _ hs]
theorem ap_wha {θ : Int → Tm} {σ : Sg} (h : Resp θ σ) (T : Tm) : ap θ (wha σ T) = ap θ T := ap_wh h _ T

/-- What is known of a state. -/
structure Inv (σ : Sg) : Prop where
  dec : Dec σ
  key : ∀ v T, σ v = some T → 0 < v ∧ v ≤ 12
  ok : ∀ v T, σ v = some T → Okv 12 T
theorem Inv.what {σ : Sg} (h : Inv σ) {T : Tm} (hT : Okv 12 T) : Okv 12 (wha σ T) := by
  rcases wh_from σ (T.v.toNat + 1) T with e | ⟨v, e⟩
  · unfold wha; rw [e]; exact hT
  · exact h.ok v _ e
/-- A variable that a term is, is nothing. -/
theorem Inv.root {σ : Sg} (h : Inv σ) {T : Tm} (hT : Okv 12 T) (hv : (wha σ T).v ≠ 0) : σ (wha σ T).v = none := wh_root h.dec _ T hT.top.1 (by omega) hv
theorem Inv.again {σ : Sg} (h : Inv σ) {T : Tm} (hT : Okv 12 T) : wha σ (wha σ T) = wha σ T := by
  by_cases hv : (wha σ T).v = 0
  · exact wha_fn hv
  · exact wha_none (h.root hT hv)
theorem Inv.put {σ : Sg} (h : Inv σ) {X T : Tm} (hX : Okv 12 X) (hT : Okv 12 T) (hne : X.v ≠ T.v) : Inv (put σ X T) := by
  have hx := hX.top
  have ht := hT.top
  unfold Go.Proofs.Ytmggaclaoefdaaa.put
  by_cases hlt : X.v < T.v
  · rw [if_pos hlt]
    refine ⟨fun v U hU => ?_, fun v U hU => ?_, fun v U hU => ?_⟩
    · unfold upd at hU
      split at hU
      · rename_i e; obtain rfl := Option.some.inj hU; omega
      · exact h.dec v U hU
    · unfold upd at hU
      split at hU
      · rename_i e; omega
      · exact h.key v U hU
    · unfold upd at hU
      split at hU
      · obtain rfl := Option.some.inj hU; exact hX
      · exact h.ok v U hU
  · rw [if_neg hlt]
    refine ⟨fun v U hU => ?_, fun v U hU => ?_, fun v U hU => ?_⟩
    · unfold upd at hU
      split at hU
      · rename_i e; obtain rfl := Option.some.inj hU; omega
      · exact h.dec v U hU
    · unfold upd at hU
      split at hU
      · rename_i e; omega
      · exact h.key v U hU
    · unfold upd at hU
      split at hU
      · obtain rfl := Option.some.inj hU; exact hT
      · exact h.ok v U hU
theorem Inv.start : Inv σ0 := ⟨fun v U h => by simp [σ0] at h, fun v U h => by simp [σ0] at h, fun v U h => by simp [σ0] at h⟩
/-- To do what the greater state says: what the lesser says, and the pair is the same. -/
theorem resp_put {θ : Int → Tm} {σ : Sg} {X T : Tm} (hX : X.v ≠ 0) (hX0 : 0 ≤ X.v) (h1 : σ X.v = none) (h2 : T.v ≠ 0 → σ T.v = none) : Resp θ (put σ X T) ↔ Resp θ σ ∧ θ X.v = ap θ T := by
  unfold put
  by_cases hlt : X.v < T.v
  · have hTz : T.v ≠ 0 := by omega
    rw [if_pos hlt]
    constructor
    · intro h
      refine ⟨fun v U hU => h v U ?_, ?_⟩
      · unfold upd
        by_cases e : v = T.v
        · rw [e, h2 hTz] at hU; simp at hU
        · rw [if_neg e]; exact hU
      · have := h T.v X (by unfold upd; rw [if_pos rfl])
        rw [ap_var θ hTz, this, ap_var θ hX]
    · rintro ⟨h3, h4⟩ v U hU
      unfold upd at hU
      split at hU
      · rename_i e
        obtain rfl := Option.some.inj hU
        rw [e, ap_var θ hX, h4, ap_var θ hTz]
      · exact h3 v U hU
  · rw [if_neg hlt]
    constructor
    · intro h
      refine ⟨fun v U hU => h v U ?_, ?_⟩
      · unfold upd
        by_cases e : v = X.v
        · rw [e, h1] at hU; simp at hU
        · rw [if_neg e]; exact hU
      · exact h X.v T (by unfold upd; rw [if_pos rfl])
    · rintro ⟨h3, h4⟩ v U hU
      unfold upd at hU
      split at hU
      · rename_i e
        obtain rfl := Option.some.inj hU
        rw [e]; exact h4
      · exact h3 v U hU
end Go.Proofs.Ytmggaclaoefdaaa
