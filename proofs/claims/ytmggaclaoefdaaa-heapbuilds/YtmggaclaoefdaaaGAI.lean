/- What is put in: over terms alone. What Unify says: sound, and the most general. -/
import Derived.Test.YtmggaclaoefdaaaGAH
namespace Go.Proofs.Ytmggaclaoefdaaa
open Go.RowKit

/-- A term without its places. -/
def can : Tm → Tm
  | .nil => .mk 0 ⟨#[]⟩ none 0 0 (fun _ => .nil)
  | .mk v nm _ len _ f => .mk v nm none len 0 (fun i => if i < len then can (f i) else .nil)
theorem can_eq (T : Tm) : can T = .mk T.v T.nm none T.len 0 (fun i => if i < T.len then can (T.f i) else .nil) := by
  cases T with
  | nil =>
    show Tm.mk 0 ⟨#[]⟩ none 0 0 (fun _ => .nil) = Tm.mk 0 ⟨#[]⟩ none 0 0 _
    congr 1
  | mk => rfl
theorem can_ext {T U : Tm} (h1 : T.v = U.v) (h2 : T.nm = U.nm) (h3 : T.len = U.len) (h4 : ∀ i, i < T.len → can (T.f i) = can (U.f i)) : can T = can U := by
  rw [can_eq T, can_eq U, h1, h2, h3]
  congr 1
  funext i
  by_cases hi : i < U.len
  · rw [if_pos hi, if_pos hi]; exact h4 i (by omega)
  · rw [if_neg hi, if_neg hi]
theorem can_inj {T U : Tm} (h : can T = can U) : T.v = U.v ∧ T.nm = U.nm ∧ T.len = U.len ∧ ∀ i, i < T.len → can (T.f i) = can (U.f i) := by
  rw [can_eq T, can_eq U] at h
  injection h with h1 h2 _ h3 _ h4
  refine ⟨h1, h2, h3, fun i hi => ?_⟩
  have := congrFun h4 i
  rwa [if_pos hi, if_pos (by omega)] at this
theorem same_can (T : Tm) : ∀ U, sameT T U = true ↔ can T = can U := by
  induction T with
  | nil =>
    intro U
    rw [sameT_eq]
    constructor
    · intro h
      simp only [Bool.and_eq_true, beq_iff_eq, sameTs] at h
      obtain ⟨h1, h2, h3, _⟩ := h
      exact can_ext h1 (nm_eq h2) (by omega) (fun i hi => absurd hi (Nat.not_lt_zero i))
    · intro h
      obtain ⟨h1, h2, h3, _⟩ := can_inj h
      simp only [Bool.and_eq_true, beq_iff_eq, sameTs]
      exact ⟨h1, by rw [h2], by rw [h3], rfl⟩
  | mk v nm a len cap f ih =>
    intro U
    rw [sameT_eq]
    constructor
    · intro h
      simp only [Bool.and_eq_true, beq_iff_eq, sameTs] at h
      obtain ⟨h1, h2, h3, h4⟩ := h
      exact can_ext h1 (nm_eq h2) (by omega) (fun i hi => (ih i _).1 (allTo_iff.1 h4 i hi))
    · intro h
      obtain ⟨h1, h2, h3, h4⟩ := can_inj h
      simp only [Bool.and_eq_true, beq_iff_eq, sameTs]
      exact ⟨h1, by rw [h2], by rw [h3], allTo_iff.2 (fun i hi => (ih i _).2 (h4 i hi))⟩
where
  nm_eq {a b : ByteArray} (h : a.toList = b.toList) : a = b := by
    rw [ByteArray.toList_eq, ByteArray.toList_eq] at h
    cases a; cases b
    simp at h
    simp [h]
/-- Each variable of a term is what θ says. -/
def ap (θ : Int → Tm) : Tm → Tm
  | .nil => .mk 0 ⟨#[]⟩ none 0 0 (fun _ => .nil)
  | .mk v nm _ len _ f => if v = 0 then .mk 0 nm none len 0 (fun i => if i < len then ap θ (f i) else .nil) else θ v
theorem ap_var (θ : Int → Tm) {T : Tm} (h : T.v ≠ 0) : ap θ T = θ T.v := by
  cases T with
  | nil => exact absurd rfl h
  | mk v nm a len cap f =>
    have h : ¬ v = 0 := h
    rw [ap, if_neg h]; rfl
theorem ap_fn (θ : Int → Tm) {T : Tm} (h : T.v = 0) : ap θ T = .mk 0 T.nm none T.len 0 (fun i => if i < T.len then ap θ (T.f i) else .nil) := by
  cases T with
  | nil =>
    show Tm.mk 0 ⟨#[]⟩ none 0 0 (fun _ => .nil) = Tm.mk 0 ⟨#[]⟩ none 0 0 _
    congr 1
  | mk v nm a len cap f =>
    have h : v = 0 := h
    rw [ap, if_pos h]; rfl
theorem ap_can (θ : Int → Tm) (T : Tm) : ap θ (can T) = ap θ T := by
  induction T with
  | nil =>
    show (if (0 : Int) = 0 then Tm.mk 0 ⟨#[]⟩ none 0 0 (fun i => if i < 0 then ap θ .nil else .nil) else θ 0) = Tm.mk 0 ⟨#[]⟩ none 0 0 (fun _ => .nil)
    rw [if_pos rfl]
    congr 1
  | mk v nm a len cap f ih =>
    show ap θ (.mk v nm none len 0 _) = _
    rw [ap, ap]
    split
    · congr 1
      funext i
      by_cases hi : i < len
      · rw [if_pos hi, if_pos hi, if_pos hi]; exact ih i
      · rw [if_neg hi, if_neg hi]
    · rfl
end Go.Proofs.Ytmggaclaoefdaaa

namespace Go.Proofs.Ytmggaclaoefdaaa
open Go.RowKit

theorem nm_eq {a b : ByteArray} (h : a.toList = b.toList) : a = b := by
  rw [ByteArray.toList_eq, ByteArray.toList_eq] at h
  cases a; cases b
  simp at h
  simp [h]
end Go.Proofs.Ytmggaclaoefdaaa
