/- With more steps a search goes on where it stopped: over terms alone. -/
import Derived.Test.YtmggaclaoefdaaaSvG
namespace Go.Proofs.Ytmggaclaoefdaaa
open Go.RowKit

/-- Steps and answers are as they were; and steps are not why it ended. -/
def Kp (X Y : PS) : Prop := Y.st = X.st ∧ Y.ans = X.ans ∧ (X.fin ≠ 2 → Y.fin ≠ 2)
theorem Kp.refl (X : PS) : Kp X X := ⟨rfl, rfl, fun h => h⟩
theorem Kp.trans {X Y Z : PS} (h : Kp X Y) (k : Kp Y Z) : Kp X Z := ⟨k.1.trans h.1, k.2.1.trans h.2.1, fun e => k.2.2 (h.2.2 e)⟩
theorem try_kp {P : Cls} {gs : List Gl} {t : Tm} : ∀ {f i : Nat} {X : PS} {L : Nat}, Kp X (tryP P gs t f i X L).1 := by
  intro f
  induction f with
  | zero => intro i X L; exact Kp.refl X
  | succ f ih =>
    intro i X L
    rw [tryP]
    split
    · exact Kp.refl X
    · split
      · exact ⟨rfl, rfl, fun _ => by simp⟩
      · exact Kp.trans ⟨rfl, rfl, fun h => h⟩ (ih (X := { X with last := X.last + 12 }))
      · exact ⟨rfl, rfl, fun h => h⟩
theorem back_kp {P : Cls} : ∀ {f : Nat} {X : PS}, Kp X (backP P f X) := by
  intro f
  induction f with
  | zero => intro X; exact Kp.refl X
  | succ f ih =>
    intro X
    by_cases h0 : X.fin = 0
    case neg => rw [back_fin h0]; exact Kp.refl X
    rcases List.eq_nil_or_concat X.ch with hc | ⟨l, c, hc⟩
    · rw [back_none h0 hc]; exact ⟨rfl, rfl, fun _ => by simp⟩
    · rw [List.concat_eq_append] at hc
      rw [back_some h0 hc]
      have hk := try_kp (P := P) (gs := c.gl) (t := hdT c.σ c.gl) (f := P.length + 1) (i := c.k) (X := { X with ch := l, σ := c.σ }) (L := 4000)
      cases ht : tryP P c.gl (hdT c.σ c.gl) (P.length + 1) c.k { X with ch := l, σ := c.σ } 4000 with
      | mk Y ok =>
        rw [ht] at hk
        have hk : Kp X Y := Kp.trans (Y := { X with ch := l, σ := c.σ }) ⟨rfl, rfl, fun h => h⟩ hk
        cases ok with
        | true => exact hk
        | false => exact hk.trans ih
theorem step_kp {P : Cls} {X : PS} : Kp X (stepP P X) := by
  unfold stepP
  simp only
  split
  · exact ⟨rfl, rfl, fun _ => by simp⟩
  · split
    · exact ⟨rfl, rfl, fun h => h⟩
    · split
      · exact ⟨rfl, rfl, fun h => h⟩
      · split
        · exact Kp.trans (Y := { X with gl := X.gl.tail }) ⟨rfl, rfl, fun h => h⟩ back_kp
        · split
          · split
            · exact ⟨rfl, rfl, fun _ => by simp⟩
            · exact Kp.trans (Y := { X with gl := X.gl.tail }) ⟨rfl, rfl, fun h => h⟩ back_kp
            · exact ⟨rfl, rfl, fun h => h⟩
          · have hk := try_kp (P := P) (gs := X.gl) (t := hdT X.σ X.gl) (f := P.length + 1) (i := 0) (X := { X with gl := X.gl.tail }) (L := 4000)
            cases ht : tryP P X.gl (hdT X.σ X.gl) (P.length + 1) 0 { X with gl := X.gl.tail } 4000 with
            | mk Z ok =>
              rw [ht] at hk
              have hk : Kp X Z := Kp.trans (Y := { X with gl := X.gl.tail }) ⟨rfl, rfl, fun h => h⟩ hk
              cases ok with
              | true => exact hk
              | false => exact hk.trans back_kp
theorem answer_kp {P : Cls} {n : Nat} {X : PS} : (answerP P n X).st = X.st ∧ X.ans <+: (answerP P n X).ans ∧ (X.fin ≠ 2 → (answerP P n X).fin ≠ 2) := by
  unfold answerP
  split
  · exact ⟨rfl, List.prefix_refl _, fun _ => by simp⟩
  · split
    · exact ⟨rfl, List.prefix_append _ _, fun _ => by simp⟩
    · obtain ⟨h1, h2, h3⟩ := back_kp (P := P) (f := ({ X with ans := X.ans ++ [foundP X.σ n] } : PS).ch.length + 1) (X := { X with ans := X.ans ++ [foundP X.σ n] })
      refine ⟨h1, ?_, h3⟩
      show X.ans <+: (backP P _ _).ans
      rw [h2]
      exact List.prefix_append _ _
/-- What was found stays found. -/
theorem run_pre {P : Cls} {n b : Nat} : ∀ {f : Nat} {X : PS}, X.ans <+: (runP P n b f X).ans := by
  intro f
  induction f with
  | zero => intro X; exact List.prefix_refl _
  | succ f ih =>
    intro X
    rw [runP]
    split
    · exact List.prefix_refl _
    · split
      · exact answer_kp.2.1.trans ih
      · split
        · exact List.prefix_refl _
        · have h := (step_kp (P := P) (X := { X with st := X.st + 1 })).2.1
          have h2 : X.ans <+: (stepP P { X with st := X.st + 1 }).ans := by rw [h]; exact List.prefix_refl _
          exact h2.trans ih
theorem run_more {P : Cls} {n a b : Nat} (hab : a ≤ b) : ∀ {f g : Nat} {X : PS}, f ≤ g → X.st ≤ a → X.fin ≠ 2 → (runP P n a f X).fin ≠ 0 →
    ((runP P n a f X).fin ≠ 2 → runP P n b g X = runP P n a f X) ∧ ((runP P n a f X).fin = 2 → (runP P n a f X).st = a ∧ (runP P n a f X).ans <+: (runP P n b g X).ans) := by
  intro f
  induction f with
  | zero =>
    intro g X _ _ h2 h0
    refine ⟨fun _ => ?_, fun h => absurd h h2⟩
    show runP P n b g X = X
    cases g with
    | zero => rfl
    | succ g => rw [runP, if_pos (show X.fin ≠ 0 from h0)]
  | succ f ih =>
    intro g X hfg hst h2 h0
    obtain ⟨g, rfl⟩ : ∃ g', g = g' + 1 := ⟨g - 1, by omega⟩
    by_cases hx : X.fin ≠ 0
    · rw [runP, if_pos hx] at h0 ⊢
      rw [runP, if_pos hx]
      exact ⟨fun _ => rfl, fun h => absurd h h2⟩
    · rw [runP, if_neg hx] at h0 ⊢
      have hpb := run_pre (P := P) (n := n) (b := b) (f := g + 1) (X := X)
      rw [runP, if_neg hx] at hpb ⊢
      cases hg : X.gl with
      | nil =>
        rw [hg] at h0
        obtain ⟨k1, k2, k3⟩ := answer_kp (P := P) (n := n) (X := X)
        exact ih (g := g) (X := answerP P n X) (by omega) (by omega) (k3 h2) h0
      | cons y ys =>
        rw [hg] at h0 hpb
        simp only at h0 hpb ⊢
        by_cases ha : X.st = a
        · rw [if_pos ha]
          exact ⟨fun h => absurd rfl h, fun _ => ⟨ha, hpb⟩⟩
        · rw [if_neg ha] at h0 ⊢
          rw [if_neg (by omega)]
          obtain ⟨k1, _, k3⟩ := step_kp (P := P) (X := { X with gl := y :: ys, st := X.st + 1 })
          exact ih (g := g) (X := stepP P { X with gl := y :: ys, st := X.st + 1 }) (by omega) (by rw [k1]; show X.st + 1 ≤ a; omega) (k3 h2) h0
end Go.Proofs.Ytmggaclaoefdaaa
