/- What holds of a search over terms alone: cuts are among the choices. -/
import Derived.Test.YtmggaclaoefdaaaSvF
namespace Go.Proofs.Ytmggaclaoefdaaa
open Go.RowKit

/-- Cuts fall along the goals, and are at most k. -/
def Cu (gl : List Gl) (k : Nat) : Prop := (∀ g ∈ gl, g.2 ≤ k) ∧ gl.Pairwise fun a b => b.2 ≤ a.2
theorem Cu.tail {gl : List Gl} {k : Nat} (h : Cu gl k) : Cu gl.tail k := ⟨fun g hg => h.1 g (List.mem_of_mem_tail hg), h.2.sublist (List.tail_sublist gl)⟩
/-- Choices have goals, and clauses; the goals' cuts are among those below. -/
def CW (n : Nat) (ch : List Chc) : Prop := (∀ c ∈ ch, c.gl ≠ [] ∧ c.k ≤ n) ∧ ∀ i (h : i < ch.length), Cu ch[i].gl i
theorem CW.push {n : Nat} {ch : List Chc} (h : CW n ch) {c : Chc} (hc : c.gl ≠ [] ∧ c.k ≤ n) (hg : Cu c.gl ch.length) : CW n (ch ++ [c]) := by
  refine ⟨fun d hd => ?_, fun i hi => ?_⟩
  · rcases List.mem_append.1 hd with hd | hd
    · exact h.1 d hd
    · rw [List.mem_singleton] at hd; subst hd; exact hc
  · by_cases hl : i < ch.length
    · rw [List.getElem_append_left hl]; exact h.2 i hl
    · have hi' : i = ch.length := by simp at hi; omega
      subst hi'
      rw [List.getElem_append_right (Nat.le_refl _)]
      simpa using hg
theorem CW.take {n : Nat} {ch : List Chc} (h : CW n ch) (k : Nat) : CW n (ch.take k) :=
  ⟨fun d hd => h.1 d (List.mem_of_mem_take hd), fun i hi => by rw [List.getElem_take]; exact h.2 i (by rw [List.length_take] at hi; omega)⟩
theorem try_cw {P : Cls} {gs : List Gl} {t : Tm} (hgs : gs ≠ []) : ∀ {f i : Nat} {X Y : PS} {L : Nat}, CW P.length X.ch → Cu gs X.ch.length → tryP P gs t f i X L = (Y, true) → CW P.length Y.ch ∧ Cu Y.gl Y.ch.length := by
  intro f
  induction f with
  | zero => intro i X Y L _ _ h; rw [tryP] at h; cases h
  | succ f ih =>
    intro i X Y L hC hG h
    rw [tryP] at h
    split at h
    · cases h
    · split at h
      · cases h
      · exact ih (X := { X with last := X.last + 12 }) hC hG h
      · obtain ⟨rfl, _⟩ := Prod.mk.inj h
        simp only
        have hch : ∀ ch', (ch' = X.ch ∨ ∃ c, ch' = X.ch ++ [c]) → X.ch.length ≤ ch'.length := fun ch' h => by
          rcases h with rfl | ⟨c, rfl⟩
          · exact Nat.le_refl _
          · simp
        have hcu : ∀ (k : Nat) (b : List Tm) (θ : Int → Tm), X.ch.length ≤ k → Cu (b.map (fun b => (ap θ b, X.ch.length)) ++ gs.tail) k := fun k b θ hk => by
          have ht := hG.tail
          refine ⟨fun g hg => ?_, ?_⟩
          · rcases List.mem_append.1 hg with hg | hg
            · obtain ⟨x, _, rfl⟩ := List.mem_map.1 hg; exact hk
            · exact Nat.le_trans (ht.1 g hg) hk
          · rw [List.pairwise_append]
            refine ⟨?_, ht.2, fun a ha c hc => ?_⟩
            · rw [List.pairwise_map]
              exact List.pairwise_iff_getElem.2 (fun _ _ _ _ _ => Nat.le_refl _)
            · obtain ⟨x, _, rfl⟩ := List.mem_map.1 ha
              exact ht.1 c hc
        split
        · exact ⟨hC, hcu _ _ _ (Nat.le_refl _)⟩
        · rename_i k hk
          have hkl : k ≤ P.length := by
            unfold fitP at hk
            rw [List.find?_range_eq_some] at hk
            exact Nat.le_of_lt (List.mem_range.1 hk.2.1)
          exact ⟨hC.push ⟨hgs, hkl⟩ hG, hcu _ _ _ (by simp)⟩
theorem back_cw {P : Cls} : ∀ {f : Nat} {X : PS}, X.ch.length < f → CW P.length X.ch → (backP P f X).fin = 0 → CW P.length (backP P f X).ch ∧ Cu (backP P f X).gl (backP P f X).ch.length := by
  intro f
  induction f with
  | zero => intro X h; omega
  | succ f ih =>
    intro X hl hC hf
    by_cases h0 : X.fin = 0
    case neg => rw [back_fin h0] at hf; exact absurd hf h0
    rcases List.eq_nil_or_concat X.ch with hc | ⟨l, c, hc⟩
    · rw [back_none h0 hc] at hf; simp at hf
    · rw [List.concat_eq_append] at hc
      rw [back_some h0 hc] at hf ⊢
      rw [hc] at hC hl
      have hCl : CW P.length l := by have := hC.take l.length; rwa [List.take_left] at this
      have hcg : c.gl ≠ [] := (hC.1 c (by simp)).1
      have hcu : Cu c.gl l.length := by
        have := hC.2 l.length (by simp)
        simpa using this
      cases ht : tryP P c.gl (hdT c.σ c.gl) (P.length + 1) c.k { X with ch := l, σ := c.σ } 4000 with
      | mk Y ok =>
        rw [ht] at hf
        cases ok with
        | true => exact try_cw hcg (X := { X with ch := l, σ := c.σ }) hCl hcu ht
        | false =>
          have hy := (try_false ht).1
          exact ih (X := Y) (by rw [hy]; simp at hl; exact hl) (by rw [hy]; exact hCl) hf
theorem bk_cw {P : Cls} {X : PS} (hC : CW P.length X.ch) (hf : (bk P X).fin = 0) : CW P.length (bk P X).ch ∧ Cu (bk P X).gl (bk P X).ch.length := back_cw (Nat.lt_succ_self _) hC hf
/-- A step: if the search goes on, its cuts are among its choices. -/
theorem step_cw {P : Cls} {X : PS} (hg : X.gl ≠ []) (hC : CW P.length X.ch) (hG : Cu X.gl X.ch.length) (hf : (stepP P X).fin = 0) : CW P.length (stepP P X).ch ∧ Cu (stepP P X).gl (stepP P X).ch.length := by
  unfold stepP at hf ⊢
  simp only at hf ⊢
  split at hf
  · simp at hf
  · rename_i h1
    rw [if_neg h1]
    split at hf
    · rename_i h2
      rw [if_pos h2]
      cases hgl : X.gl with
      | nil => exact absurd hgl hg
      | cons g r =>
        rw [hgl] at hG
        have hle : g.2 ≤ X.ch.length := hG.1 g (by simp)
        refine ⟨hC.take _, ?_⟩
        show Cu r (X.ch.take g.2).length
        rw [List.length_take, show min g.2 X.ch.length = g.2 from by omega]
        have hp := List.pairwise_cons.1 hG.2
        exact ⟨fun a ha => hp.1 a ha, hp.2⟩
    · rename_i h2
      rw [if_neg h2]
      split at hf
      · rename_i h3
        rw [if_pos h3]
        exact ⟨hC, hG.tail⟩
      · rename_i h3
        rw [if_neg h3]
        split at hf
        · rename_i h4
          rw [if_pos h4]
          exact bk_cw (X := { X with gl := X.gl.tail }) hC hf
        · rename_i h4
          rw [if_neg h4]
          split at hf
          · rename_i h5
            rw [if_pos h5]
            split at hf
            · simp at hf
            · exact bk_cw (X := { X with gl := X.gl.tail }) hC hf
            · exact ⟨hC, hG.tail⟩
          · rename_i h5
            rw [if_neg h5]
            cases ht : tryP P X.gl (hdT X.σ X.gl) (P.length + 1) 0 { X with gl := X.gl.tail } 4000 with
            | mk Z ok =>
              rw [ht] at hf
              cases ok with
              | true => exact try_cw hg (X := { X with gl := X.gl.tail }) hC hG ht
              | false =>
                have hz := (try_false ht).1
                exact bk_cw (X := Z) (by rw [hz]; exact hC) hf
theorem answer_cw {P : Cls} {n : Nat} {X : PS} (hC : CW P.length X.ch) (hf : (answerP P n X).fin = 0) : CW P.length (answerP P n X).ch ∧ Cu (answerP P n X).gl (answerP P n X).ch.length := by
  unfold answerP at hf ⊢
  split at hf
  · simp at hf
  · split at hf
    · simp at hf
    · rename_i h2
      rw [if_neg h2]
      exact bk_cw (X := { X with ans := X.ans ++ [foundP X.σ n] }) hC hf
end Go.Proofs.Ytmggaclaoefdaaa
