/- Two terms on a heap made the same: the pure twin. -/
import Derived.Test.YtmggaclaoefdaaaHm5
namespace Go.Proofs.Ytmggaclaoefdaaa
open Go.RowKit
set_option linter.unusedVariables false
set_option linter.unusedSimpArgs false

abbrev MS := Nat × List Cl × List Nat
/-- What came of it: the same, or not; how much work is left (-1: too much); the heap; what was bound. -/
inductive MR where
  | yes (s : MS)
  | no (left : Int) (l : List Cl) (bs : List Nat)
def MR.ok : MR → Bool
  | .yes _ => true
  | .no .. => false
def MR.left : MR → Int
  | .yes s => s.1
  | .no x _ _ => x
def MR.l : MR → List Cl
  | .yes s => s.2.1
  | .no _ l _ => l
def MR.bs : MR → List Nat
  | .yes s => s.2.2
  | .no _ _ bs => bs
noncomputable def bdH (v t : Nat) (s : MS) : MR := match lkL (hOf s.2.1) s.2.1.length v s.1 [t] with
  | .ok k => .yes (k, bndL s.2.1 (swB s.2.1 v t).1 (swB s.2.1 v t).2, s.2.2 ++ [(swB s.2.1 v t).1])
  | q => .no q.left s.2.1 s.2.2
def smK (F : Nat → Nat → MS → MR) (a b : Nat) : Nat → MS → MR
  | 0, s => .yes s
  | k + 1, s => match smK F a b k s with
    | .yes s' => F (a + 1 + k) (b + 1 + k) s'
    | r => r
noncomputable def smE (F : Nat → Nat → MS → MR) (a b : Nat) (s : MS) : MR :=
  if (hOf s.2.1 a).k = 1 ∧ a = b then .yes s
  else if (hOf s.2.1 a).k = 1 then bdH a b s
  else if (hOf s.2.1 b).k = 1 then bdH b a s
  else if ¬ ((hOf s.2.1 a).n = (hOf s.2.1 b).n ∧ (hOf s.2.1 a).nm.toList = (hOf s.2.1 b).nm.toList) then .no s.1 s.2.1 s.2.2
  else smK F a b (hOf s.2.1 a).n.toNat s
noncomputable def smH : Nat → Nat → Nat → MS → MR
  | 0 => fun _ _ s => .no (-1) s.2.1 s.2.2
  | f + 1 => fun a b s => match s.1 with
    | 0 => .no (-1) s.2.1 s.2.2
    | n + 1 => smE (smH f) (endA (hOf s.2.1) s.2.1.length a) (endA (hOf s.2.1) s.2.1.length b) (n, s.2.1, s.2.2)
/-- A heap that is right, and stays so. -/
structure MG (s : MS) : Prop where
  hg : HG (hOf s.2.1) s.2.1.length
  nm : ∀ c ∈ s.2.1, c.nm.size ≤ maxLen
structure MR.Good (r : MR) (s : MS) : Prop where
  hg : HG (hOf r.l) r.l.length
  nm : ∀ c ∈ r.l, c.nm.size ≤ maxLen
  len : r.l.length = s.2.1.length
  le : r.left ≤ s.1
  bs : r.ok = true → r.bs.length + r.left ≤ s.2.2.length + s.1
  bs' : r.bs.length ≤ s.2.2.length + s.1
  kk : ∀ i, (hOf r.l i).k = (hOf s.2.1 i).k ∧ (hOf r.l i).nm = (hOf s.2.1 i).nm ∧ ((hOf s.2.1 i).k ≠ 1 → (hOf r.l i).n = (hOf s.2.1 i).n)
theorem MG.self {s : MS} (h : MG s) : (MR.yes s).Good s := ⟨h.hg, h.nm, rfl, Int.le_refl _, fun _ => Int.le_refl _, by show s.2.2.length ≤ _; omega, fun i => ⟨rfl, rfl, fun _ => rfl⟩⟩
theorem MG.not {s : MS} (h : MG s) {x : Int} (hx : x ≤ s.1) : (MR.no x s.2.1 s.2.2).Good s := ⟨h.hg, h.nm, rfl, hx, fun e => (by cases e), by show s.2.2.length ≤ _; omega, fun i => ⟨rfl, rfl, fun _ => rfl⟩⟩
theorem root_end {h : Nat → Cl} {len i : Nat} (H : HG h len) (hi : i < len) (he : endA h len i = i) (hk : (h i).k = 1) : (h i).n = i := by
  rcases H.end_or hi with ⟨_, h2⟩ | h2
  · rw [he] at h2; exact h2
  · rw [he] at h2; omega
theorem bdH_good {s : MS} (G : MG s) {v t : Nat} (hv : v < s.2.1.length) (ht : t < s.2.1.length) (hev : endA (hOf s.2.1) s.2.1.length v = v) (het : endA (hOf s.2.1) s.2.1.length t = t) (hk : (hOf s.2.1 v).k = 1) (hne : t ≠ v) (h1 : 0 < s.1 ∨ True) : (bdH v t s).Good s := by
  obtain ⟨n, l, bs⟩ := s
  have hG := G.hg
  unfold bdH
  have hle := lkL_le (hOf l) l.length v n [t]
  have hnot := lkL_not hG hev n [t]
  have hlt : ∀ k, lkL (hOf l) l.length v n [t] = .ok k → k < n := fun k e => by
    rw [lkL_one] at e
    cases n with
    | zero => cases e
    | succ n =>
      have e' : (if endA (hOf l) l.length t = v then LkR.hit n else lkL (hOf l) l.length v n (leads (hOf l) (endA (hOf l) l.length t))) = .ok k := e
      split at e'
      · cases e'
      · have := (lkL_le (hOf l) l.length v n _).1 k e'; omega
  show (match lkL (hOf l) l.length v n [t] with | .ok k => MR.yes (k, bndL l (swB l v t).1 (swB l v t).2, bs ++ [(swB l v t).1]) | q => MR.no q.left l bs).Good (n, l, bs)
  cases hq : lkL (hOf l) l.length v n [t] with
  | hit k => exact G.not (x := (k : Int)) (by have := hle.2 k hq; show (k : Int) ≤ (n : Int); omega)
  | over => exact G.not (x := -1) (by show (-1 : Int) ≤ (n : Int); omega)
  | ok k =>
    have hR := hnot k hq t (by simp) ht
    have hkn := hlt k hq
    have hnv := root_end hG hv hev hk
    have key : ∃ v' t', swB l v t = (v', t') ∧ v' < l.length ∧ t' < l.length ∧ t' ≠ v' ∧ (hOf l v').k = 1 ∧ ¬ Rch (hOf l) v' t' := by
      unfold swB
      by_cases hc : (hOf l t).k = 1 ∧ v < t
      · rw [if_pos hc]
        refine ⟨t, v, rfl, ht, hv, Ne.symm hne, hc.1, fun r => ?_⟩
        cases r with
        | here => exact hne rfl
        | step hj _ =>
          unfold leads at hj
          rw [if_pos hk, if_pos hnv] at hj
          cases hj
      · rw [if_neg hc]
        exact ⟨v, t, rfl, hv, ht, hne, hk, hR⟩
    obtain ⟨v', t', hsw, hv', ht', hne', hk', hR'⟩ := key
    show (MR.yes (k, bndL l (swB l v t).1 (swB l v t).2, bs ++ [(swB l v t).1])).Good (n, l, bs)
    rw [hsw]
    have hb : hOf (bndL l v' t') = bndH (hOf l) v' t' := bndL_h hv'
    refine ⟨?_, bndL_nm hv' G.nm, bndL_len l v' t', ?_, fun _ => ?_, ?_, fun i => ?_⟩
    · show HG (hOf (bndL l v' t')) (bndL l v' t').length
      rw [hb, bndL_len]
      exact hG.bind hv' hk' ht' hne' hR'
    · show (k : Int) ≤ (n : Int); omega
    · show ((bs ++ [v']).length : Int) + (k : Int) ≤ (bs.length : Int) + (n : Int)
      simp; omega
    · show (bs ++ [v']).length ≤ bs.length + n
      simp; omega
    · show (hOf (bndL l v' t') i).k = _ ∧ (hOf (bndL l v' t') i).nm = _ ∧ (_ → (hOf (bndL l v' t') i).n = _)
      rw [hb]
      refine ⟨(bndH_k _ _ _ i).1, (bndH_k _ _ _ i).2, fun h => ?_⟩
      rw [bndH_ne (fun e => by subst e; exact h hk')]
theorem MR.Good.trans {q : MR} {s s' : MS} (h : (MR.yes s').Good s) (h' : q.Good s') : q.Good s := by
  refine ⟨h'.hg, h'.nm, h'.len.trans h.len, ?_, fun e => ?_, ?_, fun i => ?_⟩
  · exact Int.le_trans h'.le h.le
  · have h1 := h'.bs e
    have h2 := h.bs rfl
    have h3 : (s'.2.2.length : Int) + (s'.1 : Int) ≤ s.2.2.length + s.1 := h2
    omega
  · have h1 := h'.bs'
    have h3 : (s'.2.2.length : Int) + (s'.1 : Int) ≤ s.2.2.length + s.1 := h.bs rfl
    omega
  · obtain ⟨a1, a2, a3⟩ := h'.kk i
    obtain ⟨b1, b2, b3⟩ := h.kk i
    exact ⟨a1.trans b1, a2.trans b2, fun e => (a3 (fun e' => e (b1 ▸ e'))).trans (b3 e)⟩
theorem MR.Good.mg {s s' : MS} (h : (MR.yes s').Good s) : MG s' := ⟨h.hg, h.nm⟩
theorem smK_good {F : Nat → Nat → MS → MR} {a b N : Nat} {s : MS} (G : MG s) (hF : ∀ k, k < N → ∀ s', (MR.yes s').Good s → (F (a + 1 + k) (b + 1 + k) s').Good s') : ∀ k, k ≤ N → (smK F a b k s).Good s := by
  intro k
  induction k with
  | zero => intro _; exact G.self
  | succ k ih =>
    intro hk
    have h1 := ih (by omega)
    unfold smK
    cases hq : smK F a b k s with
    | yes s' =>
      rw [hq] at h1
      exact h1.trans (hF k (by omega) s' h1)
    | no x l bs => rw [hq] at h1; exact h1
theorem smH_good : ∀ (f a b : Nat) (s : MS), MG s → a < s.2.1.length → b < s.2.1.length → (smH f a b s).Good s := by
  intro f
  induction f with
  | zero => intro a b s G _ _; exact G.not (x := -1) (by omega)
  | succ f ih =>
    intro a b s G ha hb
    obtain ⟨n, l, bs⟩ := s
    cases n with
    | zero => exact G.not (x := -1) (by show (-1 : Int) ≤ 0; omega)
    | succ n =>
      have hG := G.hg
      have ha' := hG.end_lt ha
      have hb' := hG.end_lt hb
      have hea := hG.end_end ha
      have heb := hG.end_end hb
      show (smE (smH f) (endA (hOf l) l.length a) (endA (hOf l) l.length b) (n, l, bs)).Good (n + 1, l, bs)
      generalize endA (hOf l) l.length a = x at *
      generalize endA (hOf l) l.length b = y at *
      have G1 : MG (n, l, bs) := ⟨G.hg, G.nm⟩
      have up : ∀ r : MR, r.Good (n, l, bs) → r.Good (n + 1, l, bs) := fun r h => by
        refine ⟨h.hg, h.nm, h.len, ?_, fun e => ?_, ?_, h.kk⟩
        · have h9 : r.left ≤ (n : Int) := h.le
          show r.left ≤ ((n + 1 : Nat) : Int); omega
        · have h9 : (r.bs.length : Int) + r.left ≤ (bs.length : Int) + (n : Int) := h.bs e
          show (r.bs.length : Int) + r.left ≤ (bs.length : Int) + ((n + 1 : Nat) : Int); omega
        · have h9 : r.bs.length ≤ bs.length + n := h.bs'
          show r.bs.length ≤ bs.length + (n + 1); omega
      refine up _ ?_
      unfold smE
      show MR.Good (if (hOf l x).k = 1 ∧ x = y then _ else if (hOf l x).k = 1 then bdH x y (n, l, bs) else if (hOf l y).k = 1 then bdH y x (n, l, bs) else if ¬ ((hOf l x).n = (hOf l y).n ∧ (hOf l x).nm.toList = (hOf l y).nm.toList) then _ else smK (smH f) x y (hOf l x).n.toNat (n, l, bs)) (n, l, bs)
      by_cases h1 : (hOf l x).k = 1 ∧ x = y
      · rw [if_pos h1]; exact G1.self
      rw [if_neg h1]
      by_cases h2 : (hOf l x).k = 1
      · rw [if_pos h2]; exact bdH_good G1 ha' hb' hea heb h2 (fun e => h1 ⟨h2, e.symm⟩) (.inr trivial)
      rw [if_neg h2]
      by_cases h3 : (hOf l y).k = 1
      · rw [if_pos h3]; exact bdH_good G1 hb' ha' heb hea h3 (fun e => h2 (e ▸ h3)) (.inr trivial)
      rw [if_neg h3]
      by_cases h4 : ¬ ((hOf l x).n = (hOf l y).n ∧ (hOf l x).nm.toList = (hOf l y).nm.toList)
      · rw [if_pos h4]; exact G1.not (Int.le_refl _)
      rw [if_neg h4]
      have hxy : (hOf l x).n = (hOf l y).n := (Classical.not_not.1 h4).1
      have ky : (hOf l y).k = 2 := by
        rcases hG.kind y hb' with h | h
        · exact absurd h h3
        · exact h
      refine smK_good G1 (fun k hk s' hs' => ?_) _ (Nat.le_refl _)
      have kx : (hOf l x).k = 2 := by
        rcases hG.kind x ha' with h | h
        · exact absurd h h2
        · exact h
      have hn0 : 0 ≤ (hOf l x).n := hG.ok.n0 x ha'
      have hk' : k < (hOf l x).n.toNat := hk
      have hkI : (k : Int) < (hOf l x).n := by omega
      have e1 := (hG.kids x ha' kx k hkI).1
      have e2 := (hG.kids y hb' ky k (by rw [← hxy]; exact hkI)).1
      have hl : s'.2.1.length = l.length := hs'.len
      exact ih _ _ s' hs'.mg (by rw [hl]; exact e1) (by rw [hl]; exact e2)
end Go.Proofs.Ytmggaclaoefdaaa
