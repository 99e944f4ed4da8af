/- Terms without their places: making them the same, and what they are, does not hang on the places. -/
import Derived.Test.YtmggaclaoefdaaaUni4
namespace Go.Proofs.Ytmggaclaoefdaaa
open Go.RowKit

theorem can_v (T : Tm) : (can T).v = T.v := by rw [can_eq]; rfl
theorem can_nm (T : Tm) : (can T).nm = T.nm := by rw [can_eq]; rfl
theorem can_len (T : Tm) : (can T).len = T.len := by rw [can_eq]; rfl
theorem can_f (T : Tm) {i : Nat} (h : i < T.len) : (can T).f i = can (T.f i) := by
  rw [can_eq]; show (if i < T.len then can (T.f i) else .nil) = _; rw [if_pos h]
/-- What variables are, without places. -/
def cs (σ : Sg) : Sg := fun v => (σ v).map can
theorem wh_cs (σ : Sg) : ∀ (k : Nat) (T : Tm), wh (cs σ) k (can T) = can (wh σ k T) := by
  intro k
  induction k with
  | zero => intro T; rfl
  | succ k ih =>
    intro T
    rw [wh, wh, can_v]
    by_cases hv : T.v = 0
    · rw [if_pos hv, if_pos hv]
    · rw [if_neg hv, if_neg hv]
      unfold cs
      cases hs : σ T.v with
      | none => rfl
      | some U => exact ih U
theorem wha_cs (σ : Sg) (T : Tm) : wha (cs σ) (can T) = can (wha σ T) := by
  unfold wha; rw [can_v]; exact wh_cs σ _ T
theorem kidsL_can (T : Tm) : kidsL (can T) = (kidsL T).map can := by
  unfold kidsL
  rw [can_len, List.map_map]
  apply List.map_congr_left
  intro i hi
  exact can_f T (List.mem_range.1 hi)
theorem within_cs (σ : Sg) (x : Int) : ∀ (L : Nat) (ts : List Tm), within (cs σ) x L (ts.map can) = within σ x L ts := by
  intro L
  induction L with
  | zero => intro ts; cases ts <;> rfl
  | succ L ih =>
    intro ts
    cases ts with
    | nil => rfl
    | cons t ts =>
      rw [List.map_cons, within_succ, within_succ, wha_cs, can_v, kidsL_can, ← List.map_append, ih]
theorem put_cs (σ : Sg) (X T : Tm) : put (cs σ) (can X) (can T) = cs (put σ X T) := by
  unfold put
  rw [can_v, can_v]
  have e : ∀ (i : Int) (U : Tm), upd (cs σ) i (can U) = cs (upd σ i U) := fun i U => by
    funext j
    show (if j = i then some (can U) else (σ j).map can) = (if j = i then some U else σ j).map can
    split <;> rfl
  split
  · exact e _ _
  · exact e _ _
def can2 (p : Tm × Tm) : Tm × Tm := (can p.1, can p.2)
theorem zipK_can {S T : Tm} (h : S.len = T.len) : zipK (can S) (can T) = (zipK S T).map can2 := by
  unfold zipK
  rw [can_len, List.map_map]
  apply List.map_congr_left
  intro i hi
  have hi := List.mem_range.1 hi
  show ((can S).f i, (can T).f i) = (can (S.f i), can (T.f i))
  rw [can_f S hi, can_f T (h ▸ hi)]
def csO : MO → MO
  | .over => .over
  | .no k => .no k
  | .yes k σ => .yes k (cs σ)
theorem meetF_cs : ∀ (F : Nat) (σ : Sg) (L : Nat) (ps : List (Tm × Tm)), meetF F (cs σ) L (ps.map can2) = csO (meetF F σ L ps) := by
  intro F
  induction F with
  | zero => intro σ L ps; rfl
  | succ F ih =>
    intro σ L ps
    cases ps with
    | nil => cases L <;> rfl
    | cons p ps =>
      obtain ⟨x, y⟩ := p
      cases L with
      | zero => rfl
      | succ L =>
        show meetF (F + 1) (cs σ) (L + 1) ((can x, can y) :: ps.map can2) = _
        have w1 : ∀ (a : Int) (t : Tm), within (cs σ) a L [can t] = within σ a L [t] := fun a t => within_cs σ a L [t]
        rw [meetF, meetF, wha_cs, wha_cs, can_v, can_v, can_nm, can_nm, can_len, can_len, w1, w1]
        by_cases h1 : (wha σ x).v ≠ 0
        · rw [if_pos h1, if_pos h1]
          by_cases h2 : (wha σ x).v = (wha σ y).v
          · rw [if_pos h2, if_pos h2]; exact ih σ L ps
          · rw [if_neg h2, if_neg h2]
            cases within σ (wha σ x).v L [wha σ y] with
            | over => rfl
            | found k => rfl
            | free k => show meetF F (put (cs σ) (can (wha σ x)) (can (wha σ y))) k (ps.map can2) = csO (meetF F (put σ (wha σ x) (wha σ y)) k ps); rw [put_cs]; exact ih _ _ _
        · rw [if_neg h1, if_neg h1]
          by_cases h2 : (wha σ y).v ≠ 0
          · rw [if_pos h2, if_pos h2]
            cases within σ (wha σ y).v L [wha σ x] with
            | over => rfl
            | found k => rfl
            | free k => show meetF F (put (cs σ) (can (wha σ y)) (can (wha σ x))) k (ps.map can2) = csO (meetF F (put σ (wha σ y) (wha σ x)) k ps); rw [put_cs]; exact ih _ _ _
          · rw [if_neg h2, if_neg h2]
            by_cases h3 : (wha σ x).nm.toList = (wha σ y).nm.toList ∧ (wha σ x).len = (wha σ y).len
            · rw [if_pos h3, if_pos h3, zipK_can h3.2, ← List.map_append]; exact ih _ _ _
            · rw [if_neg h3, if_neg h3]; rfl
theorem roomF_cs (σ : Sg) : ∀ (n : Nat) (ts : List Tm), roomF (cs σ) n (ts.map can) = roomF σ n ts := by
  intro n
  induction n with
  | zero => intro ts; cases ts <;> rfl
  | succ n ih =>
    intro ts
    cases ts with
    | nil => rfl
    | cons t ts =>
      show roomF (cs σ) n (kidsL (wha (cs σ) (can t)) ++ ts.map can) = roomF σ n (kidsL (wha σ t) ++ ts)
      rw [wha_cs, kidsL_can, ← List.map_append, ih]
theorem ex_cs (σ : Sg) : ∀ (d : Nat) (T : Tm), can (ex (cs σ) d (can T)) = can (ex σ d T) := by
  intro d
  induction d with
  | zero => intro T; rfl
  | succ d ih =>
    intro T
    rw [ex, ex, wha_cs, can_v, can_nm, can_len]
    by_cases h : (wha σ T).v = 0
    · rw [if_pos h, if_pos h]
      refine can_ext rfl rfl rfl (fun i hi => ?_)
      have hi : i < (wha σ T).len := hi
      show can (ex (cs σ) d ((can (wha σ T)).f i)) = can (ex σ d ((wha σ T).f i))
      rw [can_f _ hi]; exact ih _
    · rw [if_neg h, if_neg h]
/-- The variables of a term, as they come. -/
def vsT : Tm → List Int
  | .nil => []
  | .mk v _ _ len _ f => if v = 0 then ((List.range len).map fun i => vsT (f i)).flatten else [v]
theorem vsT_can (T : Tm) : vsT (can T) = vsT T := by
  induction T with
  | nil => rfl
  | mk v nm a len cap f ih =>
    show (if v = 0 then ((List.range len).map fun i => vsT (if i < len then can (f i) else .nil)).flatten else [v]) = (if v = 0 then ((List.range len).map fun i => vsT (f i)).flatten else [v])
    have e : ((List.range len).map fun i => vsT (if i < len then can (f i) else .nil)) = (List.range len).map fun i => vsT (f i) := by
      apply List.map_congr_left
      intro i hi
      rw [if_pos (List.mem_range.1 hi)]; exact ih i
    rw [e]
/-- Numbers as they first come. -/
def addV (s : List Int) (l : List Int) : List Int := l.foldl (fun s v => if v ∈ s then s else s ++ [v]) s
theorem addV_nil (s : List Int) : addV s [] = s := rfl
theorem addV_append (s l m : List Int) : addV s (l ++ m) = addV (addV s l) m := by unfold addV; rw [List.foldl_append]
theorem addV_one (s : List Int) (v : Int) : addV s [v] = if v ∈ s then s else s ++ [v] := rfl
/-- The number of a variable: its place, from 1 on. -/
def num (s : List Int) (v : Int) : Int := (s.idxOf v : Int) + 1
theorem addV_pre (l : List Int) : ∀ s : List Int, s <+: addV s l := by
  induction l with
  | nil => intro s; exact List.prefix_refl s
  | cons v l ih =>
    intro s
    show s <+: addV (if v ∈ s then s else s ++ [v]) l
    refine List.IsPrefix.trans ?_ (ih _)
    split
    · exact List.prefix_refl s
    · exact List.prefix_append s [v]
theorem addV_mem (l : List Int) : ∀ (s : List Int) (v : Int), v ∈ l → v ∈ addV s l := by
  induction l with
  | nil => intro s v h; simp at h
  | cons x l ih =>
    intro s v h
    rcases List.mem_cons.1 h with rfl | h
    · show v ∈ addV (if v ∈ s then s else s ++ [v]) l
      refine (addV_pre l _).subset ?_
      split
      · assumption
      · exact List.mem_append.2 (.inr (by simp))
    · exact ih _ v h
theorem num_pre {s s' : List Int} (h : s <+: s') {v : Int} (hv : v ∈ s) : num s' v = num s v := by
  obtain ⟨t, rfl⟩ := h
  unfold num
  rw [List.idxOf_append, if_pos hv]
end Go.Proofs.Ytmggaclaoefdaaa
