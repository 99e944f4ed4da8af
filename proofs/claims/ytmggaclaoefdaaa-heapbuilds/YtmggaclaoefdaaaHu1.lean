/- What Put lays behind a heap, over cells alone: the heap stays right, and the term stands there. -/
import Derived.Test.YtmggaclaoefdaaaHc2
import Derived.Test.YtmggaclaoefdaaaGAV
import Derived.Test.YtmggaclaoefdaaaGAD
import Derived.Test.YtmggaclaoefdaaaGAI
namespace Go.Proofs.Ytmggaclaoefdaaa
open Go.RowKit
set_option linter.unusedVariables false
set_option linter.unusedSimpArgs false

theorem err_kids {v : Int} {nm : ByteArray} {a : Option Addr} {len cap : Nat} {f : Nat → Tm} (h : err (.mk v nm a len cap f) = 0) : partE v nm len = 0 ∧ ∀ i, i < len → err (f i) = 0 := by
  have hp : partE v nm len = 0 := by
    by_cases hp : partE v nm len = 0
    · exact hp
    · rw [err, if_neg hp] at h; exact h
  rw [err, if_pos hp] at h
  refine ⟨hp, fun i hi => ?_⟩
  have h0 := fst_zero (fun i => err (f i)) (Nat.le_of_lt hi) h
  have h1 := fst_zero (fun i => err (f i)) (show i + 1 ≤ len from hi) h
  rw [fst, if_pos h0] at h1
  exact h1
theorem partE_fn {nm : ByteArray} {len : Nat} (h : partE 0 nm len = 0) : nameB nm = true ∧ len ≤ 4 ∧ ¬ (nm.toList = [33] ∧ 0 < len) := by
  unfold partE at h
  rw [if_neg (by simp)] at h
  by_cases h1 : nameB nm = false
  · rw [if_pos h1] at h; omega
  · rw [if_neg h1] at h
    by_cases h2 : 4 < len
    · rw [if_pos h2] at h; omega
    · rw [if_neg h2] at h
      by_cases h3 : nm.toList = [33] ∧ 0 < len
      · rw [if_pos h3] at h; omega
      · exact ⟨by simpa using h1, by omega, h3⟩
theorem nameB_size {nm : ByteArray} (h : nameB nm = true) : nm.size ≤ 8 := by
  unfold nameB at h
  rcases Bool.or_eq_true _ _ ▸ h with h | h
  · have h1 : nm.toList = [33] := by simpa using h
    have : nm.toList.length = nm.size := by rw [ByteArray.toList_eq]; rfl
    rw [h1] at this
    simp at this
    omega
  · unfold wordB at h
    simp only [Bool.and_eq_true, decide_eq_true_eq] at h
    exact h.1.1.2
theorem hOf_set' {l : List Cl} {i : Nat} {c : Cl} (hi : i < l.length) (j : Nat) : hOf (l.set i c) j = if j = i then c else hOf l j := by
  unfold hOf
  rw [List.getD_eq_getElem?_getD, List.getD_eq_getElem?_getD, List.getElem?_set]
  by_cases h : i = j
  · subst h; simp [hi]
  · rw [if_neg h, if_neg (fun e => h e.symm)]
theorem hOf_app {l r : List Cl} (j : Nat) : hOf (l ++ r) j = if j < l.length then hOf l j else hOf r (j - l.length) := by
  unfold hOf
  rw [List.getD_eq_getElem?_getD, List.getD_eq_getElem?_getD, List.getD_eq_getElem?_getD, List.getElem?_append]
  by_cases h : j < l.length
  · rw [if_pos h, if_pos h]
  · rw [if_neg h, if_neg h]
theorem hOf_mapU {h : Nat → Cl} {len i : Nat} (hi : i < len) : hOf ((List.range len).map h) i = h i := by
  unfold hOf
  simp [hi]
/-- A term stands at a cell, laid between lo and hi, its variables where σ tells. -/
def Bd (h : Nat → Cl) (σ : Int → Option Int) (lo hi : Nat) : Tm → Nat → Prop
  | .nil, _ => False
  | .mk v nm _ len _ f, c => (v ≠ 0 → σ v = some (c : Int)) ∧ (v = 0 → lo ≤ c ∧ c + 1 + len ≤ hi ∧ h c = ⟨2, len, nm⟩ ∧ ∀ j, j < len → ∃ d : Nat, h (c + 1 + j) = frC d ∧ d ≠ c + 1 + j ∧ Bd h σ lo hi (f j) d)
theorem Bd.mono {h h' : Nat → Cl} {σ σ' : Int → Option Int} {lo lo' hi hi' : Nat} (hag : ∀ i, lo ≤ i → i < hi → h' i = h i) (hσ : ∀ v c, σ v = some c → σ' v = some c) (hlo : lo' ≤ lo) (hhi : hi ≤ hi') (T : Tm) : ∀ c, Bd h σ lo hi T c → Bd h' σ' lo' hi' T c := by
  induction T with
  | nil => intro c H; exact H
  | mk v nm a len cap f ih =>
    intro c H
    refine ⟨fun hv => hσ _ _ (H.1 hv), fun hv => ?_⟩
    obtain ⟨h1, h2, h3, h4⟩ := H.2 hv
    refine ⟨by omega, by omega, (hag c h1 (by omega)).trans h3, fun j hj => ?_⟩
    obtain ⟨d, e1, e2, e3⟩ := h4 j hj
    exact ⟨d, (hag _ (by omega) (by omega)).trans e1, e2, ih j d e3⟩
/-- A cell that was laid. -/
def CO (L0 : Nat) (p : HSt) (x : Nat) : Prop := (∃ y : Nat, hOf p.1 x = frC y ∧ y < p.1.length ∧ (y = x ∨ y < L0 ∨ x < y ∨ ∃ v, p.2 v = some (y : Int))) ∨ (∃ (n : Nat) (nm : ByteArray), hOf p.1 x = ⟨2, n, nm⟩ ∧ n ≤ 4 ∧ nameB nm = true ∧ ¬ (nm.toList = [33] ∧ 0 < n) ∧ x + n < p.1.length ∧ ∀ j, j < n → (hOf p.1 (x + 1 + j)).k = 1)
structure PutI (L0 : Nat) (p : HSt) : Prop where
  var : ∀ v c, p.2 v = some c → ∃ y : Nat, c = y ∧ y < p.1.length ∧ (L0 ≤ y → hOf p.1 y = frC y)
  cel : ∀ x, L0 ≤ x → x < p.1.length → CO L0 p x
  low : L0 ≤ p.1.length
structure PutO (L0 : Nat) (p : HSt) (T : Tm) (q : HSt × Int) : Prop where
  inv : PutI L0 q.1
  len : p.1.length ≤ q.1.1.length
  old : ∀ i, i < p.1.length → hOf q.1.1 i = hOf p.1 i
  up : ∀ v c, p.2 v = some c → q.1.2 v = some c
  new : ∀ v c, q.1.2 v = some c → p.2 v = some c ∨ (p.1.length : Int) ≤ c
  at_ : ∃ t : Nat, q.2 = t ∧ t < q.1.1.length ∧ Bd (hOf q.1.1) q.1.2 p.1.length q.1.1.length T t
theorem putV_po {L0 : Nat} {v : Int} {nm : ByteArray} {a : Option Addr} {len cap : Nat} {f : Nat → Tm} (hv : v ≠ 0) {p : HSt} (I : PutI L0 p) : PutO L0 p (.mk v nm a len cap f) (putV v p) := by
  unfold putV
  cases hσ : p.2 v with
  | some c =>
    obtain ⟨y, rfl, hy, _⟩ := I.var v c hσ
    exact ⟨I, Nat.le_refl _, fun _ _ => rfl, fun _ _ h => h, fun _ _ h => .inl h, y, rfl, hy, fun _ => hσ, fun h => absurd h hv⟩
  | none =>
    have hlow := I.low
    have hL : (p.1 ++ [frC p.1.length]).length = p.1.length + 1 := by simp
    have hO : ∀ i, i < p.1.length → hOf (p.1 ++ [frC p.1.length]) i = hOf p.1 i := fun i hi => by rw [hOf_app, if_pos hi]
    have hN : hOf (p.1 ++ [frC p.1.length]) p.1.length = frC p.1.length := by rw [hOf_app, if_neg (by omega), Nat.sub_self]; rfl
    have hu : ∀ u c, p.2 u = some c → updI p.2 v p.1.length u = some c := fun u c h => by
      unfold updI
      rw [if_neg (fun e => by rw [e, hσ] at h; cases h)]
      exact h
    have hn : ∀ u c, updI p.2 v p.1.length u = some c → p.2 u = some c ∨ c = (p.1.length : Int) := fun u c h => by
      unfold updI at h
      by_cases e : u = v
      · rw [if_pos e] at h; exact .inr (Option.some.inj h).symm
      · rw [if_neg e] at h; exact .inl h
    refine ⟨⟨?_, ?_, ?_⟩, ?_, hO, hu, ?_, p.1.length, rfl, ?_, fun _ => ?_, fun h => absurd h hv⟩
    · intro u c h
      rcases hn u c h with h | h
      · obtain ⟨y, e, hy, h9⟩ := I.var u c h
        exact ⟨y, e, by show y < (p.1 ++ [frC p.1.length]).length; omega, fun h8 => (hO y hy).trans (h9 h8)⟩
      · exact ⟨p.1.length, h, by show _ < (p.1 ++ [frC p.1.length]).length; omega, fun _ => hN⟩
    · intro x hx hx'
      have hx2 : x < p.1.length + 1 := by rw [← hL]; exact hx'
      by_cases hxl : x < p.1.length
      · rcases I.cel x hx hxl with ⟨y, h1, h2, h3⟩ | ⟨n, m, h1, h2, h3, h4, h5, h6⟩
        · refine .inl ⟨y, (hO x hxl).trans h1, by show y < (p.1 ++ [frC p.1.length]).length; omega, ?_⟩
          rcases h3 with h3 | h3 | h3 | ⟨u, h3⟩
          · exact .inl h3
          · exact .inr (.inl h3)
          · exact .inr (.inr (.inl h3))
          · exact .inr (.inr (.inr ⟨u, hu _ _ h3⟩))
        · exact .inr ⟨n, m, (hO x hxl).trans h1, h2, h3, h4, by show _ < (p.1 ++ [frC p.1.length]).length; omega, fun j hj => by show (hOf (p.1 ++ [frC p.1.length]) _).k = 1; rw [hO _ (by omega)]; exact h6 j hj⟩
      · obtain rfl : x = p.1.length := by omega
        exact .inl ⟨p.1.length, hN, by show _ < (p.1 ++ [frC p.1.length]).length; omega, .inl rfl⟩
    · show L0 ≤ (p.1 ++ [frC p.1.length]).length; omega
    · show p.1.length ≤ (p.1 ++ [frC p.1.length]).length; omega
    · intro u c h
      rcases hn u c h with h | h
      · exact .inl h
      · exact .inr (by omega)
    · show p.1.length < (p.1 ++ [frC p.1.length]).length; omega
    · show updI p.2 v p.1.length v = _
      unfold updI
      rw [if_pos rfl]
/-- What holds while the arguments are put. -/
structure PutL (L0 : Nat) (p : HSt) (nm : ByteArray) (len : Nat) (f : Nat → Tm) (k : Nat) (s : HSt) : Prop where
  inv : PutI L0 s
  big : p.1.length + 1 + len ≤ s.1.length
  old : ∀ i, i < p.1.length → hOf s.1 i = hOf p.1 i
  fn : hOf s.1 p.1.length = ⟨2, len, nm⟩
  fr : ∀ j, k ≤ j → j < len → hOf s.1 (p.1.length + 1 + j) = frC (p.1.length + 1 + j : Nat)
  done : ∀ j, j < k → ∃ d : Nat, hOf s.1 (p.1.length + 1 + j) = frC d ∧ d ≠ p.1.length + 1 + j ∧ Bd (hOf s.1) s.2 (p.1.length + 1 + len) s.1.length (f j) d
  up : ∀ v c, p.2 v = some c → s.2 v = some c
  new : ∀ v c, s.2 v = some c → p.2 v = some c ∨ ((p.1.length + 1 + len : Nat) : Int) ≤ c
theorem frs_get {at' k j : Nat} (hj : j < k) : hOf (frs at' k) j = frC (at' + 1 + j : Nat) := by
  unfold hOf frs
  simp [hj]
theorem pl_begin {L0 : Nat} {p : HSt} {nm : ByteArray} {len : Nat} {f : Nat → Tm} (I : PutI L0 p) (hp : nameB nm = true ∧ len ≤ 4 ∧ ¬ (nm.toList = [33] ∧ 0 < len)) : PutL L0 p nm len f 0 (p.1 ++ (⟨2, len, nm⟩ :: frs p.1.length len), p.2) := by
  have hlow := I.low
  have hL : (p.1 ++ ((⟨2, len, nm⟩ : Cl) :: frs p.1.length len)).length = p.1.length + 1 + len := by simp [frs]; omega
  have hO : ∀ i, i < p.1.length → hOf (p.1 ++ ((⟨2, len, nm⟩ : Cl) :: frs p.1.length len)) i = hOf p.1 i := fun i hi => by rw [hOf_app, if_pos hi]
  have hF : hOf (p.1 ++ ((⟨2, len, nm⟩ : Cl) :: frs p.1.length len)) p.1.length = ⟨2, len, nm⟩ := by rw [hOf_app, if_neg (by omega), Nat.sub_self]; rfl
  have hR : ∀ j, j < len → hOf (p.1 ++ ((⟨2, len, nm⟩ : Cl) :: frs p.1.length len)) (p.1.length + 1 + j) = frC (p.1.length + 1 + j : Nat) := fun j hj => by
    rw [hOf_app, if_neg (by omega), show p.1.length + 1 + j - p.1.length = j + 1 from by omega]
    exact frs_get hj
  refine ⟨⟨?_, ?_, ?_⟩, ?_, hO, hF, fun j _ hj => hR j hj, fun j hj => absurd hj (Nat.not_lt_zero j), fun _ _ h => h, fun _ _ h => .inl h⟩
  · intro v c h
    obtain ⟨y, e, hy, h9⟩ := I.var v c h
    exact ⟨y, e, by show y < (p.1 ++ ((⟨2, len, nm⟩ : Cl) :: frs p.1.length len)).length; omega, fun h8 => (hO y hy).trans (h9 h8)⟩
  · intro x hx hx'
    have hx2 : x < p.1.length + 1 + len := by rw [← hL]; exact hx'
    by_cases hxl : x < p.1.length
    · rcases I.cel x hx hxl with ⟨y, h1, h2, h3⟩ | ⟨n, m, h1, h2, h3, h4, h5, h6⟩
      · exact .inl ⟨y, (hO x hxl).trans h1, by show y < (p.1 ++ ((⟨2, len, nm⟩ : Cl) :: frs p.1.length len)).length; omega, h3⟩
      · exact .inr ⟨n, m, (hO x hxl).trans h1, h2, h3, h4, by show _ < (p.1 ++ ((⟨2, len, nm⟩ : Cl) :: frs p.1.length len)).length; omega, fun j hj => by show (hOf (p.1 ++ ((⟨2, len, nm⟩ : Cl) :: frs p.1.length len)) _).k = 1; rw [hO _ (by omega)]; exact h6 j hj⟩
    · by_cases hxe : x = p.1.length
      · subst hxe
        exact .inr ⟨len, nm, hF, hp.2.1, hp.1, hp.2.2, by show _ < (p.1 ++ ((⟨2, len, nm⟩ : Cl) :: frs p.1.length len)).length; omega, fun j hj => by show (hOf (p.1 ++ ((⟨2, len, nm⟩ : Cl) :: frs p.1.length len)) _).k = 1; rw [hR j hj]; rfl⟩
      · obtain ⟨j, rfl⟩ : ∃ j, x = p.1.length + 1 + j := ⟨x - p.1.length - 1, by omega⟩
        exact .inl ⟨p.1.length + 1 + j, hR j (by omega), hx', .inl rfl⟩
  · show L0 ≤ (p.1 ++ ((⟨2, len, nm⟩ : Cl) :: frs p.1.length len)).length; omega
  · show _ ≤ (p.1 ++ ((⟨2, len, nm⟩ : Cl) :: frs p.1.length len)).length; omega
theorem pl_step {L0 : Nat} {p : HSt} {nm : ByteArray} {len : Nat} {f : Nat → Tm} {k : Nat} {s : HSt} (I : PutI L0 p) (H : PutL L0 p nm len f k s) (hk : k < len) {q : HSt × Int} (Q : PutO L0 s (f k) q) :
    PutL L0 p nm len f (k + 1) (q.1.1.set (p.1.length + 1 + k) (setN (hOf q.1.1 (p.1.length + 1 + k)) q.2), q.1.2) := by
  have hlow := I.low
  have hbig := H.big
  have hql := Q.len
  obtain ⟨t, ht, htl, hB⟩ := Q.at_
  have hpos : p.1.length + 1 + k < q.1.1.length := by omega
  have hcell : hOf q.1.1 (p.1.length + 1 + k) = frC (p.1.length + 1 + k : Nat) := (Q.old _ (by omega)).trans (H.fr k (Nat.le_refl _) hk)
  have hset : setN (hOf q.1.1 (p.1.length + 1 + k)) q.2 = frC t := by rw [hcell, ht]; rfl
  rw [hset]
  have hS : ∀ j, hOf (q.1.1.set (p.1.length + 1 + k) (frC t)) j = if j = p.1.length + 1 + k then frC t else hOf q.1.1 j := hOf_set' hpos
  have hSn : ∀ j, j ≠ p.1.length + 1 + k → hOf (q.1.1.set (p.1.length + 1 + k) (frC t)) j = hOf q.1.1 j := fun j hj => by rw [hS, if_neg hj]
  have hL : (q.1.1.set (p.1.length + 1 + k) (frC t)).length = q.1.1.length := by simp
  -- cells of variables are not among the arguments
  have hvar : ∀ v c, q.1.2 v = some c → ∃ y : Nat, c = y ∧ y < q.1.1.length ∧ (y < p.1.length ∨ p.1.length + 1 + len ≤ y) := fun v c h => by
    obtain ⟨y, e, hy, _⟩ := Q.inv.var v c h
    refine ⟨y, e, hy, ?_⟩
    rcases Q.new v c h with h1 | h1
    · rcases H.new v c h1 with h2 | h2
      · obtain ⟨y', e', hy', _⟩ := I.var v c h2
        exact .inl (by omega)
      · exact .inr (by omega)
    · exact .inr (by omega)
  have hkind : (∃ v, q.1.2 v = some (t : Int)) ∨ s.1.length ≤ t := by
    generalize f k = T at hB
    cases T with
    | nil => exact hB.elim
    | mk v _ _ _ _ _ =>
      by_cases hv : v = 0
      · exact .inr (hB.2 hv).1
      · exact .inl ⟨v, hB.1 hv⟩
  have htne : t ≠ p.1.length + 1 + k := by
    rcases hkind with ⟨v, h⟩ | h
    · obtain ⟨y, e, _, h2⟩ := hvar v _ h
      omega
    · omega
  refine ⟨⟨?_, ?_, ?_⟩, ?_, ?_, ?_, ?_, ?_, fun v c h => Q.up _ _ (H.up _ _ h), ?_⟩
  · intro v c h
    obtain ⟨y, e, hy, h2⟩ := hvar v c h
    obtain ⟨y', e', _, h3⟩ := Q.inv.var v c h
    obtain rfl : y = y' := by omega
    exact ⟨y, e, by show y < (q.1.1.set _ _).length; omega, fun h8 => (hSn y (by omega)).trans (h3 h8)⟩
  · intro x hx hx'
    have hx2 : x < q.1.1.length := by rw [← hL]; exact hx'
    by_cases hxe : x = p.1.length + 1 + k
    · refine .inl ⟨t, (hS x).trans (if_pos hxe), by show t < (q.1.1.set _ _).length; omega, ?_⟩
      rcases hkind with h | h
      · exact .inr (.inr (.inr h))
      · exact .inr (.inr (.inl (by omega)))
    · rcases Q.inv.cel x hx hx2 with ⟨y, h1, h2, h3⟩ | ⟨n, m, h1, h2, h3, h4, h5, h6⟩
      · exact .inl ⟨y, (hSn x hxe).trans h1, by show y < (q.1.1.set _ _).length; omega, h3⟩
      · refine .inr ⟨n, m, (hSn x hxe).trans h1, h2, h3, h4, by show _ < (q.1.1.set _ _).length; omega, fun j hj => ?_⟩
        show (hOf (q.1.1.set _ _) _).k = 1
        rw [hS]
        split
        · rfl
        · exact h6 j hj
  · show L0 ≤ (q.1.1.set _ _).length
    have := Q.inv.low; omega
  · show _ ≤ (q.1.1.set _ _).length; omega
  · intro i hi
    exact (hSn i (by omega)).trans ((Q.old i (by omega)).trans (H.old i hi))
  · exact (hSn _ (by omega)).trans ((Q.old _ (by omega)).trans H.fn)
  · intro j h1 h2
    exact (hSn _ (by omega)).trans ((Q.old _ (by omega)).trans (H.fr j (by omega) h2))
  · intro j hj
    by_cases hjk : j = k
    · subst hjk
      refine ⟨t, (hS _).trans (if_pos rfl), htne, ?_⟩
      exact Bd.mono (fun i h1 _ => hSn i (by omega)) (fun _ _ h => h) (by omega) (by show _ ≤ (q.1.1.set _ _).length; omega) _ _ hB
    · obtain ⟨d, e1, e2, e3⟩ := H.done j (by omega)
      refine ⟨d, (hSn _ (by omega)).trans ((Q.old _ (by omega)).trans e1), e2, ?_⟩
      exact Bd.mono (fun i h1 h2 => (hSn i (by omega)).trans (Q.old i h2)) Q.up (Nat.le_refl _) (by show _ ≤ (q.1.1.set _ _).length; omega) _ _ e3
  · intro v c h
    rcases Q.new v c h with h1 | h1
    · exact H.new v c h1
    · exact .inr (by omega)
theorem putT_po {L0 : Nat} (T : Tm) (hT : err T = 0) : ∀ p : HSt, PutI L0 p → PutO L0 p T (putT T p) := by
  induction T with
  | nil => exact absurd hT (by decide +kernel)
  | mk v nm a len cap f ih =>
    intro p I
    obtain ⟨hp, hk⟩ := err_kids hT
    unfold putT
    by_cases hv : v = 0
    · subst hv
      rw [if_neg (by simp)]
      have hq := partE_fn hp
      have hK : ∀ k, k ≤ len → PutL L0 p nm len f k (putK (fun i => putT (f i)) p.1.length k (p.1 ++ (⟨2, len, nm⟩ :: frs p.1.length len), p.2)) := by
        intro k
        induction k with
        | zero => intro _; exact pl_begin I hq
        | succ k ik =>
          intro hk'
          have h1 := ik (by omega)
          exact pl_step I h1 (by omega) (ih k (hk k (by omega)) _ h1.inv)
      have H := hK len (Nat.le_refl _)
      generalize putK (fun i => putT (f i)) p.1.length len (p.1 ++ (⟨2, len, nm⟩ :: frs p.1.length len), p.2) = s at H
      have hbig := H.big
      refine ⟨H.inv, by show p.1.length ≤ s.1.length; omega, H.old, H.up, fun v c h => ?_, p.1.length, rfl, by show p.1.length < s.1.length; omega, fun h => absurd rfl h, fun _ => ⟨Nat.le_refl _, H.big, H.fn, fun j hj => ?_⟩⟩
      · rcases H.new v c h with h1 | h1
        · exact .inl h1
        · exact .inr (by omega)
      · obtain ⟨d, e1, e2, e3⟩ := H.done j hj
        exact ⟨d, e1, e2, Bd.mono (fun i _ _ => rfl) (fun _ _ h => h) (by omega) (Nat.le_refl _) _ _ e3⟩
    · rw [if_pos hv]
      exact putV_po hv I
/-- What is laid behind a right heap is right. -/
theorem sumTo_mem (g : Nat → Nat) {j k : Nat} (h : j < k) : g j ≤ sumTo g k := by
  have h1 : sumTo g (j + 1) = sumTo g j + g j := rfl
  have h2 := sumTo_le g (show j + 1 ≤ k from h)
  omega
theorem leads_frC {h : Nat → Cl} {x y : Nat} (e : h x = frC y) : leads h x = if y = x then [] else [y] := by
  unfold leads
  rw [e]
  show (if (1 : Int) = 1 then (if ((y : Int)) = x then [] else [((y : Int)).toNat]) else _) = _
  rw [if_pos rfl]
  by_cases hyx : y = x
  · rw [if_pos (by omega), if_pos hyx]
  · rw [if_neg (by omega), if_neg hyx]
    rfl
theorem leads_fnC {h : Nat → Cl} {x n : Nat} {nm : ByteArray} (e : h x = ⟨2, n, nm⟩) : leads h x = (List.range n).map fun j => x + 1 + j := by
  unfold leads
  rw [e]
  show (if (2 : Int) = 1 then _ else _) = _
  rw [if_neg (by omega)]
  rfl
open Classical in
theorem PutI.acy {L0 : Nat} {p : HSt} (I : PutI L0 p) {h : Nat → Cl} (H0 : HG h L0) (hold : ∀ i, i < L0 → hOf p.1 i = h i) : Acy p.1.length (leads (hOf p.1)) := by
  obtain ⟨r, hr⟩ := H0.acy
  have hM : ∀ x, x < L0 → r x ≤ sumTo r L0 := fun x hx => sumTo_mem r hx
  generalize sumTo r L0 = M at hM
  refine ⟨fun x => if x < L0 then r x else if hOf p.1 x = frC x then M + 1 else M + 2 + (p.1.length - x), fun x hx y hy => ?_⟩
  by_cases hxl : x < L0
  · have e : leads (hOf p.1) x = leads h x := by unfold leads; rw [hold x hxl]
    rw [e] at hy
    have hyl := H0.ok.inn x hxl y hy
    have := hr x hxl y hy
    simp only [if_pos hxl, if_pos hyl]
    exact this
  · have bound : ∀ y, y < p.1.length → (y < L0 ∨ x < y ∨ hOf p.1 y = frC y) → (if y < L0 then r y else if hOf p.1 y = frC y then M + 1 else M + 2 + (p.1.length - y)) < M + 2 + (p.1.length - x) := by
      intro y hyn h
      by_cases h1 : y < L0
      · rw [if_pos h1]
        have := hM y h1
        omega
      · rw [if_neg h1]
        split
        · omega
        · rcases h with h | h | h
          · omega
          · omega
          · contradiction
    rcases I.cel x (by omega) hx with ⟨z, h1, h2, h3⟩ | ⟨n, nm, h1, h2, h3, h4, h5, h6⟩
    · rw [leads_frC h1] at hy
      by_cases hzx : z = x
      · rw [if_pos hzx] at hy; cases hy
      · rw [if_neg hzx] at hy
        obtain rfl : y = z := by simpa using hy
        have hnx : ¬ hOf p.1 x = frC x := fun e => by
          rw [h1] at e
          have := congrArg Cl.n e
          have : ((y : Int)) = (x : Int) := this
          omega
        simp only [if_neg hxl, if_neg hnx]
        refine bound y h2 ?_
        rcases h3 with h3 | h3 | h3 | ⟨v, h3⟩
        · exact absurd h3 hzx
        · exact .inl h3
        · exact .inr (.inl h3)
        · obtain ⟨y', e, hy', h9⟩ := I.var v _ h3
          obtain rfl : y = y' := by omega
          by_cases h8 : y < L0
          · exact .inl h8
          · exact .inr (.inr (h9 (by omega)))
    · rw [leads_fnC h1] at hy
      obtain ⟨j, hj, rfl⟩ := List.mem_map.1 hy
      have hj' := List.mem_range.1 hj
      have hnx : ¬ hOf p.1 x = frC x := fun e => by
        rw [h1] at e
        have : (2 : Int) = 1 := congrArg Cl.k e
        omega
      simp only [if_neg hxl, if_neg hnx]
      exact bound (x + 1 + j) (by omega) (.inr (.inl (by omega)))
theorem PutI.hg {L0 : Nat} {p : HSt} (I : PutI L0 p) {h : Nat → Cl} (H0 : HG h L0) (hold : ∀ i, i < L0 → hOf p.1 i = h i) (hl : p.1.length ≤ 400000) : HG (hOf p.1) p.1.length := by
  have hlow := I.low
  have one : ∀ y : Nat, (frC (y : Int)).k = 1 ∧ (frC (y : Int)).n = y ∧ (frC (y : Int)).nm = ⟨#[]⟩ := fun y => ⟨rfl, rfl, rfl⟩
  refine ⟨⟨?_, ?_, ?_, hl⟩, I.acy H0 hold, ?_, ?_, ?_, ?_⟩
  · intro i hi
    by_cases hil : i < L0
    · rw [hold i hil]; exact H0.ok.n0 i hil
    · rcases I.cel i (by omega) hi with ⟨y, h1, _⟩ | ⟨n, nm, h1, _⟩
      · rw [h1]; show (0 : Int) ≤ (y : Int); omega
      · rw [h1]; show (0 : Int) ≤ (n : Int); omega
  · intro i hi hk
    by_cases hil : i < L0
    · rw [hold i hil] at hk ⊢; exact H0.ok.n4 i hil hk
    · rcases I.cel i (by omega) hi with ⟨y, h1, _⟩ | ⟨n, nm, h1, h2, _⟩
      · rw [h1] at hk; exact absurd rfl hk
      · rw [h1]; show (n : Int) ≤ 4; omega
  · intro i hi y hy
    by_cases hil : i < L0
    · have e : leads (hOf p.1) i = leads h i := by unfold leads; rw [hold i hil]
      rw [e] at hy
      have := H0.ok.inn i hil y hy
      omega
    · rcases I.cel i (by omega) hi with ⟨z, h1, h2, _⟩ | ⟨n, nm, h1, h2, _, _, h5, _⟩
      · rw [leads_frC h1] at hy
        split at hy
        · cases hy
        · obtain rfl : y = z := by simpa using hy
          exact h2
      · rw [leads_fnC h1] at hy
        obtain ⟨j, hj, rfl⟩ := List.mem_map.1 hy
        have hj' := List.mem_range.1 hj
        omega
  · intro i hi
    by_cases hil : i < L0
    · rw [hold i hil]; exact H0.kind i hil
    · rcases I.cel i (by omega) hi with ⟨y, h1, _⟩ | ⟨n, nm, h1, h2, _⟩
      · rw [h1]; exact .inl rfl
      · rw [h1]; exact .inr rfl
  · intro i hi hk j hj
    by_cases hil : i < L0
    · rw [hold i hil] at hk hj
      obtain ⟨h1, h2⟩ := H0.kids i hil hk j hj
      exact ⟨by omega, by rw [hold _ h1]; exact h2⟩
    · rcases I.cel i (by omega) hi with ⟨y, h1, _⟩ | ⟨n, nm, h1, h2, _, _, h5, h6⟩
      · rw [h1] at hk
        have : (1 : Int) = 2 := hk
        omega
      · rw [h1] at hj
        have hj' : (j : Int) < (n : Int) := hj
        exact ⟨by omega, h6 j (by omega)⟩
  · intro i hi hk
    by_cases hil : i < L0
    · rw [hold i hil] at hk ⊢; exact H0.nmr i hil hk
    · rcases I.cel i (by omega) hi with ⟨y, h1, _⟩ | ⟨n, nm, h1, h2, _⟩
      · rw [h1]; exact (show ByteArray.toList ⟨#[]⟩ = [] by decide +kernel)
      · rw [h1] at hk
        have : (2 : Int) = 1 := hk
        omega
  · intro i hi hk
    by_cases hil : i < L0
    · rw [hold i hil] at hk ⊢; exact H0.nmf i hil hk
    · rcases I.cel i (by omega) hi with ⟨y, h1, _⟩ | ⟨n, nm, h1, h2, h3, h4, _⟩
      · rw [h1] at hk
        have : (1 : Int) = 2 := hk
        omega
      · rw [h1]
        exact ⟨h3, fun ⟨e1, e2⟩ => h4 ⟨e1, by have : (0 : Int) < (n : Int) := e2; omega⟩⟩
/-- Check finds no fault in a right heap. -/
theorem HG.cell0 {h : Nat → Cl} {len i : Nat} (H : HG h len) (hi : i < len) : cellE h len i = 0 := by
  unfold cellE
  by_cases h1 : (h i).k = 1
  · rw [if_pos h1]
    have h0 := H.ok.n0 i hi
    have hb : btw (h i).n 0 ((len : Int) - 1) = true := btw_iff.2 ⟨h0, by
      by_cases hn : (h i).n = i
      · omega
      · obtain ⟨j, r, hj⟩ := H.ref hi h1 hn
        have := r.2.1
        omega⟩
    rw [if_pos hb, if_pos (H.nmr i hi h1)]
  · have h2 : (h i).k = 2 := (H.kind i hi).resolve_left h1
    rw [if_neg h1, if_pos h2, if_pos ⟨(H.nmf i hi h2).1, btw_iff.2 ⟨H.ok.n0 i hi, H.ok.n4 i hi h1⟩, (H.nmf i hi h2).2⟩]
    have h0 := H.ok.n0 i hi
    have hle : ¬ ((len : Int) - 1 < (i : Int) + (h i).n) := by
      by_cases hz : (h i).n = 0
      · omega
      · obtain ⟨m, hm⟩ : ∃ m : Nat, (h i).n = (m : Int) + 1 := ⟨((h i).n - 1).toNat, by omega⟩
        have := (H.kids i hi h2 m (by omega)).1
        omega
    rw [if_neg hle, if_pos]
    exact allTo_iff.2 fun j hj => by
      have := (H.kids i hi h2 j (by omega)).2
      simpa using this
theorem HG.chk {h : Nat → Cl} {len : Nat} (H : HG h len) : ChkR h len 0 := by
  refine .inr (.inr ⟨H.ok.few, ?_, .inl ⟨H.acy, rfl⟩⟩)
  have : ∀ k, k ≤ len → firstE h len k = 0 := by
    intro k
    induction k with
    | zero => intro _; rfl
    | succ k ih =>
      intro hk
      rw [firstE, if_neg (by simpa using ih (by omega))]
      exact H.cell0 (by omega)
  exact this len (Nat.le_refl _)
/-- Which term stands where one was laid. -/
noncomputable def byC (h : Nat → Cl) (len : Nat) (σ : Int → Option Int) (v : Int) : Tm := std h len ((σ v).getD 0).toNat
theorem Bd.std {h : Nat → Cl} {len : Nat} (H : HG h len) {σ : Int → Option Int} {lo hi : Nat} (hhi : hi ≤ len) (T : Tm) : ∀ c, Bd h σ lo hi T c → Go.Proofs.Ytmggaclaoefdaaa.std h len c = ap (byC h len σ) T := by
  induction T with
  | nil => intro c h; exact h.elim
  | mk v nm a n cap f ih =>
    intro c B
    by_cases hv : v = 0
    · subst hv
      obtain ⟨h1, h2, h3, h4⟩ := B.2 rfl
      have hc : c < len := by omega
      have he : endA h len c = c := endA_eq (EndR.root hc (fun ⟨e, _⟩ => by rw [h3] at e; have : (2 : Int) = 1 := e; omega))
      have hs := std_fn (n := n) H hc (by rw [he, h3]) (by rw [he, h3])
      rw [hs, ap_fn _ (show (Tm.mk 0 nm a n cap f).v = 0 from rfl), he, h3]
      show Tm.mk 0 nm none n 0 _ = Tm.mk 0 nm none n 0 _
      congr 1
      funext j
      show (if j < n then _ else Tm.nil) = (if j < n then ap _ (f j) else Tm.nil)
      by_cases hj : j < n
      · rw [if_pos hj, if_pos hj]
        obtain ⟨d, e1, e2, e3⟩ := h4 j hj
        have hr : Ref h (c + 1 + j) d := ⟨by rw [e1]; rfl, by rw [e1]; rfl, e2⟩
        obtain ⟨hd, hee⟩ := end_ref H (show c + 1 + j < len by omega) hr
        rw [← ih j d e3, ← std_end H (show c + 1 + j < len by omega), hee, std_end H hd]
      · rw [if_neg hj, if_neg hj]
    · rw [ap_var _ (show (Tm.mk v nm a n cap f).v ≠ 0 from hv)]
      show _ = byC h len σ v
      unfold byC
      rw [B.1 hv]
      rfl
end Go.Proofs.Ytmggaclaoefdaaa
