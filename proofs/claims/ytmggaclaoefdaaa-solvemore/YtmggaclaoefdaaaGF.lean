/- A term through and through, by what its variables are: over terms alone. Whole, with the function that numbers: of all terms. -/
import Derived.Test.YtmggaclaoefdaaaSv4
import Derived.Test.YtmggaclaoefdaaaRf3
import Derived.Test.YtmggaclaoefdaaaGE
namespace Go.Proofs.Ytmggaclaoefdaaa
open Go.RowKit

/-- Of a variable only its number counts. -/
theorem ex_v {σ : Sg} {T : Tm} (hv : T.v ≠ 0) (d : Nat) : ex σ d T = ex σ d (vT T.v) ∧ (Fin σ d T → Fin σ d (vT T.v)) := by
  cases d with
  | zero => exact ⟨rfl, fun h => h⟩
  | succ d =>
    cases hs : σ T.v with
    | none =>
      have e1 : wha σ T = T := wha_none hs
      have e2 : wha σ (vT T.v) = vT T.v := wha_none (T := vT T.v) hs
      refine ⟨?_, fun _ i hi => ?_⟩
      · rw [ex, ex, e1, e2, if_neg hv, if_neg (show ¬ (vT T.v).v = 0 from hv)]; rfl
      · rw [e2] at hi; exact absurd hi (Nat.not_lt_zero i)
    | some U =>
      have e : wha σ T = wha σ (vT T.v) := by
        unfold wha
        show wh σ (T.v.toNat + 1) T = wh σ (T.v.toNat + 1) (vT T.v)
        rw [wh, wh, if_neg hv, if_neg (show ¬ (vT T.v).v = 0 from hv), hs, show σ (vT T.v).v = some U from hs]
      refine ⟨by rw [ex, ex, e], fun hF i hi => ?_⟩
      rw [← e] at hi ⊢
      exact hF i hi
theorem vsT_eq {T U : Tm} (h : can T = can U) : vsT T = vsT U := by rw [← vsT_can T, ← vsT_can U, h]
theorem ap_eq {θ : Int → Tm} {T U : Tm} (h : can T = can U) : ap θ T = ap θ U := by rw [← ap_can θ T, ← ap_can θ U, h]
theorem map_flat {α β : Type} (f : α → List β) (l : List (List α)) : ((l.flatten).map f).flatten = (l.map fun x => (x.map f).flatten).flatten := by
  induction l with
  | nil => rfl
  | cons x l ih => simp only [List.flatten_cons, List.map_append, List.flatten_append, List.map_cons, ih]
/-- A term through and through: its variables, and what is put in for them. -/
theorem ex_parts {σ : Sg} {D : Nat} (θ : Int → Tm) : ∀ (d : Nat) (T : Tm), Fin σ d T → (∀ v ∈ vsT T, Fin σ D (vT v)) →
    vsT (ex σ d T) = ((vsT T).map fun v => vsT (ex σ D (vT v))).flatten ∧ ap (fun v => ap θ (ex σ D (vT v))) T = ap θ (ex σ d T) := by
  intro d
  induction d with
  | zero => intro T h; exact h.elim
  | succ d ih =>
    intro T hF hV
    by_cases hv : T.v = 0
    · have e : wha σ T = T := wha_fn hv
      have hx : ex σ (d + 1) T = .mk 0 T.nm none T.len 0 (fun i => ex σ d (T.f i)) := by rw [ex, e, if_pos hv]
      have hk : ∀ i, i < T.len → Fin σ d (T.f i) := fun i hi => by
        have := hF i (by rw [e]; exact hi)
        rwa [e] at this
      have hvk : ∀ i, i < T.len → ∀ v ∈ vsT (T.f i), Fin σ D (vT v) := fun i hi v h => hV v (by
        rw [vsT_fn hv]
        exact List.mem_flatten.2 ⟨_, List.mem_map.2 ⟨i, List.mem_range.2 hi, rfl⟩, h⟩)
      constructor
      · rw [hx, vsT, if_pos rfl, vsT_fn hv, upV, map_flat, List.map_map]
        congr 1
        apply List.map_congr_left
        intro i hi
        have hi := List.mem_range.1 hi
        exact (ih (T.f i) (hk i hi) (hvk i hi)).1
      · rw [hx, ap_fn _ hv, ap, if_pos rfl]
        congr 1
        funext i
        by_cases hi : i < T.len
        · rw [if_pos hi, if_pos hi]; exact (ih (T.f i) (hk i hi) (hvk i hi)).2
        · rw [if_neg hi, if_neg hi]
    · have hvs : vsT T = [T.v] := by
        cases T with
        | nil => exact absurd rfl hv
        | mk v nm a len cap f =>
          have hv : ¬ v = 0 := hv
          rw [vsT, if_neg hv]; rfl
      obtain ⟨e1, e2⟩ := ex_v (σ := σ) hv (d + 1)
      have hsame : can (ex σ (d + 1) (vT T.v)) = can (ex σ D (vT T.v)) := ex_same (e2 hF) (hV T.v (by rw [hvs]; simp))
      refine ⟨?_, ?_⟩
      · rw [hvs, e1, vsT_eq hsame]; simp
      · rw [ap_var _ hv, e1]; exact ap_eq hsame.symm
end Go.Proofs.Ytmggaclaoefdaaa

namespace Go.Proofs.Ytmggaclaoefdaaa
open Go.RowKit

theorem NB.nm {k : Nat} {T : Tm} (h : NB k T) : NM (fun q => q = k) T := by
  induction T with
  | nil => trivial
  | mk v nm a len cap f ih => exact ⟨fun h0 => let ⟨b, o, e, hb⟩ := h.1 h0; ⟨b, o, e, hb⟩, fun i hi => ih i (h.2 i hi)⟩
theorem fin_vars {σ : Sg} (T : Tm) : ∀ (d : Nat), Fin σ d T → (∀ v ∈ vsT T, Fin σ d (vT v)) ∧ (T.v = 0 → ∀ e, d = e + 1 → ∀ v ∈ vsT T, Fin σ e (vT v)) := by
  induction T with
  | nil => intro d _; exact ⟨fun v h => by simp [vsT] at h, fun _ _ _ v h => by simp [vsT] at h⟩
  | mk v nm a len cap f ih =>
    intro d hF
    by_cases hv : v = 0
    · have key : ∀ e, d = e + 1 → ∀ u ∈ vsT (.mk v nm a len cap f), Fin σ e (vT u) := by
        rintro e rfl u hu
        rw [vsT, if_pos hv] at hu
        obtain ⟨l, hl, hul⟩ := List.mem_flatten.1 hu
        obtain ⟨i, hi, rfl⟩ := List.mem_map.1 hl
        have hi := List.mem_range.1 hi
        have hk : Fin σ e (f i) := by
          have hw : wha σ (.mk v nm a len cap f) = .mk v nm a len cap f := wha_fn hv
          have := hF i (by rw [hw]; exact hi)
          rwa [hw] at this
        exact (ih i e hk).1 u hul
      refine ⟨fun u hu => ?_, fun _ => key⟩
      cases d with
      | zero => exact hF.elim
      | succ e => exact (key e rfl u hu).mono
    · refine ⟨fun u hu => ?_, fun h => absurd h hv⟩
      rw [vsT, if_neg hv, List.mem_singleton] at hu
      subst hu
      exact (ex_v (σ := σ) (T := .mk u nm a len cap f) hv d).2 hF
theorem tl_num (wF : World) (k : Nat) (σ : Sg) (D : Nat) (l : List Int) : ∀ s : List Int, tl (numT wF k σ D) s l = addV s ((l.map fun v => vsT (ex σ D (vT v))).flatten) := by
  induction l with
  | nil => intro s; rfl
  | cons v l ih =>
    intro s
    show tl (numT wF k σ D) (addV s (vsT (ex σ D (vT v)))) l = _
    rw [ih, List.map_cons, List.flatten_cons, addV_append]
theorem whole1_ent : Ent 121 := ent_of Try.func121 rfl rfl
/-- From the variables of a term to the term. -/
theorem wn_of {k o b m : Nat} {tv : Value} {lo n : Nat} {σ : Sg} {L : Int} {d D : Nat} {T : Tm} (hkb : k ≠ b ∧ k ≠ m ∧ ∀ g, tv.ownBlock = some g → g ≠ k) (hσk : ∀ u T, σ u = some T → NB k T) (hok : o ≠ k)
    (hD : Fin σ d T → ∀ v ∈ vsT T, Fin σ D (vT v)) (hW : ∀ v ∈ vsT T, ∀ e, D = e + 1 → ∀ U, σ v = some U → WN k o b m tv lo n σ L D U) : WN k o b m tv lo n σ L d T := by
  intro s w hN hS ho hO hT hB hF
  have hk := hN.lt
  have hV := hD hF
  obtain ⟨hp1, _⟩ := ex_parts (fun v => vT v) d T hF hV
  have hp2 : ∀ θ : Int → Tm, ap (fun v => ap θ (ex σ D (vT v))) T = ap θ (ex σ d T) := fun θ => (ex_parts θ d T hF hV).2
  refine whole_gen w (fun q (h : q = k) => h ▸ hk) (fun X w1 w2 h hb => ⟨h.1.kept (hb.block k hk), h.2⟩) ?_
  intro W hW1 hpv hpn
  have hkW : k < W.heap.size := Nat.lt_of_lt_of_le hk hW1.size
  have hNW : NumIs W k s := hN.kept (hW1.block k hk)
  have hSW := hS.below hW1
  have hoW : W.heap[o]? = some (.cells #[.map (some k)] 124) := (hW1.block o (Array.getElem?_eq_some_iff.1 ho).1).trans ho
  refine (each_gen (numT_ok hkW σ D) whole1_ent T hO.fo (fun v hv => ?_) s W (Nat.le_refl _) ⟨hNW, Bw.refl _ _ _⟩ (hT.below hW1) hB.nm).mono ?_
  · have hFv := hV v hv
    cases D with
    | zero => exact hFv.elim
    | succ e =>
      have hvp : 0 < v := by
        rcases Int.lt_or_le 0 v with h | h
        · exact h
        · have h0 := (vsT_okv hO v hv).1
          exact absurd (show v = 0 by omega) (vsT_ne T v hv)
      exact whole1_num hvp (vsT_okv hO v hv).2 hSW hkb hσk hpv hpn hoW ⟨by omega, by omega, hok⟩ hFv (hW v hv e rfl)
  · rintro e w' ⟨X, h1, h2, h3, h4, h5, h6⟩
    have h3 : NumIs w' k (tl (numT W k σ D) s (vsT T)) ∧ _ := h3
    rw [tl_num, ← hp1] at h3
    refine ⟨X, h1, h2, h4, h5, h3.1, fun s' hs' => ?_⟩
    rw [← hp2]
    exact h6 s' (by show tl (numT W k σ D) s (vsT T) <+: s'; rw [tl_num, ← hp1]; exact hs')
where
  vsT_ne (T : Tm) : ∀ v ∈ vsT T, v ≠ 0 := by
    induction T with
    | nil => intro v h; simp [vsT] at h
    | mk u nm a len cap f ih =>
      intro v h
      rw [vsT] at h
      split at h
      · obtain ⟨l, hl, hul⟩ := List.mem_flatten.1 h
        obtain ⟨i, _, rfl⟩ := List.mem_map.1 hl
        exact ih i v hul
      · rw [List.mem_singleton] at h; subst h; assumption
theorem whole_num {k o b m : Nat} {tv : Value} {lo n : Nat} {σ : Sg} {L : Int} (hd : Dec σ) (hkb : k ≠ b ∧ k ≠ m ∧ ∀ g, tv.ownBlock = some g → g ≠ k) (hσk : ∀ u T, σ u = some T → NB k T) (hok : o ≠ k) : ∀ (d q : Nat) (T : Tm), T.v.toNat ≤ q → WN k o b m tv lo n σ L d T := by
  intro d
  induction d with
  | zero => intro q T _ s w _ _ _ _ _ _ hF; exact hF.elim
  | succ d ihd =>
    have hfn : ∀ T : Tm, T.v = 0 → WN k o b m tv lo n σ L (d + 1) T := fun T hv => wn_of (D := d) hkb hσk hok (fun hF => (fin_vars T (d + 1) hF).2 hv d rfl) (fun v _ e _ U _ => ihd U.v.toNat U (Nat.le_refl _))
    intro q
    induction q with
    | zero =>
      intro T hq s w hN hS ho hO hT hB hF
      exact hfn T (by have := hO.top.1; omega) s w hN hS ho hO hT hB hF
    | succ q ihq =>
      intro T hq
      by_cases hv : T.v = 0
      · exact hfn T hv
      · refine wn_of (D := d + 1) hkb hσk hok (fun hF => (fin_vars T (d + 1) hF).1) (fun v hvs e _ U hU => ?_)
        have hvs' : v = T.v := by
          cases T with
          | nil => exact absurd rfl hv
          | mk u nm a len cap f =>
            have hv : ¬ u = 0 := hv
            rw [vsT, if_neg hv, List.mem_singleton] at hvs
            exact hvs
        rcases hd _ _ hU with h | ⟨h3, h4⟩
        · exact hfn U h
        · exact ihq U (by omega)
end Go.Proofs.Ytmggaclaoefdaaa
