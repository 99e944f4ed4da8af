/- Room: how many cells a term takes at least; and how many are laid. What Build lays, over cells alone. What Unify's answer means. What HeapHangs leans on, over terms and cells alone. -/
import Derived.Test.YtmggaclaoefdaaaGBT
import Derived.Test.YtmggaclaoefdaaaHu1
import Derived.Test.YtmggaclaoefdaaaGAU
import Derived.Test.YtmggaclaoefdaaaGBO
import Derived.Test.YtmggaclaoefdaaaGBP
import Derived.Test.YtmggaclaoefdaaaGBL
namespace Go.Proofs.Ytmggaclaoefdaaa
open Go.RowKit
set_option linter.unusedVariables false
set_option linter.unusedSimpArgs false

def flk (f : Nat → Tm) (k : Nat) : List Int := ((List.range k).map fun i => vsT (f i)).flatten
theorem flk_succ (f : Nat → Tm) (k : Nat) : flk f (k + 1) = flk f k ++ vsT (f k) := by
  unfold flk
  rw [List.range_succ, List.map_append, List.flatten_append]
  simp
end Go.Proofs.Ytmggaclaoefdaaa

namespace Go.Proofs.Ytmggaclaoefdaaa
open Go.RowKit
set_option linter.unusedVariables false
set_option linter.unusedSimpArgs false

theorem vsT_kid {nm : ByteArray} {a : Option Addr} {len cap : Nat} {f : Nat → Tm} {i : Nat} (hi : i < len) {v : Int} (hv : v ∈ vsT (f i)) : v ∈ vsT (.mk 0 nm a len cap f) := by
  unfold vsT
  rw [if_pos rfl]
  exact List.mem_flatten.2 ⟨_, List.mem_map.2 ⟨i, List.mem_range.2 hi, rfl⟩, hv⟩
theorem ap_vsG {θ θ' : Int → Tm} (T : Tm) : (∀ v ∈ vsT T, θ v = θ' v) → ap θ T = ap θ' T := by
  induction T with
  | nil => intro _; rfl
  | mk v nm a len cap f ih =>
    intro h
    by_cases hv : v = 0
    · subst hv
      rw [ap_fn _ (show (Tm.mk 0 nm a len cap f).v = 0 from rfl), ap_fn _ (show (Tm.mk 0 nm a len cap f).v = 0 from rfl)]
      congr 1
      funext i
      show (if i < len then ap θ (f i) else Tm.nil) = (if i < len then ap θ' (f i) else Tm.nil)
      by_cases hi : i < len
      · rw [if_pos hi, if_pos hi]
        exact ih i fun v hv => h v (vsT_kid hi hv)
      · rw [if_neg hi, if_neg hi]
    · rw [ap_var _ (show (Tm.mk v nm a len cap f).v ≠ 0 from hv), ap_var _ (show (Tm.mk v nm a len cap f).v ≠ 0 from hv)]
      exact h v (by unfold vsT; rw [if_neg hv]; simp)
theorem vsT_okv {N : Int} (T : Tm) : Okv N T → ∀ v ∈ vsT T, 0 < v ∧ v ≤ N := by
  induction T with
  | nil => intro h; exact h.elim
  | mk v nm a len cap f ih =>
    intro hT u hu
    unfold vsT at hu
    by_cases hv : v = 0
    · rw [if_pos hv] at hu
      obtain ⟨l, hl, hu⟩ := List.mem_flatten.1 hu
      obtain ⟨i, hi, rfl⟩ := List.mem_map.1 hl
      exact ih i (hT.2.2.2.2 i (List.mem_range.1 hi)) u hu
    · rw [if_neg hv] at hu
      obtain rfl : u = v := by simpa using hu
      have := hT.1
      exact ⟨by omega, hT.2.1⟩
theorem pi_begin (h : Nat → Cl) (len : Nat) : PutI len ((List.range len).map h, fun _ => none) := by
  refine ⟨fun v c e => (by cases e), fun x h1 h2 => ?_, ?_⟩
  · have : x < ((List.range len).map h).length := h2
    simp at this
    omega
  · show len ≤ ((List.range len).map h).length
    simp
theorem HG.nm8 {h : Nat → Cl} {len : Nat} (H : HG h len) {i : Nat} (hi : i < len) : (h i).nm.size ≤ 8 := by
  rcases H.kind i hi with hk | hk
  · have h1 := H.nmr i hi hk
    have : (h i).nm.toList.length = (h i).nm.size := by rw [ByteArray.toList_eq]; rfl
    rw [h1] at this
    simp at this
    omega
  · exact nameB_size (H.nmf i hi hk).1
theorem HG.nmL {l : List Cl} (H : HG (hOf l) l.length) : ∀ c ∈ l, c.nm.size ≤ maxLen := fun c hc => by
  obtain ⟨i, hi, rfl⟩ := List.mem_iff_getElem.1 hc
  have := H.nm8 hi
  rw [hOf_get hi] at this
  unfold maxLen
  omega
end Go.Proofs.Ytmggaclaoefdaaa

namespace Go.Proofs.Ytmggaclaoefdaaa
open Go.RowKit

theorem ap_congr {θ θ' : Int → Tm} (h : ∀ v, 0 < v → v ≤ 12 → θ v = θ' v) (T : Tm) : Okv 12 T → ap θ T = ap θ' T := by
  induction T with
  | nil => intro h; exact False.elim h
  | mk v nm a len cap f ih =>
    intro hO
    by_cases hv : v = 0
    · rw [ap, ap, if_pos hv, if_pos hv]
      congr 1
      funext i
      by_cases hi : i < len
      · rw [if_pos hi, if_pos hi]; exact ih i (hO.kid hi)
      · rw [if_neg hi, if_neg hi]
    · rw [ap, ap, if_neg hv, if_neg hv]
      have := hO.top
      exact h v (by have h1 : 0 ≤ v := this.1; omega) this.2.1
theorem okv_ex {σ : Sg} (hI : Inv σ) : ∀ (d : Nat) (T : Tm), Okv 12 T → Fin σ d T → Okv 12 (ex σ d T) := by
  intro d
  induction d with
  | zero => intro T _ h; exact False.elim h
  | succ d ih =>
    intro T hO h
    have hU := hI.what hO
    rw [ex]
    by_cases hv : (wha σ T).v = 0
    · rw [if_pos hv]
      exact ⟨by omega, by omega, fun h => absurd rfl h, hU.four, fun i hi => ih _ (hU.kid hi) (h i hi)⟩
    · rw [if_neg hv]
      exact ⟨hU.top.1, hU.top.2.1, fun _ => ⟨rfl, rfl⟩, Nat.zero_le _, fun i hi => absurd hi (Nat.not_lt_zero i)⟩
end Go.Proofs.Ytmggaclaoefdaaa

namespace Go.Proofs.Ytmggaclaoefdaaa
open Go.RowKit
set_option linter.unusedVariables false
set_option linter.unusedSimpArgs false

/-- No two variables have one cell. -/
def RI (p : HSt) : Prop := (∀ u v c, p.2 u = some c → p.2 v = some c → u = v) ∧ ∀ v c, p.2 v = some c → c < (p.1.length : Int)
theorem putV_ri (v : Int) (p : HSt) (h : RI p) : RI (putV v p).1 := by
  unfold putV
  cases hσ : p.2 v with
  | some c => exact h
  | none =>
    have hL : (p.1 ++ [frC p.1.length]).length = p.1.length + 1 := by simp
    refine ⟨fun u u' c h1 h2 => ?_, fun u c h1 => ?_⟩
    · have h1' : (if u = v then some (p.1.length : Int) else p.2 u) = some c := h1
      have h2' : (if u' = v then some (p.1.length : Int) else p.2 u') = some c := h2
      by_cases e1 : u = v
      · by_cases e2 : u' = v
        · rw [e1, e2]
        · rw [if_pos e1] at h1'
          rw [if_neg e2] at h2'
          have := h.2 _ _ h2'
          have := Option.some.inj h1'
          omega
      · by_cases e2 : u' = v
        · rw [if_neg e1] at h1'
          rw [if_pos e2] at h2'
          have := h.2 _ _ h1'
          have := Option.some.inj h2'
          omega
        · rw [if_neg e1] at h1'
          rw [if_neg e2] at h2'
          exact h.1 _ _ _ h1' h2'
    · have h1' : (if u = v then some (p.1.length : Int) else p.2 u) = some c := h1
      show c < ((p.1 ++ [frC p.1.length]).length : Int)
      by_cases e1 : u = v
      · rw [if_pos e1] at h1'
        have := Option.some.inj h1'
        omega
      · rw [if_neg e1] at h1'
        have := h.2 _ _ h1'
        omega
theorem putT_ri (T : Tm) : ∀ p : HSt, RI p → RI (putT T p).1 := by
  induction T with
  | nil => intro p h; exact h
  | mk v nm a len cap f ih =>
    intro p h
    unfold putT
    by_cases hv : v = 0
    · rw [if_neg (by simp [hv])]
      have hK : ∀ k, RI (putK (fun i => putT (f i)) p.1.length k (p.1 ++ (⟨2, len, nm⟩ :: frs p.1.length len), p.2)) := by
        intro k
        induction k with
        | zero =>
          refine ⟨h.1, fun v c hc => ?_⟩
          have := h.2 v c hc
          show c < ((p.1 ++ ((⟨2, len, nm⟩ : Cl) :: frs p.1.length len)).length : Int)
          rw [List.length_append]
          omega
        | succ k ik =>
          have h1 := ih k _ ik
          exact ⟨h1.1, fun v c hc => by have := h1.2 v c hc; simpa [putK] using this⟩
      exact hK len
    · rw [if_pos hv]
      exact putV_ri v p h
theorem Rep.ref {σ : Sg} {h : Nat → Cl} {len : Nat} {κ : Int → Nat} {D : Int → Prop} (H : HG h len) {i d : Nat} {S : Tm} (hi : i < len) (r : Ref h i d) (R : Rep σ h len κ D d S) : Rep σ h len κ D i S := by
  have he := (end_ref H hi r).2
  cases R with
  | var _ h0 hv hD hl hx => exact .var hi h0 hv hD hl (by rw [he]; exact hx)
  | fn _ h0 hv hk hnm hn hkids => exact .fn hi h0 hv (by rw [he]; exact hk) (by rw [he]; exact hnm) (by rw [he]; exact hn) (fun j hj => by rw [he]; exact hkids j hj)
theorem Bd.rep {σ : Sg} {h : Nat → Cl} {len : Nat} {κ : Int → Nat} {D : Int → Prop} (H : HG h len) {σp : Int → Option Int} {lo hi : Nat} (hhi : hi ≤ len) {θ : Int → Tm} (T : Tm) : (∀ v ∈ vsT T, ∀ y : Nat, σp v = some (y : Int) → Rep σ h len κ D y (θ v)) → ∀ c, Bd h σp lo hi T c → Rep σ h len κ D c (ap θ T) := by
  induction T with
  | nil => intro _ c B; exact B.elim
  | mk v nm a n cap f ih =>
    intro hθ c B
    by_cases hv : v = 0
    · subst hv
      obtain ⟨h1, h2, h3, h4⟩ := B.2 rfl
      have hc : c < len := by omega
      have he : endA h len c = c := endA_eq (EndR.root hc (fun ⟨e, _⟩ => by rw [h3] at e; have : (2 : Int) = 1 := e; omega))
      have hU : ap θ (.mk 0 nm a n cap f) = .mk 0 nm none n 0 (fun i => if i < n then ap θ (f i) else .nil) := ap_fn _ rfl
      have hw : wha σ (ap θ (.mk 0 nm a n cap f)) = ap θ (.mk 0 nm a n cap f) := wha_fn (by rw [hU]; rfl)
      refine .fn hc (by rw [hU]; exact Int.le_refl _) (by rw [hw, hU]; rfl) (by rw [he, h3]) (by rw [hw, he, h3, hU]; rfl) (by rw [hw, he, h3, hU]; rfl) (fun j hj => ?_)
      rw [hw, hU] at hj ⊢
      have hj' : j < n := hj
      show Rep σ h len κ D _ (if j < n then ap θ (f j) else .nil)
      rw [if_pos hj', he]
      obtain ⟨d, e1, e2, e3⟩ := h4 j hj'
      exact Rep.ref H (by omega) ⟨by rw [e1]; rfl, by rw [e1]; rfl, e2⟩ (ih j (fun u hu => hθ u (vsT_kid hj' hu)) d e3)
    · have hU : ap θ (.mk v nm a n cap f) = θ v := ap_var _ hv
      rw [hU]
      exact hθ v (by unfold vsT; rw [if_neg hv]; simp) c (B.1 hv)
theorem ap_idc (T : Tm) {N : Int} : Okv N T → ap (fun v => can (vT v)) T = can T := by
  induction T with
  | nil => intro h; exact h.elim
  | mk v nm a n cap f ih =>
    intro hT
    by_cases hv : v = 0
    · subst hv
      rw [ap_fn _ (show (Tm.mk 0 nm a n cap f).v = 0 from rfl)]
      show Tm.mk 0 nm none n 0 (fun i => if i < n then ap _ (f i) else .nil) = Tm.mk 0 nm none n 0 (fun i => if i < n then can (f i) else .nil)
      congr 1
      funext i
      by_cases hi : i < n
      · rw [if_pos hi, if_pos hi]; exact ih i (hT.2.2.2.2 i hi)
      · rw [if_neg hi, if_neg hi]
    · rw [ap_var _ (show (Tm.mk v nm a n cap f).v ≠ 0 from hv)]
      obtain ⟨h1, h2⟩ := hT.2.2.1 hv
      exact can_ext rfl h1.symm h2.symm (fun i hi => absurd hi (Nat.not_lt_zero i))
/-- What stands there, through and through. -/
def cellT (κ : Int → Nat) (u : Int) : Tm := can (vT ((κ u : Int) + 1))
theorem rep_fin {σ : Sg} {h : Nat → Cl} {len : Nat} {κ : Int → Nat} {D : Int → Prop} {i : Nat} {S : Tm} (R : Rep σ h len κ D i S) : ∃ d, Fin σ d S := by
  induction R with
  | var hi h0 hv hD hl he => exact ⟨1, fun j hj => by omega⟩
  | fn hi h0 hv hk hnm hn hkids ih =>
    rename_i i S
    have : ∀ m, m ≤ (wha σ S).len → ∃ d, ∀ j, j < m → Fin σ d ((wha σ S).f j) := by
      intro m
      induction m with
      | zero => intro _; exact ⟨0, fun j hj => absurd hj (Nat.not_lt_zero j)⟩
      | succ m im =>
        intro hm
        obtain ⟨d1, h1⟩ := im (by omega)
        obtain ⟨d2, h2⟩ := ih m (by omega)
        have mono : ∀ (x k : Nat) (U : Tm), Fin σ x U → Fin σ (x + k) U := by
          intro x k U hx
          induction k with
          | zero => exact hx
          | succ k ik => exact ik.mono
        refine ⟨d1 + d2, fun j hj => ?_⟩
        by_cases e : j = m
        · subst e; rw [Nat.add_comm]; exact mono _ _ _ h2
        · exact mono _ _ _ (h1 j (by omega))
    obtain ⟨d, hd⟩ := this _ (Nat.le_refl _)
    exact ⟨d + 1, fun j hj => hd j hj⟩
theorem rep_std {σ : Sg} {h : Nat → Cl} {len : Nat} {κ : Int → Nat} {D : Int → Prop} (H : HR σ h len κ D) {i : Nat} {S : Tm} (R : Rep σ h len κ D i S) : ∀ d, Fin σ d S → std h len i = ap (cellT κ) (ex σ d S) ∧ ∀ u ∈ vsT (ex σ d S), D u ∧ σ u = none := by
  induction R with
  | var hi h0 hv hD hl he =>
    rename_i i S
    intro d hF
    cases d with
    | zero => exact hF.elim
    | succ d =>
      have hn := root_of H.dec h0 hv
      have hx : ex σ (d + 1) S = .mk (wha σ S).v ⟨#[]⟩ none 0 0 (fun _ => .nil) := by rw [ex, if_neg hv]
      rw [hx]
      refine ⟨?_, fun u hu => ?_⟩
      · rw [std_var (by rw [he]; exact (H.fr _ hD hn).2.1), he]
        exact (ap_var (cellT κ) (T := .mk (wha σ S).v ⟨#[]⟩ none 0 0 (fun _ => .nil)) hv).symm
      · unfold vsT at hu
        rw [if_neg hv] at hu
        obtain rfl : u = (wha σ S).v := by simpa using hu
        exact ⟨hD, hn⟩
  | fn hi h0 hv hk hnm hn hkids ih =>
    rename_i i S
    intro d hF
    cases d with
    | zero => exact hF.elim
    | succ d =>
      have hx : ex σ (d + 1) S = .mk 0 (wha σ S).nm none (wha σ S).len 0 (fun i => ex σ d ((wha σ S).f i)) := by rw [ex, if_pos hv]
      rw [hx]
      refine ⟨?_, fun u hu => ?_⟩
      · rw [std_fn H.hg hi hk hn, hnm, ap_fn _ (show (Tm.mk 0 (wha σ S).nm none (wha σ S).len 0 (fun i => ex σ d ((wha σ S).f i))).v = 0 from rfl)]
        show Tm.mk 0 _ none (wha σ S).len 0 _ = Tm.mk 0 _ none (wha σ S).len 0 _
        congr 1
        funext j
        show (if j < (wha σ S).len then _ else Tm.nil) = (if j < (wha σ S).len then ap (cellT κ) (ex σ d ((wha σ S).f j)) else Tm.nil)
        by_cases hj : j < (wha σ S).len
        · rw [if_pos hj, if_pos hj]
          exact (ih j hj d (hF j hj)).1
        · rw [if_neg hj, if_neg hj]
      · unfold vsT at hu
        rw [if_pos rfl] at hu
        obtain ⟨l, hl, hu⟩ := List.mem_flatten.1 hu
        obtain ⟨j, hj, rfl⟩ := List.mem_map.1 hl
        have hj' := List.mem_range.1 hj
        exact (ih j hj' d (hF j hj')).2 u hu
theorem fin_cs {σ : Sg} : ∀ (d : Nat) (T : Tm), Fin (cs σ) d (can T) → Fin σ d T := by
  intro d
  induction d with
  | zero => intro T h; exact h
  | succ d ih =>
    intro T h i hi
    have h1 : i < (wha (cs σ) (can T)).len := by rw [wha_cs, can_len]; exact hi
    have h2 := h i h1
    rw [wha_cs, can_f _ hi] at h2
    exact ih _ h2
/-- Numbers as they first stand: another name for each variable changes none. -/
theorem vsT_map {g : Int → Int} (hg : ∀ u, g u ≠ 0) (U : Tm) : vsT (ap (fun u => can (vT (g u))) U) = (vsT U).map g := by
  induction U with
  | nil => rfl
  | mk v nm a n cap f ih =>
    by_cases hv : v = 0
    · subst hv
      rw [ap_fn _ (show (Tm.mk 0 nm a n cap f).v = 0 from rfl)]
      show (if (0 : Int) = 0 then ((List.range n).map fun i => vsT (if i < n then ap (fun u => can (vT (g u))) (f i) else .nil)).flatten else [0]) = (if (0 : Int) = 0 then ((List.range n).map fun i => vsT (f i)).flatten else [0]).map g
      rw [if_pos rfl, if_pos rfl, List.map_flatten, List.map_map]
      congr 1
      refine List.map_congr_left fun i hi => ?_
      have hi' := List.mem_range.1 hi
      rw [if_pos hi']
      exact ih i
    · rw [ap_var _ (show (Tm.mk v nm a n cap f).v ≠ 0 from hv)]
      show vsT (can (vT (g v))) = (if v = 0 then _ else [v]).map g
      rw [if_neg hv, vsT_can]
      show (if g v = 0 then _ else [g v]) = [g v]
      rw [if_neg (hg v)]
theorem ap_two {g : Int → Int} (hg : ∀ u, g u ≠ 0) (θ : Int → Tm) (U : Tm) : ap θ (ap (fun u => can (vT (g u))) U) = ap (fun u => θ (g u)) U := by
  induction U with
  | nil => rfl
  | mk v nm a n cap f ih =>
    by_cases hv : v = 0
    · subst hv
      rw [ap_fn _ (show (Tm.mk 0 nm a n cap f).v = 0 from rfl), ap_fn _ (show (Tm.mk 0 nm a n cap f).v = 0 from rfl), ap_fn _ (by rfl)]
      show Tm.mk 0 nm none n 0 (fun i => if i < n then ap θ (if i < n then ap _ (f i) else .nil) else .nil) = Tm.mk 0 nm none n 0 (fun i => if i < n then ap _ (f i) else .nil)
      congr 1
      funext i
      by_cases hi : i < n
      · rw [if_pos hi, if_pos hi, if_pos hi]; exact ih i
      · rw [if_neg hi, if_neg hi]
    · rw [ap_var _ (show (Tm.mk v nm a n cap f).v ≠ 0 from hv), ap_var _ (show (Tm.mk v nm a n cap f).v ≠ 0 from hv), ap_can]
      exact ap_var θ (T := vT (g v)) (hg v)
theorem addV_inj {g : Int → Int} (l : List Int) : ∀ s : List Int, (∀ u ∈ s ++ l, ∀ v ∈ s ++ l, g u = g v → u = v) → addV (s.map g) (l.map g) = (addV s l).map g := by
  induction l with
  | nil => intro s _; rw [List.map_nil, addV_nil, addV_nil]
  | cons x l ih =>
    intro s hij
    have e1 : addV s (x :: l) = addV (addV s [x]) l := by rw [← addV_append]; rfl
    have e2 : addV (s.map g) ((x :: l).map g) = addV (addV (s.map g) [g x]) (l.map g) := by rw [← addV_append]; rfl
    rw [e1, e2, addV_one, addV_one]
    by_cases hx : x ∈ s
    · rw [if_pos hx, if_pos (List.mem_map.2 ⟨x, hx, rfl⟩)]
      exact ih s fun u hu v hv => hij u (by simp at hu ⊢; rcases hu with h | h; (· exact .inl h); (· exact .inr (.inr h))) v (by simp at hv ⊢; rcases hv with h | h; (· exact .inl h); (· exact .inr (.inr h)))
    · have hgx : ¬ g x ∈ s.map g := fun c => by
        obtain ⟨u, hu, e⟩ := List.mem_map.1 c
        have := hij u (by simp [hu]) x (by simp) e
        exact hx (this ▸ hu)
      rw [if_neg hx, if_neg hgx, show s.map g ++ [g x] = (s ++ [x]).map g by simp]
      exact ih (s ++ [x]) fun u hu v hv => hij u (by simp at hu ⊢; exact hu) v (by simp at hv ⊢; exact hv)
theorem idx_inj {g : Int → Int} {v : Int} : ∀ s : List Int, (∀ u ∈ s, g u = g v → u = v) → (s.map g).idxOf (g v) = s.idxOf v := by
  intro s
  induction s with
  | nil => intro _; rfl
  | cons x s ih =>
    intro h
    rw [List.map_cons, List.idxOf_cons, List.idxOf_cons]
    by_cases e : x = v
    · subst e; simp
    · have e' : ¬ g x = g v := fun c => e (h x (by simp) c)
      have b1 : (x == v) = false := beq_eq_false_iff_ne.2 e
      have b2 : (g x == g v) = false := beq_eq_false_iff_ne.2 e'
      rw [ih fun u hu => h u (by simp [hu]), b1, b2]
theorem mem_addV {u : Int} (l : List Int) : ∀ s : List Int, u ∈ addV s l → u ∈ s ∨ u ∈ l := by
  induction l with
  | nil => intro s h; rw [addV_nil] at h; exact .inl h
  | cons x l ih =>
    intro s h
    have e1 : addV s (x :: l) = addV (addV s [x]) l := by rw [← addV_append]; rfl
    rw [e1] at h
    rcases ih _ h with h | h
    · rw [addV_one] at h
      split at h
      · exact .inl h
      · simp at h
        rcases h with h | h
        · exact .inl h
        · exact .inr (by simp [h])
    · exact .inr (by simp [h])
theorem num_same {g : Int → Int} (hg : ∀ u, g u ≠ 0) {U : Tm} (hij : ∀ u ∈ vsT U, ∀ v ∈ vsT U, g u = g v → u = v) :
    ap (nmOf (num (addV [] (vsT (ap (fun u => can (vT (g u))) U))))) (ap (fun u => can (vT (g u))) U) = ap (nmOf (num (addV [] (vsT U)))) U := by
  rw [vsT_map hg, ap_two hg]
  have e : addV [] ((vsT U).map g) = (addV [] (vsT U)).map g := addV_inj (vsT U) [] (by simpa using hij)
  rw [e]
  refine ap_vsG U fun v hv => ?_
  unfold nmOf num
  rw [idx_inj _ fun u hu hc => hij u ((mem_addV _ _ hu).resolve_left (by simp)) v hv hc]
end Go.Proofs.Ytmggaclaoefdaaa
