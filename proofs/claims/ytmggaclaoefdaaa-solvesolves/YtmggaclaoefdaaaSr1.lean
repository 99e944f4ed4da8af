/- Variables with other numbers, in the same order: making the same: over terms alone. -/
import Derived.Test.YtmggaclaoefdaaaGI
namespace Go.Proofs.Ytmggaclaoefdaaa
open Go.RowKit

/-- Terms over some variables. -/
def OvU (U : Int → Prop) : Tm → Prop
  | .nil => False
  | .mk v nm _ len _ f => (v ≠ 0 → U v ∧ nm = ⟨#[]⟩ ∧ len = 0) ∧ ∀ i, i < len → OvU U (f i)
theorem OvU.top {U : Int → Prop} {T : Tm} (h : OvU U T) : T.v ≠ 0 → U T.v ∧ T.nm = ⟨#[]⟩ ∧ T.len = 0 := by
  cases T with
  | nil => exact h.elim
  | mk => exact h.1
theorem OvU.kid {U : Int → Prop} {T : Tm} (h : OvU U T) {i : Nat} (hi : i < T.len) : OvU U (T.f i) := by
  cases T with
  | nil => exact h.elim
  | mk => exact h.2 i hi
theorem OvU.kids {U : Int → Prop} {T : Tm} (h : OvU U T) : ∀ t ∈ kidsL T, OvU U t := fun t ht => by
  obtain ⟨i, hi, rfl⟩ := List.mem_map.1 ht
  exact h.kid (List.mem_range.1 hi)
theorem OvU.mono {U V : Int → Prop} (h : ∀ v, U v → V v) {T : Tm} : OvU U T → OvU V T := by
  induction T with
  | nil => intro h; exact h
  | mk v nm a len cap f ih => intro hT; exact ⟨fun hv => ⟨h v (hT.1 hv).1, (hT.1 hv).2⟩, fun i hi => ih i (hT.2 i hi)⟩
theorem OvU.ofCan {U : Int → Prop} {T : Tm} (hT : OvU U T) : OvU U (can T) := by
  induction T with
  | nil => exact hT.elim
  | mk v nm a len cap f ih =>
    refine ⟨hT.1, fun i hi => ?_⟩
    show OvU U (if i < len then can (f i) else .nil)
    rw [if_pos hi]; exact ih i (hT.2 i hi)
theorem ovu_vT {U : Int → Prop} {v : Int} (h : U v) : OvU U (vT v) := ⟨fun _ => ⟨h, rfl, rfl⟩, fun i hi => absurd hi (Nat.not_lt_zero i)⟩
theorem can_vT' (n : Int) : can (vT n) = vT n := by
  unfold vT
  rw [can_eq]
  show Tm.mk n ⟨#[]⟩ none 0 0 _ = _
  congr 1
/-- A term whose variables have other numbers. -/
def ren (ι : Int → Int) (T : Tm) : Tm := ap (fun v => vT (ι v)) T
theorem ren_fn (ι : Int → Int) {T : Tm} (h : T.v = 0) : ren ι T = .mk 0 T.nm none T.len 0 (fun i => if i < T.len then ren ι (T.f i) else .nil) := ap_fn _ h
theorem ren_var (ι : Int → Int) {T : Tm} (h : T.v ≠ 0) : ren ι T = vT (ι T.v) := ap_var _ h
theorem ren_can (ι : Int → Int) (T : Tm) : ren ι (can T) = ren ι T := ap_can _ T
theorem ren_v0 (ι : Int → Int) {T : Tm} (h : T.v = 0) : (ren ι T).v = 0 := by rw [ren_fn ι h]; rfl
theorem ren_v1 (ι : Int → Int) {T : Tm} (h : T.v ≠ 0) : (ren ι T).v = ι T.v := by rw [ren_var ι h]; rfl
theorem ren_nm {U : Int → Prop} (ι : Int → Int) {T : Tm} (h : OvU U T) : (ren ι T).nm = T.nm := by
  by_cases hv : T.v = 0
  · rw [ren_fn ι hv]; rfl
  · rw [ren_var ι hv, (h.top hv).2.1]; rfl
theorem ren_len {U : Int → Prop} (ι : Int → Int) {T : Tm} (h : OvU U T) : (ren ι T).len = T.len := by
  by_cases hv : T.v = 0
  · rw [ren_fn ι hv]; rfl
  · rw [ren_var ι hv, (h.top hv).2.2]; rfl
theorem ren_f {U : Int → Prop} (ι : Int → Int) {T : Tm} (h : OvU U T) {i : Nat} (hi : i < T.len) : (ren ι T).f i = ren ι (T.f i) := by
  have hv : T.v = 0 := by
    by_cases hv : T.v = 0
    · exact hv
    · have := (h.top hv).2.2; omega
  rw [ren_fn ι hv]
  show (if i < T.len then ren ι (T.f i) else .nil) = _
  rw [if_pos hi]
theorem ren_kids {U : Int → Prop} (ι : Int → Int) {T : Tm} (h : OvU U T) : kidsL (ren ι T) = (kidsL T).map (ren ι) := by
  unfold kidsL
  rw [ren_len ι h, List.map_map]
  apply List.map_congr_left
  intro i hi
  exact ren_f ι h (List.mem_range.1 hi)
/-- Numbers in the same order. -/
structure Mo (U : Int → Prop) (ι : Int → Int) : Prop where
  pos : ∀ v, U v → 0 < v ∧ 0 < ι v
  mono : ∀ v w, U v → U w → v < w → ι v < ι w
theorem Mo.inj {U : Int → Prop} {ι : Int → Int} (h : Mo U ι) {v w : Int} (hv : U v) (hw : U w) (e : ι v = ι w) : v = w := by
  rcases Int.lt_trichotomy v w with h1 | h1 | h1
  · have := h.mono v w hv hw h1; omega
  · exact h1
  · have := h.mono w v hw hv h1; omega
/-- What variables are, and what those with other numbers are. -/
structure SgR (U : Int → Prop) (ι : Int → Int) (σ σ' : Sg) : Prop where
  at_ : ∀ v, U v → σ' (ι v) = (σ v).map (ren ι)
  out : ∀ w, (∀ v, U v → ι v ≠ w) → σ' w = none
  non : ∀ v, ¬ U v → σ v = none
  trm : ∀ v T, σ v = some T → OvU U T ∧ (T.v = 0 ∨ (0 < T.v ∧ T.v < v))
section
variable {U : Int → Prop} {ι : Int → Int} {σ σ' : Sg}
theorem SgR.dec (h : SgR U ι σ σ') : Dec σ := fun v T hv => (h.trm v T hv).2
theorem SgR.isU (h : SgR U ι σ σ') {v : Int} {T : Tm} (hv : σ v = some T) : U v := Classical.byContradiction fun e => by
  rw [h.non v e] at hv; cases hv
theorem SgR.dec' (h : SgR U ι σ σ') (hM : Mo U ι) : Dec σ' := fun w T' hw => by
  by_cases hx : ∃ v, U v ∧ ι v = w
  · obtain ⟨v, hv, rfl⟩ := hx
    rw [h.at_ v hv] at hw
    cases hs : σ v with
    | none => rw [hs] at hw; cases hw
    | some T =>
      rw [hs] at hw
      obtain rfl : ren ι T = T' := Option.some.inj hw
      by_cases h0 : T.v = 0
      · exact .inl (ren_v0 ι h0)
      · obtain ⟨hO, hd⟩ := h.trm v T hs
        have hu := (hO.top h0).1
        rw [ren_v1 ι h0]
        exact .inr ⟨(hM.pos _ hu).2, hM.mono _ _ hu hv (by omega)⟩
  · rw [h.out w (fun v hv e => hx ⟨v, hv, e⟩)] at hw
    cases hw
theorem SgR.wha (h : SgR U ι σ σ') (hM : Mo U ι) : ∀ (k : Nat) (T : Tm), T.v.toNat = k → OvU U T → Go.Proofs.Ytmggaclaoefdaaa.wha σ' (ren ι T) = ren ι (Go.Proofs.Ytmggaclaoefdaaa.wha σ T) ∧ OvU U (Go.Proofs.Ytmggaclaoefdaaa.wha σ T) := by
  intro k
  induction k using Nat.strongRecOn with
  | _ k ih =>
    intro T hk hT
    by_cases hv : T.v = 0
    · rw [wha_fn hv, wha_fn (ren_v0 ι hv)]; exact ⟨rfl, hT⟩
    · have hu := (hT.top hv).1
      have hp := hM.pos _ hu
      have e : ren ι T = vT (ι T.v) := ren_var ι hv
      cases hs : σ T.v with
      | none =>
        have hs' : σ' (ι T.v) = none := by rw [h.at_ _ hu, hs]; rfl
        rw [wha_none hs, e, wha_none (T := vT (ι T.v)) hs']
        exact ⟨rfl, hT⟩
      | some V =>
        have hs' : σ' (ι T.v) = some (ren ι V) := by rw [h.at_ _ hu, hs]; rfl
        obtain ⟨hO, hd⟩ := h.trm _ _ hs
        rw [wha_some h.dec (by omega) hv hs, e, wha_some (h.dec' hM) (T := vT (ι T.v)) (by show 0 ≤ ι T.v; omega) (by show ι T.v ≠ 0; omega) hs']
        exact ih V.v.toNat (by omega) V rfl hO
theorem SgR.wh1 (h : SgR U ι σ σ') (hM : Mo U ι) {T : Tm} (hT : OvU U T) : Go.Proofs.Ytmggaclaoefdaaa.wha σ' (ren ι T) = ren ι (Go.Proofs.Ytmggaclaoefdaaa.wha σ T) := (h.wha hM _ T rfl hT).1
theorem SgR.wh2 (h : SgR U ι σ σ') (hM : Mo U ι) {T : Tm} (hT : OvU U T) : OvU U (Go.Proofs.Ytmggaclaoefdaaa.wha σ T) := (h.wha hM _ T rfl hT).2
theorem ren_eqv (hM : Mo U ι) {T : Tm} (hT : OvU U T) {x : Int} (hx : U x) : (ren ι T).v = ι x ↔ T.v = x := by
  have hp := hM.pos x hx
  by_cases hv : T.v = 0
  · rw [ren_v0 ι hv, hv]; constructor <;> (intro; omega)
  · rw [ren_v1 ι hv]
    exact ⟨fun e => hM.inj (hT.top hv).1 hx e, fun e => by rw [e]⟩
theorem SgR.within (h : SgR U ι σ σ') (hM : Mo U ι) {x : Int} (hx : U x) : ∀ (L : Nat) (ts : List Tm), (∀ t ∈ ts, OvU U t) → Go.Proofs.Ytmggaclaoefdaaa.within σ' (ι x) L (ts.map (ren ι)) = Go.Proofs.Ytmggaclaoefdaaa.within σ x L ts := by
  intro L
  induction L with
  | zero => intro ts _; cases ts <;> rfl
  | succ L ih =>
    intro ts hts
    cases ts with
    | nil => rfl
    | cons t ts =>
      have ht := hts t (by simp)
      have hw := h.wh2 hM ht
      rw [List.map_cons, within_succ, within_succ, h.wh1 hM ht, ren_kids ι hw, ← List.map_append]
      rw [ih (kidsL (Go.Proofs.Ytmggaclaoefdaaa.wha σ t) ++ ts) (fun y hy => by
        rcases List.mem_append.1 hy with hy | hy
        · exact hw.kids y hy
        · exact hts y (by simp [hy]))]
      have := ren_eqv hM hw hx
      by_cases e : (Go.Proofs.Ytmggaclaoefdaaa.wha σ t).v = x
      · rw [if_pos e, if_pos (this.2 e)]
      · rw [if_neg e, if_neg (fun e' => e (this.1 e'))]
theorem SgR.upd (h : SgR U ι σ σ') (hM : Mo U ι) {i : Int} (hi : U i) {V : Tm} (hV : OvU U V) (hd : V.v = 0 ∨ (0 < V.v ∧ V.v < i)) : SgR U ι (Go.Proofs.Ytmggaclaoefdaaa.upd σ i V) (Go.Proofs.Ytmggaclaoefdaaa.upd σ' (ι i) (ren ι V)) := by
  unfold Go.Proofs.Ytmggaclaoefdaaa.upd
  refine ⟨fun v hv => ?_, fun w hw => ?_, fun v hv => ?_, fun v T hv => ?_⟩
  · by_cases e : v = i
    · rw [if_pos e, if_pos (by rw [e])]; rfl
    · rw [if_neg e, if_neg (fun e' => e (hM.inj hv hi e'))]; exact h.at_ v hv
  · show (if w = ι i then _ else _) = none
    rw [if_neg (fun e => hw i hi e.symm)]; exact h.out w hw
  · show (if v = i then _ else _) = none
    have hne : ¬ v = i := fun e => hv (by rw [e]; exact hi)
    rw [if_neg hne]; exact h.non v hv
  · have hv : (if v = i then some V else σ v) = some T := hv
    by_cases e : v = i
    · rw [if_pos e] at hv
      obtain rfl := Option.some.inj hv
      exact ⟨hV, by rw [e]; exact hd⟩
    · rw [if_neg e] at hv; exact h.trm v T hv
theorem SgR.put (h : SgR U ι σ σ') (hM : Mo U ι) {X T : Tm} (hX : OvU U X) (hX0 : X.v ≠ 0) (hT : OvU U T) (hne : X.v ≠ T.v) : SgR U ι (Go.Proofs.Ytmggaclaoefdaaa.put σ X T) (Go.Proofs.Ytmggaclaoefdaaa.put σ' (ren ι X) (ren ι T)) := by
  have hu := (hX.top hX0).1
  have hp := hM.pos _ hu
  unfold Go.Proofs.Ytmggaclaoefdaaa.put
  rw [ren_v1 ι hX0]
  by_cases hv : T.v = 0
  · rw [ren_v0 ι hv, hv, if_neg (by omega), if_neg (by omega)]
    exact h.upd hM hu hT (.inl hv)
  · have hut := (hT.top hv).1
    have hpt := hM.pos _ hut
    rw [ren_v1 ι hv]
    by_cases hlt : X.v < T.v
    · rw [if_pos hlt, if_pos (hM.mono _ _ hu hut hlt)]
      exact h.upd hM hut hX (.inr ⟨hp.1, hlt⟩)
    · have := hM.mono _ _ hut hu (by omega)
      rw [if_neg hlt, if_neg (by omega)]
      exact h.upd hM hu hT (.inr ⟨hpt.1, by omega⟩)
def ren2 (ι : Int → Int) (p : Tm × Tm) : Tm × Tm := (ren ι p.1, ren ι p.2)
def MR (U : Int → Prop) (ι : Int → Int) : MO → MO → Prop
  | .over, .over => True
  | .no k, .no k' => k = k'
  | .yes k τ, .yes k' τ' => k = k' ∧ SgR U ι τ τ'
  | _, _ => False
theorem zipK_ren {S T : Tm} (hS : OvU U S) (hT : OvU U T) (hl : S.len = T.len) : zipK (ren ι S) (ren ι T) = (zipK S T).map (ren2 ι) := by
  unfold zipK
  rw [ren_len ι hS, List.map_map]
  apply List.map_congr_left
  intro i hi
  have hi := List.mem_range.1 hi
  show ((ren ι S).f i, (ren ι T).f i) = (ren ι (S.f i), ren ι (T.f i))
  rw [ren_f ι hS hi, ren_f ι hT (hl ▸ hi)]
theorem meet_ren (hM : Mo U ι) : ∀ (F : Nat) (σ σ' : Sg) (L : Nat) (ps : List (Tm × Tm)), SgR U ι σ σ' → (∀ p ∈ ps, OvU U p.1 ∧ OvU U p.2) → MR U ι (meetF F σ L ps) (meetF F σ' L (ps.map (ren2 ι))) := by
  intro F
  induction F with
  | zero => intro σ σ' L ps _ _; exact trivial
  | succ F ih =>
    intro σ σ' L ps h hps
    cases ps with
    | nil => cases L <;> exact ⟨rfl, h⟩
    | cons p ps =>
      obtain ⟨x, y⟩ := p
      cases L with
      | zero => exact trivial
      | succ L =>
        have hx : OvU U x := (hps (x, y) (by simp)).1
        have hy : OvU U y := (hps (x, y) (by simp)).2
        have hr : ∀ p ∈ ps, OvU U p.1 ∧ OvU U p.2 := fun p hp => hps p (by simp [hp])
        have wx := h.wh2 hM hx
        have wy := h.wh2 hM hy
        have ex := h.wh1 hM hx
        have ey := h.wh1 hM hy
        show MR U ι _ (meetF (F + 1) σ' (L + 1) ((ren ι x, ren ι y) :: ps.map (ren2 ι)))
        rw [meetF, meetF, ex, ey, ren_nm ι wx, ren_nm ι wy, ren_len ι wx, ren_len ι wy]
        by_cases h1 : (Go.Proofs.Ytmggaclaoefdaaa.wha σ x).v ≠ 0
        · have hu := (wx.top h1).1
          have hp := hM.pos _ hu
          have e1 : (ren ι (Go.Proofs.Ytmggaclaoefdaaa.wha σ x)).v = ι (Go.Proofs.Ytmggaclaoefdaaa.wha σ x).v := ren_v1 ι h1
          have c1 : (ren ι (Go.Proofs.Ytmggaclaoefdaaa.wha σ x)).v ≠ 0 := by rw [e1]; omega
          rw [if_pos h1, if_pos c1]
          have hq := ren_eqv hM wy hu
          by_cases h2 : (Go.Proofs.Ytmggaclaoefdaaa.wha σ x).v = (Go.Proofs.Ytmggaclaoefdaaa.wha σ y).v
          · have c2 : (ren ι (Go.Proofs.Ytmggaclaoefdaaa.wha σ x)).v = (ren ι (Go.Proofs.Ytmggaclaoefdaaa.wha σ y)).v := by rw [e1]; exact (hq.2 h2.symm).symm
            rw [if_pos h2, if_pos c2]
            exact ih σ σ' L ps h hr
          · have c2 : ¬ (ren ι (Go.Proofs.Ytmggaclaoefdaaa.wha σ x)).v = (ren ι (Go.Proofs.Ytmggaclaoefdaaa.wha σ y)).v := fun e => h2 (hq.1 (by rw [← e, e1])).symm
            rw [if_neg h2, if_neg c2]
            have hwi : Go.Proofs.Ytmggaclaoefdaaa.within σ' (ren ι (Go.Proofs.Ytmggaclaoefdaaa.wha σ x)).v L [ren ι (Go.Proofs.Ytmggaclaoefdaaa.wha σ y)] = Go.Proofs.Ytmggaclaoefdaaa.within σ (Go.Proofs.Ytmggaclaoefdaaa.wha σ x).v L [Go.Proofs.Ytmggaclaoefdaaa.wha σ y] := by
              rw [e1]; exact h.within hM hu L [Go.Proofs.Ytmggaclaoefdaaa.wha σ y] (fun t ht => by rw [List.mem_singleton] at ht; rw [ht]; exact wy)
            rw [hwi]
            cases Go.Proofs.Ytmggaclaoefdaaa.within σ (Go.Proofs.Ytmggaclaoefdaaa.wha σ x).v L [Go.Proofs.Ytmggaclaoefdaaa.wha σ y] with
            | over => exact trivial
            | found k => exact rfl
            | free k => exact ih _ _ k ps (h.put hM wx h1 wy h2) hr
        · have h1' : (Go.Proofs.Ytmggaclaoefdaaa.wha σ x).v = 0 := by simpa using h1
          have c1 : ¬ (ren ι (Go.Proofs.Ytmggaclaoefdaaa.wha σ x)).v ≠ 0 := by rw [ren_v0 ι h1']; simp
          rw [if_neg h1, if_neg c1]
          by_cases h2 : (Go.Proofs.Ytmggaclaoefdaaa.wha σ y).v ≠ 0
          · have hu := (wy.top h2).1
            have hp := hM.pos _ hu
            have e1 : (ren ι (Go.Proofs.Ytmggaclaoefdaaa.wha σ y)).v = ι (Go.Proofs.Ytmggaclaoefdaaa.wha σ y).v := ren_v1 ι h2
            have c2 : (ren ι (Go.Proofs.Ytmggaclaoefdaaa.wha σ y)).v ≠ 0 := by rw [e1]; omega
            rw [if_pos h2, if_pos c2]
            have hwi : Go.Proofs.Ytmggaclaoefdaaa.within σ' (ren ι (Go.Proofs.Ytmggaclaoefdaaa.wha σ y)).v L [ren ι (Go.Proofs.Ytmggaclaoefdaaa.wha σ x)] = Go.Proofs.Ytmggaclaoefdaaa.within σ (Go.Proofs.Ytmggaclaoefdaaa.wha σ y).v L [Go.Proofs.Ytmggaclaoefdaaa.wha σ x] := by
              rw [e1]; exact h.within hM hu L [Go.Proofs.Ytmggaclaoefdaaa.wha σ x] (fun t ht => by rw [List.mem_singleton] at ht; rw [ht]; exact wx)
            rw [hwi]
            cases Go.Proofs.Ytmggaclaoefdaaa.within σ (Go.Proofs.Ytmggaclaoefdaaa.wha σ y).v L [Go.Proofs.Ytmggaclaoefdaaa.wha σ x] with
            | over => exact trivial
            | found k => exact rfl
            | free k => exact ih _ _ k ps (h.put hM wy h2 wx (by omega)) hr
          · have h2' : (Go.Proofs.Ytmggaclaoefdaaa.wha σ y).v = 0 := by simpa using h2
            have c2 : ¬ (ren ι (Go.Proofs.Ytmggaclaoefdaaa.wha σ y)).v ≠ 0 := by rw [ren_v0 ι h2']; simp
            rw [if_neg h2, if_neg c2]
            by_cases h3 : (Go.Proofs.Ytmggaclaoefdaaa.wha σ x).nm.toList = (Go.Proofs.Ytmggaclaoefdaaa.wha σ y).nm.toList ∧ (Go.Proofs.Ytmggaclaoefdaaa.wha σ x).len = (Go.Proofs.Ytmggaclaoefdaaa.wha σ y).len
            · rw [if_pos h3, if_pos h3, zipK_ren wx wy h3.2, ← List.map_append]
              refine ih σ σ' L _ h (fun p hp => ?_)
              rcases List.mem_append.1 hp with hp | hp
              · obtain ⟨i, hi, rfl⟩ := List.mem_map.1 hp
                have hi := List.mem_range.1 hi
                exact ⟨wx.kid hi, wy.kid (h3.2 ▸ hi)⟩
              · exact hr p hp
            · rw [if_neg h3, if_neg h3]; exact rfl
theorem SgR.room (h : SgR U ι σ σ') (hM : Mo U ι) : ∀ (n : Nat) (ts : List Tm), (∀ t ∈ ts, OvU U t) → roomF σ' n (ts.map (ren ι)) = roomF σ n ts := by
  intro n
  induction n with
  | zero => intro ts _; cases ts <;> rfl
  | succ n ih =>
    intro ts hts
    cases ts with
    | nil => rfl
    | cons t ts =>
      have ht := hts t (by simp)
      have hw := h.wh2 hM ht
      show roomF σ' n (kidsL (Go.Proofs.Ytmggaclaoefdaaa.wha σ' (ren ι t)) ++ ts.map (ren ι)) = roomF σ n (kidsL (Go.Proofs.Ytmggaclaoefdaaa.wha σ t) ++ ts)
      rw [h.wh1 hM ht, ren_kids ι hw, ← List.map_append]
      exact ih _ (fun y hy => by
        rcases List.mem_append.1 hy with hy | hy
        · exact hw.kids y hy
        · exact hts y (by simp [hy]))
theorem SgR.ex (h : SgR U ι σ σ') (hM : Mo U ι) : ∀ (d : Nat) (T : Tm), Fin σ d T → OvU U T → can (Go.Proofs.Ytmggaclaoefdaaa.ex σ' d (ren ι T)) = ren ι (Go.Proofs.Ytmggaclaoefdaaa.ex σ d T) ∧ OvU U (Go.Proofs.Ytmggaclaoefdaaa.ex σ d T) := by
  intro d
  induction d with
  | zero => intro T hF; exact hF.elim
  | succ d ih =>
    intro T hF hT
    have hw := h.wh2 hM hT
    rw [Go.Proofs.Ytmggaclaoefdaaa.ex, Go.Proofs.Ytmggaclaoefdaaa.ex, h.wh1 hM hT]
    by_cases hv : (Go.Proofs.Ytmggaclaoefdaaa.wha σ T).v = 0
    · rw [if_pos hv, if_pos (ren_v0 ι hv), ren_nm ι hw, ren_len ι hw]
      constructor
      · rw [ren_fn ι (T := Tm.mk 0 (Go.Proofs.Ytmggaclaoefdaaa.wha σ T).nm none (Go.Proofs.Ytmggaclaoefdaaa.wha σ T).len 0 (fun i => Go.Proofs.Ytmggaclaoefdaaa.ex σ d ((Go.Proofs.Ytmggaclaoefdaaa.wha σ T).f i))) rfl]
        show Tm.mk 0 (Go.Proofs.Ytmggaclaoefdaaa.wha σ T).nm none (Go.Proofs.Ytmggaclaoefdaaa.wha σ T).len 0 _ = Tm.mk 0 (Go.Proofs.Ytmggaclaoefdaaa.wha σ T).nm none (Go.Proofs.Ytmggaclaoefdaaa.wha σ T).len 0 _
        congr 1
        funext i
        show (if i < (Go.Proofs.Ytmggaclaoefdaaa.wha σ T).len then can (Go.Proofs.Ytmggaclaoefdaaa.ex σ' d ((ren ι (Go.Proofs.Ytmggaclaoefdaaa.wha σ T)).f i)) else .nil) = (if i < (Go.Proofs.Ytmggaclaoefdaaa.wha σ T).len then ren ι (Go.Proofs.Ytmggaclaoefdaaa.ex σ d ((Go.Proofs.Ytmggaclaoefdaaa.wha σ T).f i)) else .nil)
        by_cases hi : i < (Go.Proofs.Ytmggaclaoefdaaa.wha σ T).len
        · rw [if_pos hi, if_pos hi, ren_f ι hw hi]; exact (ih _ (hF i hi) (hw.kid hi)).1
        · rw [if_neg hi, if_neg hi]
      · exact ⟨fun h => absurd rfl h, fun i hi => (ih _ (hF i hi) (hw.kid hi)).2⟩
    · have hu := (hw.top hv).1
      have hp := hM.pos _ hu
      have hr : (ren ι (Go.Proofs.Ytmggaclaoefdaaa.wha σ T)).v ≠ 0 := by rw [ren_v1 ι hv]; omega
      rw [if_neg hv, if_neg hr]
      refine ⟨?_, fun _ => ⟨hu, rfl, rfl⟩, fun i hi => absurd hi (Nat.not_lt_zero i)⟩
      rw [ren_var ι (T := Tm.mk (Go.Proofs.Ytmggaclaoefdaaa.wha σ T).v ⟨#[]⟩ none 0 0 (fun _ => .nil)) hv, ren_v1 ι hv]
      exact can_vT' _
end
end Go.Proofs.Ytmggaclaoefdaaa
