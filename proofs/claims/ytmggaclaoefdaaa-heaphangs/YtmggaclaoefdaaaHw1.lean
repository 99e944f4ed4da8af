/- A heap says the same as a substitution: cells that stand for terms. -/
import Derived.Test.YtmggaclaoefdaaaHm7
import Derived.Test.YtmggaclaoefdaaaRf1
import Derived.Test.YtmggaclaoefdaaaUni4
namespace Go.Proofs.Ytmggaclaoefdaaa
open Go.RowKit
set_option linter.unusedVariables false
set_option linter.unusedSimpArgs false

/-- A cell stands for a term, under what variables are: κ tells the cells of variables that are nothing, D which variables have cells. -/
inductive Rep (σ : Sg) (h : Nat → Cl) (len : Nat) (κ : Int → Nat) (D : Int → Prop) : Nat → Tm → Prop
  | var {i : Nat} {S : Tm} : i < len → 0 ≤ S.v → (wha σ S).v ≠ 0 → D (wha σ S).v → (wha σ S).len = 0 → endA h len i = κ (wha σ S).v → Rep σ h len κ D i S
  | fn {i : Nat} {S : Tm} : i < len → 0 ≤ S.v → (wha σ S).v = 0 → (h (endA h len i)).k = 2 → (h (endA h len i)).nm = (wha σ S).nm → (h (endA h len i)).n = ((wha σ S).len : Int) → (∀ j, j < (wha σ S).len → Rep σ h len κ D (endA h len i + 1 + j) ((wha σ S).f j)) → Rep σ h len κ D i S
structure HR (σ : Sg) (h : Nat → Cl) (len : Nat) (κ : Int → Nat) (D : Int → Prop) : Prop where
  dec : Dec σ
  hg : HG h len
  pos : ∀ u, D u → 0 < u
  ij : ∀ u v, D u → D v → σ u = none → σ v = none → κ u = κ v → u = v
  fr : ∀ u, D u → σ u = none → κ u < len ∧ (h (κ u)).k = 1 ∧ (h (κ u)).n = (κ u : Int)
section
variable {σ : Sg} {h : Nat → Cl} {len : Nat} {κ : Int → Nat} {D : Int → Prop}
theorem Rep.lt {i : Nat} {S : Tm} (r : Rep σ h len κ D i S) : i < len := by cases r <;> assumption
theorem Rep.nn {i : Nat} {S : Tm} (r : Rep σ h len κ D i S) : 0 ≤ S.v := by cases r <;> assumption
theorem root_of (hd : Dec σ) {S : Tm} (h0 : 0 ≤ S.v) (hv : (wha σ S).v ≠ 0) : σ (wha σ S).v = none := wh_root hd _ S h0 (Nat.lt_succ_self _) hv
theorem HR.end_ (H : HR σ h len κ D) {u : Int} (hu : D u) (hn : σ u = none) : endA h len (κ u) = κ u := endA_eq (.root (H.fr u hu hn).1 fun c => c.2 (H.fr u hu hn).2.2)
theorem HR.no_leads (H : HR σ h len κ D) {u : Int} (hu : D u) (hn : σ u = none) : leads h (κ u) = [] := by
  obtain ⟨_, h1, h2⟩ := H.fr u hu hn
  unfold leads
  rw [if_pos h1, if_pos h2]
theorem leads_k2 {z n : Nat} (hk : (h z).k = 2) (hn : (h z).n = (n : Int)) : leads h z = (List.range n).map fun j => z + 1 + j := by
  unfold leads
  rw [if_neg (by omega), hn]
  rfl
/-- One by one. -/
inductive All2 {α β : Type} (R : α → β → Prop) : List α → List β → Prop
  | nil : All2 R [] []
  | cons {a : α} {b : β} {xs : List α} {ys : List β} : R a b → All2 R xs ys → All2 R (a :: xs) (b :: ys)
theorem All2.app {α β : Type} {R : α → β → Prop} {xs cs : List α} {ys ds : List β} (h : All2 R xs ys) (k : All2 R cs ds) : All2 R (xs ++ cs) (ys ++ ds) := by
  induction h with
  | nil => exact k
  | cons h1 h2 ih => exact .cons h1 ih
/-- Does a variable stand in there? Both count alike. -/
def WLs : WO → LkR → Prop
  | .free k, .ok k' => k = k'
  | .found k, .hit k' => k = k'
  | .over, .over => True
  | _, _ => False
theorem within_lkR (H : HR σ h len κ D) {x : Int} (hx : D x) (hxn : σ x = none) : ∀ (n : Nat) (ts : List Tm) (is : List Nat), All2 (fun i S => Rep σ h len κ D i S) is ts → WLs (within σ x n ts) (lkL h len (κ x) n is) := by
  intro n
  induction n with
  | zero =>
    intro ts is hF
    cases hF with
    | nil => exact rfl
    | cons => exact trivial
  | succ n ih =>
    intro ts is hF
    cases hF with
    | nil => exact rfl
    | cons hr hF =>
      rename_i i S is ts
      rw [within_succ, show lkL h len (κ x) (n + 1) (i :: is) = if endA h len i = κ x then .hit n else lkL h len (κ x) n (leads h (endA h len i) ++ is) from rfl]
      cases hr with
      | var hi h0 hv hD hl he =>
        by_cases hux : (wha σ S).v = x
        · rw [if_pos hux, if_pos (by rw [he, hux])]
          exact rfl
        · have hne : ¬ endA h len i = κ x := fun e => hux (H.ij _ _ hD hx (root_of H.dec h0 hv) hxn (by rw [← he]; exact e))
          rw [if_neg hux, if_neg hne, kidsL_nil hl, he, H.no_leads hD (root_of H.dec h0 hv)]
          exact ih _ _ hF
      | fn hi h0 hv hk hnm hn hkids =>
        have hxp := H.pos x hx
        have hne : ¬ endA h len i = κ x := fun e => by
          rw [e] at hk
          have := (H.fr x hx hxn).2.1
          omega
        rw [if_neg (by omega), if_neg hne, leads_k2 hk hn]
        refine ih _ _ (All2.app ?_ hF)
        unfold kidsL
        have : ∀ m, m ≤ (wha σ S).len → All2 (fun i S => Rep σ h len κ D i S) ((List.range m).map fun j => endA h len i + 1 + j) ((List.range m).map (wha σ S).f) := by
          intro m
          induction m with
          | zero => intro _; exact .nil
          | succ m im =>
            intro hm
            rw [List.range_succ, List.map_append, List.map_append]
            exact All2.app (im (by omega)) (.cons (hkids m (by omega)) .nil)
        exact this _ (Nat.le_refl _)
/-- Where cells lead to after one was bound. -/
theorem EndR.bnd {v r : Nat} (hk : (h v).k = 1) (hn : (h v).n = (v : Int)) (hr : r < len) (hne : r ≠ v) (hroot : ¬ ((h r).k = 1 ∧ (h r).n ≠ r)) {i z : Nat} (E : EndR h len i z) : EndR (bndH h v r) len i (if z = v then r else z) := by
  induction E with
  | root hi hnr =>
    rename_i i
    by_cases e : i = v
    · subst e
      rw [if_pos rfl]
      refine .step hi (by rw [bndH_at]; exact hk) (by rw [bndH_at]; rfl) hne (.root hr ?_)
      rw [bndH_ne hne]
      exact hroot
    · rw [if_neg e]
      exact .root hi (by rw [bndH_ne e]; exact hnr)
  | step hi hk' hn' hji E ih =>
    rename_i i j z
    have e : i ≠ v := fun e => by
      subst e
      rw [hn] at hn'
      exact hji (by omega)
    exact .step hi (by rw [bndH_ne e]; exact hk') (by rw [bndH_ne e]; exact hn') hji ih
theorem endA_bnd (H : HG h len) {v r : Nat} (hk : (h v).k = 1) (hn : (h v).n = (v : Int)) (hr : r < len) (hne : r ≠ v) (hre : endA h len r = r) {i : Nat} (hi : i < len) : endA (bndH h v r) len i = if endA h len i = v then r else endA h len i := by
  refine endA_eq (EndR.bnd hk hn hr hne (fun c => ?_) (H.endR hi))
  have h1 := H.end_or hr
  rw [hre] at h1
  rcases h1 with h1 | h1
  · exact c.2 h1.2
  · omega
theorem rch_end {h : Nat → Cl} {len i z v : Nat} (E : EndR h len i z) (r : Rch h v z) : Rch h v i := by
  induction E with
  | root => exact r
  | step hi hk hn hji E ih =>
    refine .step ?_ (ih r)
    rw [Ref.leads ⟨hk, hn, hji⟩]
    simp
/-- A variable and a term. -/
theorem rep_termA (H : HR σ h len κ D) {x : Int} (hx : D x) (hxn : σ x = none) {T : Tm} (hT : T.v = 0) {t : Nat} (ht : t < len) (hte : endA h len t = t) (htk : (h t).k = 2) {i : Nat} {S : Tm} (r : Rep σ h len κ D i S) :
    ¬ Rch h (κ x) i → Rep (upd σ x T) (bndH h (κ x) t) len κ D i S := by
  obtain ⟨f1, f2, f3⟩ := H.fr x hx hxn
  have hne : t ≠ κ x := fun e => by rw [e] at htk; omega
  have hE := fun {i : Nat} (hi : i < len) => endA_bnd H.hg f2 f3 ht hne hte hi
  have hxp := H.pos x hx
  have hW := fun (U : Tm) (hU : 0 ≤ U.v) => wha_upd H.dec hxp hxn (U := T) (.inl hT) (fun c => absurd hT c) _ U rfl hU
  induction r with
  | var hi h0 hv hD hl he =>
    rename_i i S
    intro hR
    have hux : (wha σ S).v ≠ x := fun e => hR (rch_end (H.hg.endR hi) (by rw [he, e]; exact .here))
    have hw : wha (upd σ x T) S = wha σ S := by rw [hW S h0, if_neg hux]
    have hec : endA h len i ≠ κ x := fun e => hux (H.ij _ _ hD hx (root_of H.dec h0 hv) hxn (by rw [← he]; exact e))
    exact .var hi h0 (by rw [hw]; exact hv) (by rw [hw]; exact hD) (by rw [hw]; exact hl) (by rw [hw, hE hi, if_neg hec]; exact he)
  | fn hi h0 hv hk hnm hn hkids ih =>
    rename_i i S
    intro hR
    have hw : wha (upd σ x T) S = wha σ S := by rw [hW S h0, if_neg (by omega)]
    have hec : endA h len i ≠ κ x := fun e => by rw [e] at hk; omega
    have he : endA (bndH h (κ x) t) len i = endA h len i := by rw [hE hi, if_neg hec]
    refine .fn hi h0 (by rw [hw]; exact hv) (by rw [he, bndH_ne hec]; exact hk) (by rw [he, bndH_ne hec, hw]; exact hnm) (by rw [he, bndH_ne hec, hw]; exact hn) (fun j hj => ?_)
    rw [hw] at hj ⊢
    rw [he]
    refine ih j hj fun c => hR (rch_end (H.hg.endR hi) (.step ?_ c))
    rw [leads_k2 hk hn]
    exact List.mem_map.2 ⟨j, List.mem_range.2 hj, rfl⟩
theorem rep_termB (H : HR σ h len κ D) {x : Int} (hx : D x) (hxn : σ x = none) {T : Tm} (hT : T.v = 0) {t : Nat} (hte : endA h len t = t) (htk : (h t).k = 2) (rT : Rep σ h len κ D t T) (hRt : ¬ Rch h (κ x) t) {i : Nat} {S : Tm} (r : Rep σ h len κ D i S) :
    Rep (upd σ x T) (bndH h (κ x) t) len κ D i S := by
  have ht := rT.lt
  obtain ⟨f1, f2, f3⟩ := H.fr x hx hxn
  have hne : t ≠ κ x := fun e => by rw [e] at htk; omega
  have hE := fun {i : Nat} (hi : i < len) => endA_bnd H.hg f2 f3 ht hne hte hi
  have hxp := H.pos x hx
  have hW := fun (U : Tm) (hU : 0 ≤ U.v) => wha_upd H.dec hxp hxn (U := T) (.inl hT) (fun c => absurd hT c) _ U rfl hU
  have rA := rep_termA H hx hxn hT ht hte htk rT hRt
  induction r with
  | var hi h0 hv hD hl he =>
    rename_i i S
    by_cases hux : (wha σ S).v = x
    · have hw : wha (upd σ x T) S = T := by rw [hW S h0, if_pos hux]
      have he' : endA (bndH h (κ x) t) len i = t := by rw [hE hi, if_pos (by rw [he, hux])]
      have hwT : wha (upd σ x T) T = T := wha_fn hT
      have het : endA (bndH h (κ x) t) len t = t := by rw [hE ht, hte, if_neg hne]
      cases rA with
      | var _ _ hv' => rw [hwT] at hv'; exact absurd hT hv'
      | fn _ _ hv' hk' hnm' hn' hkids' =>
        rw [hwT] at hv' hnm' hn' hkids'
        rw [het] at hk' hnm' hn' hkids'
        refine .fn hi h0 (by rw [hw]; exact hv') (by rw [he']; exact hk') (by rw [he', hw]; exact hnm') (by rw [he', hw]; exact hn') (fun j hj => ?_)
        rw [hw] at hj ⊢
        rw [he']
        exact hkids' j hj
    · have hw : wha (upd σ x T) S = wha σ S := by rw [hW S h0, if_neg hux]
      have hec : endA h len i ≠ κ x := fun e => hux (H.ij _ _ hD hx (root_of H.dec h0 hv) hxn (by rw [← he]; exact e))
      exact .var hi h0 (by rw [hw]; exact hv) (by rw [hw]; exact hD) (by rw [hw]; exact hl) (by rw [hw, hE hi, if_neg hec]; exact he)
  | fn hi h0 hv hk hnm hn hkids ih =>
    rename_i i S
    have hw : wha (upd σ x T) S = wha σ S := by rw [hW S h0, if_neg (by omega)]
    have hec : endA h len i ≠ κ x := fun e => by rw [e] at hk; omega
    have he : endA (bndH h (κ x) t) len i = endA h len i := by rw [hE hi, if_neg hec]
    refine .fn hi h0 (by rw [hw]; exact hv) (by rw [he, bndH_ne hec]; exact hk) (by rw [he, bndH_ne hec, hw]; exact hnm) (by rw [he, bndH_ne hec, hw]; exact hn) (fun j hj => ?_)
    rw [hw] at hj ⊢
    rw [he]
    exact ih j hj
theorem hr_term (H : HR σ h len κ D) {x : Int} (hx : D x) (hxn : σ x = none) {T : Tm} (hT : T.v = 0) {t : Nat} (ht : t < len) (htk : (h t).k = 2) (hRt : ¬ Rch h (κ x) t) : HR (upd σ x T) (bndH h (κ x) t) len κ D := by
  obtain ⟨f1, f2, f3⟩ := H.fr x hx hxn
  have hne : t ≠ κ x := fun e => by rw [e] at htk; omega
  have hu : ∀ u, upd σ x T u = none → σ u = none ∧ u ≠ x := fun u e => by
    unfold upd at e
    by_cases c : u = x
    · rw [if_pos c] at e; cases e
    · rw [if_neg c] at e; exact ⟨e, c⟩
  refine ⟨dec_upd H.dec (.inl hT), H.hg.bind f1 f2 ht hne hRt, H.pos, fun u v du dv eu ev e => H.ij u v du dv (hu u eu).1 (hu v ev).1 e, fun u du eu => ?_⟩
  obtain ⟨e1, e2⟩ := hu u eu
  have hκ : κ u ≠ κ x := fun e => e2 (H.ij u x du hx e1 hxn e)
  rw [bndH_ne hκ]
  exact H.fr u du e1
/-- Two variables: the one that stays, and the cell that stays. -/
def κput (κ : Int → Nat) (u : Int) (c : Nat) : Int → Nat := fun z => if z = u then c else κ z
theorem hr_vars (H : HR σ h len κ D) {d u : Int} (hd : D d) (hu : D u) (hdn : σ d = none) (hun : σ u = none) (hdu : u < d) {Z : Tm} (hZ : Z.v = u) {e c : Nat} (hec : (e = κ d ∧ c = κ u) ∨ (e = κ u ∧ c = κ d)) :
    HR (upd σ d Z) (bndH h e c) len (κput κ u c) D := by
  have hup := H.pos u hu
  have hne : κ u ≠ κ d := fun x => by have := H.ij u d hu hd hun hdn x; omega
  obtain ⟨a1, a2, a3⟩ := H.fr d hd hdn
  obtain ⟨b1, b2, b3⟩ := H.fr u hu hun
  have hce : c ≠ e := by rcases hec with ⟨rfl, rfl⟩ | ⟨rfl, rfl⟩ <;> omega
  have hcF : c < len ∧ (h c).k = 1 ∧ (h c).n = (c : Int) ∧ leads h c = [] := by
    rcases hec with ⟨rfl, rfl⟩ | ⟨rfl, rfl⟩
    · exact ⟨b1, b2, b3, H.no_leads hu hun⟩
    · exact ⟨a1, a2, a3, H.no_leads hd hdn⟩
  have heF : e < len ∧ (h e).k = 1 := by
    rcases hec with ⟨rfl, rfl⟩ | ⟨rfl, rfl⟩
    · exact ⟨a1, a2⟩
    · exact ⟨b1, b2⟩
  have hup' : ∀ v, upd σ d Z v = none → σ v = none ∧ v ≠ d := fun v e => by
    unfold upd at e
    by_cases c : v = d
    · rw [if_pos c] at e; cases e
    · rw [if_neg c] at e; exact ⟨e, c⟩
  have hnr : ¬ Rch h e c := fun r => by
    cases r with
    | here => exact hce rfl
    | step hj _ => rw [hcF.2.2.2] at hj; cases hj
  have hκ : ∀ v, D v → σ v = none → v ≠ d → v ≠ u → κ v ≠ e ∧ κ v ≠ c := fun v dv vn h1 h2 => by
    have k1 : κ v ≠ κ d := fun x => h1 (H.ij v d dv hd vn hdn x)
    have k2 : κ v ≠ κ u := fun x => h2 (H.ij v u dv hu vn hun x)
    rcases hec with ⟨rfl, rfl⟩ | ⟨rfl, rfl⟩
    · exact ⟨k1, k2⟩
    · exact ⟨k2, k1⟩
  refine ⟨dec_upd H.dec (.inr ⟨by omega, by omega⟩), H.hg.bind heF.1 heF.2 hcF.1 hce hnr, H.pos, fun v w dv dw ev ew x => ?_, fun v dv ev => ?_⟩
  · obtain ⟨v1, v2⟩ := hup' v ev
    obtain ⟨w1, w2⟩ := hup' w ew
    unfold κput at x
    by_cases hvu : v = u
    · by_cases hwu : w = u
      · rw [hvu, hwu]
      · rw [if_pos hvu, if_neg hwu] at x
        exact absurd x.symm (hκ w dw w1 w2 hwu).2
    · by_cases hwu : w = u
      · rw [if_neg hvu, if_pos hwu] at x
        exact absurd x (hκ v dv v1 v2 hvu).2
      · rw [if_neg hvu, if_neg hwu] at x
        exact H.ij v w dv dw v1 w1 x
  · obtain ⟨v1, v2⟩ := hup' v ev
    unfold κput
    by_cases hvu : v = u
    · rw [if_pos hvu, bndH_ne hce]
      exact ⟨hcF.1, hcF.2.1, hcF.2.2.1⟩
    · rw [if_neg hvu, bndH_ne (hκ v dv v1 v2 hvu).1]
      exact H.fr v dv v1
theorem rep_vars (H : HR σ h len κ D) {d u : Int} (hd : D d) (hu : D u) (hdn : σ d = none) (hun : σ u = none) (hdu : u < d) {Z : Tm} (hZ : Z.v = u) (hZl : Z.len = 0) {e c : Nat} (hec : (e = κ d ∧ c = κ u) ∨ (e = κ u ∧ c = κ d)) {i : Nat} {S : Tm} (r : Rep σ h len κ D i S) :
    Rep (upd σ d Z) (bndH h e c) len (κput κ u c) D i S := by
  have hup := H.pos u hu
  have hdp := H.pos d hd
  have hne : κ u ≠ κ d := fun x => by have := H.ij u d hu hd hun hdn x; omega
  obtain ⟨a1, a2, a3⟩ := H.fr d hd hdn
  obtain ⟨b1, b2, b3⟩ := H.fr u hu hun
  have hce : c ≠ e := by rcases hec with ⟨rfl, rfl⟩ | ⟨rfl, rfl⟩ <;> omega
  have heF : (h e).k = 1 ∧ (h e).n = (e : Int) := by
    rcases hec with ⟨rfl, rfl⟩ | ⟨rfl, rfl⟩
    · exact ⟨a2, a3⟩
    · exact ⟨b2, b3⟩
  have hcF : c < len ∧ endA h len c = c := by
    rcases hec with ⟨rfl, rfl⟩ | ⟨rfl, rfl⟩
    · exact ⟨b1, H.end_ hu hun⟩
    · exact ⟨a1, H.end_ hd hdn⟩
  have hE := fun {i : Nat} (hi : i < len) => endA_bnd H.hg heF.1 heF.2 hcF.1 hce hcF.2 hi
  have hW := fun (U : Tm) (hU : 0 ≤ U.v) => wha_upd H.dec hdp hdn (U := Z) (.inr ⟨by omega, by omega⟩) (fun _ => by rw [hZ]; exact hun) _ U rfl hU
  induction r with
  | var hi h0 hv hD hl he =>
    rename_i i S
    have hvn := root_of H.dec h0 hv
    by_cases h1 : (wha σ S).v = d
    · have hw : wha (upd σ d Z) S = Z := by rw [hW S h0, if_pos h1]
      have he' : endA (bndH h e c) len i = c := by
        rw [hE hi, he, h1]
        rcases hec with ⟨rfl, rfl⟩ | ⟨rfl, rfl⟩
        · rw [if_pos rfl]
        · rw [if_neg (fun x => hne x.symm)]
      exact .var hi h0 (by rw [hw]; omega) (by rw [hw, hZ]; exact hu) (by rw [hw]; exact hZl) (by rw [hw, he', hZ]; unfold κput; rw [if_pos rfl])
    · have hw : wha (upd σ d Z) S = wha σ S := by rw [hW S h0, if_neg h1]
      by_cases h2 : (wha σ S).v = u
      · have he' : endA (bndH h e c) len i = c := by
          rw [hE hi, he, h2]
          rcases hec with ⟨rfl, rfl⟩ | ⟨rfl, rfl⟩
          · rw [if_neg hne]
          · rw [if_pos rfl]
        exact .var hi h0 (by rw [hw]; exact hv) (by rw [hw]; exact hD) (by rw [hw]; exact hl) (by rw [hw, he', h2]; unfold κput; rw [if_pos rfl])
      · have k1 : κ (wha σ S).v ≠ κ d := fun x => h1 (H.ij _ d hD hd hvn hdn x)
        have k2 : κ (wha σ S).v ≠ κ u := fun x => h2 (H.ij _ u hD hu hvn hun x)
        have he' : endA (bndH h e c) len i = κ (wha σ S).v := by
          rw [hE hi, he, if_neg]
          rcases hec with ⟨rfl, rfl⟩ | ⟨rfl, rfl⟩
          · exact k1
          · exact k2
        exact .var hi h0 (by rw [hw]; exact hv) (by rw [hw]; exact hD) (by rw [hw]; exact hl) (by rw [hw, he']; unfold κput; rw [if_neg h2])
  | fn hi h0 hv hk hnm hn hkids ih =>
    rename_i i S
    have hw : wha (upd σ d Z) S = wha σ S := by rw [hW S h0, if_neg (by omega)]
    have hec' : endA h len i ≠ e := fun x => by rw [x] at hk; omega
    have he : endA (bndH h e c) len i = endA h len i := by rw [hE hi, if_neg hec']
    refine .fn hi h0 (by rw [hw]; exact hv) (by rw [he, bndH_ne hec']; exact hk) (by rw [he, bndH_ne hec', hw]; exact hnm) (by rw [he, bndH_ne hec', hw]; exact hn) (fun j hj => ?_)
    rw [hw] at hj ⊢
    rw [he]
    exact ih j hj
end
end Go.Proofs.Ytmggaclaoefdaaa
