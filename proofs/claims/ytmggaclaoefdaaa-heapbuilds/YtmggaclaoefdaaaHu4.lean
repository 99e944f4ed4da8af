/- What Build lays, over cells alone. -/
import Derived.Test.YtmggaclaoefdaaaGBS
import Derived.Test.YtmggaclaoefdaaaGBL
namespace Go.Proofs.Ytmggaclaoefdaaa
open Go.RowKit
set_option linter.unusedVariables false
set_option linter.unusedSimpArgs false

theorem vsT_kid {nm : ByteArray} {a : Option Addr} {len cap : Nat} {f : Nat → Tm} {i : Nat} (hi : i < len) {v : Int} (hv : v ∈ vsT (f i)) : v ∈ vsT (.mk 0 nm a len cap f) := by
  unfold vsT
  rw [if_pos rfl]
  exact List.mem_flatten.2 ⟨_, List.mem_map.2 ⟨i, List.mem_range.2 hi, rfl⟩, hv⟩
theorem ap_vsG {θ θ' : Int → Tm} (T : Tm) : (∀ v ∈ vsT T, θ v = θ' v) → ap θ T = ap θ' T := by
  induction T with
  | nil => intro _; rfl
  | mk v nm a len cap f ih =>
    intro h
    by_cases hv : v = 0
    · subst hv
      rw [ap_fn _ (show (Tm.mk 0 nm a len cap f).v = 0 from rfl), ap_fn _ (show (Tm.mk 0 nm a len cap f).v = 0 from rfl)]
      congr 1
      funext i
      show (if i < len then ap θ (f i) else Tm.nil) = (if i < len then ap θ' (f i) else Tm.nil)
      by_cases hi : i < len
      · rw [if_pos hi, if_pos hi]
        exact ih i fun v hv => h v (vsT_kid hi hv)
      · rw [if_neg hi, if_neg hi]
    · rw [ap_var _ (show (Tm.mk v nm a len cap f).v ≠ 0 from hv), ap_var _ (show (Tm.mk v nm a len cap f).v ≠ 0 from hv)]
      exact h v (by unfold vsT; rw [if_neg hv]; simp)
theorem vsT_okv {N : Int} (T : Tm) : Okv N T → ∀ v ∈ vsT T, 0 < v ∧ v ≤ N := by
  induction T with
  | nil => intro h; exact h.elim
  | mk v nm a len cap f ih =>
    intro hT u hu
    unfold vsT at hu
    by_cases hv : v = 0
    · rw [if_pos hv] at hu
      obtain ⟨l, hl, hu⟩ := List.mem_flatten.1 hu
      obtain ⟨i, hi, rfl⟩ := List.mem_map.1 hl
      exact ih i (hT.2.2.2.2 i (List.mem_range.1 hi)) u hu
    · rw [if_neg hv] at hu
      obtain rfl : u = v := by simpa using hu
      have := hT.1
      exact ⟨by omega, hT.2.1⟩
theorem cnt_ap {N : Int} {θ : Int → Tm} (h : ∀ v, cnt (θ v) = 1) (T : Tm) : Okv N T → cnt (ap θ T) = cnt T := by
  induction T with
  | nil => intro h; exact h.elim
  | mk v nm a len cap f ih =>
    intro hT
    by_cases hv : v = 0
    · subst hv
      rw [ap_fn _ (show (Tm.mk 0 nm a len cap f).v = 0 from rfl)]
      show 1 + sumTo (fun i => cnt (if i < len then ap θ (f i) else Tm.nil)) len = 1 + sumTo (fun i => cnt (f i)) len
      rw [sumTo_congr fun i hi => by
        show cnt (if i < len then ap θ (f i) else Tm.nil) = cnt (f i)
        rw [if_pos hi]
        exact ih i (hT.2.2.2.2 i hi)]
    · rw [ap_var _ (show (Tm.mk v nm a len cap f).v ≠ 0 from hv)]
      have h3 : len = 0 := (hT.2.2.1 hv).2
      subst h3
      exact h v
/-- The cells that were told, as terms. -/
def toldV (σ : Int → Option Int) (v : Int) : Tm := can (vT (whI σ (v.toNat - 1) + 1))
structure BuG (h : Nat → Cl) (len : Nat) (T : Tm) (l : List Cl) (σ : Int → Option Int) (t : Nat) : Prop where
  hg : HG (hOf l) l.length
  old : ∀ i, i < len → hOf l i = h i
  le : len ≤ l.length
  tl : t < l.length
  std : Go.Proofs.Ytmggaclaoefdaaa.std (hOf l) l.length t = ap (toldV σ) T
  cn : cntA (hOf l) l.length t ≤ 60
theorem pi_begin (h : Nat → Cl) (len : Nat) : PutI len ((List.range len).map h, fun _ => none) := by
  refine ⟨fun v c e => (by cases e), fun x h1 h2 => ?_, ?_⟩
  · have : x < ((List.range len).map h).length := h2
    simp at this
    omega
  · show len ≤ ((List.range len).map h).length
    simp
theorem putH_len {h : Nat → Cl} {len : Nat} {T : Tm} (hT : Okv 12 T) : (putH h len T).1.1.length = len + roomT T := by
  have := (putT_room T hT ((List.range len).map h, fun _ => none) [] (fun v => by simp)).2
  unfold putH roomT
  have e : ((List.range len).map h, (fun _ => none : Int → Option Int)).1.length = len := by simp
  rw [e] at this
  simp at this
  omega
theorem build_good {h : Nat → Cl} {len : Nat} {T : Tm} (H : HG h len) (hT : checkV T = 0) (hl : (putH h len T).1.1.length ≤ 400000) : ∃ t : Nat, (putH h len T).2 = t ∧ BuG h len T (putH h len T).1.1 (putH h len T).1.2 t := by
  have hE := checkV_err hT
  have hO := okv_of_err T hE
  have Q := putT_po T hE _ (pi_begin h len)
  have hD := (putT_room T hO ((List.range len).map h, fun _ => none) [] (fun v => by simp)).1
  have hlen : ((List.range len).map h, (fun _ => none : Int → Option Int)).1.length = len := by simp
  change PutO len _ T (putH h len T) at Q
  change DomS (putH h len T).1.2 _ at hD
  obtain ⟨t, ht, htl, hB⟩ := Q.at_
  have hold : ∀ i, i < len → hOf (putH h len T).1.1 i = h i := fun i hi => (Q.old i (by rw [hlen]; exact hi)).trans (hOf_mapU hi)
  have hg := Q.inv.hg H hold hl
  have hs : Go.Proofs.Ytmggaclaoefdaaa.std (hOf (putH h len T).1.1) (putH h len T).1.1.length t = ap (toldV (putH h len T).1.2) T := by
    rw [Bd.std hg (Nat.le_refl _) T t hB]
    refine ap_vsG T fun v hv => ?_
    obtain ⟨c, hc⟩ := (hD v).2 (addV_mem _ _ _ hv)
    obtain ⟨y, rfl, hy, hfr⟩ := Q.inv.var v c hc
    have hyl : len ≤ y := by
      rcases Q.new v _ hc with h1 | h1
      · cases h1
      · rw [hlen] at h1; omega
    have hf := hfr hyl
    have hvp := (vsT_okv T hO v hv).1
    have he : endA (hOf (putH h len T).1.1) (putH h len T).1.1.length y = y := endA_eq (EndR.root hy (fun ⟨_, e⟩ => by rw [hf] at e; exact e rfl))
    have hw : whI (putH h len T).1.2 (v.toNat - 1) = y := by
      unfold whI
      rw [show (((v.toNat - 1 : Nat) : Int) + 1) = v by omega, hc]
      rfl
    unfold byC toldV
    rw [hc, hw]
    show Go.Proofs.Ytmggaclaoefdaaa.std _ _ (y : Int).toNat = _
    rw [Int.toNat_natCast, std_var (by rw [he, hf]; rfl), he]
  refine ⟨t, ht, hg, hold, ?_, htl, hs, ?_⟩
  · have := Q.len; rw [hlen] at this; exact this
  · show cnt (Go.Proofs.Ytmggaclaoefdaaa.std _ _ _) ≤ 60
    rw [hs, cnt_ap (fun v => by unfold toldV; rw [cnt_ofcan]; rfl) T hO]
    exact checkV_cnt hT
theorem HG.nm8 {h : Nat → Cl} {len : Nat} (H : HG h len) {i : Nat} (hi : i < len) : (h i).nm.size ≤ 8 := by
  rcases H.kind i hi with hk | hk
  · have h1 := H.nmr i hi hk
    have : (h i).nm.toList.length = (h i).nm.size := by rw [ByteArray.toList_eq]; rfl
    rw [h1] at this
    simp at this
    omega
  · exact nameB_size (H.nmf i hi hk).1
theorem HG.nmL {l : List Cl} (H : HG (hOf l) l.length) : ∀ c ∈ l, c.nm.size ≤ maxLen := fun c hc => by
  obtain ⟨i, hi, rfl⟩ := List.mem_iff_getElem.1 hc
  have := H.nm8 hi
  rw [hOf_get hi] at this
  unfold maxLen
  omega
end Go.Proofs.Ytmggaclaoefdaaa
