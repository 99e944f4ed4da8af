/- The reference's variables against the program's: over terms alone. -/
import Derived.Test.YtmggaclaoefdaaaUni4
namespace Go.Proofs.Ytmggaclaoefdaaa
open Go.RowKit

theorem dec_upd {σ : Sg} (hd : Dec σ) {i : Int} {U : Tm} (hU : U.v = 0 ∨ (0 < U.v ∧ U.v < i)) : Dec (upd σ i U) := by
  intro v V h
  unfold upd at h
  by_cases e : v = i
  · rw [if_pos e] at h
    obtain rfl := Option.some.inj h
    rw [e]; exact hU
  · rw [if_neg e] at h
    exact hd v V h
/-- What a term is after one more variable is something. -/
theorem wha_upd {σ : Sg} (hd : Dec σ) {i : Int} {U : Tm} (hi : 0 < i) (hn : σ i = none) (hU : U.v = 0 ∨ (0 < U.v ∧ U.v < i)) (hUn : U.v ≠ 0 → σ U.v = none) :
    ∀ (k : Nat) (T : Tm), T.v.toNat = k → 0 ≤ T.v → wha (upd σ i U) T = if (wha σ T).v = i then U else wha σ T := by
  have hd' := dec_upd hd hU
  intro k
  induction k using Nat.strongRecOn with
  | _ k ih =>
    intro T hk h0
    by_cases hv : T.v = 0
    · rw [wha_fn hv, wha_fn hv, if_neg (by omega)]
    by_cases hTi : T.v = i
    · have e1 : upd σ i U T.v = some U := by unfold upd; rw [if_pos hTi]
      rw [wha_some hd' h0 hv e1, wha_none (T := T) (by rw [hTi]; exact hn), if_pos hTi]
      by_cases hu : U.v = 0
      · exact wha_fn hu
      · refine wha_none ?_
        unfold upd
        rw [if_neg (by omega)]
        exact hUn hu
    · have e1 : upd σ i U T.v = σ T.v := by unfold upd; rw [if_neg hTi]
      cases hs : σ T.v with
      | none => rw [wha_none (by rw [e1]; exact hs), wha_none hs, if_neg hTi]
      | some V =>
        rw [wha_some hd' h0 hv (by rw [e1]; exact hs), wha_some hd h0 hv hs]
        rcases hd _ _ hs with h | ⟨h1, h2⟩
        · exact ih V.v.toNat (by omega) V rfl (by omega)
        · exact ih V.v.toNat (by omega) V rfl (by omega)
theorem wha_put {σ : Sg} (hd : Dec σ) {X T : Tm} (hX : 0 < X.v) (hT : 0 ≤ T.v) (hne : X.v ≠ T.v) (h1 : σ X.v = none) (h2 : T.v ≠ 0 → σ T.v = none) (U : Tm) (hU : 0 ≤ U.v) :
    wha (put σ X T) U = if X.v < T.v then (if (wha σ U).v = T.v then X else wha σ U) else (if (wha σ U).v = X.v then T else wha σ U) := by
  unfold put
  by_cases hlt : X.v < T.v
  · rw [if_pos hlt, if_pos hlt]
    exact wha_upd hd (by omega) (h2 (by omega)) (.inr ⟨hX, hlt⟩) (fun _ => h1) _ U rfl hU
  · rw [if_neg hlt, if_neg hlt]
    exact wha_upd hd hX h1 (by omega) h2 _ U rfl hU

/-- What the reference sees in a term: ρ says what each variable is. -/
def lk (ρ : Int → Tm) (T : Tm) : Tm := if T.v = 0 then T else ρ T.v
/-- A term that the reference has looked at: a variable may lie elsewhere. -/
def Lk (N : Int) (ρ : Int → Tm) (T Y : Tm) : Prop := Y.v = (lk ρ T).v ∧ (Y.v = 0 → Y = lk ρ T) ∧ Okv N Y
/-- The reference and the program see the same, but for which variable speaks for those that are the same. -/
structure Rel (N : Int) (σ : Sg) (ρ : Int → Tm) : Prop where
  ok : ∀ T, Okv N T → Okv N (lk ρ T)
  idem : ∀ T, Okv N T → (lk ρ (lk ρ T)).v = (lk ρ T).v
  fn : ∀ T, Okv N T → (lk ρ T).v = 0 → wha σ T = lk ρ T
  vr : ∀ T, Okv N T → (lk ρ T).v ≠ 0 → (wha σ T).v ≠ 0
  cls : ∀ S T, Okv N S → Okv N T → (lk ρ S).v ≠ 0 → ((lk ρ S).v = (lk ρ T).v ↔ (wha σ S).v = (wha σ T).v)
def rput (ρ : Int → Tm) (x : Int) (Y : Tm) : Int → Tm := fun u => if (ρ u).v = x then Y else ρ u
theorem lk_rput {ρ : Int → Tm} {x : Int} {Y : Tm} (hx : x ≠ 0) (U : Tm) : lk (rput ρ x Y) U = if (lk ρ U).v = x then Y else lk ρ U := by
  unfold lk rput
  by_cases h : U.v = 0
  · rw [if_pos h, if_pos h, if_neg (by omega)]
  · rw [if_neg h, if_neg h]
theorem Rel.zero {N : Int} {σ : Sg} {ρ : Int → Tm} (h : Rel N σ ρ) {T : Tm} (hT : Okv N T) : (lk ρ T).v = 0 ↔ (wha σ T).v = 0 := by
  constructor
  · intro e; rw [h.fn T hT e]; exact e
  · intro e
    by_cases hz : (lk ρ T).v = 0
    · exact hz
    · exact absurd e (h.vr T hT hz)
set_option maxHeartbeats 4000000 in
theorem cls_num {u v s t U V S T : Int} (c1 : s = u ↔ S = U) (c2 : s = v ↔ S = V) (c3 : s = t ↔ S = T) (c4 : u ≠ 0 → (u = v ↔ U = V)) (c5 : u ≠ 0 → (u = t ↔ U = T)) (c6 : v ≠ 0 → (v = t ↔ V = T)) (z1 : u = 0 ↔ U = 0) (z2 : v = 0 ↔ V = 0) (z3 : t = 0 ↔ T = 0) (hne : s ≠ t) (hne' : S ≠ T) (hS : S ≠ 0) (hT : 0 ≤ T) (hS0 : 0 ≤ S) (hz : (if u = s then t else u) ≠ 0) :
    ((if u = s then t else u) = (if v = s then t else v)) ↔ ((if S < T then (if U = T then S else U) else (if U = S then T else U)) = (if S < T then (if V = T then S else V) else (if V = S then T else V))) := by
  by_cases p1 : u = s
  · rw [if_pos p1] at hz ⊢
    by_cases p2 : v = s
    · rw [if_pos p2]
      split <;> split <;> split <;> omega
    · rw [if_neg p2]
      split <;> split <;> split <;> omega
  · rw [if_neg p1] at hz ⊢
    by_cases p2 : v = s
    · rw [if_pos p2]
      split <;> split <;> split <;> omega
    · rw [if_neg p2]
      split <;> split <;> split <;> omega
theorem Rel.put {N : Int} {σ : Sg} {ρ : Int → Tm} (h : Rel N σ ρ) (hd : Dec σ) {S T Y : Tm} (hS : Okv N S) (hT : Okv N T) (hx : (lk ρ S).v ≠ 0) (hne : (lk ρ S).v ≠ (lk ρ T).v) (hY : Lk N ρ T Y) (hX0 : 0 ≤ (wha σ S).v) (hT0 : 0 ≤ (wha σ T).v) :
    Rel N (put σ (wha σ S) (wha σ T)) (rput ρ (lk ρ S).v Y) := by
  obtain ⟨hY1, hY2, hY3⟩ := hY
  have hXv := h.vr S hS hx
  have hXT : (wha σ S).v ≠ (wha σ T).v := fun e => hne ((h.cls S T hS hT hx).2 e)
  have h1 : σ (wha σ S).v = none := wh_root hd _ S hS.top.1 (by omega) hXv
  have h2 : (wha σ T).v ≠ 0 → σ (wha σ T).v = none := fun hv => wh_root hd _ T hT.top.1 (by omega) hv
  have hw : ∀ U, Okv N U → wha (Go.Proofs.Ytmggaclaoefdaaa.put σ (wha σ S) (wha σ T)) U = if (wha σ S).v < (wha σ T).v then (if (wha σ U).v = (wha σ T).v then wha σ S else wha σ U) else (if (wha σ U).v = (wha σ S).v then wha σ T else wha σ U) :=
    fun U hU => wha_put hd (by omega) hT0 hXT h1 h2 U hU.top.1
  have hl : ∀ U, lk (rput ρ (lk ρ S).v Y) U = if (lk ρ U).v = (lk ρ S).v then Y else lk ρ U := fun U => lk_rput hx U
  have hlv : ∀ U, (lk (rput ρ (lk ρ S).v Y) U).v = if (lk ρ U).v = (lk ρ S).v then (lk ρ T).v else (lk ρ U).v := fun U => by
    rw [hl]; split
    · exact hY1
    · rfl
  have hwv : ∀ U, Okv N U → (wha (Go.Proofs.Ytmggaclaoefdaaa.put σ (wha σ S) (wha σ T)) U).v = if (wha σ S).v < (wha σ T).v then (if (wha σ U).v = (wha σ T).v then (wha σ S).v else (wha σ U).v) else (if (wha σ U).v = (wha σ S).v then (wha σ T).v else (wha σ U).v) := fun U hU => by
    rw [hw U hU]; split <;> split <;> rfl
  have hzT := h.zero hT
  have hTid := h.idem T hT
  refine ⟨?_, ?_, ?_, ?_, ?_⟩
  · intro U hU
    rw [hl]; split
    · exact hY3
    · exact h.ok U hU
  · intro U hU
    rw [hlv]
    have hid := h.idem U hU
    rw [hl]
    split
    · rename_i e1
      split
      · rename_i e2
        by_cases hY0 : Y.v = 0
        · rw [hY2 hY0] at e2
          omega
        · have e3 : (lk ρ Y).v = (lk ρ (lk ρ T)).v := by
            show (if Y.v = 0 then Y else ρ Y.v).v = (if (lk ρ T).v = 0 then lk ρ T else ρ (lk ρ T).v).v
            rw [if_neg hY0, if_neg (by omega), hY1]
          omega
      · rename_i e2
        by_cases hY0 : Y.v = 0
        · rw [hY2 hY0]; omega
        · have e3 : (lk ρ Y).v = (lk ρ (lk ρ T)).v := by
            show (if Y.v = 0 then Y else ρ Y.v).v = (if (lk ρ T).v = 0 then lk ρ T else ρ (lk ρ T).v).v
            rw [if_neg hY0, if_neg (by omega), hY1]
          omega
    · rename_i e1
      rw [hid, if_neg e1]
  · intro U hU hz
    have hc := h.cls S U hS hU hx
    rw [hlv] at hz
    rw [hw U hU, hl]
    by_cases ha : (lk ρ U).v = (lk ρ S).v
    · rw [if_pos ha] at hz ⊢
      have e : (wha σ U).v = (wha σ S).v := (hc.1 ha.symm).symm
      have ez := hzT.1 hz
      rw [if_neg (by omega), if_pos e, h.fn T hT hz]
      exact (hY2 (by omega)).symm
    · rw [if_neg ha] at hz ⊢
      have ez := h.fn U hU hz
      have ez' : (wha σ U).v = 0 := by rw [ez]; exact hz
      rw [if_neg (by omega : ¬ (wha σ U).v = (wha σ S).v), ez]
      split
      · rw [if_neg (by omega)]
      · rfl
  · intro U hU hz
    have hzU := h.zero hU
    have hc := h.cls S U hS hU hx
    rw [hlv] at hz
    rw [hwv U hU]
    split <;> split <;> (split at hz <;> omega)
  · intro U V hU hV hz
    have hzU := h.zero hU
    have hzV := h.zero hV
    have c1 := h.cls S U hS hU hx
    have c2 := h.cls S V hS hV hx
    have c3 := h.cls S T hS hT hx
    have c4 : (lk ρ U).v ≠ 0 → ((lk ρ U).v = (lk ρ V).v ↔ (wha σ U).v = (wha σ V).v) := h.cls U V hU hV
    have c5 : (lk ρ U).v ≠ 0 → ((lk ρ U).v = (lk ρ T).v ↔ (wha σ U).v = (wha σ T).v) := h.cls U T hU hT
    have c6 : (lk ρ V).v ≠ 0 → ((lk ρ V).v = (lk ρ T).v ↔ (wha σ V).v = (wha σ T).v) := h.cls V T hV hT
    rw [hlv] at hz
    rw [hlv, hlv, hwv U hU, hwv V hV]
    exact cls_num c1 c2 c3 c4 c5 c6 hzU hzV hzT hne hXT hXv hT0 hX0 hz
/-- At first every variable is itself. -/
theorem rel0 (N : Int) (ρ : Int → Tm) (h : ∀ v, 0 < v → v ≤ N → (ρ v).v = v ∧ Okv N (ρ v)) : Rel N (fun _ => none) ρ := by
  have hw : ∀ T, wha (fun _ => none) T = T := fun T => wha_none rfl
  have hl : ∀ T, Okv N T → (lk ρ T).v = T.v ∧ Okv N (lk ρ T) ∧ (T.v = 0 → lk ρ T = T) := fun T hT => by
    have ht := hT.top
    by_cases h0 : T.v = 0
    · have e : lk ρ T = T := by unfold lk; rw [if_pos h0]
      rw [e]; exact ⟨rfl, hT, fun _ => rfl⟩
    · have e : lk ρ T = ρ T.v := by unfold lk; rw [if_neg h0]
      rw [e]
      exact ⟨(h _ (by omega) ht.2.1).1, (h _ (by omega) ht.2.1).2, fun e => absurd e h0⟩
  refine ⟨fun T hT => (hl T hT).2.1, fun T hT => (hl _ (hl T hT).2.1).1, fun T hT hz => ?_, fun T hT hz => ?_, fun S T hS hT hz => ?_⟩
  · rw [hw, (hl T hT).2.2 ((hl T hT).1 ▸ hz)]
  · rw [hw]; rw [(hl T hT).1] at hz; exact hz
  · rw [hw, hw, (hl S hS).1, (hl T hT).1]
end Go.Proofs.Ytmggaclaoefdaaa
