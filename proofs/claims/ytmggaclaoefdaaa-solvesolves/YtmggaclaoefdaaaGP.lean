/- The reference's Full: what it answers. The names that the reference gives: the least variable speaks for those that are the same. Appending nothing. A term stored into a list of terms. -/
import Derived.Test.YtmggaclaoefdaaaGH
import Derived.Test.YtmggaclaoefdaaaGF
namespace Go.Proofs.Ytmggaclaoefdaaa
open Go.RowKit

/-- Numbers of the reference's variables that are the program's. -/
def Ren (N : Int) (σ : Sg) (ρ : Int → Tm) (π : Int → Int) : Prop := ∀ T, Okv N T → (lk ρ T).v ≠ 0 → π (lk ρ T).v = (wha σ T).v
def T3 (X : Tm) (n : Int) (ok : Bool) : Ending := .returned (.tuple #[X.val, .int .i64 n, .bool ok])
def FP (N : Int) (σ : Sg) (ρ : Int → Tm) (most : Nat) (T : Tm) (w : World) (e : Ending) (w' : World) : Prop := Below w.heap.size w w' ∧ (
  (∃ (X : Tm) (n : Nat), e = T3 X n true ∧ 1 ≤ n ∧ n ≤ most ∧ TIn w' X ∧ Okv N X ∧ (∀ k, k < w.heap.size → NB k X) ∧ (∀ us, roomF σ most (T :: us) = roomF σ (most - n) us) ∧ ∀ π, Ren N σ ρ π → ∀ d, most ≤ d → ap (nmOf π) X = can (ex σ d T)) ∨
  (∃ n : Nat, e = T3 (vT 0) n false ∧ n ≤ most + 1 ∧ ∀ us, roomF σ most (T :: us) = none))
def FC (most : Nat) : Prop := ∀ (b ob g o cap : Nat) (N : Int) (len : Nat) (τ ρ : Int → Tm) (r : Int → Nat) (σ : Sg) (T : Tm) (w : World), ByIs w b ob g o cap N len τ → Chain N τ ρ r → (∀ v, 0 < v → v ≤ N → TIn w (τ v)) → Rel N σ ρ → (∀ v U, σ v = some U → Okv N U) → most ≤ 200 → Okv N T → TIn w T →
  Calls Try.prog 68 #[.pointer (some ⟨b, ob, none⟩), T.val, .int .i64 most] w (FP N σ ρ most T w)
theorem wha_okv {N : Int} {σ : Sg} (h : ∀ v U, σ v = some U → Okv N U) {T : Tm} (hT : Okv N T) : Okv N (wha σ T) := by
  rcases wh_from σ (T.v.toNat + 1) T with e | ⟨v, e⟩
  · unfold wha; rw [e]; exact hT
  · exact h v _ e
/-- The parts of what the reference has looked at are those of what the program sees. -/
theorem kids_lk {N : Int} {σ : Sg} {ρ : Int → Tm} (hR : Rel N σ ρ) (hO : ∀ v U, σ v = some U → Okv N U) {T Y : Tm} (hT : Okv N T) (hY : Lk N ρ T Y) : kidsL (wha σ T) = kidsL Y ∧ (wha σ T).len = Y.len := by
  by_cases h0 : Y.v = 0
  · have e : wha σ T = Y := by rw [hY.2.1 h0]; exact hR.fn T hT (by rw [← hY.1]; exact h0)
    rw [e]; exact ⟨rfl, rfl⟩
  · have h1 := hR.vr T hT (by rw [← hY.1]; exact h0)
    have h2 := ((wha_okv hO hT).top.2.2 h1).2
    have h3 := (hY.2.2.top.2.2 h0).2
    rw [kidsL_nil h2, kidsL_nil h3, h2, h3]
    exact ⟨rfl, rfl⟩
/-- What Full builds, through and through. -/
theorem full_ex {N : Int} {σ : Sg} {ρ : Int → Tm} (hR : Rel N σ ρ) {T Y Q : Tm} (hT : Okv N T) (hY : Lk N ρ T Y) (hl : Q.len = Y.len) {π : Int → Int} (hπ : Ren N σ ρ π) {d : Nat} (hk : ∀ i, i < Q.len → ap (nmOf π) (Q.f i) = can (ex σ d (Y.f i))) :
    ap (nmOf π) (.mk Y.v Y.nm Q.a Q.len Q.cap Q.f) = can (ex σ (d + 1) T) := by
  by_cases h0 : Y.v = 0
  · have e : wha σ T = Y := by rw [hY.2.1 h0]; exact hR.fn T hT (by rw [← hY.1]; exact h0)
    rw [ex, e, if_pos h0]
    show (if Y.v = 0 then Tm.mk 0 Y.nm none Q.len 0 (fun i => if i < Q.len then ap (nmOf π) (Q.f i) else .nil) else nmOf π Y.v) = Tm.mk 0 Y.nm none Y.len 0 (fun i => if i < Y.len then can (ex σ d (Y.f i)) else .nil)
    rw [if_pos h0, hl]
    congr 1
    funext i
    by_cases hi : i < Y.len
    · rw [if_pos hi, if_pos hi]; exact hk i (by omega)
    · rw [if_neg hi, if_neg hi]
  · have h1 := hR.vr T hT (by rw [← hY.1]; exact h0)
    rw [ex, if_neg h1]
    show (if Y.v = 0 then Tm.mk 0 Y.nm none Q.len 0 (fun i => if i < Q.len then ap (nmOf π) (Q.f i) else .nil) else nmOf π Y.v) = can (vT (wha σ T).v)
    rw [if_neg h0, ← hπ T hT (by rw [← hY.1]; exact h0), ← hY.1]
    rfl
theorem LstQ.exact {lo : Nat} {Y : Tm} {w : World} {v : Value} {ts us : List Tm} (h : LstQ lo Y w v ts us) :
    ∃ T : Tm, v = .slice T.a T.len T.cap ∧ TIn w T ∧ (∀ k, k < lo → NB k Y → NB k T) ∧ T.len = ts.length ∧ ∀ i, i < T.len → T.f i = ts.getD i .nil := by
  have hget : ∀ i (hi : i < ts.length), ts.getD i .nil = ts[i] := fun i hi => by simp [List.getD, List.getElem?_eq_getElem hi]
  rcases h.own.2 with ⟨rfl, h0⟩ | ⟨g, cap, cur, rfl, hlo, hgg, hnc, hcm, hsz, htk⟩
  · exact ⟨.mk 0 ⟨#[]⟩ none 0 0 (fun _ => .nil), rfl, ⟨Nat.zero_le _, Nat.zero_le _, fun i hi => absurd hi (Nat.not_lt_zero i)⟩, fun k _ _ => ⟨fun h => absurd h (Nat.lt_irrefl 0), fun i hi => absurd hi (Nat.not_lt_zero i)⟩, h0.symm, fun i hi => absurd hi (Nat.not_lt_zero i)⟩
  · refine ⟨.mk 0 ⟨#[]⟩ (some ⟨g, 0, none⟩) ts.length cap (fun i => ts.getD i .nil), rfl, ⟨Nat.zero_le _, (show ts.length ≤ maxLen from Nat.le_trans hnc hcm), fun i hi => ?_⟩, fun k hk hY => ⟨fun _ => ⟨g, 0, rfl, by omega⟩, fun i hi => ?_⟩, rfl, fun i hi => rfl⟩
    · obtain ⟨f0, f1, f2⟩ := flat_get ts i hi
      have hm := h.all _ (List.getElem_mem hi)
      show RowAt w _ i (ts.getD i .nil) ∧ TIn w (ts.getD i .nil)
      rw [hget i hi]
      refine ⟨⟨g, 0, rfl, ?_, ?_, ?_⟩, hm.1⟩
      · rw [Nat.zero_add]; exact (h.own.cellAt (i * 3) (by omega)).trans f0
      · rw [Nat.zero_add]; exact (h.own.cellAt (i * 3 + 1) (by omega)).trans f1
      · rw [Nat.zero_add]; exact (h.own.cellAt (i * 3 + 2) (by omega)).trans f2
    · show NB k (ts.getD i .nil)
      rw [hget i hi]; exact (h.all _ (List.getElem_mem hi)).2.1 k hk hY
end Go.Proofs.Ytmggaclaoefdaaa

namespace Go.Proofs.Ytmggaclaoefdaaa
open Go.RowKit

theorem wha_le {σ : Sg} (hd : Dec σ) : ∀ (k : Nat) (T : Tm), T.v.toNat = k → 0 ≤ T.v → 0 ≤ (wha σ T).v ∧ (wha σ T).v ≤ T.v := by
  intro k
  induction k using Nat.strongRecOn with
  | _ k ih =>
    intro T hk h0
    by_cases hv : T.v = 0
    · rw [wha_fn hv]; omega
    cases hs : σ T.v with
    | none => rw [wha_none hs]; omega
    | some U =>
      rw [wha_some hd h0 hv hs]
      rcases hd _ _ hs with h | ⟨h1, h2⟩
      · have := ih U.v.toNat (by omega) U rfl (by omega); omega
      · have := ih U.v.toNat (by omega) U rfl (by omega); omega
/-- The names after so many variables, the greatest first. -/
def nmD (ρ : Int → Tm) (N : Int) : Nat → Int → Int
  | 0 => fun _ => 0
  | k + 1 => fun u => if (ρ (N - k)).v ≠ 0 ∧ u = (ρ (N - k)).v then N - k else nmD ρ N k u
theorem nmD_at {ρ : Int → Tm} {N u r : Int} (hu : u ≠ 0) (hr : (ρ r).v = u) (hle : ∀ v, 0 < v → v ≤ N → (ρ v).v = u → r ≤ v) : ∀ k : Nat, (k : Int) ≤ N → N - k < r → r ≤ N → nmD ρ N k u = r := by
  intro k
  induction k with
  | zero => intro _ h1 h2; omega
  | succ k ih =>
    intro hk h1 h2
    show (if (ρ (N - k)).v ≠ 0 ∧ u = (ρ (N - k)).v then N - k else nmD ρ N k u) = r
    by_cases e : N - k = r
    · rw [e, if_pos ⟨by omega, hr.symm⟩]
    · have hlt : N - k < r := by omega
      rw [if_neg (fun h => by have := hle (N - k) (by omega) (by omega) h.2.symm; omega)]
      exact ih (by omega) hlt h2
theorem nmD_ren {N : Int} {σ : Sg} {ρ : Int → Tm} (hR : Rel N σ ρ) (hd : Dec σ) (hO : ∀ v U, σ v = some U → Okv N U) (hN : 0 ≤ N) : Ren N σ ρ (nmD ρ N N.toNat) := by
  intro T hT hv
  have hw := hR.vr T hT hv
  have hwo := wha_okv hO hT
  have h0 := hwo.top.1
  have h1 := hwo.top.2.1
  have hroot : σ (wha σ T).v = none := wh_root hd _ T hT.top.1 (by omega) hw
  have hlk : ∀ v : Int, v ≠ 0 → lk ρ (vT v) = ρ v := fun v h => by
    show (if v = 0 then vT v else ρ v) = _
    rw [if_neg h]
  have hself : wha σ (vT (wha σ T).v) = vT (wha σ T).v := wha_none hroot
  have hr : (ρ (wha σ T).v).v = (lk ρ T).v := by
    have := (hR.cls T (vT (wha σ T).v) hT (vT_ok h0 h1) hv).2 (by rw [hself]; rfl)
    rw [hlk _ hw] at this
    exact this.symm
  refine nmD_at hv hr (fun v v0 v1 hv' => ?_) _ (by omega) (by omega) h1
  have := (hR.cls T (vT v) hT (vT_ok (by omega) v1) hv).1 (by rw [hlk _ (by omega)]; exact hv'.symm)
  have hle := (wha_le hd _ (vT v) rfl (by show 0 ≤ v; omega)).2
  rw [this]
  exact hle
end Go.Proofs.Ytmggaclaoefdaaa

namespace Go.Proofs.Ytmggaclaoefdaaa
open Go.RowKit

theorem run_append_none (a : Addr) (n c c' : Nat) (w : World) (h : n ≤ c) : (Builtin.append_ #[22, 22] 22 #[.slice (some a) n c, .slice none 0 c']).run Try.prog w = .ok (.slice (some a) n c) w := by
  unfold Builtin.append_
  simp [go_sem]
  intro hlt
  omega
/-- A list with no terms, in memory of its own. -/
theorem owns_empty (w : World) (lo : Nat) (hlo : lo ≤ w.heap.size) : (w.alloc (.cells #[] 24)).ownsRow lo 24 3 (.slice (some ⟨w.heap.size, 0, none⟩) 0 0) 0 [] := by
  refine ⟨?_, .inr ⟨w.heap.size, 0, #[], rfl, hlo, heap_alloc_new w _, ?_, ?_, ?_, ?_⟩⟩ <;> simp
end Go.Proofs.Ytmggaclaoefdaaa

namespace Go.Proofs.Ytmggaclaoefdaaa
open Go.RowKit

theorem flat_set (X : Tm) : ∀ (ts : List Tm) (i : Nat), i < ts.length → (((flat ts).set (i * 3) (.int .i64 X.v)).set (i * 3 + 1) (.string X.nm)).set (i * 3 + 2) (.slice X.a X.len X.cap) = flat (ts.set i X) := by
  intro ts
  induction ts with
  | nil => intro i hi; exact absurd hi (Nat.not_lt_zero i)
  | cons T ts ih =>
    intro i hi
    have hc : ∀ U : Tm, ∀ us, flat (U :: us) = Value.int .i64 U.v :: Value.string U.nm :: Value.slice U.a U.len U.cap :: flat us := fun U us => by simp [flat, cells3]
    cases i with
    | zero => rw [hc]; show _ = flat (X :: ts); rw [hc]; rfl
    | succ i =>
      have h := ih i (by simp at hi; omega)
      rw [hc, show (i + 1) * 3 = i * 3 + 1 + 1 + 1 from by omega]
      show _ = flat (T :: ts.set i X)
      rw [hc, ← h]
      rfl
theorem owns_set {w : World} {lo g cap n : Nat} {ts : List Tm} (h : w.ownsRow lo 24 3 (.slice (some ⟨g, 0, none⟩) n cap) n (flat ts)) (hl : ts.length = n) {i : Nat} (hi : i < n) (X : Tm) :
    (((w.setCell ⟨g, i * 3, none⟩ (.int .i64 X.v)).setCell ⟨g, i * 3 + 1, none⟩ (.string X.nm)).setCell ⟨g, i * 3 + 2, none⟩ (.slice X.a X.len X.cap)).ownsRow lo 24 3 (.slice (some ⟨g, 0, none⟩) n cap) n (flat (ts.set i X)) := by
  obtain ⟨h1, h2⟩ := h
  rcases h2 with ⟨h2, _⟩ | ⟨g', cap', cur, hv, hlo, hg, hnc, hcm, hsz, htk⟩
  · cases h2
  cases hv
  refine ⟨?_, .inr ⟨g, cap, ((cur.setIfInBounds (i * 3) (.int .i64 X.v)).setIfInBounds (i * 3 + 1) (.string X.nm)).setIfInBounds (i * 3 + 2) (.slice X.a X.len X.cap), rfl, hlo, ?_, hnc, hcm, ?_, ?_⟩⟩
  · rw [← flat_set X ts i (by omega)]; simp [h1]
  · simp only [World.setCell, Array.getElem?_modify]
    simp [hg]
  · simp [hsz]
  · rw [← flat_set X ts i (by omega), ← htk]
    simp [List.take_set]
end Go.Proofs.Ytmggaclaoefdaaa
