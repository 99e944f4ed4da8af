/- The reference's Meet: one binding; pairs that wait. -/
import Derived.Test.YtmggaclaoefdaaaRfB
namespace Go.Proofs.Ytmggaclaoefdaaa
open Go.RowKit

theorem lk_idem {N : Int} {σ : Sg} {ρ : Int → Tm} (hR : Rel N σ ρ) {T Y : Tm} (hT : Okv N T) (hY : Lk N ρ T Y) : (lk ρ Y).v = Y.v ∧ (Y.v = 0 → lk ρ Y = Y) ∧ (Y.v ≠ 0 → (ρ Y.v).v = Y.v) := by
  by_cases h0 : Y.v = 0
  · have e : lk ρ Y = Y := by unfold lk; rw [if_pos h0]
    exact ⟨by rw [e], fun _ => e, fun h => absurd h0 h⟩
  · have hv : (lk ρ T).v ≠ 0 := by rw [← hY.1]; exact h0
    have h1 := hR.idem T hT
    have e1 : lk ρ Y = ρ Y.v := by unfold lk; rw [if_neg h0]
    have e2 : lk ρ (lk ρ T) = ρ (lk ρ T).v := by show (if (lk ρ T).v = 0 then _ else _) = _; rw [if_neg hv]
    have e3 : (ρ Y.v).v = Y.v := by rw [hY.1, ← e2]; exact h1
    exact ⟨by rw [e1]; exact e3, fun h => absurd h h0, fun _ => e3⟩
theorem Lk.self {N : Int} {σ : Sg} {ρ : Int → Tm} (hR : Rel N σ ρ) {T Y : Tm} (hT : Okv N T) (hY : Lk N ρ T Y) : Lk N ρ T (lk ρ Y) := by
  obtain ⟨h1, h2, h3⟩ := lk_idem hR hT hY
  refine ⟨by rw [h1]; exact hY.1, fun h => ?_, hR.ok Y hY.2.2⟩
  rw [h1] at h
  rw [h2 h]
  exact hY.2.1 h
theorem dec_put {N : Int} {σ : Sg} (hd : Dec σ) (hO : ∀ v U, σ v = some U → Okv N U) {S T : Tm} (hS : Okv N S) (hT : Okv N T) (hv : (wha σ S).v ≠ 0) (hne : (wha σ S).v ≠ (wha σ T).v) : Dec (put σ (wha σ S) (wha σ T)) ∧ ∀ v U, put σ (wha σ S) (wha σ T) v = some U → Okv N U := by
  have h1 := wha_okv hO hS
  have h2 := wha_okv hO hT
  have a := h1.top.1
  have b := h2.top.1
  have up : ∀ (i : Int) (V : Tm), Okv N V → ∀ v U, upd σ i V v = some U → Okv N U := fun i V hV v U h => by
    unfold upd at h
    by_cases e : v = i
    · rw [if_pos e] at h; obtain rfl := Option.some.inj h; exact hV
    · rw [if_neg e] at h; exact hO v U h
  unfold put
  by_cases hlt : (wha σ S).v < (wha σ T).v
  · rw [if_pos hlt]
    exact ⟨dec_upd hd (.inr ⟨by omega, hlt⟩), up _ _ h1⟩
  · rw [if_neg hlt]
    exact ⟨dec_upd hd (by omega), up _ _ h2⟩
/-- A variable is bound. -/
theorem RF.put {w : World} {b ob : Nat} {B : Value → Value → Obj} {lo g cap : Nat} {N : Int} {len : Nat} {τ ρ : Int → Tm} {r : Int → Nat} {σ : Sg} {wk : Int} (h : RF w b ob B lo g cap N len τ ρ r σ wk) {S T X Y : Tm} (hS : Okv N S) (hT : Okv N T) (hX : Lk N ρ S X) (hY : Lk N ρ T Y) (hx : X.v ≠ 0) (hne : X.v ≠ Y.v) (hG : Good w b b (.slice (some ⟨g, 0, none⟩) len cap) N Y) (n : Nat) (hn : X.v = n) :
    n < len ∧ ∃ τ' ρ' r', RF (((w.setCell ⟨g, n * 3, none⟩ (.int .i64 Y.v)).setCell ⟨g, n * 3 + 1, none⟩ (.string Y.nm)).setCell ⟨g, n * 3 + 2, none⟩ (.slice Y.a Y.len Y.cap)) b ob B lo g cap N len τ' ρ' r' (Go.Proofs.Ytmggaclaoefdaaa.put σ (wha σ S) (wha σ T)) wk := by
  have hln := h.ln
  have hXt := hX.2.2.top
  have hnl : n < len := by omega
  refine ⟨hnl, fun u => if u = X.v then Y else τ u, rput ρ X.v (lk ρ Y), fun u => if (ρ u).v = X.v then r u + (if Y.v = 0 then 0 else r Y.v) + 1 else r u, ?_⟩
  have hgr : w.grownBy (((w.setCell ⟨g, n * 3, none⟩ (.int .i64 Y.v)).setCell ⟨g, n * 3 + 1, none⟩ (.string Y.nm)).setCell ⟨g, n * 3 + 2, none⟩ (.slice Y.a Y.len Y.cap)) (some g) := G.trans (G.trans (grown_set g (n * 3) _) (grown_set g (n * 3 + 1) _)) (grown_set g (n * 3 + 2) _)
  have hgf : GF b b (.slice (some ⟨g, 0, none⟩) len cap) w (((w.setCell ⟨g, n * 3, none⟩ (.int .i64 Y.v)).setCell ⟨g, n * 3 + 1, none⟩ (.string Y.nm)).setCell ⟨g, n * 3 + 2, none⟩ (.slice Y.a Y.len Y.cap)) := ⟨hgr.os, hgr.tape, hgr.output, hgr.size, fun k hk _ _ h3 => hgr.block k hk (fun e => h3 g rfl (Option.some.inj e).symm)⟩
  have hl : ((List.range len).map fun i : Nat => τ (i : Int)).length = len := by simp
  have ho := h.st.own
  rw [hl] at ho
  have ho2 := owns_set ho hl hnl Y
  have hset : ((List.range len).map fun i : Nat => τ (i : Int)).set n Y = (List.range len).map fun i : Nat => (if (i : Int) = X.v then Y else τ (i : Int)) := by
    refine List.ext_getElem (by simp) fun i h1 h2 => ?_
    rw [List.getElem_set]
    simp only [List.getElem_map, List.getElem_range]
    by_cases e : n = i
    · rw [if_pos e, if_pos (by omega)]
    · rw [if_neg e, if_neg (by omega)]
  obtain ⟨hi1, _, hi3⟩ := lk_idem h.rel hS hX
  obtain ⟨hj1, _, hj3⟩ := lk_idem h.rel hT hY
  have hvS : (lk ρ S).v ≠ 0 := by rw [← hX.1]; exact hx
  have hw := h.rel.vr S hS hvS
  have hwne : (wha σ S).v ≠ (wha σ T).v := fun e => hne (by rw [hX.1, hY.1]; exact (h.rel.cls S T hS hT hvS).2 e)
  obtain ⟨hdec, hok⟩ := dec_put h.dec h.ok hS hT hw hwne
  refine ⟨⟨h.st.bx, (hgr.block b h.lt.1 (fun e => h.lt.2.2 (Option.some.inj e).symm)).trans h.blk, ?_, h.st.ne, h.st.lo⟩, h.ln, h.big, chain_put h.ch hx (hi3 hx) hY.2.2 (fun e => hne e.symm) hj3, ?_, hdec, hok, fun v h0 h1 => ?_⟩
  · rw [← hset, List.length_set, hl]
    exact ho2
  · have := h.rel.put h.dec hS hT hvS (by rw [← hX.1, ← hY.1]; exact hne) (hY.self h.rel hT) (wha_okv h.ok hS).top.1 (wha_okv h.ok hT).top.1
    rw [← hX.1] at this
    exact this
  · show Good _ b b _ N (if v = X.v then Y else τ v)
    by_cases e : v = X.v
    · rw [if_pos e]; exact hG.gf hgf (TN.refl _ _)
    · rw [if_neg e]; exact (h.trm v h0 h1).gf hgf (TN.refl _ _)
/-- What the two that were looked at say of the first pair. -/
theorem meetA {N : Int} {σ : Sg} {ρ : Int → Tm} (hR : Rel N σ ρ) {S T X Y : Tm} (hS : Okv N S) (hT : Okv N T) (hX : Lk N ρ S X) (hY : Lk N ρ T Y) (hx : X.v ≠ 0) (he : X.v = Y.v) (F L : Nat) (ps : List (Tm × Tm)) : meetF (F + 1) σ (L + 1) ((S, T) :: ps) = meetF F σ L ps := by
  have hv : (lk ρ S).v ≠ 0 := by rw [← hX.1]; exact hx
  exact meet_var (hR.vr S hS hv) ((hR.cls S T hS hT hv).1 (by rw [← hX.1, ← hY.1]; exact he))
/-- The pair as it is taken: the variable, if there is one, is the first. -/
def Turn (S T S' T' : Tm) : Prop := (S' = S ∧ T' = T) ∨ (S' = T ∧ T' = S)
theorem meetB {N : Int} {σ : Sg} {ρ : Int → Tm} (hR : Rel N σ ρ) (hd : Dec σ) (hO : ∀ v U, σ v = some U → Okv N U) {S T S' T' X Y : Tm} (hS : Okv N S') (hT : Okv N T') (hX : Lk N ρ S' X) (hY : Lk N ρ T' Y) (hx : X.v ≠ 0) (he : X.v ≠ Y.v) (ht : (S' = S ∧ T' = T) ∨ (S' = T ∧ T' = S ∧ Y.v = 0)) (F L : Nat) (ps : List (Tm × Tm)) :
    meetF (F + 1) σ (L + 1) ((S, T) :: ps) = match within σ (wha σ S').v L [Y] with
        | .over => .over
        | .found k => .no k
        | .free k => meetF F (Go.Proofs.Ytmggaclaoefdaaa.put σ (wha σ S') (wha σ T')) k ps := by
  rw [within_lk hR hd hO hT hY]
  have hv : (lk ρ S').v ≠ 0 := by rw [← hX.1]; exact hx
  have hw := hR.vr S' hS hv
  have hne : (wha σ S').v ≠ (wha σ T').v := fun e => he (by rw [hX.1, hY.1]; exact (hR.cls S' T' hS hT hv).2 e)
  rcases ht with ⟨rfl, rfl⟩ | ⟨rfl, rfl, h0⟩
  · exact meet_left hw hne
  · exact meet_right ((hR.zero hT).1 (by rw [← hY.1]; exact h0)) hw
theorem meetD {N : Int} {σ : Sg} {ρ : Int → Tm} (hR : Rel N σ ρ) {S T X Y : Tm} (hS : Okv N S) (hT : Okv N T) (hX : Lk N ρ S X) (hY : Lk N ρ T Y) (hx : X.v = 0) (hy : Y.v = 0) (F L : Nat) (ps : List (Tm × Tm)) :
    (¬ (X.nm.toList = Y.nm.toList ∧ X.len = Y.len) → meetF (F + 1) σ (L + 1) ((S, T) :: ps) = .no L) ∧ (X.nm.toList = Y.nm.toList → X.len = Y.len → meetF (F + 1) σ (L + 1) ((S, T) :: ps) = meetF F σ L (zipK X Y ++ ps)) := by
  have e1 : wha σ S = X := by rw [hX.2.1 hx]; exact hR.fn S hS (by rw [← hX.1]; exact hx)
  have e2 : wha σ T = Y := by rw [hY.2.1 hy]; exact hR.fn T hT (by rw [← hY.1]; exact hy)
  refine ⟨fun h => meet_off (by rw [e1]; exact hx) (by rw [e2]; exact hy) (by rw [e1, e2]; exact h), fun h1 h2 => ?_⟩
  have := meet_on (F := F) (L := L) (ps := ps) (show (wha σ S).v = 0 by rw [e1]; exact hx) (show (wha σ T).v = 0 by rw [e2]; exact hy) (by rw [e1, e2]; exact h1) (by rw [e1, e2]; exact h2)
  rw [e1, e2] at this
  exact this
/-- Pairs in memory. -/
def cells6 (p : Tm × Tm) : List Value := cells3 p.1 ++ cells3 p.2
def flat6 (l : List (Tm × Tm)) : List Value := l.flatMap cells6
theorem flat6_length (l : List (Tm × Tm)) : (flat6 l).length = l.length * 6 := by
  induction l with
  | nil => rfl
  | cons x r ih => simp only [flat6, List.flatMap_cons, List.length_append, List.length_cons] at *; rw [ih]; simp [cells6, cells3]; omega
theorem flat6_append (l r : List (Tm × Tm)) : flat6 (l ++ r) = flat6 l ++ flat6 r := by simp [flat6]
theorem flat6_one (l : List (Tm × Tm)) : ∀ u ∈ flat6 l, u.oneCell' = true := by
  intro u hu
  obtain ⟨T, _, hT⟩ := List.mem_flatMap.1 hu
  simp only [cells6, cells3, List.mem_append, List.mem_cons, List.not_mem_nil, or_false] at hT
  rcases hT with (rfl | rfl | rfl) | (rfl | rfl | rfl) <;> rfl
theorem flat6_get (l : List (Tm × Tm)) : ∀ (k : Nat) (h : k < l.length) (j : Nat), j < 6 → (flat6 l)[k * 6 + j]? = (cells6 l[k])[j]? := by
  induction l with
  | nil => intro k h; simp at h
  | cons x r ih =>
    intro k h j hj
    have hc : flat6 (x :: r) = cells6 x ++ flat6 r := by simp [flat6]
    have hl : (cells6 x).length = 6 := by simp [cells6, cells3]
    rw [hc]
    cases k with
    | zero => rw [List.getElem?_append_left (by omega)]; simp
    | succ k =>
      rw [List.getElem?_append_right (by omega), hl, show (k + 1) * 6 + j - 6 = k * 6 + j from by omega, ih k (by simpa using h) j hj]
      rfl
/-- Pairs that stand in rows. -/
def PRow (w : World) (a : Option Addr) (i : Nat) (p : Tm × Tm) : Prop := ∃ b o, a = some ⟨b, o, none⟩ ∧ ∀ j, j < 6 → w.cell? ⟨b, o + i * 6 + j, none⟩ = (cells6 p)[j]?
theorem PRow.gf {w w' : World} {a : Option Addr} {i : Nat} {p : Tm × Tm} (h : PRow w a i p) {bb : Nat} {V : Value} (hg : GF bb bb V w w') (hn : ∀ k o, a = some ⟨k, o, none⟩ → k ≠ bb ∧ ∀ g, V.ownBlock = some g → g ≠ k) : PRow w' a i p := by
  obtain ⟨b, o, rfl, h1⟩ := h
  refine ⟨b, o, rfl, fun j hj => ?_⟩
  obtain ⟨u, hu⟩ : ∃ u, (cells6 p)[j]? = some u := ⟨_, List.getElem?_eq_getElem (by simp [cells6, cells3]; omega)⟩
  rw [hu]
  have := hn b o rfl
  exact hg.cell ((h1 j hj).trans hu) this.1 this.1 this.2
theorem PRow.below {w w' : World} {a : Option Addr} {i : Nat} {p : Tm × Tm} (h : PRow w a i p) (hb : Below w.heap.size w w') : PRow w' a i p := by
  obtain ⟨b, o, rfl, h1⟩ := h
  refine ⟨b, o, rfl, fun j hj => ?_⟩
  obtain ⟨u, hu⟩ : ∃ u, (cells6 p)[j]? = some u := ⟨_, List.getElem?_eq_getElem (by simp [cells6, cells3]; omega)⟩
  rw [hu]
  have hc := (h1 j hj).trans hu
  exact (hb.cell (p := ⟨b, _, none⟩) (lt_of_cell hc)).trans hc
theorem prow_cells {w : World} {bq oq : Nat} {ps : List (Tm × Tm)} (h : ∀ i (hi : i < ps.length), PRow w (some ⟨bq, oq, none⟩) i ps[i]) : ∀ j u, (flat6 ps)[j]? = some u → w.cell? ((⟨bq, oq, none⟩ : Addr).add j) = some u := by
  intro j u hj
  have hl : j < ps.length * 6 := by
    have := (List.getElem?_eq_some_iff.1 hj).1
    rwa [flat6_length] at this
  have hd : j / 6 < ps.length := by omega
  obtain ⟨b', o', e, c⟩ := h (j / 6) hd
  cases e
  have ha : (⟨bq, oq, none⟩ : Addr).add j = ⟨bq, oq + j, none⟩ := by unfold Addr.add; split <;> simp_all
  have hf := flat6_get ps (j / 6) hd (j % 6) (by omega)
  rw [show j / 6 * 6 + j % 6 = j from by omega] at hf
  rw [ha, show oq + j = oq + j / 6 * 6 + j % 6 from by omega, c (j % 6) (by omega), ← hf]
  exact hj
theorem own_prow {w : World} {lo g cap n : Nat} {ps : List (Tm × Tm)} {t : TypeId} (h : w.ownsRow lo t 6 (.slice (some ⟨g, 0, none⟩) n cap) n (flat6 ps)) (hl : ps.length = n) : ∀ i (hi : i < ps.length), PRow w (some ⟨g, 0, none⟩) i ps[i] := by
  intro i hi
  refine ⟨g, 0, rfl, fun j hj => ?_⟩
  rw [Nat.zero_add, ← flat6_get ps i hi j hj]
  exact h.cellAt _ (by omega)
theorem Try.info145 : (Try.prog.info? 145).map (fun i => (i.zero, i.size, i.bytes)) = some (some (.agg #[.int .i64 0, .string ByteArray.empty, .slice none 0 0, .int .i64 0, .string ByteArray.empty, .slice none 0 0]), 6, 96) := by kernel_rfl
theorem news6 (w : World) (S T : Tm) : ∀ j u, (flat6 [(S, T)])[j]? = some u → (w.alloc (.cells #[.int .i64 S.v, .string S.nm, .slice S.a S.len S.cap, .int .i64 T.v, .string T.nm, .slice T.a T.len T.cap] 145)).cell? ((⟨w.heap.size, 0, none⟩ : Addr).add j) = some u := by
  intro j u hj
  have hb := heap_alloc_new w (.cells #[.int .i64 S.v, .string S.nm, .slice S.a S.len S.cap, .int .i64 T.v, .string T.nm, .slice T.a T.len T.cap] 145)
  rw [addr_add, cell_of_row _ _ _ _ _ _ hb]
  simpa [flat6, cells6, cells3] using hj
theorem zipK_take {X Y : Tm} {j : Nat} (h : j < X.len) : (zipK X Y).take (j + 1) = (zipK X Y).take j ++ [(X.f j, Y.f j)] := by
  have hl : j < (zipK X Y).length := by simp [zipK, h]
  rw [List.take_succ_eq_append_getElem hl]
  simp [zipK]
theorem zipK_len (X Y : Tm) : (zipK X Y).length = X.len := by simp [zipK]
theorem tail_run6 (bq oq ln cq : Nat) (h : 1 ≤ ln) (W : World) : (Instr.slice 146 (.slice (some ⟨bq, oq, none⟩) ln cq) (some (.int .i64 1)) none none).run Try.prog W = .ok (.slice (some ⟨bq, if cq = 1 then oq else oq + 6, none⟩) (ln - 1) (cq - 1)) W := by
  obtain ⟨i0, hi, hz0, hz1, hz2⟩ := info_parts Try.info145
  have h' : (1 : Int) ≤ (ln : Int) := by omega
  simp [Instr.slice, run_underlying Try.underlying146, Instr.sliceBounds, run_sliceBound, sizeOf, typeInfo, hi, hz1, h', Addr.add]
  split <;> simp_all
end Go.Proofs.Ytmggaclaoefdaaa
