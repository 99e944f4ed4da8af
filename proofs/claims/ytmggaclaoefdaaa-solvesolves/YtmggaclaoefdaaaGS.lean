/- The reference's Meet: one binding; pairs that wait. The reference's search in memory: what holds between its steps. -/
import Derived.Test.YtmggaclaoefdaaaGR
import Derived.Test.YtmggaclaoefdaaaGO
import Derived.Test.YtmggaclaoefdaaaGN
namespace Go.Proofs.Ytmggaclaoefdaaa
open Go.RowKit

variable {K : Nat → Prop}

theorem lk_idem {N : Int} {σ : Sg} {ρ : Int → Tm} (hR : Rel N σ ρ) {T Y : Tm} (hT : Okv N T) (hY : Lk N ρ T Y) : (lk ρ Y).v = Y.v ∧ (Y.v = 0 → lk ρ Y = Y) ∧ (Y.v ≠ 0 → (ρ Y.v).v = Y.v) := by
  by_cases h0 : Y.v = 0
  · have e : lk ρ Y = Y := by unfold lk; rw [if_pos h0]
    exact ⟨by rw [e], fun _ => e, fun h => absurd h0 h⟩
  · have hv : (lk ρ T).v ≠ 0 := by rw [← hY.1]; exact h0
    have h1 := hR.idem T hT
    have e1 : lk ρ Y = ρ Y.v := by unfold lk; rw [if_neg h0]
    have e2 : lk ρ (lk ρ T) = ρ (lk ρ T).v := by show (if (lk ρ T).v = 0 then _ else _) = _; rw [if_neg hv]
    have e3 : (ρ Y.v).v = Y.v := by rw [hY.1, ← e2]; exact h1
    exact ⟨by rw [e1]; exact e3, fun h => absurd h h0, fun _ => e3⟩
theorem Lk.self {N : Int} {σ : Sg} {ρ : Int → Tm} (hR : Rel N σ ρ) {T Y : Tm} (hT : Okv N T) (hY : Lk N ρ T Y) : Lk N ρ T (lk ρ Y) := by
  obtain ⟨h1, h2, h3⟩ := lk_idem hR hT hY
  refine ⟨by rw [h1]; exact hY.1, fun h => ?_, hR.ok Y hY.2.2⟩
  rw [h1] at h
  rw [h2 h]
  exact hY.2.1 h
theorem dec_put {N : Int} {σ : Sg} (hd : Dec σ) (hO : ∀ v U, σ v = some U → Okv N U) {S T : Tm} (hS : Okv N S) (hT : Okv N T) (hv : (wha σ S).v ≠ 0) (hne : (wha σ S).v ≠ (wha σ T).v) : Dec (put σ (wha σ S) (wha σ T)) ∧ ∀ v U, put σ (wha σ S) (wha σ T) v = some U → Okv N U := by
  have h1 := wha_okv hO hS
  have h2 := wha_okv hO hT
  have a := h1.top.1
  have b := h2.top.1
  have up : ∀ (i : Int) (V : Tm), Okv N V → ∀ v U, upd σ i V v = some U → Okv N U := fun i V hV v U h => by
    unfold upd at h
    by_cases e : v = i
    · rw [if_pos e] at h; obtain rfl := Option.some.inj h; exact hV
    · rw [if_neg e] at h; exact hO v U h
  unfold put
  by_cases hlt : (wha σ S).v < (wha σ T).v
  · rw [if_pos hlt]
    exact ⟨dec_upd hd (.inr ⟨by omega, hlt⟩), up _ _ h1⟩
  · rw [if_neg hlt]
    exact ⟨dec_upd hd (by omega), up _ _ h2⟩
/-- A variable is bound. -/
theorem RF.put {w : World} {b ob : Nat} {B : Value → Value → Obj} {lo g cap : Nat} {N : Int} {len : Nat} {τ ρ : Int → Tm} {r : Int → Nat} {σ : Sg} {wk : Int} (h : RF K w b ob B lo g cap N len τ ρ r σ wk) {S T X Y : Tm} (hS : Okv N S) (hT : Okv N T) (hX : Lk N ρ S X) (hY : Lk N ρ T Y) (hx : X.v ≠ 0) (hne : X.v ≠ Y.v) (hG : GdK K w b b (.slice (some ⟨g, 0, none⟩) len cap) N Y) (n : Nat) (hn : X.v = n) :
    n < len ∧ ∃ τ' ρ' r', RF K (((w.setCell ⟨g, n * 3, none⟩ (.int .i64 Y.v)).setCell ⟨g, n * 3 + 1, none⟩ (.string Y.nm)).setCell ⟨g, n * 3 + 2, none⟩ (.slice Y.a Y.len Y.cap)) b ob B lo g cap N len τ' ρ' r' (Go.Proofs.Ytmggaclaoefdaaa.put σ (wha σ S) (wha σ T)) wk := by
  have hln := h.ln
  have hXt := hX.2.2.top
  have hnl : n < len := by omega
  refine ⟨hnl, fun u => if u = X.v then Y else τ u, rput ρ X.v (lk ρ Y), fun u => if (ρ u).v = X.v then r u + (if Y.v = 0 then 0 else r Y.v) + 1 else r u, ?_⟩
  have hgr : w.grownBy (((w.setCell ⟨g, n * 3, none⟩ (.int .i64 Y.v)).setCell ⟨g, n * 3 + 1, none⟩ (.string Y.nm)).setCell ⟨g, n * 3 + 2, none⟩ (.slice Y.a Y.len Y.cap)) (some g) := G.trans (G.trans (grown_set g (n * 3) _) (grown_set g (n * 3 + 1) _)) (grown_set g (n * 3 + 2) _)
  have hgf : GF b b (.slice (some ⟨g, 0, none⟩) len cap) w (((w.setCell ⟨g, n * 3, none⟩ (.int .i64 Y.v)).setCell ⟨g, n * 3 + 1, none⟩ (.string Y.nm)).setCell ⟨g, n * 3 + 2, none⟩ (.slice Y.a Y.len Y.cap)) := ⟨hgr.os, hgr.tape, hgr.output, hgr.size, fun k hk _ _ h3 => hgr.block k hk (fun e => h3 g rfl (Option.some.inj e).symm)⟩
  have hl : ((List.range len).map fun i : Nat => τ (i : Int)).length = len := by simp
  have ho := h.st.own
  rw [hl] at ho
  have ho2 := owns_set ho hl hnl Y
  have hset : ((List.range len).map fun i : Nat => τ (i : Int)).set n Y = (List.range len).map fun i : Nat => (if (i : Int) = X.v then Y else τ (i : Int)) := by
    refine List.ext_getElem (by simp) fun i h1 h2 => ?_
    rw [List.getElem_set]
    simp only [List.getElem_map, List.getElem_range]
    by_cases e : n = i
    · rw [if_pos e, if_pos (by omega)]
    · rw [if_neg e, if_neg (by omega)]
  obtain ⟨hi1, _, hi3⟩ := lk_idem h.rel hS hX
  obtain ⟨hj1, _, hj3⟩ := lk_idem h.rel hT hY
  have hvS : (lk ρ S).v ≠ 0 := by rw [← hX.1]; exact hx
  have hw := h.rel.vr S hS hvS
  have hwne : (wha σ S).v ≠ (wha σ T).v := fun e => hne (by rw [hX.1, hY.1]; exact (h.rel.cls S T hS hT hvS).2 e)
  obtain ⟨hdec, hok⟩ := dec_put h.dec h.ok hS hT hw hwne
  refine ⟨⟨h.st.bx, (hgr.block b h.lt.1 (fun e => h.lt.2.2 (Option.some.inj e).symm)).trans h.blk, ?_, h.st.ne, h.st.lo⟩, h.ln, h.big, chain_put h.ch hx (hi3 hx) hY.2.2 (fun e => hne e.symm) hj3, ?_, hdec, hok, fun v h0 h1 => ?_⟩
  · rw [← hset, List.length_set, hl]
    exact ho2
  · have := h.rel.put h.dec hS hT hvS (by rw [← hX.1, ← hY.1]; exact hne) (hY.self h.rel hT) (wha_okv h.ok hS).top.1 (wha_okv h.ok hT).top.1
    rw [← hX.1] at this
    exact this
  · show GdK K _ b b _ N (if v = X.v then Y else τ v)
    by_cases e : v = X.v
    · rw [if_pos e]; exact hG.gf hgf (TN.refl _ _)
    · rw [if_neg e]; exact (h.trm v h0 h1).gf hgf (TN.refl _ _)
/-- What the two that were looked at say of the first pair. -/
theorem meetA {N : Int} {σ : Sg} {ρ : Int → Tm} (hR : Rel N σ ρ) {S T X Y : Tm} (hS : Okv N S) (hT : Okv N T) (hX : Lk N ρ S X) (hY : Lk N ρ T Y) (hx : X.v ≠ 0) (he : X.v = Y.v) (F L : Nat) (ps : List (Tm × Tm)) : meetF (F + 1) σ (L + 1) ((S, T) :: ps) = meetF F σ L ps := by
  have hv : (lk ρ S).v ≠ 0 := by rw [← hX.1]; exact hx
  exact meet_var (hR.vr S hS hv) ((hR.cls S T hS hT hv).1 (by rw [← hX.1, ← hY.1]; exact he))
/-- The pair as it is taken: the variable, if there is one, is the first. -/
def Turn (S T S' T' : Tm) : Prop := (S' = S ∧ T' = T) ∨ (S' = T ∧ T' = S)
theorem meetB {N : Int} {σ : Sg} {ρ : Int → Tm} (hR : Rel N σ ρ) (hd : Dec σ) (hO : ∀ v U, σ v = some U → Okv N U) {S T S' T' X Y : Tm} (hS : Okv N S') (hT : Okv N T') (hX : Lk N ρ S' X) (hY : Lk N ρ T' Y) (hx : X.v ≠ 0) (he : X.v ≠ Y.v) (ht : (S' = S ∧ T' = T) ∨ (S' = T ∧ T' = S ∧ Y.v = 0)) (F L : Nat) (ps : List (Tm × Tm)) :
    meetF (F + 1) σ (L + 1) ((S, T) :: ps) = match within σ (wha σ S').v L [Y] with
        | .over => .over
        | .found k => .no k
        | .free k => meetF F (Go.Proofs.Ytmggaclaoefdaaa.put σ (wha σ S') (wha σ T')) k ps := by
  rw [within_lk hR hd hO hT hY]
  have hv : (lk ρ S').v ≠ 0 := by rw [← hX.1]; exact hx
  have hw := hR.vr S' hS hv
  have hne : (wha σ S').v ≠ (wha σ T').v := fun e => he (by rw [hX.1, hY.1]; exact (hR.cls S' T' hS hT hv).2 e)
  rcases ht with ⟨rfl, rfl⟩ | ⟨rfl, rfl, h0⟩
  · exact meet_left hw hne
  · exact meet_right ((hR.zero hT).1 (by rw [← hY.1]; exact h0)) hw
theorem meetD {N : Int} {σ : Sg} {ρ : Int → Tm} (hR : Rel N σ ρ) {S T X Y : Tm} (hS : Okv N S) (hT : Okv N T) (hX : Lk N ρ S X) (hY : Lk N ρ T Y) (hx : X.v = 0) (hy : Y.v = 0) (F L : Nat) (ps : List (Tm × Tm)) :
    (¬ (X.nm.toList = Y.nm.toList ∧ X.len = Y.len) → meetF (F + 1) σ (L + 1) ((S, T) :: ps) = .no L) ∧ (X.nm.toList = Y.nm.toList → X.len = Y.len → meetF (F + 1) σ (L + 1) ((S, T) :: ps) = meetF F σ L (zipK X Y ++ ps)) := by
  have e1 : wha σ S = X := by rw [hX.2.1 hx]; exact hR.fn S hS (by rw [← hX.1]; exact hx)
  have e2 : wha σ T = Y := by rw [hY.2.1 hy]; exact hR.fn T hT (by rw [← hY.1]; exact hy)
  refine ⟨fun h => meet_off (by rw [e1]; exact hx) (by rw [e2]; exact hy) (by rw [e1, e2]; exact h), fun h1 h2 => ?_⟩
  have := meet_on (F := F) (L := L) (ps := ps) (show (wha σ S).v = 0 by rw [e1]; exact hx) (show (wha σ T).v = 0 by rw [e2]; exact hy) (by rw [e1, e2]; exact h1) (by rw [e1, e2]; exact h2)
  rw [e1, e2] at this
  exact this
/-- Pairs in memory. -/
def cells6 (p : Tm × Tm) : List Value := cells3 p.1 ++ cells3 p.2
def flat6 (l : List (Tm × Tm)) : List Value := l.flatMap cells6
theorem flat6_length (l : List (Tm × Tm)) : (flat6 l).length = l.length * 6 := by
  induction l with
  | nil => rfl
  | cons x r ih => simp only [flat6, List.flatMap_cons, List.length_append, List.length_cons] at *; rw [ih]; simp [cells6, cells3]; omega
theorem flat6_append (l r : List (Tm × Tm)) : flat6 (l ++ r) = flat6 l ++ flat6 r := by simp [flat6]
theorem flat6_one (l : List (Tm × Tm)) : ∀ u ∈ flat6 l, u.oneCell' = true := by
  intro u hu
  obtain ⟨T, _, hT⟩ := List.mem_flatMap.1 hu
  simp only [cells6, cells3, List.mem_append, List.mem_cons, List.not_mem_nil, or_false] at hT
  rcases hT with (rfl | rfl | rfl) | (rfl | rfl | rfl) <;> rfl
theorem flat6_get (l : List (Tm × Tm)) : ∀ (k : Nat) (h : k < l.length) (j : Nat), j < 6 → (flat6 l)[k * 6 + j]? = (cells6 l[k])[j]? := by
  induction l with
  | nil => intro k h; simp at h
  | cons x r ih =>
    intro k h j hj
    have hc : flat6 (x :: r) = cells6 x ++ flat6 r := by simp [flat6]
    have hl : (cells6 x).length = 6 := by simp [cells6, cells3]
    rw [hc]
    cases k with
    | zero => rw [List.getElem?_append_left (by omega)]; simp
    | succ k =>
      rw [List.getElem?_append_right (by omega), hl, show (k + 1) * 6 + j - 6 = k * 6 + j from by omega, ih k (by simpa using h) j hj]
      rfl
/-- Pairs that stand in rows. -/
def PRow (w : World) (a : Option Addr) (i : Nat) (p : Tm × Tm) : Prop := ∃ b o, a = some ⟨b, o, none⟩ ∧ ∀ j, j < 6 → w.cell? ⟨b, o + i * 6 + j, none⟩ = (cells6 p)[j]?
theorem PRow.gf {w w' : World} {a : Option Addr} {i : Nat} {p : Tm × Tm} (h : PRow w a i p) {bb : Nat} {V : Value} (hg : GF bb bb V w w') (hn : ∀ k o, a = some ⟨k, o, none⟩ → k ≠ bb ∧ ∀ g, V.ownBlock = some g → g ≠ k) : PRow w' a i p := by
  obtain ⟨b, o, rfl, h1⟩ := h
  refine ⟨b, o, rfl, fun j hj => ?_⟩
  obtain ⟨u, hu⟩ : ∃ u, (cells6 p)[j]? = some u := ⟨_, List.getElem?_eq_getElem (by simp [cells6, cells3]; omega)⟩
  rw [hu]
  have := hn b o rfl
  exact hg.cell ((h1 j hj).trans hu) this.1 this.1 this.2
theorem PRow.below {w w' : World} {a : Option Addr} {i : Nat} {p : Tm × Tm} (h : PRow w a i p) (hb : Below w.heap.size w w') : PRow w' a i p := by
  obtain ⟨b, o, rfl, h1⟩ := h
  refine ⟨b, o, rfl, fun j hj => ?_⟩
  obtain ⟨u, hu⟩ : ∃ u, (cells6 p)[j]? = some u := ⟨_, List.getElem?_eq_getElem (by simp [cells6, cells3]; omega)⟩
  rw [hu]
  have hc := (h1 j hj).trans hu
  exact (hb.cell (p := ⟨b, _, none⟩) (lt_of_cell hc)).trans hc
theorem prow_cells {w : World} {bq oq : Nat} {ps : List (Tm × Tm)} (h : ∀ i (hi : i < ps.length), PRow w (some ⟨bq, oq, none⟩) i ps[i]) : ∀ j u, (flat6 ps)[j]? = some u → w.cell? ((⟨bq, oq, none⟩ : Addr).add j) = some u := by
  intro j u hj
  have hl : j < ps.length * 6 := by
    have := (List.getElem?_eq_some_iff.1 hj).1
    rwa [flat6_length] at this
  have hd : j / 6 < ps.length := by omega
  obtain ⟨b', o', e, c⟩ := h (j / 6) hd
  cases e
  have ha : (⟨bq, oq, none⟩ : Addr).add j = ⟨bq, oq + j, none⟩ := by unfold Addr.add; split <;> simp_all
  have hf := flat6_get ps (j / 6) hd (j % 6) (by omega)
  rw [show j / 6 * 6 + j % 6 = j from by omega] at hf
  rw [ha, show oq + j = oq + j / 6 * 6 + j % 6 from by omega, c (j % 6) (by omega), ← hf]
  exact hj
theorem own_prow {w : World} {lo g cap n : Nat} {ps : List (Tm × Tm)} {t : TypeId} (h : w.ownsRow lo t 6 (.slice (some ⟨g, 0, none⟩) n cap) n (flat6 ps)) (hl : ps.length = n) : ∀ i (hi : i < ps.length), PRow w (some ⟨g, 0, none⟩) i ps[i] := by
  intro i hi
  refine ⟨g, 0, rfl, fun j hj => ?_⟩
  rw [Nat.zero_add, ← flat6_get ps i hi j hj]
  exact h.cellAt _ (by omega)
theorem Try.info145 : (Try.prog.info? 145).map (fun i => (i.zero, i.size, i.bytes)) = some (some (.agg #[.int .i64 0, .string ByteArray.empty, .slice none 0 0, .int .i64 0, .string ByteArray.empty, .slice none 0 0]), 6, 96) := by kernel_rfl
theorem news6 (w : World) (S T : Tm) : ∀ j u, (flat6 [(S, T)])[j]? = some u → (w.alloc (.cells #[.int .i64 S.v, .string S.nm, .slice S.a S.len S.cap, .int .i64 T.v, .string T.nm, .slice T.a T.len T.cap] 145)).cell? ((⟨w.heap.size, 0, none⟩ : Addr).add j) = some u := by
  intro j u hj
  have hb := heap_alloc_new w (.cells #[.int .i64 S.v, .string S.nm, .slice S.a S.len S.cap, .int .i64 T.v, .string T.nm, .slice T.a T.len T.cap] 145)
  rw [addr_add, cell_of_row _ _ _ _ _ _ hb]
  simpa [flat6, cells6, cells3] using hj
theorem zipK_take {X Y : Tm} {j : Nat} (h : j < X.len) : (zipK X Y).take (j + 1) = (zipK X Y).take j ++ [(X.f j, Y.f j)] := by
  have hl : j < (zipK X Y).length := by simp [zipK, h]
  rw [List.take_succ_eq_append_getElem hl]
  simp [zipK]
theorem zipK_len (X Y : Tm) : (zipK X Y).length = X.len := by simp [zipK]
theorem tail_run6 (bq oq ln cq : Nat) (h : 1 ≤ ln) (W : World) : (Instr.slice 146 (.slice (some ⟨bq, oq, none⟩) ln cq) (some (.int .i64 1)) none none).run Try.prog W = .ok (.slice (some ⟨bq, if cq = 1 then oq else oq + 6, none⟩) (ln - 1) (cq - 1)) W := by
  obtain ⟨i0, hi, hz0, hz1, hz2⟩ := info_parts Try.info145
  have h' : (1 : Int) ≤ (ln : Int) := by omega
  simp [Instr.slice, run_underlying Try.underlying146, Instr.sliceBounds, run_sliceBound, sizeOf, typeInfo, hi, hz1, h', Addr.add]
  split <;> simp_all
end Go.Proofs.Ytmggaclaoefdaaa

namespace Go.Proofs.Ytmggaclaoefdaaa
open Go.RowKit

/-- A search's cells, but for its state of variables. -/
structure Rr where
  P : Pg
  todo : Value
  kept : Value
  query : Int
  av : Value
  fin : Int
  st : Int
def bxR (r : Rr) : Value → Value → Obj := fun v k => .cells #[.slice r.P.a r.P.len r.P.cap, v, k, r.todo, r.kept, .int .i64 r.query, r.av, .int .i64 r.fin, .int .i64 r.st] 108
theorem bxR_bx (r : Rr) : Bx 1 (bxR r) := by
  refine ⟨fun w b v k h => ?_, fun w b v k h => ?_, fun w b v k h => ?_, fun w b v k h => ?_, fun w b v k v' h => ?_, fun w b v k v' h => ?_⟩ <;> unfold bxR at *
  · simp [World.cell?, h]
  · simp [World.cell?, h]
  · simp [World.frozen?, h]
  · simp [World.frozen?, h]
  · simp only [World.setCell, Array.getElem?_modify]; simp [h]
  · simp only [World.setCell, Array.getElem?_modify]; simp [h]
theorem Okv.up {N N' : Int} (h : N ≤ N') : ∀ {T : Tm}, Okv N T → Okv N' T := by
  intro T
  induction T with
  | nil => intro h; exact h
  | mk v nm a len cap f ih => intro hT; exact ⟨hT.1, Int.le_trans hT.2.1 h, hT.2.2.1, hT.2.2.2.1, fun i hi => ih i (hT.2.2.2.2 i hi)⟩
/-- The blocks that turn. -/
def Mq (s g : Nat) (kept av : Value) (k : Nat) : Prop := k = s ∨ k = g ∨ kept.ownBlock = some k ∨ av.ownBlock = some k
def Kq (kept av : Value) (k : Nat) : Prop := kept.ownBlock = some k ∨ av.ownBlock = some k
/-- A goal's cells. -/
def cellsT (q : Gl) : List Value := cells3 q.1 ++ [.int .i64 q.2]
/-- Goals in memory, none of them where something turns. -/
def TD (w : World) (M : Nat → Prop) (N : Int) (v : Value) (gl : List Gl) : Prop := ∃ (a : Option Addr) (c : Nat), v = .slice a gl.length c ∧ gl.length ≤ c ∧ c ≤ maxLen ∧ ∀ i (hi : i < gl.length), (∃ b o, a = some ⟨b, o, none⟩ ∧ ¬ M b ∧ ∀ j, j < 4 → w.cell? ⟨b, o + i * 4 + j, none⟩ = (cellsT gl[i])[j]?) ∧ TIn w gl[i].1 ∧ NM M gl[i].1 ∧ Okv N gl[i].1
theorem TD.next {w w' : World} {M M' : Nat → Prop} {N : Int} {v : Value} {gl : List Gl} (h : TD w M N v gl) (hb : Bw M w.heap.size w w') (hm : ∀ k, k < w.heap.size → M' k → M k) : TD w' M' N v gl := by
  obtain ⟨a, c, h1, h2, h3, h4⟩ := h
  refine ⟨a, c, h1, h2, h3, fun i hi => ?_⟩
  obtain ⟨⟨b, o, e, hM, hc⟩, hT, hN, hO⟩ := h4 i hi
  have c0 := hc 0 (by omega)
  have hl : b < w.heap.size := by
    have e0 : (cellsT gl[i])[0]? = some (.int .i64 gl[i].1.v) := rfl
    rw [e0] at c0
    exact lt_of_cell c0
  refine ⟨⟨b, o, e, fun hk => hM (hm b hl hk), fun j hj => ?_⟩, hT.bw hb (Nat.le_refl _) hN, hN.anti hT hm, hO⟩
  rw [← hc j hj]; exact World.cell?_of_block (hb.block b hl hM)
theorem TD.le {w : World} {M : Nat → Prop} {N N' : Int} {v : Value} {gl : List Gl} (h : TD w M N v gl) (hN : N ≤ N') : TD w M N' v gl := by
  obtain ⟨a, c, h1, h2, h3, h4⟩ := h
  exact ⟨a, c, h1, h2, h3, fun i hi => ⟨(h4 i hi).1, (h4 i hi).2.1, (h4 i hi).2.2.1, (h4 i hi).2.2.2.up hN⟩⟩
theorem TD.nil (w : World) (M : Nat → Prop) (N : Int) : TD w M N (.slice none 0 0) [] := ⟨none, 0, rfl, Nat.le_refl _, Nat.zero_le _, fun i hi => absurd hi (Nat.not_lt_zero i)⟩
/-- What variables were, kept in memory. -/
structure BR (w : World) (M : Nat → Prop) (v : Value) (N : Int) (len : Nat) (τ ρ : Int → Tm) (r : Int → Nat) (σ : Sg) : Prop where
  form : ∃ gb cb, v = .slice (some ⟨gb, 0, none⟩) len cb ∧ len ≤ cb ∧ ¬ M gb ∧ ∀ i, i < len → RowAt w (some ⟨gb, 0, none⟩) i (τ i)
  ln : (len : Int) = N + 1
  big : N ≤ 900000
  n12 : 12 ≤ N
  ch : Chain N τ ρ r
  rel : Rel N σ ρ
  dec : Dec σ
  ok : ∀ v U, σ v = some U → Okv N U
  dm : ∀ v U, σ v = some U → 0 < v ∧ v ≤ N
  trm : ∀ v, 0 ≤ v → v ≤ N → TIn w (τ v) ∧ Okv N (τ v) ∧ NM M (τ v)
theorem BR.next {w w' : World} {M M' : Nat → Prop} {v : Value} {N : Int} {len : Nat} {τ ρ : Int → Tm} {r : Int → Nat} {σ : Sg} (h : BR w M v N len τ ρ r σ) (hb : Bw M w.heap.size w w') (hm : ∀ k, k < w.heap.size → M' k → M k) : BR w' M' v N len τ ρ r σ := by
  obtain ⟨gb, cb, h1, h2, h3, h4⟩ := h.form
  have hln := h.ln
  have h12 := h.n12
  have hl : gb < w.heap.size := by
    obtain ⟨b, o, e, c0, _⟩ := h4 0 (by omega)
    cases e
    exact lt_of_cell c0
  refine ⟨⟨gb, cb, h1, h2, fun hk => h3 (hm gb hl hk), fun i hi => ?_⟩, h.ln, h.big, h.n12, h.ch, h.rel, h.dec, h.ok, h.dm, fun v h0 h1 => ?_⟩
  · obtain ⟨b, o, e, c0, c1, c2⟩ := h4 i hi
    cases e
    have hx := hb.block gb hl h3
    exact ⟨gb, 0, rfl, (World.cell?_of_block hx).trans c0, (World.cell?_of_block hx).trans c1, (World.cell?_of_block hx).trans c2⟩
  · obtain ⟨t1, t2, t3⟩ := h.trm v h0 h1
    exact ⟨t1.bw hb (Nat.le_refl _) t3, t2, t3.anti t1 hm⟩
/-- A choice, as it lies. -/
structure Kr where
  bv : Value
  tv : Value
  gl : List Gl
  k : Nat
  N : Int
  len : Nat
  τ : Int → Tm
  ρ : Int → Tm
  rk : Int → Nat
  σ : Sg
def cellsK (c : Kr) : List Value := [c.bv, c.tv, .int .i64 c.k]
def flatK (l : List Kr) : List Value := (l.map cellsK).flatten
structure RS (w0 w : World) (s : Nat) (r : Rr) (g cap len : Nat) (N : Int) (τ ρ : Int → Tm) (rk : Int → Nat) (σ : Sg) (wk : Int) (gl : List Gl) (ch : List Kr) (an : List Tm) : Prop where
  rf : RF (Kq r.kept r.av) w s 1 (bxR r) w0.heap.size g cap N len τ ρ rk σ wk
  n12 : 12 ≤ N
  td : TD w (Mq s g r.kept r.av) N r.todo gl
  kr : w.ownsRow w0.heap.size 176 3 r.kept ch.length (flatK ch)
  hd : ∀ c ∈ ch, c.gl ≠ [] ∧ (hdT c.σ c.gl).v = 0 ∧ c.k ≤ r.P.len
  kt : ∀ c ∈ ch, TD w (Mq s g r.kept r.av) c.N c.tv c.gl ∧ BR w (Mq s g r.kept r.av) c.bv c.N c.len c.τ c.ρ c.rk c.σ
  anr : w.ownsRow w0.heap.size 112 1 r.av an.length (an.map slA)
  ant : ∀ A ∈ an, TIn w A ∧ NM (Mq s g r.kept r.av) A
  low : Below w0.heap.size w0 w
  dk : ∀ q, r.kept.ownBlock = some q → q ≠ s ∧ q ≠ g
  da : ∀ q, r.av.ownBlock = some q → q ≠ s ∧ q ≠ g ∧ r.kept.ownBlock ≠ some q
section
variable {w0 w : World} {s : Nat} {r : Rr} {g cap len : Nat} {N : Int} {τ ρ : Int → Tm} {rk : Int → Nat} {σ : Sg} {wk : Int} {gl : List Gl} {ch : List Kr} {an : List Tm}
theorem RS.los (h : RS w0 w s r g cap len N τ ρ rk σ wk gl ch an) : w0.heap.size ≤ s := h.rf.st.lo
theorem RS.mu (h : RS w0 w s r g cap len N τ ρ rk σ wk gl ch an) {k : Nat} (hk : Mq s g r.kept r.av k) : w0.heap.size ≤ k ∧ k < w.heap.size := by
  rcases hk with rfl | rfl | hk | hk
  · exact ⟨h.los, h.rf.lt.1⟩
  · exact h.rf.st.own.lt k rfl
  · exact h.kr.lt k hk
  · exact h.anr.lt k hk
theorem RS.lows (h : RS w0 w s r g cap len N τ ρ rk σ wk gl ch an) {w' : World} (hb : Bw (Mq s g r.kept r.av) w.heap.size w w') : Below w0.heap.size w0 w' :=
  ⟨hb.os.trans h.low.os, hb.tape.trans h.low.tape, hb.output.trans h.low.output, Nat.le_trans h.low.size hb.size, fun k hk => (hb.block k (Nat.lt_of_lt_of_le hk h.low.size) (fun e => by have := (h.mu e).1; omega)).trans (h.low.block k hk)⟩
theorem gd_nm {T : Tm} {kept av : Value} (h : GdK (Kq kept av) w s s (.slice (some ⟨g, 0, none⟩) len cap) N T) : TIn w T ∧ Okv N T ∧ NM (Mq s g kept av) T := by
  refine ⟨h.1, h.2.1, ?_⟩
  have h3 := h.2.2.1
  have h5 := h.2.2.2.2
  have h1 := h.1
  clear h
  induction T with
  | nil => trivial
  | mk v nm a ln cp f ih =>
    refine ⟨fun h0 => ?_, fun i hi => ih i (h3.2 i hi) (fun q hq => (h5 q hq).2 i hi) (h1.2.2 i hi).2⟩
    obtain ⟨b, o, e, hne⟩ := h3.1 h0
    refine ⟨b, o, e, fun hm => ?_⟩
    have key : ∀ q, NB q (.mk v nm a ln cp f) → b ≠ q := fun q hq => by
      obtain ⟨b', o', e', hne'⟩ := hq.1 h0
      rw [e] at e'; cases e'; exact hne'
    rcases hm with hm | hm | hm
    · exact hne hm
    · exact key g (h5 g (.inl rfl)) hm
    · exact key b (h5 b (.inr hm)) rfl
theorem nm_gd {T : Tm} {kept av : Value} (h : TIn w T ∧ Okv N T ∧ NM (Mq s g kept av) T) : GdK (Kq kept av) w s s (.slice (some ⟨g, 0, none⟩) len cap) N T :=
  ⟨h.1, h.2.1, h.2.2.nb (.inl rfl), h.2.2.nb (.inl rfl), fun q hq => by
    rcases hq with hq | hq
    · have : g = q := by simpa [Value.ownBlock] using hq
      exact h.2.2.nb (.inr (.inl this.symm))
    · exact h.2.2.nb (.inr (.inr hq))⟩
theorem RS.get (h : RS w0 w s r g cap len N τ ρ rk σ wk gl ch an) : w.cell? ⟨s, 0, none⟩ = some (.slice r.P.a r.P.len r.P.cap) ∧ w.cell? ⟨s, 1, none⟩ = some (.slice (some ⟨g, 0, none⟩) len cap) ∧ w.cell? ⟨s, 2, none⟩ = some (.int .i64 wk) ∧ w.cell? ⟨s, 3, none⟩ = some r.todo ∧ w.cell? ⟨s, 4, none⟩ = some r.kept ∧ w.cell? ⟨s, 5, none⟩ = some (.int .i64 r.query) ∧ w.cell? ⟨s, 6, none⟩ = some r.av ∧ w.cell? ⟨s, 7, none⟩ = some (.int .i64 r.fin) ∧ w.cell? ⟨s, 8, none⟩ = some (.int .i64 r.st) ∧ ∀ i, w.frozen? ⟨s, i, none⟩ = false := by
  have hb := h.rf.blk
  unfold bxR at hb
  refine ⟨?_, ?_, ?_, ?_, ?_, ?_, ?_, ?_, ?_, fun i => ?_⟩ <;> simp [World.cell?, World.frozen?, hb]
theorem RF.re {K K' : Nat → Prop} {w w' : World} {b ob : Nat} {B B' : Value → Value → Obj} {lo g cap : Nat} {N : Int} {len : Nat} {τ ρ : Int → Tm} {r : Int → Nat} {σ : Sg} {wk wk' : Int} (h : RF K w b ob B lo g cap N len τ ρ r σ wk) (hB : Bx ob B') (hb : w'.heap[b]? = some (B' (.slice (some ⟨g, 0, none⟩) len cap) (.int .i64 wk'))) (hg : w'.heap[g]? = w.heap[g]?) (ht : ∀ v, 0 ≤ v → v ≤ N → GdK K' w' b b (.slice (some ⟨g, 0, none⟩) len cap) N (τ v)) : RF K' w' b ob B' lo g cap N len τ ρ r σ wk' :=
  ⟨⟨hB, hb, rowk h.st.own (fun q hq => by have : g = q := by simpa [Value.ownBlock] using hq
                                          exact this ▸ hg), h.st.ne, h.st.lo⟩, h.ln, h.big, h.ch, h.rel, h.dec, h.ok, ht⟩
/-- New memory. -/
theorem RS.below (h : RS w0 w s r g cap len N τ ρ rk σ wk gl ch an) {w' : World} (hb : Below w.heap.size w w') : RS w0 w' s r g cap len N τ ρ rk σ wk gl ch an := by
  have hw : Bw (Mq s g r.kept r.av) w.heap.size w w' := Bw.ofBelow hb
  have hr : ∀ (v : Value), (∀ q, v.ownBlock = some q → q < w.heap.size) → ∀ q, v.ownBlock = some q → w'.heap[q]? = w.heap[q]? := fun v h1 q hq => hb.block q (h1 q hq)
  exact ⟨h.rf.below hb, h.n12, h.td.next hw (fun _ _ e => e), rowk h.kr (hr _ (fun q hq => (h.kr.lt q hq).2)), h.hd, fun c hc => ⟨(h.kt c hc).1.next hw (fun _ _ e => e), (h.kt c hc).2.next hw (fun _ _ e => e)⟩, rowk h.anr (hr _ (fun q hq => (h.anr.lt q hq).2)), fun A hA => ⟨(h.ant A hA).1.below hb, (h.ant A hA).2⟩, h.lows hw, h.dk, h.da⟩
/-- What variables are has turned: bindings, more of them, or all laid anew. -/
theorem RS.turn (h : RS w0 w s r g cap len N τ ρ rk σ wk gl ch an) {w' : World} {g' cap' len' : Nat} {N' : Int} {τ' ρ' : Int → Tm} {rk' : Int → Nat} {σ' : Sg} {wk' : Int} (hF : RF (Kq r.kept r.av) w' s 1 (bxR r) w0.heap.size g' cap' N' len' τ' ρ' rk' σ' wk') (h12 : 12 ≤ N') (hg : Bw (fun k => k = s ∨ k = g) w.heap.size w w') (hn : g' = g ∨ w.heap.size ≤ g') (hN : N ≤ N') : RS w0 w' s r g' cap' len' N' τ' ρ' rk' σ' wk' gl ch an := by
  have hw : Bw (Mq s g r.kept r.av) w.heap.size w w' := hg.wide (fun k _ e => by
    rcases e with e | e
    · exact .inl e
    · exact .inr (.inl e))
  have hm : ∀ k, k < w.heap.size → Mq s g' r.kept r.av k → Mq s g r.kept r.av k := fun k hk e => by
    rcases e with e | e | e
    · exact .inl e
    · rcases hn with h1 | h1
      · exact .inr (.inl (h1 ▸ e))
      · omega
    · exact .inr (.inr e)
  have hb : ∀ q, q < w.heap.size → q ≠ s → q ≠ g → w'.heap[q]? = w.heap[q]? := fun q hq h1 h2 => hg.block q hq (fun e => by
    rcases e with e | e
    · exact h1 e
    · exact h2 e)
  have hne : ∀ q, q < w.heap.size → q ≠ g → q ≠ g' := fun q hq h1 e => by
    rcases hn with h2 | h2
    · exact h1 (e.trans h2)
    · omega
  refine ⟨hF, h12, (h.td.next hw hm).le hN, rowk h.kr (fun q hq => hb q (h.kr.lt q hq).2 (h.dk q hq).1 (h.dk q hq).2), h.hd, fun c hc => ⟨(h.kt c hc).1.next hw hm, (h.kt c hc).2.next hw hm⟩, rowk h.anr (fun q hq => hb q (h.anr.lt q hq).2 (h.da q hq).1 (h.da q hq).2.1), fun A hA => ⟨(h.ant A hA).1.bw hw (Nat.le_refl _) (h.ant A hA).2, (h.ant A hA).2.anti (h.ant A hA).1 hm⟩, h.lows hw, fun q hq => ⟨(h.dk q hq).1, hne q (h.kr.lt q hq).2 (h.dk q hq).2⟩, fun q hq => ⟨(h.da q hq).1, hne q (h.anr.lt q hq).2 (h.da q hq).2.1, (h.da q hq).2.2⟩⟩
/-- A cell of the record is stored, but for choices, answers and what variables are. -/
theorem RS.put (h : RS w0 w s r g cap len N τ ρ rk σ wk gl ch an) (i : Nat) (v : Value) {r' : Rr} {gl' : List Gl} {wk' : Int} (hr : bxR r' (.slice (some ⟨g, 0, none⟩) len cap) (.int .i64 wk') = .cells ((#[.slice r.P.a r.P.len r.P.cap, .slice (some ⟨g, 0, none⟩) len cap, .int .i64 wk, r.todo, r.kept, .int .i64 r.query, r.av, .int .i64 r.fin, .int .i64 r.st] : Array Value).setIfInBounds i v) 108) (hP : r'.P = r.P) (hk : r'.kept = r.kept) (ha : r'.av = r.av) (hg : TD w (Mq s g r.kept r.av) N r'.todo gl') : RS w0 (w.setCell ⟨s, i, none⟩ v) s r' g cap len N τ ρ rk σ wk' gl' ch an := by
  have hG := G.set s w i v
  have hw : Bw (Mq s g r.kept r.av) w.heap.size w (w.setCell ⟨s, i, none⟩ v) := (Bw.refl _ _ _).grown hG (Nat.le_refl _) (fun k hk => .inr (.inl (Option.some.inj hk).symm))
  have hb := h.rf.blk
  unfold bxR at hb
  have hblk : (w.setCell ⟨s, i, none⟩ v).heap[s]? = some (bxR r' (.slice (some ⟨g, 0, none⟩) len cap) (.int .i64 wk')) := by
    rw [hr]
    simp only [World.setCell, Array.getElem?_modify]
    simp [hb]
  have hrow : ∀ {lo sz : Nat} {t : TypeId} {x : Value} {n : Nat} {xs : List Value}, w.ownsRow lo t sz x n xs → (∀ q, x.ownBlock = some q → q ≠ s) → (w.setCell ⟨s, i, none⟩ v).ownsRow lo t sz x n xs := fun h1 h2 => h1.kept hG (row_ne h2)
  refine ⟨h.rf.re (bxR_bx r') hblk (hG.block g h.rf.lt.2.1 (fun e => h.rf.lt.2.2 (Option.some.inj e))) (fun u h0 h1 => ?_), h.n12, ?_, ?_, by rw [hP]; exact h.hd, ?_, ?_, ?_, h.lows hw, ?_, ?_⟩
  · rw [hk, ha]
    have := (h.rf.trm u h0 h1).gf (GF.ofG hG) (TN.refl _ _)
    exact this
  · rw [hk, ha]; exact hg.next hw (fun _ _ e => e)
  · rw [hk]; exact hrow h.kr (fun q hq => (h.dk q hq).1)
  · rw [hk, ha]; exact fun c hc => ⟨(h.kt c hc).1.next hw (fun _ _ e => e), (h.kt c hc).2.next hw (fun _ _ e => e)⟩
  · rw [ha]; exact hrow h.anr (fun q hq => (h.da q hq).1)
  · rw [hk, ha]; exact fun A hA => ⟨(h.ant A hA).1.bw hw (Nat.le_refl _) (h.ant A hA).2, (h.ant A hA).2⟩
  · rw [hk]; exact h.dk
  · rw [hk, ha]; exact h.da
end
end Go.Proofs.Ytmggaclaoefdaaa
