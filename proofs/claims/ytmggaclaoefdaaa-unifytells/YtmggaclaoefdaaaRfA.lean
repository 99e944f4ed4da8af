/- The reference's state, whole: its list, and what it means; one more binding; Begin. -/
import Derived.Test.YtmggaclaoefdaaaRf6
import Derived.Test.YtmggaclaoefdaaaRf9
namespace Go.Proofs.Ytmggaclaoefdaaa
open Go.RowKit

/-- One more variable is something: the steps to it still come to an end. -/
theorem chain_put {N : Int} {τ ρ : Int → Tm} {r : Int → Nat} (hC : Chain N τ ρ r) {x : Int} {Y : Tm} (hx : x ≠ 0) (hroot : (ρ x).v = x) (hY : Okv N Y) (hYx : Y.v ≠ x) (hYi : Y.v ≠ 0 → (ρ Y.v).v = Y.v) :
    Chain N (fun u => if u = x then Y else τ u) (rput ρ x (lk ρ Y)) (fun u => if (ρ u).v = x then r u + (if Y.v = 0 then 0 else r Y.v) + 1 else r u) := by
  intro v h0 h1
  have hc := hC v h0 h1
  show Okv N (if v = x then Y else τ v) ∧ _
  by_cases e : v = x
  · subst e
    refine ⟨by rw [if_pos rfl]; exact hY, .inr ?_⟩
    simp only [if_true]
    refine ⟨hYx, ?_, fun hv => ?_⟩
    · rw [lk_rput hx]
      have e1 : rput ρ v (lk ρ Y) v = lk ρ Y := by unfold rput; rw [if_pos hroot]
      rw [e1]
      by_cases hv : Y.v = 0
      · have e2 : lk ρ Y = Y := by unfold lk; rw [if_pos hv]
        rw [e2, if_neg (by omega)]
      · have e2 : lk ρ Y = ρ Y.v := by unfold lk; rw [if_neg hv]
        rw [e2, if_neg (by have := hYi hv; omega)]
    · rw [if_neg (by have := hYi hv; omega), if_pos hroot, if_neg hv]; omega
  · refine ⟨by rw [if_neg e]; exact hc.1, ?_⟩
    simp only [if_neg e]
    rcases hc.2 with ⟨h2, h3⟩ | ⟨h2, h3, h4⟩
    · refine .inl ⟨h2, ?_⟩
      unfold rput
      rw [if_neg (by omega)]
      exact h3
    · refine .inr ⟨h2, ?_, fun hv => ?_⟩
      · rw [lk_rput hx, h3]
        show _ = (if (ρ v).v = x then lk ρ Y else ρ v)
        rfl
      · have e2 : ρ (τ v).v = ρ v := by rw [← h3]; unfold lk; rw [if_neg hv]
        rw [e2]
        have := h4 hv
        split <;> omega
/-- The reference's state, and what it means. -/
structure RF (w : World) (b ob : Nat) (B : Value → Value → Obj) (lo g cap : Nat) (N : Int) (len : Nat) (τ ρ : Int → Tm) (r : Int → Nat) (σ : Sg) (wk : Int) : Prop where
  st : RSt w b ob B lo (.slice (some ⟨g, 0, none⟩) len cap) ((List.range len).map fun i : Nat => τ (i : Int)) wk
  ln : (len : Int) = N + 1
  big : N ≤ 1000000
  ch : Chain N τ ρ r
  rel : Rel N σ ρ
  dec : Dec σ
  ok : ∀ v U, σ v = some U → Okv N U
  trm : ∀ v, 0 ≤ v → v ≤ N → Good w b b (.slice (some ⟨g, 0, none⟩) len cap) N (τ v)
theorem RF.blk {w : World} {b ob : Nat} {B : Value → Value → Obj} {lo g cap : Nat} {N : Int} {len : Nat} {τ ρ : Int → Tm} {r : Int → Nat} {σ : Sg} {wk : Int} (h : RF w b ob B lo g cap N len τ ρ r σ wk) : w.heap[b]? = some (B (.slice (some ⟨g, 0, none⟩) len cap) (.int .i64 wk)) := h.st.blk
theorem RF.by {w : World} {b ob : Nat} {B : Value → Value → Obj} {lo g cap : Nat} {N : Int} {len : Nat} {τ ρ : Int → Tm} {r : Int → Nat} {σ : Sg} {wk : Int} (h : RF w b ob B lo g cap N len τ ρ r σ wk) : ByIs w b ob g 0 cap N len τ := by
  refine ⟨h.st.bx.c0 _ _ _ _ h.blk, h.ln, h.big, fun i hi => ?_⟩
  have hl : ((List.range len).map fun i : Nat => τ (i : Int)).length = len := by simp
  obtain ⟨f0, f1, f2⟩ := flat_get ((List.range len).map fun i : Nat => τ (i : Int)) i (by rw [hl]; exact hi)
  have e : ((List.range len).map fun i : Nat => τ (i : Int))[i]'(by rw [hl]; exact hi) = τ (i : Int) := by simp
  rw [e] at f0 f1 f2
  have ho := h.st.own
  rw [hl] at ho
  refine ⟨g, 0, rfl, ?_, ?_, ?_⟩
  · rw [Nat.zero_add]; exact (ho.cellAt (i * 3) (by omega)).trans f0
  · rw [Nat.zero_add]; exact (ho.cellAt (i * 3 + 1) (by omega)).trans f1
  · rw [Nat.zero_add]; exact (ho.cellAt (i * 3 + 2) (by omega)).trans f2
theorem RF.lt {w : World} {b ob : Nat} {B : Value → Value → Obj} {lo g cap : Nat} {N : Int} {len : Nat} {τ ρ : Int → Tm} {r : Int → Nat} {σ : Sg} {wk : Int} (h : RF w b ob B lo g cap N len τ ρ r σ wk) : b < w.heap.size ∧ g < w.heap.size ∧ g ≠ b :=
  ⟨(Array.getElem?_eq_some_iff.1 h.blk).1, (h.st.own.lt g rfl).2, h.st.ne g rfl⟩
theorem RF.below {w w' : World} {b ob : Nat} {B : Value → Value → Obj} {lo g cap : Nat} {N : Int} {len : Nat} {τ ρ : Int → Tm} {r : Int → Nat} {σ : Sg} {wk : Int} (h : RF w b ob B lo g cap N len τ ρ r σ wk) (hb : Below w.heap.size w w') : RF w' b ob B lo g cap N len τ ρ r σ wk :=
  ⟨⟨h.st.bx, (hb.block b h.lt.1).trans h.blk, h.st.own.kept (grown_of_below hb none) (.inr (fun e => by cases e)), h.st.ne, h.st.lo⟩, h.ln, h.big, h.ch, h.rel, h.dec, h.ok, fun v h0 h1 => (h.trm v h0 h1).below hb⟩
/-- The work is counted. -/
theorem RF.work {w : World} {b ob : Nat} {B : Value → Value → Obj} {lo g cap : Nat} {N : Int} {len : Nat} {τ ρ : Int → Tm} {r : Int → Nat} {σ : Sg} {wk : Int} (h : RF w b ob B lo g cap N len τ ρ r σ wk) (k : Int) : RF (w.setCell ⟨b, ob + 1, none⟩ (.int .i64 k)) b ob B lo g cap N len τ ρ r σ k := by
  have hg := grown_set (W := w) b (ob + 1) (.int .i64 k)
  have hG : GF b b (.slice (some ⟨g, 0, none⟩) len cap) w (w.setCell ⟨b, ob + 1, none⟩ (.int .i64 k)) := GF.ofG hg
  exact ⟨⟨h.st.bx, h.st.bx.s1 _ _ _ _ _ h.blk, h.st.own.kept hg (.inr (fun e => h.lt.2.2 (Option.some.inj e))), h.st.ne, h.st.lo⟩, h.ln, h.big, h.ch, h.rel, h.dec, h.ok, fun v h0 h1 => (h.trm v h0 h1).gf hG (TN.refl _ _)⟩
/-- What the reference looks at is what the program looks at. -/
theorem within_lk {N : Int} {σ : Sg} {ρ : Int → Tm} (hR : Rel N σ ρ) (hd : Dec σ) (hO : ∀ v U, σ v = some U → Okv N U) {T Y : Tm} (hT : Okv N T) (hY : Lk N ρ T Y) (x : Int) (L : Nat) (ts : List Tm) : within σ x L (Y :: ts) = within σ x L (wha σ T :: ts) := by
  have hroot : wha σ (wha σ T) = wha σ T := by
    by_cases h : (wha σ T).v = 0
    · exact wha_fn h
    · exact wha_none (wh_root hd _ T hT.top.1 (by omega) h)
  cases L with
  | zero => rfl
  | succ L =>
    rw [within_succ, within_succ, hroot]
    by_cases h0 : Y.v = 0
    · have e : wha σ T = Y := by rw [hY.2.1 h0]; exact hR.fn T hT (by rw [← hY.1]; exact h0)
      rw [e, wha_fn h0]
    · have hv : (lk ρ T).v ≠ 0 := by rw [← hY.1]; exact h0
      have hYl : (lk ρ Y).v = Y.v := by
        have h1 := hR.idem T hT
        have e1 : lk ρ Y = ρ Y.v := by unfold lk; rw [if_neg h0]
        have e2 : lk ρ (lk ρ T) = ρ (lk ρ T).v := by show (if (lk ρ T).v = 0 then _ else _) = _; rw [if_neg hv]
        rw [e1, hY.1, ← e2]; exact h1
      have hc : (wha σ Y).v = (wha σ T).v := (hR.cls Y T hY.2.2 hT (by rw [hYl]; exact h0)).1 (by rw [hYl]; exact hY.1)
      have hw := hR.vr T hT hv
      have k1 : kidsL (wha σ T) = [] := kidsL_nil ((wha_okv hO hT).top.2.2 hw).2
      have k2 : kidsL (wha σ Y) = [] := kidsL_nil ((wha_okv hO hY.2.2).top.2.2 (by rw [hc]; exact hw)).2
      rw [hc, k1, k2]
theorem newV_get (n k : Nat) : newV n k = (List.range k).map fun i : Nat => (fun v : Int => vT ((n : Int) + v)) (i : Int) := rfl
set_option maxRecDepth 100000 in
set_option maxHeartbeats 4000000 in
theorem begin_any (w : World) : Calls Try.prog 65 #[] w fun e w' => ∃ (g cap : Nat), e = .returned (.agg #[.slice (some ⟨g, 0, none⟩) 13 cap, .int .i64 0]) ∧ w'.ownsRow w.heap.size 24 3 (.slice (some ⟨g, 0, none⟩) 13 cap) 13 (flat (newV 0 13)) ∧ Below w.heap.size w w' := by
  go_enter Try.func65, Try.ntmps65
  go_wp2_with fail
  have HX : Hid (Below w.heap.size w ((w.alloc (.cells #[.slice none 0 0, .int .i64 0] 94)).alloc (.cells #[.slice none 0 0, .int .i64 0] 94))) := ((Below.refl _ _).alloc (Nat.le_refl _) _).alloc (by simp) _
  have h0 : ((w.alloc (.cells #[.slice none 0 0, .int .i64 0] 94)).alloc (.cells #[.slice none 0 0, .int .i64 0] 94)).heap[w.heap.size]? = some (.cells #[.slice none 0 0, .int .i64 0] 94) := by
    rw [heap_alloc_old _ _ (by simp)]; exact heap_alloc_new w _
  have h1 : ((w.alloc (.cells #[.slice none 0 0, .int .i64 0] 94)).alloc (.cells #[.slice none 0 0, .int .i64 0] 94)).heap[w.heap.size + 1]? = some (.cells #[.slice none 0 0, .int .i64 0] 94) := by
    have := heap_alloc_new (w.alloc (.cells #[.slice none 0 0, .int .i64 0] 94)) (.cells #[.slice none 0 0, .int .i64 0] 94)
    rwa [show (w.alloc (.cells #[.slice none 0 0, .int .i64 0] 94)).heap.size = w.heap.size + 1 from by simp] at this
  generalize (w.alloc (.cells #[.slice none 0 0, .int .i64 0] 94)).alloc (.cells #[.slice none 0 0, .int .i64 0] 94) = wa at *
  refine (more_any 13 (b := w.heap.size + 1) (ob := 0) (B := bxS) (lo := w.heap.size) (ts := []) (v := .slice none 0 0) (wk := 0) wa ⟨bxS_bx, h1, World.ownsRow_nil _ _ _ _, fun g hg => (by cases hg), by omega⟩ (by simp)).mono ?_
  rintro e w1 ⟨rfl, v', hR, hG, hN⟩
  have ho := hR.own
  rw [show ([] ++ newV ([] : List Tm).length 13 : List Tm) = newV 0 13 from rfl, show (newV 0 13).length = 13 from rfl] at ho
  obtain ⟨g, cap, rfl, hgl⟩ : ∃ g cap, v' = .slice (some ⟨g, 0, none⟩) 13 cap ∧ w.heap.size ≤ g := by
    rcases ho.2 with ⟨_, h⟩ | ⟨g, cap, _, h, h', _⟩
    · omega
    · exact ⟨g, cap, h, h'⟩
  have HO : Hid (w1.ownsRow w.heap.size 24 3 (.slice (some ⟨g, 0, none⟩) 13 cap) 13 (flat (newV 0 13))) := ho
  have hgb : g ≠ w.heap.size + 1 := hR.ne g rfl
  have hgw : g ≠ w.heap.size := by
    rcases hN g rfl with h | h
    · cases h
    · have := (Array.getElem?_eq_some_iff.1 h1).1; omega
  have HB1 : Hid (Below w.heap.size w w1) := ⟨hG.os.trans HX.out.os, hG.tape.trans HX.out.tape, hG.output.trans HX.out.output, Nat.le_trans HX.out.size hG.size, fun k hk => (hG.block k (Nat.lt_of_lt_of_le hk HX.out.size) (by omega) (by omega) (fun _ h => by cases h)).trans (HX.out.block k hk)⟩
  have k0 : w1.heap[w.heap.size]? = some (.cells #[.slice none 0 0, .int .i64 0] 94) := (hG.block _ (Array.getElem?_eq_some_iff.1 h0).1 (by omega) (by omega) (fun _ h => by cases h)).trans h0
  have k1 := hR.blk
  obtain ⟨c0, c1, f0, f1⟩ : w1.cell? ⟨w.heap.size, 0, none⟩ = some (.slice none 0 0) ∧ w1.cell? ⟨w.heap.size, 1, none⟩ = some (.int .i64 0) ∧ w1.frozen? ⟨w.heap.size, 0, none⟩ = false ∧ w1.frozen? ⟨w.heap.size, 1, none⟩ = false := by
    refine ⟨?_, ?_, ?_, ?_⟩ <;> simp [World.cell?, World.frozen?, k0]
  obtain ⟨d0, d1⟩ : w1.cell? ⟨w.heap.size + 1, 0, none⟩ = some (.slice (some ⟨g, 0, none⟩) 13 cap) ∧ w1.cell? ⟨w.heap.size + 1, 1, none⟩ = some (.int .i64 0) := by
    refine ⟨?_, ?_⟩ <;> simp [World.cell?, k1, bxS]
  clear hR hG hN ho h0 h1 k1
  have HK0 : Hid (w1.heap[w.heap.size]? = some (.cells #[.slice none 0 0, .int .i64 0] 94)) := k0
  clear k0
  go_wp2_with fail
  have hg2 : w1.grownBy ((w1.setCell ⟨w.heap.size, 0, none⟩ (.slice (some ⟨g, 0, none⟩) 13 cap)).setCell ⟨w.heap.size, 1, none⟩ (.int .i64 0)) (some w.heap.size) := G.trans (grown_set _ 0 _) (grown_set _ 1 _)
  have hc : ((w1.setCell ⟨w.heap.size, 0, none⟩ (.slice (some ⟨g, 0, none⟩) 13 cap)).setCell ⟨w.heap.size, 1, none⟩ (.int .i64 0)).heap[w.heap.size]? = some (.cells #[.slice (some ⟨g, 0, none⟩) 13 cap, .int .i64 0] 94) := by
    simp only [World.setCell, Array.getElem?_modify]
    simp [HK0.out]
  have hB2 := HB1.out.grown hg2 HB1.out.size (fun k hk => by have := Option.some.inj hk; omega)
  have hO2 := HO.out.kept hg2 (.inr (fun e => hgw (Option.some.inj e)))
  generalize (w1.setCell ⟨w.heap.size, 0, none⟩ (.slice (some ⟨g, 0, none⟩) 13 cap)).setCell ⟨w.heap.size, 1, none⟩ (.int .i64 0) = w2 at *
  refine bodyPost_ret (v := .agg #[.slice (some ⟨g, 0, none⟩) 13 cap, .int .i64 0]) ?_ rfl ⟨g, cap, rfl, hO2, hB2⟩
  simp [results, Try.results65, go_sem, World.cell?, hc]
end Go.Proofs.Ytmggaclaoefdaaa
