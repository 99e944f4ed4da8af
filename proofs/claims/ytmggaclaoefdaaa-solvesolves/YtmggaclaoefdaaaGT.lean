/- The reference's search in memory: choices and answers are laid; more variables; all laid anew. The reference's search: what it means; goals and choices that are laid. -/
import Derived.Test.YtmggaclaoefdaaaGS
namespace Go.Proofs.Ytmggaclaoefdaaa
open Go.RowKit

section
variable {w0 w : World} {s : Nat} {r : Rr} {g cap len : Nat} {N : Int} {τ ρ : Int → Tm} {rk : Int → Nat} {σ : Sg} {wk : Int} {gl : List Gl} {ch : List Kr} {an : List Tm}
/-- Choices are others. -/
theorem RS.keptTo (h : RS w0 w s r g cap len N τ ρ rk σ wk gl ch an) {w' : World} {kv : Value} {ch' : List Kr} (hg : w.grownBy w' r.kept.ownBlock) (hat : ∀ q, kv.ownBlock = some q → r.kept.ownBlock = some q ∨ w.heap.size ≤ q) (ho : w'.ownsRow w0.heap.size 176 3 kv ch'.length (flatK ch')) (hh : ∀ c ∈ ch', c.gl ≠ [] ∧ (hdT c.σ c.gl).v = 0 ∧ c.k ≤ r.P.len)
    (hc : ∀ c ∈ ch', TD w (Mq s g r.kept r.av) c.N c.tv c.gl ∧ BR w (Mq s g r.kept r.av) c.bv c.N c.len c.τ c.ρ c.rk c.σ) :
    RS w0 (w'.setCell ⟨s, 4, none⟩ kv) s { r with kept := kv } g cap len N τ ρ rk σ wk gl ch' an := by
  have hs := h.rf.lt.1
  have hgl := h.rf.lt.2.1
  have hgs := h.rf.lt.2.2
  have hks : ∀ q, r.kept.ownBlock = some q → q ≠ s ∧ q ≠ g := h.dk
  have hst : w'.heap[s]? = w.heap[s]? := hg.block s hs (fun e => (hks s e.symm).1 rfl)
  have hgt : w'.heap[g]? = w.heap[g]? := hg.block g hgl (fun e => (hks g e.symm).2 rfl)
  have hset := G.set s w' 4 kv
  have hw1 : Bw (Mq s g r.kept r.av) w.heap.size w w' := (Bw.refl _ _ _).grown hg (Nat.le_refl _) (fun k hk => .inr (.inr (.inr (.inl hk))))
  have hw : Bw (Mq s g r.kept r.av) w.heap.size w (w'.setCell ⟨s, 4, none⟩ kv) := hw1.grown hset hw1.size (fun k hk => .inr (.inl (Option.some.inj hk).symm))
  have hm : ∀ k, k < w.heap.size → Mq s g kv r.av k → Mq s g r.kept r.av k := fun k hk e => by
    rcases e with e | e | e | e
    · exact .inl e
    · exact .inr (.inl e)
    · rcases hat k e with h1 | h1
      · exact .inr (.inr (.inl h1))
      · omega
    · exact .inr (.inr (.inr e))
  have hb := h.rf.blk
  unfold bxR at hb
  have hblk : (w'.setCell ⟨s, 4, none⟩ kv).heap[s]? = some (bxR { r with kept := kv } (.slice (some ⟨g, 0, none⟩) len cap) (.int .i64 wk)) := by
    unfold bxR
    simp only [World.setCell, Array.getElem?_modify]
    rw [hst, hb]
    simp
  have hkd : ∀ q, kv.ownBlock = some q → q ≠ s ∧ q ≠ g ∧ r.av.ownBlock ≠ some q := fun q hq => by
    rcases hat q hq with h1 | h1
    · exact ⟨(hks q h1).1, (hks q h1).2, fun e => (h.da q e).2.2 h1⟩
    · exact ⟨by omega, by omega, fun e => by have := (h.anr.lt q e).2; omega⟩
  have hanr : (w'.setCell ⟨s, 4, none⟩ kv).ownsRow w0.heap.size 112 1 r.av an.length (an.map slA) := rowk h.anr (fun q hq => by
    have hl := (h.anr.lt q hq).2
    exact (hset.block q (Nat.lt_of_lt_of_le hl hg.size) (fun e => (h.da q hq).1 (Option.some.inj e))).trans (hg.block q hl (fun e => (h.da q hq).2.2 e.symm)))
  refine ⟨h.rf.re (bxR_bx _) hblk ((hset.block g (Nat.lt_of_lt_of_le hgl hg.size) (fun e => hgs (Option.some.inj e))).trans hgt) (fun v h0 h1 => ?_), h.n12, h.td.next hw hm, ho.kept hset (row_ne (fun q hq => (hkd q hq).1)), hh, fun c hc' => ⟨(hc c hc').1.next hw hm, (hc c hc').2.next hw hm⟩, hanr, fun A hA => ⟨(h.ant A hA).1.bw hw (Nat.le_refl _) (h.ant A hA).2, (h.ant A hA).2.anti (h.ant A hA).1 hm⟩, h.lows hw, fun q hq => ⟨(hkd q hq).1, (hkd q hq).2.1⟩, fun q hq => ⟨(h.da q hq).1, (h.da q hq).2.1, fun e => (hkd q e).2.2 hq⟩⟩
  obtain ⟨t1, t2, t3⟩ := gd_nm (h.rf.trm v h0 h1)
  exact nm_gd ⟨t1.bw hw (Nat.le_refl _) t3, t2, t3.anti t1 hm⟩
/-- An answer is laid behind the others. -/
theorem RS.avTo (h : RS w0 w s r g cap len N τ ρ rk σ wk gl ch an) {w' : World} {av' : Value} {A : Tm} (ho : w'.ownsRow w0.heap.size 112 1 av' (an.length + 1) (an.map slA ++ [slA A])) (hg : w.grownBy w' r.av.ownBlock) (hat : ∀ q, av'.ownBlock = some q → r.av.ownBlock = some q ∨ w.heap.size ≤ q) (hA : TIn w A ∧ NM (Mq s g r.kept r.av) A) :
    RS w0 (w'.setCell ⟨s, 6, none⟩ av') s { r with av := av' } g cap len N τ ρ rk σ wk gl ch (an ++ [A]) := by
  have hs := h.rf.lt.1
  have hgl := h.rf.lt.2.1
  have hgs := h.rf.lt.2.2
  have hst : w'.heap[s]? = w.heap[s]? := hg.block s hs (fun e => (h.da s e.symm).1 rfl)
  have hgt : w'.heap[g]? = w.heap[g]? := hg.block g hgl (fun e => (h.da g e.symm).2.1 rfl)
  have hset := G.set s w' 6 av'
  have hw1 : Bw (Mq s g r.kept r.av) w.heap.size w w' := (Bw.refl _ _ _).grown hg (Nat.le_refl _) (fun k hk => .inr (.inr (.inr (.inr hk))))
  have hw : Bw (Mq s g r.kept r.av) w.heap.size w (w'.setCell ⟨s, 6, none⟩ av') := hw1.grown hset hw1.size (fun k hk => .inr (.inl (Option.some.inj hk).symm))
  have hm : ∀ k, k < w.heap.size → Mq s g r.kept av' k → Mq s g r.kept r.av k := fun k hk e => by
    rcases e with e | e | e | e
    · exact .inl e
    · exact .inr (.inl e)
    · exact .inr (.inr (.inl e))
    · rcases hat k e with h1 | h1
      · exact .inr (.inr (.inr h1))
      · omega
  have hb := h.rf.blk
  unfold bxR at hb
  have hblk : (w'.setCell ⟨s, 6, none⟩ av').heap[s]? = some (bxR { r with av := av' } (.slice (some ⟨g, 0, none⟩) len cap) (.int .i64 wk)) := by
    unfold bxR
    simp only [World.setCell, Array.getElem?_modify]
    rw [hst, hb]
    simp
  have had : ∀ q, av'.ownBlock = some q → q ≠ s ∧ q ≠ g ∧ r.kept.ownBlock ≠ some q := fun q hq => by
    rcases hat q hq with h1 | h1
    · exact h.da q h1
    · exact ⟨by omega, by omega, fun e => by have := (h.kr.lt q e).2; omega⟩
  have hkr : (w'.setCell ⟨s, 6, none⟩ av').ownsRow w0.heap.size 176 3 r.kept ch.length (flatK ch) := rowk h.kr (fun q hq => by
    have hl := (h.kr.lt q hq).2
    exact (hset.block q (Nat.lt_of_lt_of_le hl hg.size) (fun e => (h.dk q hq).1 (Option.some.inj e))).trans (hg.block q hl (fun e => (h.da q e.symm).2.2 hq)))
  refine ⟨h.rf.re (bxR_bx _) hblk ((hset.block g (Nat.lt_of_lt_of_le hgl hg.size) (fun e => hgs (Option.some.inj e))).trans hgt) (fun v h0 h1 => ?_), h.n12, h.td.next hw hm, hkr, h.hd, fun c hc' => ⟨(h.kt c hc').1.next hw hm, (h.kt c hc').2.next hw hm⟩, ?_, fun B hB => ?_, h.lows hw, h.dk, had⟩
  · obtain ⟨t1, t2, t3⟩ := gd_nm (h.rf.trm v h0 h1)
    exact nm_gd ⟨t1.bw hw (Nat.le_refl _) t3, t2, t3.anti t1 hm⟩
  · rw [List.length_append, List.map_append]
    exact ho.kept hset (row_ne (fun q hq => (had q hq).1))
  · rcases List.mem_append.1 hB with hB | hB
    · exact ⟨(h.ant B hB).1.bw hw (Nat.le_refl _) (h.ant B hB).2, (h.ant B hB).2.anti (h.ant B hB).1 hm⟩
    · rw [List.mem_singleton] at hB
      subst hB
      exact ⟨hA.1.bw hw (Nat.le_refl _) hA.2, hA.2.anti hA.1 hm⟩
end
/-- The terms of a state, in their order. -/
def tsOf (τ : Int → Tm) (len : Nat) : List Tm := (List.range len).map fun i : Nat => τ (i : Int)
theorem tsOf_len (τ : Int → Tm) (len : Nat) : (tsOf τ len).length = len := by simp [tsOf]
theorem tsOf_get (τ : Int → Tm) (len i : Nat) (h : i < (tsOf τ len).length) : (tsOf τ len)[i] = τ (i : Int) := by simp [tsOf]
theorem rows_own {w : World} {lo g cap len : Nat} {τ : Int → Tm} (ho : w.ownsRow lo 24 3 (.slice (some ⟨g, 0, none⟩) len cap) len (flat (tsOf τ len))) : ∀ i, i < len → RowAt w (some ⟨g, 0, none⟩) i (τ i) := fun i hi => by
  obtain ⟨f0, f1, f2⟩ := flat_get (tsOf τ len) i (by rw [tsOf_len]; exact hi)
  rw [tsOf_get] at f0 f1 f2
  refine ⟨g, 0, rfl, ?_, ?_, ?_⟩
  · rw [Nat.zero_add]; exact (ho.cellAt (i * 3) (by omega)).trans f0
  · rw [Nat.zero_add]; exact (ho.cellAt (i * 3 + 1) (by omega)).trans f1
  · rw [Nat.zero_add]; exact (ho.cellAt (i * 3 + 2) (by omega)).trans f2
/-- Rows of a state as the cells of an append. -/
theorem rows_news {w : World} {gb len : Nat} {τ : Int → Tm} (h : ∀ i, i < len → RowAt w (some ⟨gb, 0, none⟩) i (τ i)) : ∀ j u, (flat (tsOf τ len))[j]? = some u → w.cell? ((⟨gb, 0, none⟩ : Addr).add j) = some u :=
  rows_cells (fun i hi => by rw [tsOf_get]; exact h i (by rw [tsOf_len] at hi; exact hi))
section
variable {w0 w : World} {s : Nat} {r : Rr} {g cap len : Nat} {N : Int} {τ ρ : Int → Tm} {rk : Int → Nat} {σ : Sg} {wk : Int} {gl : List Gl} {ch : List Kr} {an : List Tm}
/-- What variables are, kept: a copy. -/
theorem RS.was (h : RS w0 w s r g cap len N τ ρ rk σ wk gl ch an) {gb cb lo : Nat} (ho : w.ownsRow lo 24 3 (.slice (some ⟨gb, 0, none⟩) len cb) len (flat (tsOf τ len))) (hn : ¬ Mq s g r.kept r.av gb) (hN : N ≤ 900000) (hD : ∀ v U, σ v = some U → 0 < v ∧ v ≤ N) : BR w (Mq s g r.kept r.av) (.slice (some ⟨gb, 0, none⟩) len cb) N len τ ρ rk σ := by
  refine ⟨⟨gb, cb, rfl, ?_, hn, rows_own ho⟩, h.rf.ln, hN, h.n12, h.rf.ch, h.rf.rel, h.rf.dec, h.rf.ok, hD, fun v h0 h1 => gd_nm (h.rf.trm v h0 h1)⟩
  rcases ho.2 with ⟨e, _⟩ | ⟨g', cap', cur, e, _, _, hnc, _⟩
  · cases e
  · cases e; exact hnc
/-- What variables were is laid anew. -/
theorem RS.anew (h : RS w0 w s r g cap len N τ ρ rk σ wk gl ch an) {bv : Value} {N' : Int} {len' : Nat} {τ' ρ' : Int → Tm} {rk' : Int → Nat} {σ' : Sg} (hB : BR w (Mq s g r.kept r.av) bv N' len' τ' ρ' rk' σ') {w1 : World} {g' cap' : Nat} {wk' : Int} (hw1 : Below w.heap.size w w1) (ho : w1.ownsRow w0.heap.size 24 3 (.slice (some ⟨g', 0, none⟩) len' cap') len' (flat (tsOf τ' len'))) (hg' : w.heap.size ≤ g') {w2 : World} (hb2 : w2.heap[s]? = some (bxR r (.slice (some ⟨g', 0, none⟩) len' cap') (.int .i64 wk'))) (hG2 : G s w1 w2) {gl' : List Gl} (ht : TD w (Mq s g r.kept r.av) N' r.todo gl') :
    RS w0 w2 s r g' cap' len' N' τ' ρ' rk' σ' wk' gl' ch an := by
  have hs := h.rf.lt.1
  have hgl := h.rf.lt.2.1
  have hw : Bw (Mq s g r.kept r.av) w.heap.size w w2 := (Bw.ofBelow hw1).grown hG2 hw1.size (fun k hk => .inr (.inl (Option.some.inj hk).symm))
  have hm : ∀ k, k < w.heap.size → Mq s g' r.kept r.av k → Mq s g r.kept r.av k := fun k hk e => by
    rcases e with e | e | e
    · exact .inl e
    · omega
    · exact .inr (.inr e)
  have hg1 : g' < w1.heap.size := (ho.lt g' rfl).2
  have ho2 : w2.ownsRow w0.heap.size 24 3 (.slice (some ⟨g', 0, none⟩) len' cap') len' (flat (tsOf τ' len')) := ho.kept hG2 (row_ne (fun q hq => by
    have : g' = q := by simpa [Value.ownBlock] using hq
    omega))
  have hF : RF (Kq r.kept r.av) w2 s 1 (bxR r) w0.heap.size g' cap' N' len' τ' ρ' rk' σ' wk' := by
    refine ⟨⟨bxR_bx r, hb2, by rw [show ((List.range len').map fun i : Nat => τ' (i : Int)).length = len' from by simp]; exact ho2, fun q hq => by
      have : g' = q := by simpa [Value.ownBlock] using hq
      omega, h.los⟩, hB.ln, by have := hB.big; omega, hB.ch, hB.rel, hB.dec, hB.ok, fun v h0 h1 => ?_⟩
    obtain ⟨t1, t2, t3⟩ := hB.trm v h0 h1
    exact nm_gd ⟨t1.bw hw (Nat.le_refl _) t3, t2, t3.anti t1 hm⟩
  have hrow : ∀ {lo sz : Nat} {t : TypeId} {x : Value} {n : Nat} {xs : List Value}, w.ownsRow lo t sz x n xs → (∀ q, x.ownBlock = some q → q ≠ s) → w2.ownsRow lo t sz x n xs := fun h1 h2 => rowk h1 (fun q hq => (hG2.block q (Nat.lt_of_lt_of_le (h1.lt q hq).2 hw1.size) (fun e => h2 q hq (Option.some.inj e))).trans (hw1.block q (h1.lt q hq).2))
  refine ⟨hF, hB.n12, ht.next hw hm, hrow h.kr (fun q hq => (h.dk q hq).1), h.hd, fun c hc => ⟨(h.kt c hc).1.next hw hm, (h.kt c hc).2.next hw hm⟩, hrow h.anr (fun q hq => (h.da q hq).1), fun A hA => ⟨(h.ant A hA).1.bw hw (Nat.le_refl _) (h.ant A hA).2, (h.ant A hA).2.anti (h.ant A hA).1 hm⟩, h.lows hw, fun q hq => ⟨(h.dk q hq).1, ?_⟩, fun q hq => ⟨(h.da q hq).1, ?_, (h.da q hq).2.2⟩⟩
  · have := (h.kr.lt q hq).2; omega
  · have := (h.anr.lt q hq).2; omega
end
/-- More variables, that are nothing. -/
def τM (τ : Int → Tm) (N : Int) : Int → Tm := fun v => if v ≤ N then τ v else vT v
theorem rel_more {N N' : Int} {σ : Sg} {ρ : Int → Tm} (hN : N ≤ N') (hR : Rel N σ ρ) (hO : ∀ v U, σ v = some U → Okv N U) (hD : ∀ v U, σ v = some U → 0 < v ∧ v ≤ N) : Rel N' σ (τM ρ N) := by
  have key : ∀ T, Okv N' T → (T.v = 0 ∧ lk (τM ρ N) T = T ∧ wha σ T = T) ∨ (T.v ≠ 0 ∧ Okv N T ∧ lk (τM ρ N) T = lk ρ T) ∨ (T.v ≠ 0 ∧ N < T.v ∧ lk (τM ρ N) T = vT T.v ∧ wha σ T = T) := fun T hT => by
    by_cases hv : T.v = 0
    · exact .inl ⟨hv, by unfold lk; rw [if_pos hv], wha_fn hv⟩
    · by_cases hl : T.v ≤ N
      · refine .inr (.inl ⟨hv, ?_, by unfold lk τM; rw [if_neg hv, if_neg hv, if_pos hl]⟩)
        cases T with
        | nil => exact hT.elim
        | mk v nm a len cap f =>
          have h3 := hT.2.2.1 hv
          exact ⟨hT.1, hl, hT.2.2.1, hT.2.2.2.1, fun i hi => absurd hi (by have := h3.2; omega)⟩
      · refine .inr (.inr ⟨hv, by omega, by unfold lk τM; rw [if_neg hv, if_neg hl], wha_none ?_⟩)
        cases hs : σ T.v with
        | none => rfl
        | some U => exact absurd (hD _ _ hs).2 hl
  have up : ∀ {T : Tm}, Okv N T → Okv N' T := fun h => h.up hN
  refine ⟨fun T hT => ?_, fun T hT => ?_, fun T hT hz => ?_, fun T hT hz => ?_, fun S T hS hT hz => ?_⟩
  · rcases key T hT with ⟨_, e, _⟩ | ⟨_, ho, e⟩ | ⟨hv, hl, e, _⟩
    · rw [e]; exact hT
    · rw [e]; exact up (hR.ok T ho)
    · rw [e]; exact vT_ok hT.top.1 hT.top.2.1
  · rcases key T hT with ⟨h0, e, _⟩ | ⟨_, ho, e⟩ | ⟨hv, hl, e, _⟩
    · rw [e, e]
    · rw [e]
      have hU := hR.ok T ho
      have hi := hR.idem T ho
      rcases key (lk ρ T) (up hU) with ⟨_, e2, _⟩ | ⟨_, _, e2⟩ | ⟨_, hl2, _, _⟩
      · rw [e2]
      · rw [e2]; exact hi
      · have := hU.top.2.1; omega
    · rw [e]
      unfold lk τM
      rw [if_neg (show ¬ (vT T.v).v = 0 from hv), if_neg (show ¬ (vT T.v).v ≤ N from by show ¬ T.v ≤ N; omega)]
      rfl
  · rcases key T hT with ⟨_, e, e2⟩ | ⟨_, ho, e⟩ | ⟨hv, hl, e, _⟩
    · rw [e, e2]
    · rw [e] at hz ⊢; exact hR.fn T ho hz
    · rw [e] at hz; exact absurd hz hv
  · rcases key T hT with ⟨h0, e, e2⟩ | ⟨_, ho, e⟩ | ⟨hv, hl, e, e2⟩
    · rw [e] at hz; exact absurd h0 hz
    · rw [e] at hz; exact hR.vr T ho hz
    · rw [e2]; exact hv
  · have wl : ∀ T, Okv N T → (wha σ T).v ≤ N := fun T ho => (wha_okv hO ho).top.2.1
    rcases key S hS with ⟨h0, e, _⟩ | ⟨sv, so, se⟩ | ⟨sv, sl, se, sw⟩
    · rw [e] at hz; exact absurd h0 hz
    · rcases key T hT with ⟨t0, te, tw⟩ | ⟨_, tok, te⟩ | ⟨tv, tl, te, tw⟩
      · rw [se] at hz ⊢
        rw [te, tw]
        have := hR.vr S so hz
        constructor
        · intro h; exact absurd (h.trans t0) hz
        · intro h; exact absurd (h.trans t0) this
      · rw [se] at hz ⊢
        rw [te]; exact hR.cls S T so tok hz
      · rw [se] at hz ⊢
        rw [te, tw]
        have h1 := (hR.ok S so).top.2.1
        have h2 := wl S so
        constructor
        · intro h; have h : (lk ρ S).v = T.v := h; omega
        · intro h; omega
    · rcases key T hT with ⟨t0, te, tw⟩ | ⟨_, tok, te⟩ | ⟨tv, tl, te, tw⟩
      · rw [se, te, sw, tw]
        constructor
        · intro h; exact h
        · intro h; exact h
      · rw [se, te, sw]
        have h1 := (hR.ok T tok).top.2.1
        have h2 := wl T tok
        constructor
        · intro h; have h : S.v = (lk ρ T).v := h; omega
        · intro h; omega
      · rw [se, te, sw, tw]
        exact Iff.rfl
theorem chain_more {N N' : Int} {τ ρ : Int → Tm} {r : Int → Nat} (hN : N ≤ N') (h : Chain N τ ρ r) : Chain N' (τM τ N) (τM ρ N) r := by
  intro v h0 h1
  unfold τM
  by_cases hl : v ≤ N
  · rw [if_pos hl, if_pos hl]
    obtain ⟨ho, hc⟩ := h v h0 hl
    refine ⟨ho.up hN, ?_⟩
    rcases hc with hc | ⟨c1, c2, c3⟩
    · exact .inl hc
    · refine .inr ⟨c1, ?_, c3⟩
      rw [← c2]
      unfold lk
      by_cases hz : (τ v).v = 0
      · rw [if_pos hz, if_pos hz]
      · rw [if_neg hz, if_neg hz]
        show (if (τ v).v ≤ N then ρ (τ v).v else vT (τ v).v) = _
        rw [if_pos ho.top.2.1]
  · rw [if_neg hl, if_neg hl]
    exact ⟨vT_ok (by omega) h1, .inl ⟨rfl, rfl⟩⟩
theorem tsOf_more {τ : Int → Tm} {len : Nat} {N : Int} (hl : (len : Int) = N + 1) (k : Nat) : tsOf τ len ++ newV len k = tsOf (τM τ N) (len + k) := by
  refine List.ext_getElem (by simp [tsOf, newV]) fun i h1 h2 => ?_
  rw [tsOf_get]
  unfold τM
  by_cases hi : i < len
  · rw [List.getElem_append_left (by rw [tsOf_len]; exact hi), tsOf_get, if_pos (by omega)]
  · rw [List.getElem_append_right (by rw [tsOf_len]; omega)]
    simp only [tsOf_len, newV, List.getElem_map, List.getElem_range]
    rw [if_neg (by omega)]
    congr 1
    omega
theorem RF.more {K : Nat → Prop} {w w' : World} {b ob : Nat} {B : Value → Value → Obj} {lo g cap : Nat} {N : Int} {len : Nat} {τ ρ : Int → Tm} {r : Int → Nat} {σ : Sg} {wk : Int} (h : RF K w b ob B lo g cap N len τ ρ r σ wk) (hD : ∀ v U, σ v = some U → 0 < v ∧ v ≤ N) {v' : Value} (hS : RSt w' b ob B lo v' (tsOf τ len ++ newV len 12) wk) (hG : GF b b (.slice (some ⟨g, 0, none⟩) len cap) w w') (hT : TN (.slice (some ⟨g, 0, none⟩) len cap) v' w) (hbig : N + 12 ≤ 1000000) :
    ∃ g' cap', v' = .slice (some ⟨g', 0, none⟩) (len + 12) cap' ∧ (g' = g ∨ w.heap.size ≤ g') ∧ RF K w' b ob B lo g' cap' (N + 12) (len + 12) (τM τ N) (τM ρ N) r σ wk := by
  have hts := tsOf_more (τ := τ) h.ln 12
  have hlen : (tsOf (τM τ N) (len + 12)).length = len + 12 := tsOf_len _ _
  rw [hts] at hS
  have ho := hS.own
  rw [hlen] at ho
  obtain ⟨g', cap', rfl⟩ : ∃ g' cap', v' = .slice (some ⟨g', 0, none⟩) (len + 12) cap' := by
    rcases ho.2 with ⟨_, h0⟩ | ⟨g', cap', _, e, _⟩
    · omega
    · exact ⟨g', cap', e⟩
  have hgg : g' = g ∨ w.heap.size ≤ g' := by
    rcases hT g' rfl with e | e
    · exact .inl (by have : g = g' := by simpa [Value.ownBlock] using e
                     exact this.symm)
    · exact .inr e
  refine ⟨g', cap', rfl, hgg, hS, by have := h.ln; omega, hbig, chain_more (by omega) h.ch, rel_more (by omega) h.rel h.ok hD, h.dec, fun v U hv => (h.ok v U hv).up (by omega), fun v h0 h1 => ?_⟩
  unfold τM
  by_cases hv : v ≤ N
  · rw [if_pos hv]
    have := (h.trm v h0 hv).gf hG hT
    exact ⟨this.1, this.2.1.up (by omega), this.2.2.1, this.2.2.2.1, this.2.2.2.2⟩
  · rw [if_neg hv]
    have hn : ∀ k, NB k (vT v) := fun k => ⟨fun h => absurd h (Nat.lt_irrefl 0), fun i hi => absurd hi (Nat.not_lt_zero i)⟩
    exact ⟨vT_in _ _, vT_ok h0 h1, hn _, hn _, fun q _ => hn q⟩
end Go.Proofs.Ytmggaclaoefdaaa

namespace Go.Proofs.Ytmggaclaoefdaaa
open Go.RowKit

def kq (c : Kr) : QC := ⟨cgl c.gl, c.k, cs c.σ, c.N⟩
/-- What the reference's search in memory means. -/
def absQ (r : Rr) (N : Int) (σ : Sg) (gl : List Gl) (ch : List Kr) (an : List Tm) : QS := ⟨cgl gl, ch.map kq, cs σ, N, an.map ansC, r.fin.toNat, r.st.toNat⟩
theorem tq_none {P : Pg} {gs : List Gl} {t : Tm} {f j : Nat} {X : QS} {L : Nat} (h : fitP (cls P) t j = none) : tryQ (cls P) gs (can t) (f + 1) j X L = (X, false) := by
  rw [tryQ, fitP_can, h]
theorem tq_some {P : Pg} {gs : List Gl} {t A : Tm} {f j k : Nat} {X : QS} {L : Nat} {σ : Sg} (hX : X.σ = cs σ) (h : fitP (cls P) t j = some k) (hA : can A = ap (ownV X.N) (P.hd k)) : tryQ (cls P) gs (can t) (f + 1) j X L = match meetF (L + 1) σ L [(A, t)] with
    | .over => ({ X with fin := 3 }, false)
    | .no L' => tryQ (cls P) gs (can t) f (k + 1) X L'
    | .yes _ σ' => ({ X with N := X.N + 12, σ := cs σ', gl := ((kidsL (P.bd k)).map fun b => (ap (ownV X.N) b, X.ch.length)) ++ gs.tail, ch := match fitP (cls P) t (k + 1) with
          | none => X.ch
          | some q => X.ch ++ [⟨gs, q, X.σ, X.N⟩] }, true) := by
  have hk := (fit_lt h).2
  rw [tryQ, fitP_can, h]
  simp only
  rw [cls_get P hk, fitP_can, hX]
  have e1 : [(ap (ownV X.N) (can (P.hd k)), can t)] = [(A, t)].map can2 := by
    rw [ap_can, ← hA]; rfl
  simp only
  rw [e1, meetF_cs]
  cases meetF (L + 1) σ L [(A, t)] with
  | over => rfl
  | no L' => rfl
  | yes k' σ' =>
    have e2 : ((kidsL (P.bd k)).map can).map (fun b => (ap (ownV X.N) b, X.ch.length)) = (kidsL (P.bd k)).map fun b => (ap (ownV X.N) b, X.ch.length) := by
      rw [List.map_map]
      apply List.map_congr_left
      intro b _
      show (ap (ownV X.N) (can b), X.ch.length) = _
      rw [ap_can]
    show ({ X with N := X.N + 12, σ := cs σ', gl := ((kidsL (P.bd k)).map can).map (fun b => (ap (ownV X.N) b, X.ch.length)) ++ gs.tail, ch := _ }, true) = _
    rw [e2]
    rfl
theorem Try.info110 : (Try.prog.info? 110).map (fun i => (i.zero, i.size, i.bytes)) = some (some (.agg #[.int .i64 0, .string ⟨#[]⟩, .slice none 0 0, .int .i64 0]), 4, 56) := by kernel_rfl
theorem Try.info176 : (Try.prog.info? 176).map (fun i => (i.zero, i.size, i.bytes)) = some (some (.agg #[.slice none 0 0, .slice none 0 0, .int .i64 0]), 3, 56) := by kernel_rfl
/-- Goals as cells, one behind the other. -/
def flatT (l : List Gl) : List Value := l.flatMap cellsT
theorem flatT_append (l k : List Gl) : flatT (l ++ k) = flatT l ++ flatT k := by simp [flatT]
theorem flatT_len (l : List Gl) : (flatT l).length = l.length * 4 := by
  induction l with
  | nil => rfl
  | cons c l ih => rw [show flatT (c :: l) = cellsT c ++ flatT l from rfl, List.length_append, ih, List.length_cons]; simp [cellsT, cells3]; omega
theorem flatT_one (l : List Gl) : ∀ u ∈ flatT l, u.oneCell' = true := by
  intro u hu
  obtain ⟨q, _, hq⟩ := List.mem_flatMap.1 hu
  simp [cellsT, cells3] at hq
  rcases hq with rfl | rfl | rfl | rfl <;> rfl
theorem flatT_get (l : List Gl) : ∀ (k : Nat) (h : k < l.length) (j : Nat), j < 4 → (flatT l)[k * 4 + j]? = (cellsT l[k])[j]? := by
  induction l with
  | nil => intro k h; exact absurd h (Nat.not_lt_zero k)
  | cons c l ih =>
    intro k h j hj
    have hc : (cellsT c).length = 4 := rfl
    rw [show flatT (c :: l) = cellsT c ++ flatT l from rfl]
    cases k with
    | zero => rw [List.getElem?_append_left (by omega)]; simp
    | succ k =>
      rw [List.getElem?_append_right (by omega), hc, show (k + 1) * 4 + j - 4 = k * 4 + j from by omega]
      exact ih k (by simpa using h) j hj
/-- Goals in memory of one's own. -/
theorem td_own {w : World} {M : Nat → Prop} {N : Int} {lo : Nat} {v : Value} {gl : List Gl} (ho : w.ownsRow lo 110 4 v gl.length (flatT gl)) (hM : ∀ q, v.ownBlock = some q → ¬ M q) (ht : ∀ q ∈ gl, TIn w q.1 ∧ NM M q.1 ∧ Okv N q.1) : TD w M N v gl := by
  rcases ho.2 with ⟨rfl, h0⟩ | ⟨g, cap, cur, rfl, hlo, hg, hnc, hcm, hsz, htk⟩
  · exact ⟨none, 0, by rw [h0], by omega, Nat.zero_le _, fun i hi => by omega⟩
  · refine ⟨some ⟨g, 0, none⟩, cap, rfl, hnc, hcm, fun i hi => ⟨⟨g, 0, rfl, hM g rfl, fun j hj => ?_⟩, ht _ (List.getElem_mem hi)⟩⟩
    rw [Nat.zero_add, ho.cellAt (i * 4 + j) (by omega)]
    exact flatT_get gl i hi j hj
/-- The cells of goals that are appended. -/
theorem td_news {w : World} {M : Nat → Prop} {N : Int} {b o c : Nat} {gl : List Gl} (h : TD w M N (.slice (some ⟨b, o, none⟩) gl.length c) gl) : ∀ j u, (flatT gl)[j]? = some u → w.cell? ((⟨b, o, none⟩ : Addr).add j) = some u := by
  obtain ⟨a, c', e, _, _, h4⟩ := h
  injection e with e1 _ _
  intro j u hj
  have hl : j < (flatT gl).length := (List.getElem?_eq_some_iff.1 hj).1
  rw [flatT_len] at hl
  have hd : j / 4 < gl.length := by omega
  obtain ⟨⟨b', o', e', _, hc⟩, _⟩ := h4 (j / 4) hd
  rw [← e1] at e'
  injection e' with e'
  injection e' with eb eo _
  subst eb eo
  have hj2 : j / 4 * 4 + j % 4 = j := by omega
  have := hc (j % 4) (Nat.mod_lt _ (by omega))
  rw [← flatT_get gl (j / 4) hd (j % 4) (Nat.mod_lt _ (by omega)), hj2, hj, Nat.add_assoc, hj2] at this
  have ea : (⟨b, o, none⟩ : Addr).add j = ⟨b, o + j, none⟩ := by unfold Addr.add; split <;> simp_all
  rw [ea]; exact this
theorem tail_runT (bq oq ln cq : Nat) (h : 1 ≤ ln) (W : World) : (Instr.slice 105 (.slice (some ⟨bq, oq, none⟩) ln cq) (some (.int .i64 1)) none none).run Try.prog W = .ok (.slice (some ⟨bq, if cq = 1 then oq else oq + 4, none⟩) (ln - 1) (cq - 1)) W := by
  obtain ⟨i0, hi, hz0, hz1, hz2⟩ := info_parts Try.info110
  have h' : (1 : Int) ≤ (ln : Int) := by omega
  simp [Instr.slice, run_underlying Try.underlying105, Instr.sliceBounds, run_sliceBound, sizeOf, typeInfo, hi, hz1, h', Addr.add]
  by_cases h1 : cq = 1
  · rw [if_pos h1, if_pos h1]
  · rw [if_neg h1, if_neg h1]
/-- The first goal, and those behind it. -/
theorem TD.first {w : World} {M : Nat → Prop} {N : Int} {v : Value} {q : Gl} {rest : List Gl} (h : TD w M N v (q :: rest)) : ∃ b o c, v = .slice (some ⟨b, o, none⟩) (rest.length + 1) c ∧ rest.length + 1 ≤ c ∧ c ≤ maxLen ∧ ¬ M b ∧ (w.cell? ⟨b, o, none⟩ = some (.int .i64 q.1.v) ∧ w.cell? ⟨b, o + 1, none⟩ = some (.string q.1.nm) ∧ w.cell? ⟨b, o + 2, none⟩ = some (.slice q.1.a q.1.len q.1.cap) ∧ w.cell? ⟨b, o + 3, none⟩ = some (.int .i64 q.2)) ∧ (TIn w q.1 ∧ NM M q.1 ∧ Okv N q.1) ∧ TD w M N (.slice (some ⟨b, if c = 1 then o else o + 4, none⟩) rest.length (c - 1)) rest := by
  obtain ⟨a, c, e, hc, hm, h4⟩ := h
  obtain ⟨⟨b, o, rfl, hM, hcl⟩, hT⟩ := h4 0 (by simp)
  refine ⟨b, o, c, e, hc, hm, hM, ⟨?_, ?_, ?_, ?_⟩, hT, some ⟨b, if c = 1 then o else o + 4, none⟩, c - 1, rfl, by simp at hc; omega, by omega, fun i hi => ?_⟩
  · simpa [cellsT, cells3] using hcl 0 (by omega)
  · simpa [cellsT, cells3] using hcl 1 (by omega)
  · simpa [cellsT, cells3] using hcl 2 (by omega)
  · simpa [cellsT, cells3] using hcl 3 (by omega)
  · have hi' : i + 1 < (q :: rest).length := by simp; exact hi
    obtain ⟨⟨b', o', e', _, hcl'⟩, hT'⟩ := h4 (i + 1) hi'
    injection e' with e'
    injection e' with eb eo _
    subst eb eo
    have hc1 : ¬ c = 1 := by simp at hc; omega
    rw [if_neg hc1]
    refine ⟨⟨b, o + 4, rfl, hM, fun j hj => ?_⟩, hT'⟩
    have := hcl' j hj
    rw [show o + (i + 1) * 4 + j = o + 4 + i * 4 + j from by omega] at this
    exact this
theorem newsT (w : World) (q : Gl) : ∀ j u, (flatT [q])[j]? = some u → (w.alloc (.cells #[.int .i64 q.1.v, .string q.1.nm, .slice q.1.a q.1.len q.1.cap, .int .i64 q.2] 110)).cell? ((⟨w.heap.size, 0, none⟩ : Addr).add j) = some u := by
  intro j u hj
  have hb := heap_alloc_new w (.cells #[.int .i64 q.1.v, .string q.1.nm, .slice q.1.a q.1.len q.1.cap, .int .i64 q.2] 110)
  rw [addr_add, cell_of_row _ _ _ _ _ _ hb]
  simpa [flatT, cellsT, cells3] using hj
theorem newsK (w : World) (c : Kr) : ∀ j u, (flatK [c])[j]? = some u → (w.alloc (.cells #[c.bv, c.tv, .int .i64 c.k] 176)).cell? ((⟨w.heap.size, 0, none⟩ : Addr).add j) = some u := by
  intro j u hj
  have hb := heap_alloc_new w (.cells #[c.bv, c.tv, .int .i64 c.k] 176)
  rw [addr_add, cell_of_row _ _ _ _ _ _ hb]
  simpa [flatK, cellsK] using hj
theorem flatK_append (l k : List Kr) : flatK (l ++ k) = flatK l ++ flatK k := by unfold flatK; rw [List.map_append, List.flatten_append]
theorem flatK_len (l : List Kr) : (flatK l).length = l.length * 3 := by
  induction l with
  | nil => rfl
  | cons c l ih => rw [show flatK (c :: l) = cellsK c ++ flatK l from rfl, List.length_append, ih, List.length_cons]; simp [cellsK]; omega
theorem flatK_take (l : List Kr) : ∀ k, flatK (l.take k) = (flatK l).take (k * 3) := by
  induction l with
  | nil => intro k; simp [flatK]
  | cons c l ih =>
    intro k
    cases k with
    | zero => simp [flatK]
    | succ k =>
      rw [List.take_succ_cons, show flatK (c :: l) = cellsK c ++ flatK l from rfl, show flatK (c :: l.take k) = cellsK c ++ flatK (l.take k) from rfl, ih, List.take_append]
      rw [show (cellsK c).length = 3 from rfl, List.take_of_length_le (l := cellsK c) (by show 3 ≤ (k + 1) * 3; omega), show (k + 1) * 3 - 3 = k * 3 from by omega]
/-- Goals that are being laid, in memory of their own. -/
structure LstT (lo : Nat) (w : World) (v : Value) (td : List Gl) : Prop where
  own : w.ownsRow lo 110 4 v td.length (flatT td)
  all : ∀ q ∈ td, TIn w q.1 ∧ Above lo q.1 ∧ ∀ k, v.ownBlock = some k → NB k q.1
theorem LstT.nil (lo : Nat) (w : World) : LstT lo w (.slice none 0 0) [] := ⟨World.ownsRow_nil _ _ _ _, fun q hq => absurd hq (by simp)⟩
theorem LstT.keep {lo : Nat} {w w' : World} {v : Value} {td : List Gl} (h : LstT lo w v td) (hB : Below w.heap.size w w') : LstT lo w' v td :=
  ⟨rowk h.own (fun q hq => hB.block q (h.own.lt q hq).2), fun q hq => ⟨(h.all q hq).1.below hB, (h.all q hq).2⟩⟩
theorem LstT.more {lo : Nat} {w w' : World} {v v' : Value} {td : List Gl} {q : Gl} (h : LstT lo w v td) (hT : TIn w q.1) (hA : Above lo q.1) (hN : ∀ g, v.ownBlock = some g → NB g q.1)
    (hown : w'.ownsRow lo 110 4 v' (td.length + 1) (flatT td ++ flatT [q])) (hg : w.grownBy w' v.ownBlock) (hat : v'.ownBlock = v.ownBlock ∨ v'.ownBlock = some w.heap.size) : LstT lo w' v' (td ++ [q]) := by
  have hnb : ∀ X : Tm, TIn w X → (∀ g, v.ownBlock = some g → NB g X) → ∀ g, v'.ownBlock = some g → NB g X := fun X h1 h2 g hg => by
    rcases hat with e | e
    · exact h2 g (by rw [← e]; exact hg)
    · have : g = w.heap.size := by rw [e] at hg; exact (Option.some.inj hg).symm
      exact h1.nb (by omega)
  refine ⟨by rw [flatT_append, List.length_append]; exact hown, fun p hp => ?_⟩
  rcases List.mem_append.1 hp with hp | hp
  · obtain ⟨h1, h2, h3⟩ := h.all p hp
    exact ⟨h1.grown hg h3, h2, hnb _ h1 h3⟩
  · rw [List.mem_singleton] at hp
    subst hp
    exact ⟨hT.grown hg hN, hA, hnb _ hT hN⟩
theorem kept_form {w : World} {lo : Nat} {v : Value} {ch : List Kr} (h : w.ownsRow lo 176 3 v ch.length (flatK ch)) : ∃ a cp, v = .slice a ch.length cp ∧ ch.length ≤ cp ∧ cp ≤ maxLen ∧ ∀ k (hk : k < ch.length), ∃ g, a = some ⟨g, 0, none⟩ ∧ w.cell? ⟨g, k * 3, none⟩ = some ch[k].bv ∧ w.cell? ⟨g, k * 3 + 1, none⟩ = some ch[k].tv ∧ w.cell? ⟨g, k * 3 + 2, none⟩ = some (.int .i64 ch[k].k) := by
  rcases h.2 with ⟨rfl, h0⟩ | ⟨g, cap, cur, rfl, hlo, hg, hnc, hcm, hsz, htk⟩
  · exact ⟨none, 0, by rw [h0], by omega, by unfold maxLen; omega, fun k hk => by omega⟩
  · refine ⟨some ⟨g, 0, none⟩, cap, rfl, hnc, hcm, fun k hk => ⟨g, rfl, ?_⟩⟩
    have key : ∀ (l : List Kr) (k : Nat) (hk : k < l.length), (flatK l)[k * 3]? = some l[k].bv ∧ (flatK l)[k * 3 + 1]? = some l[k].tv ∧ (flatK l)[k * 3 + 2]? = some (.int .i64 l[k].k) := by
      intro l
      induction l with
      | nil => intro k hk; exact absurd hk (Nat.not_lt_zero k)
      | cons c l ih =>
        intro k hk
        rw [show flatK (c :: l) = cellsK c ++ flatK l from rfl]
        cases k with
        | zero => exact ⟨rfl, rfl, rfl⟩
        | succ k =>
          have hc : (cellsK c).length = 3 := rfl
          obtain ⟨h0, h1, h2⟩ := ih k (by simpa using hk)
          refine ⟨?_, ?_, ?_⟩
          · rw [List.getElem?_append_right (by omega), hc, show (k + 1) * 3 - 3 = k * 3 from by omega]; exact h0
          · rw [List.getElem?_append_right (by omega), hc, show (k + 1) * 3 + 1 - 3 = k * 3 + 1 from by omega]; exact h1
          · rw [List.getElem?_append_right (by omega), hc, show (k + 1) * 3 + 2 - 3 = k * 3 + 2 from by omega]; exact h2
    obtain ⟨h0, h1, h2⟩ := key ch k hk
    exact ⟨(h.cellAt (k * 3) (by omega)).trans h0, (h.cellAt (k * 3 + 1) (by omega)).trans h1, (h.cellAt (k * 3 + 2) (by omega)).trans h2⟩
/-- Variables that are something are among those that there are. -/
theorem meet_dom {N : Int} : ∀ (F : Nat) (σ : Sg) (L : Nat) (ps : List (Tm × Tm)) (k : Nat) (σ' : Sg), Dec σ → (∀ v U, σ v = some U → Okv N U) → (∀ v U, σ v = some U → 0 < v ∧ v ≤ N) → (∀ p ∈ ps, Okv N p.1 ∧ Okv N p.2) → meetF F σ L ps = .yes k σ' → ∀ v U, σ' v = some U → 0 < v ∧ v ≤ N := by
  intro F
  induction F with
  | zero => intro σ L ps k σ' _ _ _ _ h; cases h
  | succ F ih =>
    intro σ L ps k σ' hd hO hD hps h
    cases ps with
    | nil =>
      cases L <;> (injection h with _ e; subst e; exact hD)
    | cons p ps =>
      obtain ⟨x, y⟩ := p
      cases L with
      | zero => cases h
      | succ L =>
        have hx : Okv N x := (hps (x, y) (by simp)).1
        have hy : Okv N y := (hps (x, y) (by simp)).2
        have hr : ∀ p ∈ ps, Okv N p.1 ∧ Okv N p.2 := fun p hp => hps p (by simp [hp])
        have wx := wha_okv hO hx
        have wy := wha_okv hO hy
        have hup : ∀ (i : Int) (V : Tm), 0 < i ∧ i ≤ N → ∀ v U, upd σ i V v = some U → 0 < v ∧ v ≤ N := fun i V hi v U hv => by
          unfold upd at hv
          by_cases e : v = i
          · rw [e]; exact hi
          · rw [if_neg e] at hv; exact hD v U hv
        have hput : ∀ A B : Tm, Okv N A → Okv N B → A.v ≠ 0 → ∀ v U, put σ A B v = some U → 0 < v ∧ v ≤ N := fun A B hA hB hA0 v U hv => by
          have h1 := hA.top
          have h2 := hB.top
          unfold put at hv
          by_cases hlt : A.v < B.v
          · rw [if_pos hlt] at hv; exact hup B.v A (by omega) v U hv
          · rw [if_neg hlt] at hv; exact hup A.v B (by omega) v U hv
        rw [meetF] at h
        by_cases h1 : (wha σ x).v ≠ 0
        · rw [if_pos h1] at h
          by_cases h2 : (wha σ x).v = (wha σ y).v
          · rw [if_pos h2] at h; exact ih σ L ps k σ' hd hO hD hr h
          · rw [if_neg h2] at h
            obtain ⟨hd', hO'⟩ := dec_put hd hO hx hy h1 h2
            cases hw : within σ (wha σ x).v L [wha σ y] with
            | over => rw [hw] at h; cases h
            | found q => rw [hw] at h; cases h
            | free q => rw [hw] at h; exact ih _ q ps k σ' hd' hO' (hput _ _ wx wy h1) hr h
        · rw [if_neg h1] at h
          by_cases h2 : (wha σ y).v ≠ 0
          · rw [if_pos h2] at h
            obtain ⟨hd', hO'⟩ := dec_put hd hO hy hx h2 (by have h1 : (wha σ x).v = 0 := by simpa using h1
                                                            omega)
            cases hw : within σ (wha σ y).v L [wha σ x] with
            | over => rw [hw] at h; cases h
            | found q => rw [hw] at h; cases h
            | free q => rw [hw] at h; exact ih _ q ps k σ' hd' hO' (hput _ _ wy wx h2) hr h
          · rw [if_neg h2] at h
            by_cases h3 : (wha σ x).nm.toList = (wha σ y).nm.toList ∧ (wha σ x).len = (wha σ y).len
            · rw [if_pos h3] at h
              refine ih σ L _ k σ' hd hO hD (fun p hp => ?_) h
              rcases List.mem_append.1 hp with hp | hp
              · obtain ⟨i, hi, rfl⟩ := List.mem_map.1 hp
                have hi := List.mem_range.1 hi
                exact ⟨wx.kid hi, wy.kid (h3.2 ▸ hi)⟩
              · exact hr p hp
            · rw [if_neg h3] at h; cases h
end Go.Proofs.Ytmggaclaoefdaaa
