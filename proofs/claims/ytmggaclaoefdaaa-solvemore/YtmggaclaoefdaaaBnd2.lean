/- What, look: what they answer. -/
import Derived.Test.YtmggaclaoefdaaaBnd1
namespace Go.Proofs.Ytmggaclaoefdaaa
open Go.RowKit

set_option maxRecDepth 100000 in
set_option maxHeartbeats 4000000 in
theorem what_any {b m : Nat} {tv : Value} {N : Int} {lo n : Nat} {σ : Sg} {L : Int} (T : Tm) (w : World) (hS : VS w b m tv N lo n σ L) (hT : Okv N T) :
    Calls Try.prog 93 #[.pointer (some ⟨b, 0, none⟩), T.val] w fun e w' => e = .returned (wha σ T).val ∧ Below w.heap.size w w' ∧ Okv N (wha σ T) := by
  have HS : Hid (VS w b m tv N lo n σ L) := hS
  have HT : Hid (Okv N T) := hT
  have hbl := hS.lt
  clear hS hT
  show Calls Try.prog 93 #[.pointer (some ⟨b, 0, none⟩), .agg #[.int .i64 T.v, .string T.nm, .slice T.a T.len T.cap]] w _
  go_enter Try.func93, Try.ntmps93
  go_wp2_with fail
  go_loopg [] T.v.toNat (fun fu wr => ∃ U : Tm, wr.heap[w.heap.size]? = some (.cells #[.int .i64 U.v, .string U.nm, .slice U.a U.len U.cap] 24) ∧ wr.heap[w.heap.size + 1]? = some (.cells #[.int .i64 0, .string ⟨#[]⟩, .slice none 0 0] 24) ∧ Below w.heap.size w wr ∧ wha σ T = wha σ U ∧ Okv N U ∧ U.v.toNat ≤ fu)
  case atStart =>
    refine ⟨T, ?_, ?_, ((Below.refl _ _).alloc (Nat.le_refl _) _).alloc (by simp) _, rfl, HT.out, Nat.le_refl _⟩
    · rw [heap_alloc_old _ _ (by simp)]; exact heap_alloc_new w _
    · have := heap_alloc_new (w.alloc (.cells #[.int .i64 T.v, .string T.nm, .slice T.a T.len T.cap] 24)) (.cells #[.int .i64 0, .string ⟨#[]⟩, .slice none 0 0] 24)
      rwa [show (w.alloc (.cells #[.int .i64 T.v, .string T.nm, .slice T.a T.len T.cap] 24)).heap.size = w.heap.size + 1 from by simp] at this
  case round =>
    obtain ⟨U, hX, hY, hB, he, hU, hfu⟩ := hrel
    have HX : Hid (wr.heap[w.heap.size]? = some (.cells #[.int .i64 U.v, .string U.nm, .slice U.a U.len U.cap] 24)) := hX
    have HY : Hid (wr.heap[w.heap.size + 1]? = some (.cells #[.int .i64 0, .string ⟨#[]⟩, .slice none 0 0] 24)) := hY
    have HB : Hid (Below w.heap.size w wr) := hB
    have HE : Hid (wha σ T = wha σ U) := he
    have HU : Hid (Okv N U) := hU
    have HSr : Hid (VS wr b m tv N lo n σ L) := HS.out.below hB
    obtain ⟨x0, x1, x2, f0, f1, f2⟩ := block_cells hX
    obtain ⟨y0, y1, y2, g0, g1, g2⟩ := block_cells hY
    obtain ⟨u0, u1, _⟩ := hU.top
    have hN := HS.out.big
    obtain ⟨v0, v1, v2, k0, k1, k2⟩ := block_cells HSr.out.blk
    clear hX hY hB he hU
    by_cases hv : U.v = 0
    · have hvb : (U.v != 0) = false := by rw [hv]; rfl
      have HW : Hid (wha σ T = U) := by rw [Hid, HE.out, wha_fn hv]
      clear hv
      go_wp2_with fail
      obtain ⟨W', hW, z0, z1, z2, hB', _⟩ := fin3n (r := w.heap.size + 1) (by omega) HY.out HB.out (.int .i64 U.v) (.string U.nm) (.slice U.a U.len U.cap)
      rw [hW]
      refine bodyPost_ret (v := U.val) ?_ rfl ⟨by rw [HW.out], hB', by rw [HW.out]; exact HU.out⟩
      simp [results, Try.results93, go_sem, z0, z1, z2, Tm.val]
    · have hvb : (U.v != 0) = true := bne_iff_ne.2 hv
      obtain ⟨o, ho, hW⟩ := HSr.out.map.looks
      have hm : m < wr.heap.size := HSr.out.map.lt
      cases hs : σ U.v with
      | none =>
        have HW : Hid (wha σ T = U) := by rw [Hid, HE.out, wha_none hs]
        have hl : ∀ W : World, W.heap[m]? = some o → (Instr.lookup 140 (.map (some m)) (.int .i64 U.v) true).run Try.prog W = .ok (.tuple #[.agg #[.int .i64 0, .string ⟨#[]⟩, .slice none 0 0], .bool false]) W := fun W h => ((hW W h).look u0 (Int.le_trans u1 hN)).2 hs
        clear hW hs hv
        go_wp2_with fail
        have HKp : Hid (∀ W, Below wr.heap.size wr W → W.cell? ⟨b, 0, none⟩ = some (.map (some m)) ∧ W.cell? ⟨w.heap.size, 0, none⟩ = some (.int .i64 U.v) ∧ W.heap[m]? = some o) := fun W hB => ⟨(hB.cell (p := ⟨b, 0, none⟩) HSr.out.lt).trans v0, (hB.cell (p := ⟨w.heap.size, 0, none⟩) (lt_of_cell x0)).trans x0, (hB.block m hm).trans ho⟩
        go_region_held3 (fun w' => w'.cell? ⟨b, 0, none⟩ = some (.map (some m)) ∧ w'.cell? ⟨w.heap.size, 0, none⟩ = some (.int .i64 U.v) ∧ w'.heap[m]? = some o) ((refine HKp.out _ ?_; repeat (first | exact Below.refl _ _ | refine Below.drew ?_ | refine Below.alloc ?_ (by first | exact Nat.le_refl _ | simp) _ | refine Below.setCell ?_ (by first | exact Nat.le_refl _ | simp) _))) (fail)
        all_goals
          have HBn : Hid (Below wr.heap.size wr (wr.alloc (.cells #[.int .i64 0, .string ⟨#[]⟩, .slice none 0 0] 24)).drew) := ((Below.refl _ _).alloc (Nat.le_refl _) _).drew
          have HY2 : Hid ((wr.alloc (.cells #[.int .i64 0, .string ⟨#[]⟩, .slice none 0 0] 24)).drew.heap[w.heap.size + 1]? = some (.cells #[.int .i64 0, .string ⟨#[]⟩, .slice none 0 0] 24)) := (HBn.out.block _ (lt_of_cell y0)).trans HY.out
          have HX2 : Hid ((wr.alloc (.cells #[.int .i64 0, .string ⟨#[]⟩, .slice none 0 0] 24)).drew.heap[w.heap.size]? = some (.cells #[.int .i64 U.v, .string U.nm, .slice U.a U.len U.cap] 24)) := (HBn.out.block _ (lt_of_cell x0)).trans HX.out
          have HB2 : Hid (Below w.heap.size w (wr.alloc (.cells #[.int .i64 0, .string ⟨#[]⟩, .slice none 0 0] 24)).drew) := HB.out.trans (HBn.out.mono HB.out.size)
          generalize (wr.alloc (.cells #[.int .i64 0, .string ⟨#[]⟩, .slice none 0 0] 24)).drew = w2 at *
          clear x0 x1 x2 f0 f1 f2 y0 y1 y2 g0 g1 g2
          obtain ⟨x0, x1, x2, f0, f1, f2⟩ := block_cells HX2.out
          obtain ⟨y0, y1, y2, g0, g1, g2⟩ := block_cells HY2.out
          go_wp2_with fail
          obtain ⟨W', hW, z0, z1, z2, hB', _⟩ := fin3n (r := w.heap.size + 1) (by omega) HY2.out HB2.out (.int .i64 U.v) (.string U.nm) (.slice U.a U.len U.cap)
          rw [hW]
          refine bodyPost_ret (v := U.val) ?_ rfl ⟨by rw [HW.out], hB', by rw [HW.out]; exact HU.out⟩
          simp [results, Try.results93, go_sem, z0, z1, z2, Tm.val]
      | some V =>
        have HW : Hid (wha σ T = wha σ V) := by rw [Hid, HE.out, wha_some HS.out.dec u0 hv hs]
        have HV : Hid (Okv N V) := (HS.out.trm _ _ hs).2.1
        have hdec : V.v.toNat < U.v.toNat := by
          rcases HS.out.dec _ _ hs with h | ⟨h1, h2⟩ <;> omega
        have hl : ∀ W : World, W.heap[m]? = some o → (Instr.lookup 140 (.map (some m)) (.int .i64 U.v) true).run Try.prog W = .ok (.tuple #[.agg #[.int .i64 V.v, .string V.nm, .slice V.a V.len V.cap], .bool true]) W := fun W h => ((hW W h).look u0 (Int.le_trans u1 hN)).1 V hs
        clear hW hs hv
        go_wp2_with fail
        have HKp : Hid (∀ W, Below wr.heap.size wr W → W.cell? ⟨b, 0, none⟩ = some (.map (some m)) ∧ W.cell? ⟨w.heap.size, 0, none⟩ = some (.int .i64 U.v) ∧ W.heap[m]? = some o) := fun W hB => ⟨(hB.cell (p := ⟨b, 0, none⟩) HSr.out.lt).trans v0, (hB.cell (p := ⟨w.heap.size, 0, none⟩) (lt_of_cell x0)).trans x0, (hB.block m hm).trans ho⟩
        go_region_held3 (fun w' => w'.cell? ⟨b, 0, none⟩ = some (.map (some m)) ∧ w'.cell? ⟨w.heap.size, 0, none⟩ = some (.int .i64 U.v) ∧ w'.heap[m]? = some o) ((refine HKp.out _ ?_; repeat (first | exact Below.refl _ _ | refine Below.drew ?_ | refine Below.alloc ?_ (by first | exact Nat.le_refl _ | simp) _ | refine Below.setCell ?_ (by first | exact Nat.le_refl _ | simp) _))) (fail)
        all_goals
          have HBn : Hid (Below wr.heap.size wr (wr.alloc (.cells #[.int .i64 V.v, .string V.nm, .slice V.a V.len V.cap] 24)).drew) := ((Below.refl _ _).alloc (Nat.le_refl _) _).drew
          have HY2 : Hid ((wr.alloc (.cells #[.int .i64 V.v, .string V.nm, .slice V.a V.len V.cap] 24)).drew.heap[w.heap.size + 1]? = some (.cells #[.int .i64 0, .string ⟨#[]⟩, .slice none 0 0] 24)) := (HBn.out.block _ (lt_of_cell y0)).trans HY.out
          have HX2 : Hid ((wr.alloc (.cells #[.int .i64 V.v, .string V.nm, .slice V.a V.len V.cap] 24)).drew.heap[w.heap.size]? = some (.cells #[.int .i64 U.v, .string U.nm, .slice U.a U.len U.cap] 24)) := (HBn.out.block _ (lt_of_cell x0)).trans HX.out
          have HN2 : Hid ((wr.alloc (.cells #[.int .i64 V.v, .string V.nm, .slice V.a V.len V.cap] 24)).drew.heap[wr.heap.size]? = some (.cells #[.int .i64 V.v, .string V.nm, .slice V.a V.len V.cap] 24)) := heap_alloc_new wr _
          have HB2 : Hid (Below w.heap.size w (wr.alloc (.cells #[.int .i64 V.v, .string V.nm, .slice V.a V.len V.cap] 24)).drew) := HB.out.trans (HBn.out.mono HB.out.size)
          have hlt0 : w.heap.size + 1 < wr.heap.size := lt_of_cell y0
          generalize (wr.alloc (.cells #[.int .i64 V.v, .string V.nm, .slice V.a V.len V.cap] 24)).drew = w2 at *
          clear x0 x1 x2 f0 f1 f2 y0 y1 y2 g0 g1 g2
          obtain ⟨x0, x1, x2, f0, f1, f2⟩ := block_cells HX2.out
          obtain ⟨n0, n1, n2, _, _, _⟩ := block_cells HN2.out
          go_wp2_with fail
          obtain ⟨W', hW, z0, z1, z2, hB', hgr⟩ := fin3n (r := w.heap.size) (Nat.le_refl _) HX2.out HB2.out (.int .i64 V.v) (.string V.nm) (.slice V.a V.len V.cap)
          have hX3 := set3 (a := .int .i64 V.v) (b := .string V.nm) (c := .slice V.a V.len V.cap) HX2.out
          rw [hW] at hX3 ⊢
          go_roundg V.v.toNat
          case measure => omega
          case rel => exact ⟨V, hX3, (hgr.block _ (lt_of_cell (block_cells HY2.out).1) (by simp)).trans HY2.out, hB', HW.out, HV.out, Nat.le_refl _⟩

/-- The struct's block alone has turned. -/
theorem VS.atB {w w' : World} {b m : Nat} {tv : Value} {N : Int} {lo n : Nat} {σ : Sg} {L L' : Int} (h : VS w b m tv N lo n σ L) (hg : w.grownBy w' (some b)) (hb : w'.heap[b]? = some (.cells #[.map (some m), tv, .int .i64 L'] 142)) : VS w' b m tv N lo n σ L' := by
  refine ⟨hb, h.map.kept hg (fun e => h.ne (Option.some.inj e).symm), ?_, h.ne, h.tb, h.lob, fun v T hv => ?_, h.dec, h.big⟩
  · obtain ⟨tr, h1, h2⟩ := h.own
    refine ⟨tr, h1.kept hg ?_, h2⟩
    cases hv : tv.ownBlock with
    | none => exact .inl rfl
    | some g => exact .inr (by simpa using (h.tb g hv).1)
  · obtain ⟨h1, h2, h3, h4⟩ := h.trm v T hv
    exact ⟨h1.grown hg (fun k hk => by obtain rfl := Option.some.inj hk; exact h3), h2, h3, h4⟩
/-- Another block, which nothing of it touches, has turned. -/
theorem VS.atK {w w' : World} {b m : Nat} {tv : Value} {N : Int} {lo n : Nat} {σ : Sg} {L : Int} {k : Nat} (h : VS w b m tv N lo n σ L) (hg : w.grownBy w' (some k)) (h1 : k ≠ b) (h2 : k ≠ m) (h3 : ∀ g, tv.ownBlock = some g → g ≠ k) (h4 : ∀ v T, σ v = some T → NB k T) : VS w' b m tv N lo n σ L := by
  refine ⟨(hg.block b h.lt (by simp; omega)).trans h.blk, h.map.kept hg (fun e => h2 (Option.some.inj e).symm), ?_, h.ne, h.tb, h.lob, fun v T hv => ?_, h.dec, h.big⟩
  · obtain ⟨tr, g1, g2⟩ := h.own
    refine ⟨tr, g1.kept hg ?_, g2⟩
    cases hv : tv.ownBlock with
    | none => exact .inl rfl
    | some g => exact .inr (by simpa using h3 g hv)
  · obtain ⟨g1, g2⟩ := h.trm v T hv
    exact ⟨g1.grown hg (fun j hj => by obtain rfl := Option.some.inj hj; exact h4 v T hv), g2⟩
theorem setL {w : World} {b : Nat} {x y z c : Value} {t : TypeId} (h : w.heap[b]? = some (.cells #[x, y, z] t)) : (w.setCell ⟨b, 2, none⟩ c).heap[b]? = some (.cells #[x, y, c] t) := by
  simp only [World.setCell, Array.getElem?_modify]
  simp [h]

set_option maxRecDepth 100000 in
theorem look_any {b m : Nat} {tv : Value} {N : Int} {lo n : Nat} {σ : Sg} {L : Nat} (w : World) (hS : VS w b m tv N lo n σ L) (hL : L ≤ 4000) :
    Calls Try.prog 94 #[.pointer (some ⟨b, 0, none⟩)] w fun e w' => e = .returned (.bool (decide (1 ≤ (L : Int)))) ∧ VS w' b m tv N lo n σ ((L : Int) - 1) ∧ G b w w' := by
  have HS : Hid (VS w b m tv N lo n σ L) := hS
  obtain ⟨v0, v1, v2, k0, k1, k2⟩ := block_cells hS.blk
  have h2 := setL (c := .int .i64 ((L : Int) - 1)) hS.blk
  have HX : Hid ((w.setCell ⟨b, 2, none⟩ (.int .i64 ((L : Int) - 1))).heap[b]? = some (.cells #[.map (some m), tv, .int .i64 ((L : Int) - 1)] 142)) := h2
  have hc : (w.setCell ⟨b, 2, none⟩ (.int .i64 ((L : Int) - 1))).cell? ⟨b, 2, none⟩ = some (.int .i64 ((L : Int) - 1)) := by simp [World.cell?, h2]
  have HG : Hid (G b w (w.setCell ⟨b, 2, none⟩ (.int .i64 ((L : Int) - 1)))) := G.set b w 2 _
  clear hS h2
  go_enter Try.func94, Try.ntmps94
  go_wp2_with fail
  go_ret
  exact ⟨rfl, HS.out.atB HG.out HX.out, HG.out⟩

/-- What a term is, is itself, or what a variable is. -/
theorem wh_from (σ : Sg) : ∀ (k : Nat) (T : Tm), wh σ k T = T ∨ ∃ v, σ v = some (wh σ k T) := by
  intro k
  induction k with
  | zero => intro T; exact .inl rfl
  | succ k ih =>
    intro T
    rw [wh]
    by_cases hv : T.v = 0
    · rw [if_pos hv]; exact .inl rfl
    · rw [if_neg hv]
      cases hs : σ T.v with
      | none => exact .inl rfl
      | some U =>
        simp only
        rcases ih U with e | h
        · rw [e]; exact .inr ⟨_, hs⟩
        · exact .inr h
theorem VS.what {w : World} {b m : Nat} {tv : Value} {N : Int} {lo n : Nat} {σ : Sg} {L : Int} (h : VS w b m tv N lo n σ L) {T : Tm} (hT : TIn w T) (hb : NB b T) (hm : NB m T) (ht : ∀ g, tv.ownBlock = some g → NB g T) : TIn w (wha σ T) ∧ NB b (wha σ T) ∧ NB m (wha σ T) ∧ ∀ g, tv.ownBlock = some g → NB g (wha σ T) := by
  rcases wh_from σ (T.v.toNat + 1) T with e | ⟨v, e⟩
  · unfold wha; rw [e]; exact ⟨hT, hb, hm, ht⟩
  · obtain ⟨h1, _, h3, h4, h5⟩ := h.trm v _ e
    exact ⟨h1, h3, h4, h5⟩
end Go.Proofs.Ytmggaclaoefdaaa
