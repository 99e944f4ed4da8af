/- The reference's LookAt: what it answers. -/
import Derived.Test.YtmggaclaoefdaaaRf1
namespace Go.Proofs.Ytmggaclaoefdaaa
open Go.RowKit

/-- The reference's list of what variables are, one step at a time (τ), and what they are at the end (ρ); r counts the steps. -/
def Chain (N : Int) (τ ρ : Int → Tm) (r : Int → Nat) : Prop := ∀ v, 0 < v → v ≤ N → Okv N (τ v) ∧ (((τ v).v = v ∧ (ρ v).v = v) ∨ ((τ v).v ≠ v ∧ lk ρ (τ v) = ρ v ∧ ((τ v).v ≠ 0 → r (τ v).v < r v)))
/-- Where the reference's list lies: its slice in cell ob of block b, its terms in block g from o on. -/
structure ByIs (w : World) (b ob g o cap : Nat) (N : Int) (len : Nat) (τ : Int → Tm) : Prop where
  cel : w.cell? ⟨b, ob, none⟩ = some (.slice (some ⟨g, o, none⟩) len cap)
  ln : (len : Int) = N + 1
  big : N ≤ 1000000
  row : ∀ i, i < len → RowAt w (some ⟨g, o, none⟩) i (τ i)
theorem ByIs.below {w w' : World} {b ob g o cap : Nat} {N : Int} {len : Nat} {τ : Int → Tm} (h : ByIs w b ob g o cap N len τ) (hb : Below w.heap.size w w') : ByIs w' b ob g o cap N len τ :=
  ⟨(hb.cell (p := ⟨b, ob, none⟩) (lt_of_cell h.cel)).trans h.cel, h.ln, h.big, fun i hi => (h.row i hi).below hb⟩
def stp (r : Int → Nat) (U : Tm) : Nat := if U.v = 0 then 0 else r U.v + 1

theorem below_drewN2 {b : Nat} {w w' : World} (h : Below b w w') (n : Nat) : Below b w (w'.drewN n) := by
  induction n with
  | zero => exact h
  | succ n ih => exact ih.drew
theorem block_drewN (w : World) (n k : Nat) : (w.drewN n).heap[k]? = w.heap[k]? := by
  induction n with
  | zero => rfl
  | succ n ih => exact ih
set_option maxRecDepth 100000 in
set_option maxHeartbeats 4000000 in
theorem lookAt_any {b ob g o cap : Nat} {N : Int} {len : Nat} {τ ρ : Int → Tm} {r : Int → Nat} (T : Tm) (w : World) (hS : ByIs w b ob g o cap N len τ) (hC : Chain N τ ρ r) (hT : Okv N T) :
    Calls Try.prog 67 #[.pointer (some ⟨b, ob, none⟩), T.val] w fun e w' => ∃ Y : Tm, e = .returned Y.val ∧ Below w.heap.size w w' ∧ Lk N ρ T Y ∧ (Y = T ∨ ∃ v, 0 < v ∧ v ≤ N ∧ Y = τ v) := by
  have HS : Hid (ByIs w b ob g o cap N len τ) := hS
  have HC : Hid (Chain N τ ρ r) := hC
  have HT : Hid (Okv N T) := hT
  have hbl : b < w.heap.size := lt_of_cell hS.cel
  have hlen := hS.ln
  clear hS hT hC
  show Calls Try.prog 67 #[.pointer (some ⟨b, ob, none⟩), .agg #[.int .i64 T.v, .string T.nm, .slice T.a T.len T.cap]] w _
  go_enter Try.func67, Try.ntmps67
  go_wp2_with fail
  go_loopg [] (stp r T) (fun fu wr => ∃ U : Tm, wr.heap[w.heap.size]? = some (.cells #[.int .i64 U.v, .string U.nm, .slice U.a U.len U.cap] 24) ∧ wr.heap[w.heap.size + 1]? = some (.cells #[.int .i64 0, .string ⟨#[]⟩, .slice none 0 0] 24) ∧ Below w.heap.size w wr ∧ lk ρ U = lk ρ T ∧ Okv N U ∧ (U = T ∨ ∃ v, 0 < v ∧ v ≤ N ∧ U = τ v) ∧ stp r U ≤ fu)
  case atStart =>
    refine ⟨T, ?_, ?_, ((Below.refl _ _).alloc (Nat.le_refl _) _).alloc (by simp) _, rfl, HT.out, .inl rfl, Nat.le_refl _⟩
    · rw [heap_alloc_old _ _ (by simp)]; exact heap_alloc_new w _
    · have := heap_alloc_new (w.alloc (.cells #[.int .i64 T.v, .string T.nm, .slice T.a T.len T.cap] 24)) (.cells #[.int .i64 0, .string ⟨#[]⟩, .slice none 0 0] 24)
      rwa [show (w.alloc (.cells #[.int .i64 T.v, .string T.nm, .slice T.a T.len T.cap] 24)).heap.size = w.heap.size + 1 from by simp] at this
  case round =>
    obtain ⟨U, hX, hY, hB, he, hU, hF, hfu⟩ := hrel
    have HX : Hid (wr.heap[w.heap.size]? = some (.cells #[.int .i64 U.v, .string U.nm, .slice U.a U.len U.cap] 24)) := hX
    have HY : Hid (wr.heap[w.heap.size + 1]? = some (.cells #[.int .i64 0, .string ⟨#[]⟩, .slice none 0 0] 24)) := hY
    have HB : Hid (Below w.heap.size w wr) := hB
    have HE : Hid (lk ρ U = lk ρ T) := he
    have HU : Hid (Okv N U) := hU
    have HF : Hid (U = T ∨ ∃ v, 0 < v ∧ v ≤ N ∧ U = τ v) := hF
    have Hfu : Hid (stp r U ≤ gk) := hfu
    obtain ⟨x0, x1, x2, f0, f1, f2⟩ := block_cells hX
    obtain ⟨y0, y1, y2, g0, g1, g2⟩ := block_cells hY
    obtain ⟨u0, u1, _⟩ := hU.top
    have hSr := HS.out.below hB
    have k0 := hSr.cel
    clear hX hY hB he hU hF hfu
    by_cases hv : U.v = 0
    · have hvb : (U.v != 0) = false := by rw [hv]; rfl
      have HL : Hid (Lk N ρ T U) := ⟨by rw [← HE.out]; unfold lk; rw [if_pos hv], fun _ => by rw [← HE.out]; unfold lk; rw [if_pos hv], HU.out⟩
      clear hv hSr
      go_wp2_with fail
      go_quiet (fail)
      have HBn : Hid (Below w.heap.size w (wr.drewN nq)) := below_drewN2 HB.out nq
      have HYn : Hid ((wr.drewN nq).heap[w.heap.size + 1]? = some (.cells #[.int .i64 0, .string ⟨#[]⟩, .slice none 0 0] 24)) := (block_drewN wr nq _).trans HY.out
      have HXn : Hid ((wr.drewN nq).heap[w.heap.size]? = some (.cells #[.int .i64 U.v, .string U.nm, .slice U.a U.len U.cap] 24)) := (block_drewN wr nq _).trans HX.out
      generalize wr.drewN nq = wn at *
      clear x0 x1 x2 f0 f1 f2 y0 y1 y2 g0 g1 g2
      obtain ⟨x0, x1, x2, f0, f1, f2⟩ := block_cells HXn.out
      obtain ⟨y0, y1, y2, g0, g1, g2⟩ := block_cells HYn.out
      go_wp2_with fail
      obtain ⟨W', hW, z0, z1, z2, hB', _⟩ := fin3n (r := w.heap.size + 1) (by omega) HYn.out HBn.out (.int .i64 U.v) (.string U.nm) (.slice U.a U.len U.cap)
      rw [hW]
      refine bodyPost_ret (v := U.val) ?_ rfl ⟨U, rfl, hB', HL.out, HF.out⟩
      simp [results, Try.results67, go_sem, z0, z1, z2, Tm.val]
    · have hvb : (U.v != 0) = true := bne_iff_ne.2 hv
      obtain ⟨n, hn⟩ : ∃ n : Nat, U.v = n := ⟨U.v.toNat, by omega⟩
      have hnl : n < len := by omega
      have hnI : (n : Int) < (len : Int) := by omega
      obtain ⟨b', o', e', c0, c1, c2⟩ := hSr.row n hnl
      cases e'
      have HCn := HC.out U.v (by omega) u1
      rw [hn] at HCn
      by_cases hf : (τ (n : Int)).v = n
      · have hfb : ((τ (n : Int)).v != (n : Int)) = false := by rw [hf]; simp
        have HL : Hid (Lk N ρ T U) := by
          refine ⟨?_, fun h => absurd h hv, HU.out⟩
          rw [← HE.out]
          unfold lk
          rw [if_neg hv, hn]
          rcases HCn.2 with h | h
          · exact h.2.symm
          · exact absurd hf h.1
        have HN : Hid (U.v = n) := hn
        rw [hn] at x0 hvb
        clear hv hSr HCn hf hn
        go_wp2_with fail
        go_quiet (fail)
        have HBn : Hid (Below w.heap.size w (wr.drewN nq)) := below_drewN2 HB.out nq
        have HYn : Hid ((wr.drewN nq).heap[w.heap.size + 1]? = some (.cells #[.int .i64 0, .string ⟨#[]⟩, .slice none 0 0] 24)) := (block_drewN wr nq _).trans HY.out
        have HXn : Hid ((wr.drewN nq).heap[w.heap.size]? = some (.cells #[.int .i64 U.v, .string U.nm, .slice U.a U.len U.cap] 24)) := (block_drewN wr nq _).trans HX.out
        generalize wr.drewN nq = wn at *
        clear x0 x1 x2 f0 f1 f2 y0 y1 y2 g0 g1 g2
        obtain ⟨x0, x1, x2, f0, f1, f2⟩ := block_cells HXn.out
        obtain ⟨y0, y1, y2, g0, g1, g2⟩ := block_cells HYn.out
        go_wp2_with fail
        obtain ⟨W', hW, z0, z1, z2, hB', _⟩ := fin3n (r := w.heap.size + 1) (by omega) HYn.out HBn.out (.int .i64 U.v) (.string U.nm) (.slice U.a U.len U.cap)
        rw [hW]
        refine bodyPost_ret (v := U.val) ?_ rfl ⟨U, rfl, hB', HL.out, HF.out⟩
        simp [results, Try.results67, go_sem, z0, z1, z2, Tm.val]
      · have hfb : ((τ (n : Int)).v != (n : Int)) = true := bne_iff_ne.2 hf
        have HV : Hid (lk ρ (τ (n : Int)) = lk ρ T ∧ Okv N (τ (n : Int)) ∧ stp r (τ (n : Int)) < gk) := by
          rcases HCn.2 with h | h
          · exact absurd h.1 hf
          · refine ⟨?_, HCn.1, ?_⟩
            · rw [h.2.1, ← HE.out]; unfold lk; rw [if_neg hv, hn]
            · refine Nat.lt_of_lt_of_le ?_ Hfu.out
              unfold stp
              rw [if_neg hv, hn]
              split
              · omega
              · rename_i h0
                have := h.2.2 h0
                omega
        have HN : Hid (0 < (n : Int) ∧ (n : Int) ≤ N) := ⟨by omega, by omega⟩
        have HNe : Hid (U.v = n) := hn
        rw [hn] at x0 hvb
        clear hv hSr HCn hf hn
        go_wp2_with fail
        go_quiet (fail)
        have HBn : Hid (Below w.heap.size w (wr.drewN nq)) := below_drewN2 HB.out nq
        have HYn : Hid ((wr.drewN nq).heap[w.heap.size + 1]? = some (.cells #[.int .i64 0, .string ⟨#[]⟩, .slice none 0 0] 24)) := (block_drewN wr nq _).trans HY.out
        have HXn : Hid ((wr.drewN nq).heap[w.heap.size]? = some (.cells #[.int .i64 U.v, .string U.nm, .slice U.a U.len U.cap] 24)) := (block_drewN wr nq _).trans HX.out
        generalize wr.drewN nq = wn at *
        clear x0 x1 x2 f0 f1 f2 y0 y1 y2 g0 g1 g2 k0 c0 c1 c2
        obtain ⟨x0, x1, x2, f0, f1, f2⟩ := block_cells HXn.out
        rw [HNe.out] at x0
        have HKp : Hid (∀ W, Below w.heap.size w W → W.cell? ⟨b, ob, none⟩ = some (.slice (some ⟨g, o, none⟩) len cap) ∧ W.cell? ⟨g, o + n * 3, none⟩ = some (.int .i64 (τ (n : Int)).v) ∧ W.cell? ⟨g, o + n * 3 + 1, none⟩ = some (.string (τ (n : Int)).nm) ∧ W.cell? ⟨g, o + n * 3 + 2, none⟩ = some (.slice (τ (n : Int)).a (τ (n : Int)).len (τ (n : Int)).cap)) := fun W hW => by
          have h := HS.out.below hW
          obtain ⟨b', o', e', c0, c1, c2⟩ := h.row n hnl
          cases e'
          exact ⟨h.cel, c0, c1, c2⟩
        obtain ⟨k0, c0, c1, c2⟩ := HKp.out _ HBn.out
        go_wp2_with fail
        go_region
        all_goals
          obtain ⟨W', hW, z0, z1, z2, hB', hgr⟩ := fin3n (r := w.heap.size) (Nat.le_refl _) HXn.out HBn.out (.int .i64 (τ (n : Int)).v) (.string (τ (n : Int)).nm) (.slice (τ (n : Int)).a (τ (n : Int)).len (τ (n : Int)).cap)
          have hX3 := set3 (a := .int .i64 (τ (n : Int)).v) (b := .string (τ (n : Int)).nm) (c := .slice (τ (n : Int)).a (τ (n : Int)).len (τ (n : Int)).cap) HXn.out
          rw [hW] at hX3 ⊢
          go_wp2_with fail
          go_roundg (stp r (τ (n : Int)))
          case measure => exact HV.out.2.2
          case rel => exact ⟨(τ (n : Int)), hX3, (hgr.block _ (lt_of_cell (block_cells HYn.out).1) (by simp)).trans HYn.out, hB'.drew, HV.out.1, HV.out.2.1, .inr ⟨_, HN.out.1, HN.out.2, rfl⟩, Nat.le_refl _⟩
end Go.Proofs.Ytmggaclaoefdaaa
