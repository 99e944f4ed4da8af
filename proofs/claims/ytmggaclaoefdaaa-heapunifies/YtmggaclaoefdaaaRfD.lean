/- The reference's Meet, walked. -/
import Derived.Test.YtmggaclaoefdaaaRfC
namespace Go.Proofs.Ytmggaclaoefdaaa
open Go.RowKit

/-- What Meet says of two terms: so much may still be looked at. -/
def MP (w : World) (b ob : Nat) (B : Value → Value → Obj) (lo g cap : Nat) (N : Int) (len : Nat) (σ : Sg) (L : Nat) (S T : Tm) (e : Ending) (w' : World) : Prop := GF b b (.slice (some ⟨g, 0, none⟩) len cap) w w' ∧ (
  (e = .returned (.int .i64 2) ∧ ∀ F, L < F → meetF F σ L [(S, T)] = .over) ∨
  (∃ k : Nat, k ≤ L ∧ e = .returned (.int .i64 0) ∧ (∀ F, L < F → meetF F σ L [(S, T)] = .no k) ∧ ∃ τ' ρ' r' σ', RF w' b ob B lo g cap N len τ' ρ' r' σ' (4000 - (k : Int))) ∨
  (∃ (k : Nat) (σ' : Sg), k ≤ L ∧ e = .returned (.int .i64 1) ∧ (∀ F, L < F → meetF F σ L [(S, T)] = .yes k σ') ∧ ∃ τ' ρ' r', RF w' b ob B lo g cap N len τ' ρ' r' σ' (4000 - (k : Int))))
/-- Where the pairs lie that wait. -/
structure PW (w : World) (b g : Nat) (V : Value) (N : Int) (lo : Nat) (a : Option Addr) (c : Nat) (ps : List (Tm × Tm)) : Prop where
  row : ∀ i (hi : i < ps.length), PRow w a i ps[i]
  at' : ∀ k o, a = some ⟨k, o, none⟩ → lo ≤ k
  good : ∀ p ∈ ps, Good w b b V N p.1 ∧ Good w b b V N p.2
  cap : ps.length ≤ c
theorem PW.gf {w w' : World} {b g : Nat} {V : Value} {N : Int} {lo : Nat} {a : Option Addr} {c : Nat} {ps : List (Tm × Tm)} (h : PW w b g V N lo a c ps) (hg : GF b b V w w') (hb : b < lo) (hv : ∀ k, V.ownBlock = some k → k < lo) : PW w' b g V N lo a c ps :=
  ⟨fun i hi => (h.row i hi).gf hg (fun k o e => by have := h.at' k o e; exact ⟨by omega, fun q hq => by have := hv q hq; omega⟩), h.at', fun p hp => ⟨(h.good p hp).1.gf hg (TN.refl _ _), (h.good p hp).2.gf hg (TN.refl _ _)⟩, h.cap⟩
theorem RF.froz {w : World} {b ob : Nat} {B : Value → Value → Obj} {lo g cap : Nat} {N : Int} {len : Nat} {τ ρ : Int → Tm} {r : Int → Nat} {σ : Sg} {wk : Int} (h : RF w b ob B lo g cap N len τ ρ r σ wk) (i : Nat) : w.frozen? ⟨g, i, none⟩ = false := by
  rcases h.st.own.2 with ⟨h', _⟩ | ⟨g', cap', cur, h', _, hg', _⟩
  · cases h'
  · obtain ⟨e, _, _⟩ := Value.slice.inj h'
    cases e
    simp [World.frozen?, hg']
theorem below_alloc {w w' : World} (h : Below w.heap.size w w') (o : Obj) : Below w.heap.size w (w'.alloc o) := h.alloc h.size o
theorem below_after {W Wx w1 : World} (h : Below W.heap.size W Wx) (h1 : Below Wx.heap.size Wx w1) : Below W.heap.size W w1 := h.trans (h1.mono h.size)
theorem alloc2 (W : World) (o p : Obj) : ((W.alloc o).alloc p).heap[W.heap.size]? = some o ∧ ((W.alloc o).alloc p).heap[W.heap.size + 1]? = some p := by
  constructor
  · rw [heapOld _ _ (by simp)]; exact heap_alloc_new W _
  · have := heap_alloc_new (W.alloc o) p
    rwa [show (W.alloc o).heap.size = W.heap.size + 1 from by simp] at this
theorem box_a {W w1 : World} {o : Obj} (h : Below (W.alloc o).heap.size (W.alloc o) w1) : w1.heap[W.heap.size]? = some o := (h.block _ (by simp)).trans (heap_alloc_new W o)
theorem box_b {W w1 : World} {o p : Obj} (h : Below ((W.alloc o).alloc p).heap.size ((W.alloc o).alloc p) w1) : w1.heap[W.heap.size]? = some o ∧ w1.heap[W.heap.size + 1]? = some p := ⟨(h.block _ (by simp; omega)).trans (alloc2 W o p).1, (h.block _ (by simp)).trans (alloc2 W o p).2⟩
theorem box_keep {w1 Wy w2 : World} {k : Nat} {o : Obj} (h2 : Below Wy.heap.size Wy w2) (h : w1.heap[k]? = some o) (hy : Below w1.heap.size w1 Wy) : w2.heap[k]? = some o := ((hy.trans (h2.mono hy.size)).block k (Array.getElem?_eq_some_iff.1 h).1).trans h
theorem boxs {W w3 : World} {k8 k9 : Nat} {a0 a1 a2 c0 c1 c2 : Value} (h8 : w3.heap[k8]? = some (.cells #[a0, a1, a2] 24)) (h9 : w3.heap[k9]? = some (.cells #[c0, c1, c2] 24)) (hne : k8 ≠ k9) (hl8 : W.heap.size ≤ k8) (hl9 : W.heap.size ≤ k9) (hB : Below W.heap.size W w3) (x0 x1 x2 y0 y1 y2 : Value) :
    (((((((w3.setCell ⟨k8, 0, none⟩ x0).setCell ⟨k8, 1, none⟩ x1).setCell ⟨k8, 2, none⟩ x2).setCell ⟨k9, 0, none⟩ y0).setCell ⟨k9, 1, none⟩ y1).setCell ⟨k9, 2, none⟩ y2).heap[k8]? = some (.cells #[x0, x1, x2] 24)) ∧
    (((((((w3.setCell ⟨k8, 0, none⟩ x0).setCell ⟨k8, 1, none⟩ x1).setCell ⟨k8, 2, none⟩ x2).setCell ⟨k9, 0, none⟩ y0).setCell ⟨k9, 1, none⟩ y1).setCell ⟨k9, 2, none⟩ y2).heap[k9]? = some (.cells #[y0, y1, y2] 24)) ∧ k8 ≠ k9 ∧ W.heap.size ≤ k8 ∧ W.heap.size ≤ k9 ∧
    Below W.heap.size W ((((((w3.setCell ⟨k8, 0, none⟩ x0).setCell ⟨k8, 1, none⟩ x1).setCell ⟨k8, 2, none⟩ x2).setCell ⟨k9, 0, none⟩ y0).setCell ⟨k9, 1, none⟩ y1).setCell ⟨k9, 2, none⟩ y2) := by
  have hgA : w3.grownBy (((w3.setCell ⟨k8, 0, none⟩ x0).setCell ⟨k8, 1, none⟩ x1).setCell ⟨k8, 2, none⟩ x2) (some k8) := G.trans (G.trans (grown_set _ 0 _) (grown_set _ 1 _)) (grown_set _ 2 _)
  have hXA := set3 (a := x0) (b := x1) (c := x2) h8
  have hTA := (hgA.block k9 (Array.getElem?_eq_some_iff.1 h9).1 (by simp; omega)).trans h9
  have hBA := hB.grown hgA (by have := hB.size; omega) (fun k hk => by have := Option.some.inj hk; omega)
  generalize ((w3.setCell ⟨k8, 0, none⟩ x0).setCell ⟨k8, 1, none⟩ x1).setCell ⟨k8, 2, none⟩ x2 = wA at *
  have hgB : wA.grownBy (((wA.setCell ⟨k9, 0, none⟩ y0).setCell ⟨k9, 1, none⟩ y1).setCell ⟨k9, 2, none⟩ y2) (some k9) := G.trans (G.trans (grown_set _ 0 _) (grown_set _ 1 _)) (grown_set _ 2 _)
  have hTB := set3 (a := y0) (b := y1) (c := y2) hTA
  have hXB := (hgB.block k8 (Array.getElem?_eq_some_iff.1 hXA).1 (by simp; omega)).trans hXA
  exact ⟨hXB, hTB, hne, hl8, hl9, hBA.grown hgB (by have := hBA.size; omega) (fun k hk => by have := Option.some.inj hk; omega)⟩
theorem below_set {w w' : World} {k i : Nat} {v : Value} (h : Below w.heap.size w w') (hk : w.heap.size ≤ k) : Below w.heap.size w (w'.setCell ⟨k, i, none⟩ v) := h.grown (grown_set k i v) h.size (fun j hj => by have := Option.some.inj hj; omega)
theorem boxs_aa {W w2 : World} (hB : Below W.heap.size W w2) (o p : Obj) : ((w2.alloc o).alloc p).heap[w2.heap.size]? = some o ∧ ((w2.alloc o).alloc p).heap[w2.heap.size + 1]? = some p ∧ w2.heap.size ≠ w2.heap.size + 1 ∧ W.heap.size ≤ w2.heap.size ∧ W.heap.size ≤ w2.heap.size + 1 ∧ Below W.heap.size W ((w2.alloc o).alloc p) :=
  ⟨(alloc2 _ _ _).1, (alloc2 _ _ _).2, by omega, hB.size, by have := hB.size; omega, below_alloc (below_alloc hB _) _⟩
theorem boxs_ab {W w2 : World} (hB : Below W.heap.size W w2) (o p : Obj) : ((w2.alloc p).alloc o).heap[w2.heap.size + 1]? = some o ∧ ((w2.alloc p).alloc o).heap[w2.heap.size]? = some p ∧ w2.heap.size + 1 ≠ w2.heap.size ∧ W.heap.size ≤ w2.heap.size + 1 ∧ W.heap.size ≤ w2.heap.size ∧ Below W.heap.size W ((w2.alloc p).alloc o) :=
  ⟨(alloc2 _ _ _).2, (alloc2 _ _ _).1, by omega, by have := hB.size; omega, hB.size, below_alloc (below_alloc hB _) _⟩
theorem boxs_sa {W w2 : World} {k : Nat} {a0 a1 a2 : Value} (h : w2.heap[k]? = some (.cells #[a0, a1, a2] 24)) (hB : Below W.heap.size W w2) (hk : W.heap.size ≤ k) (x0 x1 x2 : Value) (p : Obj) :
    ((((w2.setCell ⟨k, 0, none⟩ x0).setCell ⟨k, 1, none⟩ x1).setCell ⟨k, 2, none⟩ x2).alloc p).heap[k]? = some (.cells #[x0, x1, x2] 24) ∧ ((((w2.setCell ⟨k, 0, none⟩ x0).setCell ⟨k, 1, none⟩ x1).setCell ⟨k, 2, none⟩ x2).alloc p).heap[w2.heap.size]? = some p ∧ k ≠ w2.heap.size ∧ W.heap.size ≤ k ∧ W.heap.size ≤ w2.heap.size ∧ Below W.heap.size W ((((w2.setCell ⟨k, 0, none⟩ x0).setCell ⟨k, 1, none⟩ x1).setCell ⟨k, 2, none⟩ x2).alloc p) := by
  have hX := set3 (a := x0) (b := x1) (c := x2) h
  have hk2 := (Array.getElem?_eq_some_iff.1 h).1
  have hB3 : Below W.heap.size W (((w2.setCell ⟨k, 0, none⟩ x0).setCell ⟨k, 1, none⟩ x1).setCell ⟨k, 2, none⟩ x2) := below_set (below_set (below_set hB hk) hk) hk
  have hs : (((w2.setCell ⟨k, 0, none⟩ x0).setCell ⟨k, 1, none⟩ x1).setCell ⟨k, 2, none⟩ x2).heap.size = w2.heap.size := by simp [World.setCell]
  generalize ((w2.setCell ⟨k, 0, none⟩ x0).setCell ⟨k, 1, none⟩ x1).setCell ⟨k, 2, none⟩ x2 = w3 at *
  refine ⟨(heapOld _ _ (by omega)).trans hX, ?_, by omega, hk, hB.size, below_alloc hB3 _⟩
  rw [← hs]; exact heap_alloc_new _ _
theorem lookAt_agg {b ob g o cap : Nat} {N : Int} {len : Nat} {τ ρ : Int → Tm} {r : Int → Nat} (T : Tm) (w : World) (hS : ByIs w b ob g o cap N len τ) (hC : Chain N τ ρ r) (hT : Okv N T) :
    Calls Try.prog 67 #[.pointer (some ⟨b, ob, none⟩), .agg #[.int .i64 T.v, .string T.nm, .slice T.a T.len T.cap]] w fun e w' => ∃ Y : Tm, e = .returned (.agg #[.int .i64 Y.v, .string Y.nm, .slice Y.a Y.len Y.cap]) ∧ Below w.heap.size w w' ∧ Lk N ρ T Y ∧ (Y = T ∨ ∃ v, 0 < v ∧ v ≤ N ∧ Y = τ v) := lookAt_any T w hS hC hT
set_option maxRecDepth 100000 in
set_option maxHeartbeats 8000000 in
theorem meet_any {b ob : Nat} {B : Value → Value → Obj} {lo g cap : Nat} {N : Int} {len : Nat} {τ ρ : Int → Tm} {r : Int → Nat} {σ : Sg} (L0 : Nat) (S T : Tm) (w : World) (hR : RF w b ob B lo g cap N len τ ρ r σ (4000 - (L0 : Int))) (hL : L0 ≤ 4000) (hS : Good w b b (.slice (some ⟨g, 0, none⟩) len cap) N S) (hT : Good w b b (.slice (some ⟨g, 0, none⟩) len cap) N T) :
    Calls Try.prog 66 #[.pointer (some ⟨b, ob, none⟩), S.val, T.val] w (MP w b ob B lo g cap N len σ L0 S T) := by
  have HR : Hid (RF w b ob B lo g cap N len τ ρ r σ (4000 - (L0 : Int))) := hR
  have HS : Hid (Good w b b (.slice (some ⟨g, 0, none⟩) len cap) N S ∧ Good w b b (.slice (some ⟨g, 0, none⟩) len cap) N T) := ⟨hS, hT⟩
  have Hbg : Hid (b < w.heap.size ∧ g < w.heap.size) := ⟨hR.lt.1, hR.lt.2.1⟩
  clear hR hS hT
  show Calls Try.prog 66 #[.pointer (some ⟨b, ob, none⟩), .agg #[.int .i64 S.v, .string S.nm, .slice S.a S.len S.cap], .agg #[.int .i64 T.v, .string T.nm, .slice T.a T.len T.cap]] w _
  go_enter Try.func66, Try.ntmps66
  go_wp2_with fail
  go_loopg [7] L0 (fun fu v wr => ∃ (ps : List (Tm × Tm)) (a : Option Addr) (c : Nat) (τ' ρ' : Int → Tm) (r' : Int → Nat) (σ' : Sg), v = .slice a ps.length c ∧ PW wr b g (.slice (some ⟨g, 0, none⟩) len cap) N w.heap.size a c ps ∧ RF wr b ob B lo g cap N len τ' ρ' r' σ' (4000 - (fu : Int)) ∧ GF b b (.slice (some ⟨g, 0, none⟩) len cap) w wr ∧ (∀ F, L0 < F → ∃ F', fu < F' ∧ meetF F σ L0 [(S, T)] = meetF F' σ' fu ps) ∧ ps.length + 3 * fu ≤ 1 + 3 * L0 ∧ fu ≤ L0)
  case atStart =>
    have hb2 : (((w.alloc (.cells #[.int .i64 S.v, .string S.nm, .slice S.a S.len S.cap] 24)).alloc (.cells #[.int .i64 T.v, .string T.nm, .slice T.a T.len T.cap] 24)).alloc (.cells #[.int .i64 S.v, .string S.nm, .slice S.a S.len S.cap, .int .i64 T.v, .string T.nm, .slice T.a T.len T.cap] 145)).heap[w.heap.size + 1 + 1]? = some (.cells #[.int .i64 S.v, .string S.nm, .slice S.a S.len S.cap, .int .i64 T.v, .string T.nm, .slice T.a T.len T.cap] 145) := (alloc3 w _ _ _).2.1
    have hB := (alloc3 w (.cells #[.int .i64 S.v, .string S.nm, .slice S.a S.len S.cap] 24) (.cells #[.int .i64 T.v, .string T.nm, .slice T.a T.len T.cap] 24) (.cells #[.int .i64 S.v, .string S.nm, .slice S.a S.len S.cap, .int .i64 T.v, .string T.nm, .slice T.a T.len T.cap] 145)).2.2
    generalize ((w.alloc (.cells #[.int .i64 S.v, .string S.nm, .slice S.a S.len S.cap] 24)).alloc (.cells #[.int .i64 T.v, .string T.nm, .slice T.a T.len T.cap] 24)).alloc (.cells #[.int .i64 S.v, .string S.nm, .slice S.a S.len S.cap, .int .i64 T.v, .string T.nm, .slice T.a T.len T.cap] 145) = wa at *
    refine ⟨[(S, T)], some ⟨w.heap.size + 1 + 1, 0, none⟩, 1, τ, ρ, r, σ, rfl, ⟨fun i hi => ?_, fun k o e => by cases e; omega, fun p hp => ?_, Nat.le_refl _⟩, HR.out.below hB, GF.ofBelow hB, fun F hF => ⟨F, hF, rfl⟩, Nat.le_refl _, Nat.le_refl _⟩
    · obtain rfl : i = 0 := by simp at hi; omega
      refine ⟨_, _, rfl, fun j hj => ?_⟩
      have hj' : j = 0 ∨ j = 1 ∨ j = 2 ∨ j = 3 ∨ j = 4 ∨ j = 5 := by omega
      rcases hj' with rfl | rfl | rfl | rfl | rfl | rfl <;> simp [World.cell?, hb2, cells6, cells3]
    · obtain rfl := List.mem_singleton.1 hp
      exact ⟨HS.out.1.below hB, HS.out.2.below hB⟩
  case round =>
    obtain ⟨ps, a, c, τ', ρ', r', σ', rfl, hPW, hRF, hGF, hme, hlen, hfu⟩ := hrel
    have HPW : Hid (PW wr b g (.slice (some ⟨g, 0, none⟩) len cap) N w.heap.size a c ps) := hPW
    have HRF : Hid (RF wr b ob B lo g cap N len τ' ρ' r' σ' (4000 - (gk : Int))) := hRF
    have HG : Hid (GF b b (.slice (some ⟨g, 0, none⟩) len cap) w wr) := hGF
    have HME : Hid (∀ F, L0 < F → ∃ F', gk < F' ∧ meetF F σ L0 [(S, T)] = meetF F' σ' gk ps) := hme
    clear hPW hRF hGF hme
    cases ps with
    | nil =>
      have HYes : Hid (∀ F, L0 < F → meetF F σ L0 [(S, T)] = .yes gk σ') := fun F hF => by
        obtain ⟨F', h1, h2⟩ := HME.out F hF
        obtain ⟨F'', rfl⟩ : ∃ F'', F' = F'' + 1 := ⟨F' - 1, by omega⟩
        rw [h2]; cases gk <;> rfl
      rw [show ([] : List (Tm × Tm)).length = 0 from rfl]
      go_wp2_with fail
      go_ret
      exact ⟨HG.out, .inr (.inr ⟨gk, σ', hfu, rfl, HYes.out, τ', ρ', r', HRF.out⟩)⟩
    | cons p ps =>
    obtain ⟨P, Q⟩ := p
    have s1 := HRF.out.st.bx.c1 _ _ _ _ HRF.out.blk
    have f1 := HRF.out.st.bx.f1 _ _ _ _ HRF.out.blk
    have hwr : IntKind.i64.wrap (4000 - (gk : Int) + 1) = 4001 - (gk : Int) := by simp [IntKind.wrap, IntKind.bits, IntKind.signed]; omega
    have HGW : Hid (GF b b (.slice (some ⟨g, 0, none⟩) len cap) wr (wr.setCell ⟨b, ob + 1, none⟩ (.int .i64 (4001 - (gk : Int))))) := GF.ofG (G.set b wr (ob + 1) _)
    rw [show ((P, Q) :: ps).length = ps.length + 1 from rfl] at hlen ⊢
    have hpI : (0 : Int) < ((ps.length + 1 : Nat) : Int) := by omega
    by_cases hg0 : gk = 0
    · have HOv : Hid (∀ F, L0 < F → meetF F σ L0 [(S, T)] = .over) := fun F hF => by
        obtain ⟨F', h1, h2⟩ := HME.out F hF
        obtain ⟨F'', rfl⟩ : ∃ F'', F' = F'' + 1 := ⟨F' - 1, by omega⟩
        rw [h2, hg0]; rfl
      subst hg0
      go_wp2_with fail
      go_ret
      exact ⟨HG.out.trans (TN.refl _ _) HGW.out, .inl ⟨rfl, HOv.out⟩⟩
    obtain ⟨m, hm⟩ : ∃ m, gk = m + 1 := ⟨gk - 1, by omega⟩
    have HRm : Hid (RF (wr.setCell ⟨b, ob + 1, none⟩ (.int .i64 (4001 - (gk : Int)))) b ob B lo g cap N len τ' ρ' r' σ' (4000 - (m : Int))) := by
      rw [Hid, show (4000 : Int) - (m : Int) = 4001 - (gk : Int) from by omega]
      exact HRF.out.work _
    have Hm : Hid (gk = m + 1) := hm
    clear hm
    have HPm : Hid (PW (wr.setCell ⟨b, ob + 1, none⟩ (.int .i64 (4001 - (gk : Int)))) b g (.slice (some ⟨g, 0, none⟩) len cap) N w.heap.size a c ((P, Q) :: ps)) := HPW.out.gf HGW.out Hbg.out.1 (fun k hk => by obtain rfl := Option.some.inj hk; exact Hbg.out.2)
    obtain ⟨bq, oq, ha, hcl⟩ := HPm.out.row 0 (Nat.succ_pos _)
    have c0 := hcl 0 (by omega)
    have c1 := hcl 1 (by omega)
    have c2 := hcl 2 (by omega)
    have c3 := hcl 3 (by omega)
    have c4 := hcl 4 (by omega)
    have c5 := hcl 5 (by omega)
    simp [cells6, cells3] at c0 c1 c2 c3 c4 c5
    have HA : Hid (a = some ⟨bq, oq, none⟩) := ha
    clear hcl ha
    rw [HA.out]
    go_wp2_with fail
    have HGo : Hid (GF b b (.slice (some ⟨g, 0, none⟩) len cap) w (wr.setCell ⟨b, ob + 1, none⟩ (.int .i64 (4001 - (gk : Int))))) := HG.out.trans (TN.refl _ _) HGW.out
    clear HGW HRF HPW HG s1 f1
    generalize wr.setCell ⟨b, ob + 1, none⟩ (.int .i64 (4001 - (gk : Int))) = W at *
    have HBy : Hid (∀ W', Below W.heap.size W W' → ByIs W' b ob g 0 cap N len τ') := fun W' hW => HRm.out.by.below hW
    have HCh : Hid (Chain N τ' ρ' r') := HRm.out.ch
    have HGP : Hid (Good W b b (.slice (some ⟨g, 0, none⟩) len cap) N P ∧ Good W b b (.slice (some ⟨g, 0, none⟩) len cap) N Q) := HPm.out.good _ List.mem_cons_self
    have HCl : Hid (∀ W', Below W.heap.size W W' → W'.cell? ⟨bq, oq, none⟩ = some (.int .i64 P.v) ∧ W'.cell? ⟨bq, oq + 1, none⟩ = some (.string P.nm) ∧ W'.cell? ⟨bq, oq + 2, none⟩ = some (.slice P.a P.len P.cap) ∧ W'.cell? ⟨bq, oq + 3, none⟩ = some (.int .i64 Q.v) ∧ W'.cell? ⟨bq, oq + 4, none⟩ = some (.string Q.nm) ∧ W'.cell? ⟨bq, oq + 5, none⟩ = some (.slice Q.a Q.len Q.cap)) := fun W' hW => by
      have hl := lt_of_cell c0
      have hx : ∀ i, W'.cell? ⟨bq, i, none⟩ = W.cell? ⟨bq, i, none⟩ := fun i => hW.cell (p := ⟨bq, i, none⟩) hl
      exact ⟨(hx _).trans c0, (hx _).trans c1, (hx _).trans c2, (hx _).trans c3, (hx _).trans c4, (hx _).trans c5⟩
    have hbq : bq < W.heap.size := lt_of_cell c0
    have tok1 : True := trivial
    go_cut [8, 9] from 17 to 124 (fun p8 p9 wx => ∃ (X Y : Tm) (k8 k9 : Nat), p8 = .pointer (some ⟨k8, 0, none⟩) ∧ p9 = .pointer (some ⟨k9, 0, none⟩) ∧ wx.heap[k8]? = some (.cells #[.int .i64 X.v, .string X.nm, .slice X.a X.len X.cap] 24) ∧ wx.heap[k9]? = some (.cells #[.int .i64 Y.v, .string Y.nm, .slice Y.a Y.len Y.cap] 24) ∧ k8 ≠ k9 ∧ W.heap.size ≤ k8 ∧ W.heap.size ≤ k9 ∧ Below W.heap.size W wx ∧ Lk N ρ' P X ∧ Lk N ρ' Q Y ∧ Good W b b (.slice (some ⟨g, 0, none⟩) len cap) N X ∧ Good W b b (.slice (some ⟨g, 0, none⟩) len cap) N Y)
    case first =>
      clear c0 c1 c2 c3 c4 c5
      go_region_held3 (fun w' => w'.cell? ⟨bq, oq, none⟩ = some (.int .i64 P.v) ∧ w'.cell? ⟨bq, oq + 1, none⟩ = some (.string P.nm) ∧ w'.cell? ⟨bq, oq + 2, none⟩ = some (.slice P.a P.len P.cap) ∧ w'.cell? ⟨bq, oq + 3, none⟩ = some (.int .i64 Q.v) ∧ w'.cell? ⟨bq, oq + 4, none⟩ = some (.string Q.nm) ∧ w'.cell? ⟨bq, oq + 5, none⟩ = some (.slice Q.a Q.len Q.cap)) (exact HCl.out _ (by repeat (first | with_reducible exact HB2.out | with_reducible exact HB1.out | with_reducible exact Below.refl _ _ | with_reducible refine Below.drew ?_ | with_reducible refine below_alloc ?_ _ | with_reducible refine below_set ?_ (by omega))))
        (first
        | (go_at_call 67
           have _t := tok1
           refine (lookAt_agg P _ (HBy.out _ (by repeat (first | with_reducible exact Below.refl _ _ | with_reducible refine Below.drew ?_ | with_reducible refine below_alloc ?_ _))) HCh.out HGP.out.1.2.1).mono ?_
           rintro e w1 ⟨X, rfl, hb1, hLX, hXT⟩
           have HB1 : Hid (Below W.heap.size W w1) := below_after (by repeat (first | with_reducible exact Below.refl _ _ | with_reducible refine Below.drew ?_ | with_reducible refine below_alloc ?_ _)) hb1
           have HLX : Hid (Lk N ρ' P X ∧ (X = P ∨ ∃ v, 0 < v ∧ v ≤ N ∧ X = τ' v)) := ⟨hLX, hXT⟩
           have hs1 := HB1.out.size
           have hbq1 : bq < w1.heap.size := Nat.lt_of_lt_of_le hbq hs1
           first
             | (have hz : w1.heap[W.heap.size]? = some (.cells #[.int .i64 0, .string ⟨#[]⟩, .slice none 0 0] 24) ∧ w1.heap[W.heap.size + 1]? = some (.cells #[.int .i64 0, .string ⟨#[]⟩, .slice none 0 0] 24) := box_b (W := W) ⟨hb1.os, hb1.tape, hb1.output, hb1.size, hb1.block⟩
                have HE0 : Hid (w1.heap[W.heap.size]? = some (.cells #[.int .i64 0, .string ⟨#[]⟩, .slice none 0 0] 24)) := hz.1
                have HE1 : Hid (w1.heap[W.heap.size + 1]? = some (.cells #[.int .i64 0, .string ⟨#[]⟩, .slice none 0 0] 24)) := hz.2
                obtain ⟨z0, z1, z2, zf0, zf1, zf2⟩ := block_cells hz.1
                obtain ⟨y0, y1, y2, yf0, yf1, yf2⟩ := block_cells hz.2
                have hk1 := (Array.getElem?_eq_some_iff.1 hz.2).1
                clear hz)
             | (have hz : w1.heap[W.heap.size]? = some (.cells #[.int .i64 0, .string ⟨#[]⟩, .slice none 0 0] 24) := box_a (W := W) ⟨hb1.os, hb1.tape, hb1.output, hb1.size, hb1.block⟩
                have HE0 : Hid (w1.heap[W.heap.size]? = some (.cells #[.int .i64 0, .string ⟨#[]⟩, .slice none 0 0] 24)) := hz
                obtain ⟨z0, z1, z2, zf0, zf1, zf2⟩ := block_cells hz
                have hk1 := (Array.getElem?_eq_some_iff.1 hz).1
                clear hz)
             | skip
           clear hb1 hLX hXT tok1)
        | (go_at_call 67
           refine (lookAt_agg Q _ (HBy.out _ (by repeat (first | with_reducible exact HB1.out | with_reducible refine Below.drew ?_ | with_reducible refine below_alloc ?_ _))) HCh.out HGP.out.2.2.1).mono ?_
           rintro e w2 ⟨Y, rfl, hb2, hLY, hYT⟩
           have HB2 : Hid (Below W.heap.size W w2) := below_after (by repeat (first | with_reducible exact HB1.out | with_reducible refine Below.drew ?_ | with_reducible refine below_alloc ?_ _)) hb2
           have HLY : Hid (Lk N ρ' Q Y ∧ (Y = Q ∨ ∃ v, 0 < v ∧ v ≤ N ∧ Y = τ' v)) := ⟨hLY, hYT⟩
           have hs2 := HB2.out.size
           try
             (have hq := box_keep hb2 HE0.out (by repeat (first | with_reducible exact Below.refl _ _ | with_reducible refine Below.drew ?_ | with_reducible refine below_alloc ?_ _))
              replace HE0 : Hid (w2.heap[W.heap.size]? = some (.cells #[.int .i64 0, .string ⟨#[]⟩, .slice none 0 0] 24)) := hq
              clear z0 z1 z2 zf0 zf1 zf2
              obtain ⟨z0, z1, z2, zf0, zf1, zf2⟩ := block_cells hq
              have hk2 := (Array.getElem?_eq_some_iff.1 hq).1
              clear hq)
           try
             (have hq := box_keep hb2 HE1.out (by repeat (first | with_reducible exact Below.refl _ _ | with_reducible refine Below.drew ?_ | with_reducible refine below_alloc ?_ _))
              replace HE1 : Hid (w2.heap[W.heap.size + 1]? = some (.cells #[.int .i64 0, .string ⟨#[]⟩, .slice none 0 0] 24)) := hq
              clear y0 y1 y2 yf0 yf1 yf2
              obtain ⟨y0, y1, y2, yf0, yf1, yf2⟩ := block_cells hq
              have hk3 := (Array.getElem?_eq_some_iff.1 hq).1
              clear hq)
           first
             | (have hz : w2.heap[w1.heap.size]? = some (.cells #[.int .i64 0, .string ⟨#[]⟩, .slice none 0 0] 24) ∧ w2.heap[w1.heap.size + 1]? = some (.cells #[.int .i64 0, .string ⟨#[]⟩, .slice none 0 0] 24) := box_b (W := w1) ⟨hb2.os, hb2.tape, hb2.output, hb2.size, hb2.block⟩
                have HF0 : Hid (w2.heap[w1.heap.size]? = some (.cells #[.int .i64 0, .string ⟨#[]⟩, .slice none 0 0] 24)) := hz.1
                have HF1 : Hid (w2.heap[w1.heap.size + 1]? = some (.cells #[.int .i64 0, .string ⟨#[]⟩, .slice none 0 0] 24)) := hz.2
                obtain ⟨x0, x1, x2, xf0, xf1, xf2⟩ := block_cells hz.1
                obtain ⟨v0, v1, v2, vf0, vf1, vf2⟩ := block_cells hz.2
                have hk4 := (Array.getElem?_eq_some_iff.1 hz.2).1
                clear hz)
             | (have hz : w2.heap[w1.heap.size]? = some (.cells #[.int .i64 0, .string ⟨#[]⟩, .slice none 0 0] 24) := box_a (W := w1) ⟨hb2.os, hb2.tape, hb2.output, hb2.size, hb2.block⟩
                have HF0 : Hid (w2.heap[w1.heap.size]? = some (.cells #[.int .i64 0, .string ⟨#[]⟩, .slice none 0 0] 24)) := hz
                obtain ⟨x0, x1, x2, xf0, xf1, xf2⟩ := block_cells hz
                have hk4 := (Array.getElem?_eq_some_iff.1 hz).1
                clear hz)
             | skip
           clear hb2 hLY hYT))
      all_goals
        go_wp2_with fail
        go_meet
        case rel =>
          have hGX : Good W b b (.slice (some ⟨g, 0, none⟩) len cap) N X := by
            rcases HLX.out.2 with rfl | ⟨v, h0, h1, rfl⟩
            · exact HGP.out.1
            · exact HRm.out.trm v (by omega) h1
          have hGY : Good W b b (.slice (some ⟨g, 0, none⟩) len cap) N Y := by
            rcases HLY.out.2 with rfl | ⟨v, h0, h1, rfl⟩
            · exact HGP.out.2
            · exact HRm.out.trm v (by omega) h1
          first
            | (have hx := boxs_aa (W := W) HB2.out (.cells #[.int .i64 X.v, .string X.nm, .slice X.a X.len X.cap] 24) (.cells #[.int .i64 Y.v, .string Y.nm, .slice Y.a Y.len Y.cap] 24); with_reducible exact ⟨X, Y, _, _, rfl, rfl, hx.1, hx.2.1, hx.2.2.1, hx.2.2.2.1, hx.2.2.2.2.1, hx.2.2.2.2.2, HLX.out.1, HLY.out.1, hGX, hGY⟩)
            | (have hx := boxs_ab (W := W) HB2.out (.cells #[.int .i64 X.v, .string X.nm, .slice X.a X.len X.cap] 24) (.cells #[.int .i64 Y.v, .string Y.nm, .slice Y.a Y.len Y.cap] 24); with_reducible exact ⟨X, Y, _, _, rfl, rfl, hx.1, hx.2.1, hx.2.2.1, hx.2.2.2.1, hx.2.2.2.2.1, hx.2.2.2.2.2, HLX.out.1, HLY.out.1, hGX, hGY⟩)
            | (have hx := boxs_sa (W := W) HE0.out HB2.out (by omega) (.int .i64 X.v) (.string X.nm) (.slice X.a X.len X.cap) (.cells #[.int .i64 Y.v, .string Y.nm, .slice Y.a Y.len Y.cap] 24); with_reducible exact ⟨X, Y, _, _, rfl, rfl, hx.1, hx.2.1, hx.2.2.1, hx.2.2.2.1, hx.2.2.2.2.1, hx.2.2.2.2.2, HLX.out.1, HLY.out.1, hGX, hGY⟩)
            | (have hx := boxs_sa (W := W) HE0.out HB2.out (by omega) (.int .i64 Y.v) (.string Y.nm) (.slice Y.a Y.len Y.cap) (.cells #[.int .i64 X.v, .string X.nm, .slice X.a X.len X.cap] 24); with_reducible exact ⟨X, Y, _, _, rfl, rfl, hx.2.1, hx.1, hx.2.2.1.symm, hx.2.2.2.2.1, hx.2.2.2.1, hx.2.2.2.2.2, HLX.out.1, HLY.out.1, hGX, hGY⟩)
            | (have hx := boxs_sa (W := W) HF0.out HB2.out (by omega) (.int .i64 X.v) (.string X.nm) (.slice X.a X.len X.cap) (.cells #[.int .i64 Y.v, .string Y.nm, .slice Y.a Y.len Y.cap] 24); with_reducible exact ⟨X, Y, _, _, rfl, rfl, hx.1, hx.2.1, hx.2.2.1, hx.2.2.2.1, hx.2.2.2.2.1, hx.2.2.2.2.2, HLX.out.1, HLY.out.1, hGX, hGY⟩)
            | (have hx := boxs_sa (W := W) HF0.out HB2.out (by omega) (.int .i64 Y.v) (.string Y.nm) (.slice Y.a Y.len Y.cap) (.cells #[.int .i64 X.v, .string X.nm, .slice X.a X.len X.cap] 24); with_reducible exact ⟨X, Y, _, _, rfl, rfl, hx.2.1, hx.1, hx.2.2.1.symm, hx.2.2.2.2.1, hx.2.2.2.1, hx.2.2.2.2.2, HLX.out.1, HLY.out.1, hGX, hGY⟩)
            | (have hx := boxs (W := W) HE0.out HE1.out (by omega) (by omega) (by omega) HB2.out (.int .i64 X.v) (.string X.nm) (.slice X.a X.len X.cap) (.int .i64 Y.v) (.string Y.nm) (.slice Y.a Y.len Y.cap); with_reducible exact ⟨X, Y, _, _, rfl, rfl, hx.1, hx.2.1, hx.2.2.1, hx.2.2.2.1, hx.2.2.2.2.1, hx.2.2.2.2.2, HLX.out.1, HLY.out.1, hGX, hGY⟩)
            | (have hx := boxs (W := W) HE1.out HE0.out (by omega) (by omega) (by omega) HB2.out (.int .i64 X.v) (.string X.nm) (.slice X.a X.len X.cap) (.int .i64 Y.v) (.string Y.nm) (.slice Y.a Y.len Y.cap); with_reducible exact ⟨X, Y, _, _, rfl, rfl, hx.1, hx.2.1, hx.2.2.1, hx.2.2.2.1, hx.2.2.2.2.1, hx.2.2.2.2.2, HLX.out.1, HLY.out.1, hGX, hGY⟩)
            | (have hx := boxs (W := W) HF0.out HF1.out (by omega) (by omega) (by omega) HB2.out (.int .i64 X.v) (.string X.nm) (.slice X.a X.len X.cap) (.int .i64 Y.v) (.string Y.nm) (.slice Y.a Y.len Y.cap); with_reducible exact ⟨X, Y, _, _, rfl, rfl, hx.1, hx.2.1, hx.2.2.1, hx.2.2.2.1, hx.2.2.2.2.1, hx.2.2.2.2.2, HLX.out.1, HLY.out.1, hGX, hGY⟩)
            | (have hx := boxs (W := W) HF1.out HF0.out (by omega) (by omega) (by omega) HB2.out (.int .i64 X.v) (.string X.nm) (.slice X.a X.len X.cap) (.int .i64 Y.v) (.string Y.nm) (.slice Y.a Y.len Y.cap); with_reducible exact ⟨X, Y, _, _, rfl, rfl, hx.1, hx.2.1, hx.2.2.1, hx.2.2.2.1, hx.2.2.2.2.1, hx.2.2.2.2.2, HLX.out.1, HLY.out.1, hGX, hGY⟩)
            | (have hx := boxs (W := W) HE0.out HF0.out (by omega) (by omega) (by omega) HB2.out (.int .i64 X.v) (.string X.nm) (.slice X.a X.len X.cap) (.int .i64 Y.v) (.string Y.nm) (.slice Y.a Y.len Y.cap); with_reducible exact ⟨X, Y, _, _, rfl, rfl, hx.1, hx.2.1, hx.2.2.1, hx.2.2.2.1, hx.2.2.2.2.1, hx.2.2.2.2.2, HLX.out.1, HLY.out.1, hGX, hGY⟩)
            | (have hx := boxs (W := W) HF0.out HE0.out (by omega) (by omega) (by omega) HB2.out (.int .i64 X.v) (.string X.nm) (.slice X.a X.len X.cap) (.int .i64 Y.v) (.string Y.nm) (.slice Y.a Y.len Y.cap); with_reducible exact ⟨X, Y, _, _, rfl, rfl, hx.1, hx.2.1, hx.2.2.1, hx.2.2.2.1, hx.2.2.2.2.1, hx.2.2.2.2.2, HLX.out.1, HLY.out.1, hGX, hGY⟩)
    case rest =>
      obtain ⟨X, Y, k8, k9, rfl, rfl, h8, h9, hne, hl8, hl9, hB, hLX, hLY, hGX, hGY⟩ := hcut
      have H8 : Hid (wc.heap[k8]? = some (.cells #[.int .i64 X.v, .string X.nm, .slice X.a X.len X.cap] 24)) := h8
      have H9 : Hid (wc.heap[k9]? = some (.cells #[.int .i64 Y.v, .string Y.nm, .slice Y.a Y.len Y.cap] 24)) := h9
      have HLX : Hid (Lk N ρ' P X) := hLX
      have HLY : Hid (Lk N ρ' Q Y) := hLY
      have HGX : Hid (Good wc b b (.slice (some ⟨g, 0, none⟩) len cap) N X ∧ Good wc b b (.slice (some ⟨g, 0, none⟩) len cap) N Y) := ⟨hGX.below hB, hGY.below hB⟩
      have HRc : Hid (RF wc b ob B lo g cap N len τ' ρ' r' σ' (4000 - (m : Int))) := HRm.out.below hB
      have HGc : Hid (GF b b (.slice (some ⟨g, 0, none⟩) len cap) w wc) := HGo.out.trans (TN.refl _ _) (GF.ofBelow hB)
      have HBc : Hid (Below W.heap.size W wc) := hB
      have HGW0 : Hid (Good W b b (.slice (some ⟨g, 0, none⟩) len cap) N X ∧ Good W b b (.slice (some ⟨g, 0, none⟩) len cap) N Y) := ⟨hGX, hGY⟩
      have HOk : Hid (Okv N P ∧ Okv N Q) := ⟨HGP.out.1.2.1, HGP.out.2.2.1⟩
      have hWg : w.heap.size ≤ W.heap.size := HGo.out.size
      have hk8 : k8 < wc.heap.size := (Array.getElem?_eq_some_iff.1 h8).1
      have hk9 : k9 < wc.heap.size := (Array.getElem?_eq_some_iff.1 h9).1
      have hb8 : k8 ≠ b ∧ k9 ≠ b ∧ k8 ≠ g ∧ k9 ≠ g := by have := Hbg.out; omega
      have Hmeet : Hid (∀ F, L0 < F → ∃ F', m < F' ∧ meetF F σ L0 [(S, T)] = meetF (F' + 1) σ' (m + 1) ((P, Q) :: ps)) := fun F hF => by
        obtain ⟨F', h1, h2⟩ := HME.out F hF
        have := Hm.out
        obtain ⟨F'', rfl⟩ : ∃ F'', F' = F'' + 1 := ⟨F' - 1, by omega⟩
        exact ⟨F'', by omega, by rw [h2, this]⟩
      have htl := tail_run6 bq oq (ps.length + 1) c (by omega)
      rw [show ps.length + 1 - 1 = ps.length from rfl] at htl
      have HPt0 : Hid (∀ W', GF b b (.slice (some ⟨g, 0, none⟩) len cap) W W' → PW W' b g (.slice (some ⟨g, 0, none⟩) len cap) N w.heap.size (some ⟨bq, if c = 1 then oq else oq + 6, none⟩) (c - 1) ps) := fun W' hW' => by
        have h := HPm.out.gf hW' Hbg.out.1 (fun k hk => by obtain rfl := Option.some.inj hk; exact Hbg.out.2)
        have hA := HA.out
        subst hA
        have hcp : ps.length + 1 ≤ c := h.cap
        refine ⟨fun i hi => ?_, fun k o e => by cases e; exact h.at' _ _ rfl, fun p hp => h.good p (List.mem_cons_of_mem _ hp), by omega⟩
        obtain ⟨b', o', e, hc⟩ := h.row (i + 1) (Nat.succ_lt_succ hi)
        cases e
        rw [if_neg (by omega)]
        refine ⟨bq, oq + 6, rfl, fun j hj => ?_⟩
        rw [show oq + 6 + i * 6 + j = oq + (i + 1) * 6 + j from by omega]
        exact hc j hj
      generalize (if c = 1 then oq else oq + 6) = ot at htl HPt0
      have HPt : Hid (∀ W', GF b b (.slice (some ⟨g, 0, none⟩) len cap) wc W' → PW W' b g (.slice (some ⟨g, 0, none⟩) len cap) N w.heap.size (some ⟨bq, ot, none⟩) (c - 1) ps) := fun W' hW' => HPt0.out W' ((GF.ofBelow hB).trans (TN.refl _ _) hW')
      obtain ⟨x0, x1, x2, xf0, xf1, xf2⟩ := block_cells h8
      obtain ⟨y0, y1, y2, yf0, yf1, yf2⟩ := block_cells h9
      have hmg : m < gk := by have := Hm.out; omega
      have hml : ps.length + 3 * m ≤ 1 + 3 * L0 ∧ m ≤ L0 := by have := Hm.out; omega
      clear h8 h9 hB hLX hLY hGX hGY c0 c1 c2 c3 c4 c5 HBy HCh HCl tok1
      by_cases hA1 : X.v ≠ 0 ∧ X.v = Y.v
      · have e0 : (X.v != 0) = true := bne_iff_ne.2 hA1.1
        have e1 : (X.v == Y.v) = true := beq_iff_eq.2 hA1.2
        have HF : Hid (∀ F, L0 < F → ∃ F', m < F' ∧ meetF F σ L0 [(S, T)] = meetF F' σ' m ps) := fun F hF => by
          obtain ⟨F', h1, h2⟩ := Hmeet.out F hF
          exact ⟨F', h1, by rw [h2]; exact meetA HRc.out.rel HOk.out.1 HOk.out.2 HLX.out HLY.out hA1.1 hA1.2 _ _ _⟩
        clear hA1
        go_wp2_with fail
        go_roundg m
        case measure => exact hmg
        case rel => exact ⟨ps, _, _, τ', ρ', r', σ', rfl, HPt.out _ (GF.refl _ _ _ _), HRc.out, HGc.out, HF.out, hml.1, hml.2⟩
      by_cases hx : X.v ≠ 0
      · have hxy : X.v ≠ Y.v := fun e => hA1 ⟨hx, e⟩
        have e0 : (X.v != 0) = true := bne_iff_ne.2 hx
        have e1 : (X.v == Y.v) = false := beq_eq_false_iff_ne.2 hxy
        have e2 : (X.v == 0) = false := beq_eq_false_iff_ne.2 hx
        have HO1 : Hid (Okv N P) := HOk.out.1
        have HO2 : Hid (Okv N Q) := HOk.out.2
        have HL1 : Hid (Lk N ρ' P X) := HLX.out
        have HL2 : Hid (Lk N ρ' Q Y) := HLY.out
        clear hA1
        have HCall : Hid (Calls Try.prog 100 #[.pointer (some ⟨b, ob, none⟩), .int .i64 X.v, .agg #[.int .i64 Y.v, .string Y.nm, .slice Y.a Y.len Y.cap]] wc (WI wc b ob B lo g cap N len τ' ρ' r' σ' (wha σ' P).v m Y)) := by
          have h := within_any m P Y wc HRc.out (by omega) HO1.out (by rw [← HL1.out.1]; exact hx) HGX.out.2
          rw [← HL1.out.1] at h
          exact h
        have HMB : Hid (∀ F, L0 < F → ∃ F', m < F' ∧ meetF F σ L0 [(S, T)] = match within σ' (wha σ' P).v m [Y] with
            | .over => .over
            | .found k => .no k
            | .free k => meetF F' (put σ' (wha σ' P) (wha σ' Q)) k ps) := fun F hF => by
          obtain ⟨F', h1, h2⟩ := Hmeet.out F hF
          exact ⟨F', h1, by rw [h2]; exact meetB HRc.out.rel HRc.out.dec HRc.out.ok HO1.out HO2.out HL1.out HL2.out hx hxy (.inl ⟨rfl, rfl⟩) _ _ _⟩
        obtain ⟨n, hn⟩ : ∃ n : Nat, X.v = n := ⟨X.v.toNat, by have := HL1.out.2.2.top.1; omega⟩
        have Hn : Hid (X.v = n) := hn
        have Hxy : Hid (X.v ≠ 0 ∧ X.v ≠ Y.v) := ⟨hx, hxy⟩
        clear hn hx hxy
        go_wp2_with fail
        refine HCall.out.mono ?_
        rintro e w1 ⟨hG1, h⟩
        have H81 : Hid (w1.heap[k8]? = some (.cells #[.int .i64 X.v, .string X.nm, .slice X.a X.len X.cap] 24)) := (hG1.block k8 (by omega) (by simp; omega)).trans H8.out
        have H91 : Hid (w1.heap[k9]? = some (.cells #[.int .i64 Y.v, .string Y.nm, .slice Y.a Y.len Y.cap] 24)) := (hG1.block k9 (by omega) (by simp; omega)).trans H9.out
        have HG1 : Hid (GF b b (.slice (some ⟨g, 0, none⟩) len cap) w w1) := HGc.out.trans (TN.refl _ _) (GF.ofG hG1)
        have HGY1 : Hid (Good w1 b b (.slice (some ⟨g, 0, none⟩) len cap) N Y) := HGX.out.2.gf (GF.ofG hG1) (TN.refl _ _)
        have HPt1 : Hid (∀ W', GF b b (.slice (some ⟨g, 0, none⟩) len cap) w1 W' → PW W' b g (.slice (some ⟨g, 0, none⟩) len cap) N w.heap.size (some ⟨bq, ot, none⟩) (c - 1) ps) := fun W' hW' => HPt.out W' ((GF.ofG hG1).trans (TN.refl _ _) hW')
        have hs1 : wc.heap.size ≤ w1.heap.size := hG1.size
        clear hG1 x0 x1 x2 xf0 xf1 xf2 y0 y1 y2 yf0 yf1 yf2
        rcases h with ⟨hw, rfl, hR1⟩ | ⟨k, hk, hw, rfl, hR1⟩ | ⟨k, hk, hw, rfl, hR1⟩
        · have HOv : Hid (∀ F, L0 < F → meetF F σ L0 [(S, T)] = .over) := fun F hF => by
            obtain ⟨F', _, h2⟩ := HMB.out F hF
            rw [h2, hw]
          clear hw hR1
          go_wp2_with fail
          go_ret
          exact ⟨HG1.out, .inl ⟨rfl, HOv.out⟩⟩
        · have HNo : Hid (∀ F, L0 < F → meetF F σ L0 [(S, T)] = .no k) := fun F hF => by
            obtain ⟨F', _, h2⟩ := HMB.out F hF
            rw [h2, hw]
          have HR1 : Hid (RF w1 b ob B lo g cap N len τ' ρ' r' σ' (4000 - (k : Int))) := hR1
          have hkL : k ≤ L0 := by omega
          clear hw hR1 hk
          go_wp2_with fail
          go_ret
          exact ⟨HG1.out, .inr (.inl ⟨k, hkL, rfl, HNo.out, τ', ρ', r', σ', HR1.out⟩)⟩
        · obtain ⟨hnl, τ2, ρ2, r2, hR2⟩ := hR1.put HO1.out HO2.out HL1.out HL2.out Hxy.out.1 Hxy.out.2 HGY1.out n Hn.out
          have HF : Hid (∀ F, L0 < F → ∃ F', k < F' ∧ meetF F σ L0 [(S, T)] = meetF F' (put σ' (wha σ' P) (wha σ' Q)) k ps) := fun F hF => by
            obtain ⟨F', h1, h2⟩ := HMB.out F hF
            exact ⟨F', by omega, by rw [h2, hw]⟩
          have HR2 : Hid (RF (((w1.setCell ⟨g, n * 3, none⟩ (.int .i64 Y.v)).setCell ⟨g, n * 3 + 1, none⟩ (.string Y.nm)).setCell ⟨g, n * 3 + 2, none⟩ (.slice Y.a Y.len Y.cap)) b ob B lo g cap N len τ2 ρ2 r2 (put σ' (wha σ' P) (wha σ' Q)) (4000 - (k : Int))) := hR2
          have hgr : w1.grownBy (((w1.setCell ⟨g, n * 3, none⟩ (.int .i64 Y.v)).setCell ⟨g, n * 3 + 1, none⟩ (.string Y.nm)).setCell ⟨g, n * 3 + 2, none⟩ (.slice Y.a Y.len Y.cap)) (some g) := G.trans (G.trans (grown_set g (n * 3) _) (grown_set g (n * 3 + 1) _)) (grown_set g (n * 3 + 2) _)
          have HGg : Hid (GF b b (.slice (some ⟨g, 0, none⟩) len cap) w1 (((w1.setCell ⟨g, n * 3, none⟩ (.int .i64 Y.v)).setCell ⟨g, n * 3 + 1, none⟩ (.string Y.nm)).setCell ⟨g, n * 3 + 2, none⟩ (.slice Y.a Y.len Y.cap))) := ⟨hgr.os, hgr.tape, hgr.output, hgr.size, fun q hq _ _ h3 => hgr.block q hq (fun e => h3 g rfl (Option.some.inj e).symm)⟩
          have s0 := hR1.st.bx.c0 _ _ _ _ hR1.blk
          have hnI : (n : Int) < (len : Int) := by omega
          obtain ⟨b', o', e', d0, d1, d2⟩ := hR1.by.row n hnl
          cases e'
          rw [Nat.zero_add] at d0 d1 d2
          have q0 := hR1.froz (n * 3)
          have q1 := hR1.froz (n * 3 + 1)
          have q2 := hR1.froz (n * 3 + 2)
          have hkm : k < gk ∧ ps.length + 3 * k ≤ 1 + 3 * L0 ∧ k ≤ L0 := by omega
          obtain ⟨x0, x1, x2, _, _, _⟩ := block_cells H81.out
          obtain ⟨y0, y1, y2, _, _, _⟩ := block_cells H91.out
          rw [Hn.out] at x0
          clear hw hR1 hk hgr hR2
          go_wp2_with fail
          go_region
          all_goals
            go_wp2_with fail
            go_roundg k
            case measure => exact hkm.1
            case rel => exact ⟨ps, _, _, τ2, ρ2, r2, _, rfl, (HPt1.out _ HGg.out).gf (GF.ofBelow (Below.refl _ _).drew) Hbg.out.1 (fun k hk => by obtain rfl := Option.some.inj hk; exact Hbg.out.2), HR2.out.below (Below.refl _ _).drew, (HG1.out.trans (TN.refl _ _) HGg.out).trans (TN.refl _ _) (GF.ofBelow (Below.refl _ _).drew), HF.out, hkm.2.1, hkm.2.2⟩
      have hx0 : X.v = 0 := by simpa using hx
      clear hx hA1
      by_cases hy : Y.v ≠ 0
      · have hxy : Y.v ≠ X.v := by omega
        have e0 : (X.v != 0) = false := by rw [hx0]; rfl
        have e2 : (X.v == 0) = true := by rw [hx0]; rfl
        have e3 : (Y.v != 0) = true := bne_iff_ne.2 hy
        have Hx0 : Hid (X.v = 0) := hx0
        have HO1 : Hid (Okv N Q) := HOk.out.2
        have HO2 : Hid (Okv N P) := HOk.out.1
        have HL1 : Hid (Lk N ρ' Q Y) := HLY.out
        have HL2 : Hid (Lk N ρ' P X) := HLX.out
        obtain ⟨h8', h9', _, _, _, hB2⟩ := boxs (W := W) H8.out H9.out hne hl8 hl9 HBc.out (.int .i64 Y.v) (.string Y.nm) (.slice Y.a Y.len Y.cap) (.int .i64 X.v) (.string X.nm) (.slice X.a X.len X.cap)
        generalize hwc2 : (((((wc.setCell ⟨k8, 0, none⟩ (.int .i64 Y.v)).setCell ⟨k8, 1, none⟩ (.string Y.nm)).setCell ⟨k8, 2, none⟩ (.slice Y.a Y.len Y.cap)).setCell ⟨k9, 0, none⟩ (.int .i64 X.v)).setCell ⟨k9, 1, none⟩ (.string X.nm)).setCell ⟨k9, 2, none⟩ (.slice X.a X.len X.cap) = wc2 at h8' h9' hB2
        replace HGX : Hid (Good wc2 b b (.slice (some ⟨g, 0, none⟩) len cap) N Y ∧ Good wc2 b b (.slice (some ⟨g, 0, none⟩) len cap) N X) := ⟨HGW0.out.2.below hB2, HGW0.out.1.below hB2⟩
        replace HRc : Hid (RF wc2 b ob B lo g cap N len τ' ρ' r' σ' (4000 - (m : Int))) := HRm.out.below hB2
        replace HGc : Hid (GF b b (.slice (some ⟨g, 0, none⟩) len cap) w wc2) := HGo.out.trans (TN.refl _ _) (GF.ofBelow hB2)
        replace HPt : Hid (∀ W', GF b b (.slice (some ⟨g, 0, none⟩) len cap) wc2 W' → PW W' b g (.slice (some ⟨g, 0, none⟩) len cap) N w.heap.size (some ⟨bq, ot, none⟩) (c - 1) ps) := fun W' hW' => HPt0.out W' ((GF.ofBelow hB2).trans (TN.refl _ _) hW')
        have hk8 : k8 < wc2.heap.size := (Array.getElem?_eq_some_iff.1 h8').1
        have hk9 : k9 < wc2.heap.size := (Array.getElem?_eq_some_iff.1 h9').1
        replace H8 : Hid (wc2.heap[k8]? = some (.cells #[.int .i64 Y.v, .string Y.nm, .slice Y.a Y.len Y.cap] 24)) := h8'
        replace H9 : Hid (wc2.heap[k9]? = some (.cells #[.int .i64 X.v, .string X.nm, .slice X.a X.len X.cap] 24)) := h9'
        obtain ⟨u0, u1, u2, _, _, _⟩ := block_cells h8'
        obtain ⟨v0, v1, v2, _, _, _⟩ := block_cells h9'
        have hx : Y.v ≠ 0 := hy
        clear h8' h9' hB2 hx0 hy
        have HCall : Hid (Calls Try.prog 100 #[.pointer (some ⟨b, ob, none⟩), .int .i64 Y.v, .agg #[.int .i64 X.v, .string X.nm, .slice X.a X.len X.cap]] wc2 (WI wc2 b ob B lo g cap N len τ' ρ' r' σ' (wha σ' Q).v m X)) := by
          have h := within_any m Q X wc2 HRc.out (by omega) HO1.out (by rw [← HL1.out.1]; exact hx) HGX.out.2
          rw [← HL1.out.1] at h
          exact h
        have HMB : Hid (∀ F, L0 < F → ∃ F', m < F' ∧ meetF F σ L0 [(S, T)] = match within σ' (wha σ' Q).v m [X] with
            | .over => .over
            | .found k => .no k
            | .free k => meetF F' (put σ' (wha σ' Q) (wha σ' P)) k ps) := fun F hF => by
          obtain ⟨F', h1, h2⟩ := Hmeet.out F hF
          exact ⟨F', h1, by rw [h2]; exact meetB HRc.out.rel HRc.out.dec HRc.out.ok HO1.out HO2.out HL1.out HL2.out hx hxy (.inr ⟨rfl, rfl, Hx0.out⟩) _ _ _⟩
        obtain ⟨n, hn⟩ : ∃ n : Nat, Y.v = n := ⟨Y.v.toNat, by have := HL1.out.2.2.top.1; omega⟩
        have Hn : Hid (Y.v = n) := hn
        have Hxy : Hid (Y.v ≠ 0 ∧ Y.v ≠ X.v) := ⟨hx, hxy⟩
        clear hn hx hxy
        go_wp2_with (rw [hwc2]; clear x0 x1 x2 xf0 xf1 xf2 y0 y1 y2 yf0 yf1 yf2)
        refine HCall.out.mono ?_
        rintro e w1 ⟨hG1, h⟩
        have H81 : Hid (w1.heap[k8]? = some (.cells #[.int .i64 Y.v, .string Y.nm, .slice Y.a Y.len Y.cap] 24)) := (hG1.block k8 (by omega) (by simp; omega)).trans H8.out
        have H91 : Hid (w1.heap[k9]? = some (.cells #[.int .i64 X.v, .string X.nm, .slice X.a X.len X.cap] 24)) := (hG1.block k9 (by omega) (by simp; omega)).trans H9.out
        have HG1 : Hid (GF b b (.slice (some ⟨g, 0, none⟩) len cap) w w1) := HGc.out.trans (TN.refl _ _) (GF.ofG hG1)
        have HGY1 : Hid (Good w1 b b (.slice (some ⟨g, 0, none⟩) len cap) N X) := HGX.out.2.gf (GF.ofG hG1) (TN.refl _ _)
        have HPt1 : Hid (∀ W', GF b b (.slice (some ⟨g, 0, none⟩) len cap) w1 W' → PW W' b g (.slice (some ⟨g, 0, none⟩) len cap) N w.heap.size (some ⟨bq, ot, none⟩) (c - 1) ps) := fun W' hW' => HPt.out W' ((GF.ofG hG1).trans (TN.refl _ _) hW')
        have hs1 : wc2.heap.size ≤ w1.heap.size := hG1.size
        clear hG1 u0 u1 u2 v0 v1 v2
        rcases h with ⟨hw, rfl, hR1⟩ | ⟨k, hk, hw, rfl, hR1⟩ | ⟨k, hk, hw, rfl, hR1⟩
        · have HOv : Hid (∀ F, L0 < F → meetF F σ L0 [(S, T)] = .over) := fun F hF => by
            obtain ⟨F', _, h2⟩ := HMB.out F hF
            rw [h2, hw]
          clear hw hR1
          go_wp2_with fail
          go_ret
          exact ⟨HG1.out, .inl ⟨rfl, HOv.out⟩⟩
        · have HNo : Hid (∀ F, L0 < F → meetF F σ L0 [(S, T)] = .no k) := fun F hF => by
            obtain ⟨F', _, h2⟩ := HMB.out F hF
            rw [h2, hw]
          have HR1 : Hid (RF w1 b ob B lo g cap N len τ' ρ' r' σ' (4000 - (k : Int))) := hR1
          have hkL : k ≤ L0 := by omega
          clear hw hR1 hk
          go_wp2_with fail
          go_ret
          exact ⟨HG1.out, .inr (.inl ⟨k, hkL, rfl, HNo.out, τ', ρ', r', σ', HR1.out⟩)⟩
        · obtain ⟨hnl, τ2, ρ2, r2, hR2⟩ := hR1.put HO1.out HO2.out HL1.out HL2.out Hxy.out.1 Hxy.out.2 HGY1.out n Hn.out
          have HF : Hid (∀ F, L0 < F → ∃ F', k < F' ∧ meetF F σ L0 [(S, T)] = meetF F' (put σ' (wha σ' Q) (wha σ' P)) k ps) := fun F hF => by
            obtain ⟨F', h1, h2⟩ := HMB.out F hF
            exact ⟨F', by omega, by rw [h2, hw]⟩
          have HR2 : Hid (RF (((w1.setCell ⟨g, n * 3, none⟩ (.int .i64 X.v)).setCell ⟨g, n * 3 + 1, none⟩ (.string X.nm)).setCell ⟨g, n * 3 + 2, none⟩ (.slice X.a X.len X.cap)) b ob B lo g cap N len τ2 ρ2 r2 (put σ' (wha σ' Q) (wha σ' P)) (4000 - (k : Int))) := hR2
          have hgr : w1.grownBy (((w1.setCell ⟨g, n * 3, none⟩ (.int .i64 X.v)).setCell ⟨g, n * 3 + 1, none⟩ (.string X.nm)).setCell ⟨g, n * 3 + 2, none⟩ (.slice X.a X.len X.cap)) (some g) := G.trans (G.trans (grown_set g (n * 3) _) (grown_set g (n * 3 + 1) _)) (grown_set g (n * 3 + 2) _)
          have HGg : Hid (GF b b (.slice (some ⟨g, 0, none⟩) len cap) w1 (((w1.setCell ⟨g, n * 3, none⟩ (.int .i64 X.v)).setCell ⟨g, n * 3 + 1, none⟩ (.string X.nm)).setCell ⟨g, n * 3 + 2, none⟩ (.slice X.a X.len X.cap))) := ⟨hgr.os, hgr.tape, hgr.output, hgr.size, fun q hq _ _ h3 => hgr.block q hq (fun e => h3 g rfl (Option.some.inj e).symm)⟩
          have s0 := hR1.st.bx.c0 _ _ _ _ hR1.blk
          have hnI : (n : Int) < (len : Int) := by omega
          obtain ⟨b', o', e', d0, d1, d2⟩ := hR1.by.row n hnl
          cases e'
          rw [Nat.zero_add] at d0 d1 d2
          have q0 := hR1.froz (n * 3)
          have q1 := hR1.froz (n * 3 + 1)
          have q2 := hR1.froz (n * 3 + 2)
          have hkm : k < gk ∧ ps.length + 3 * k ≤ 1 + 3 * L0 ∧ k ≤ L0 := by omega
          obtain ⟨x0, x1, x2, _, _, _⟩ := block_cells H81.out
          obtain ⟨y0, y1, y2, _, _, _⟩ := block_cells H91.out
          rw [Hn.out] at x0
          clear hw hR1 hk hgr hR2
          go_wp2_with fail
          go_region
          all_goals
            go_wp2_with fail
            go_roundg k
            case measure => exact hkm.1
            case rel => exact ⟨ps, _, _, τ2, ρ2, r2, _, rfl, (HPt1.out _ HGg.out).gf (GF.ofBelow (Below.refl _ _).drew) Hbg.out.1 (fun k hk => by obtain rfl := Option.some.inj hk; exact Hbg.out.2), HR2.out.below (Below.refl _ _).drew, (HG1.out.trans (TN.refl _ _) HGg.out).trans (TN.refl _ _) (GF.ofBelow (Below.refl _ _).drew), HF.out, hkm.2.1, hkm.2.2⟩
      have hy0 : Y.v = 0 := by simpa using hy
      have e0 : (X.v != 0) = false := by rw [hx0]; rfl
      have e2 : (X.v == 0) = true := by rw [hx0]; rfl
      have e3 : (Y.v != 0) = false := by rw [hy0]; rfl
      have HMD : Hid (∀ F, L0 < F → ∃ F', m < F' ∧ (¬ (X.nm.toList = Y.nm.toList ∧ X.len = Y.len) → meetF F σ L0 [(S, T)] = .no m) ∧ (X.nm.toList = Y.nm.toList → X.len = Y.len → meetF F σ L0 [(S, T)] = meetF F' σ' m (zipK X Y ++ ps))) := fun F hF => by
        obtain ⟨F', h1, h2⟩ := Hmeet.out F hF
        have := meetD HRc.out.rel HOk.out.1 HOk.out.2 HLX.out HLY.out hx0 hy0 F' m ps
        exact ⟨F', h1, fun h => by rw [h2]; exact this.1 h, fun h h' => by rw [h2]; exact this.2 h h'⟩
      have hlX4 : X.len ≤ 4 := HGX.out.1.2.1.four
      clear hx0 hy hy0
      by_cases hnm : X.nm.toList = Y.nm.toList
      case neg =>
        have HNo : Hid (∀ F, L0 < F → meetF F σ L0 [(S, T)] = .no m) := fun F hF => by
          obtain ⟨F', _, h2, _⟩ := HMD.out F hF
          exact h2 (fun h => hnm h.1)
        have hnb : (X.nm.toList == Y.nm.toList) = false := beq_eq_false_iff_ne.2 hnm
        have hnb2 : (X.nm.toList != Y.nm.toList) = true := bne_iff_ne.2 hnm
        clear hnm
        go_wp2_with fail
        go_ret
        exact ⟨HGc.out, .inr (.inl ⟨m, hml.2, rfl, HNo.out, τ', ρ', r', σ', HRc.out⟩)⟩
      have hnb : (X.nm.toList == Y.nm.toList) = true := beq_iff_eq.2 hnm
      have hnb2 : (X.nm.toList != Y.nm.toList) = false := by rw [hnm]; simp
      by_cases hll : X.len = Y.len
      case neg =>
        have HNo : Hid (∀ F, L0 < F → meetF F σ L0 [(S, T)] = .no m) := fun F hF => by
          obtain ⟨F', _, h2, _⟩ := HMD.out F hF
          exact h2 (fun h => hll h.2)
        have hlb : ((X.len : Int) != (Y.len : Int)) = true := bne_iff_ne.2 (by omega)
        clear hnm hll
        go_wp2_with fail
        go_ret
        exact ⟨HGc.out, .inr (.inl ⟨m, hml.2, rfl, HNo.out, τ', ρ', r', σ', HRc.out⟩)⟩
      have hlb : ((X.len : Int) != (Y.len : Int)) = false := by rw [hll]; simp
      have HF : Hid (∀ F, L0 < F → ∃ F', m < F' ∧ meetF F σ L0 [(S, T)] = meetF F' σ' m (zipK X Y ++ ps)) := fun F hF => by
        obtain ⟨F', h1, _, h3⟩ := HMD.out F hF
        exact ⟨F', h1, h3 hnm hll⟩
      have Hll : Hid (X.len = Y.len) := hll
      have Hm2 : Hid (gk = m + 1) := Hm.out
      clear hnm hll HMD
      obtain ⟨i6, hi6, hz60, hz61, hz62⟩ := info_parts Try.info145
      generalize hxa : X.a = xa at *
      generalize hya : Y.a = ya at *
      go_wp2_with fail
      go_loopw [11, 12] (fun mv i wr => ∃ j : Nat, j ≤ X.len ∧ i = .int .i64 j ∧ wr.ownsRow wc.heap.size 145 6 mv j (flat6 ((zipK X Y).take j)) ∧ Below wc.heap.size wc wr) (fun _ i _ => X.len - (intOf i).toNat)
      case atStart => exact ⟨0, Nat.zero_le _, rfl, World.ownsRow_nil _ _ _ _, Below.refl _ _⟩
      case round =>
        obtain ⟨j, hj, rfl, hO, hBr⟩ := hrel
        have HO : Hid (wr.ownsRow wc.heap.size 145 6 u11 j (flat6 ((zipK X Y).take j))) := hO
        have HBr : Hid (Below wc.heap.size wc wr) := hBr
        have hsr := hBr.size
        have Z8 : wr.heap[k8]? = some (.cells #[.int .i64 X.v, .string X.nm, .slice xa X.len X.cap] 24) := (hBr.block k8 hk8).trans H8.out
        have Z9 : wr.heap[k9]? = some (.cells #[.int .i64 Y.v, .string Y.nm, .slice ya Y.len Y.cap] 24) := (hBr.block k9 hk9).trans H9.out
        clear hO hBr x0 x1 x2 xf0 xf1 xf2 y0 y1 y2 yf0 yf1 yf2
        obtain ⟨x0, x1, x2, xf0, xf1, xf2⟩ := block_cells Z8
        obtain ⟨y0, y1, y2, yf0, yf1, yf2⟩ := block_cells Z9
        clear Z8 Z9
        by_cases hlt : j < X.len
        case neg =>
          obtain rfl : j = X.len := by omega
          have HOe : Hid (wr.ownsRow wc.heap.size 145 6 u11 X.len (flat6 (zipK X Y))) := by
            have := HO.out
            rwa [show (zipK X Y).take X.len = zipK X Y from List.take_of_length_le (by rw [zipK_len]; exact Nat.le_refl _)] at this
          have hdj : decide ((X.len : Int) < (X.len : Int)) = false := decide_eq_false (by omega)
          have HPr : Hid (PW wr b g (.slice (some ⟨g, 0, none⟩) len cap) N w.heap.size (some ⟨bq, ot, none⟩) (c - 1) ps) := HPt.out _ (GF.ofBelow HBr.out)
          have HNw : Hid (∀ j u, (flat6 ps)[j]? = some u → wr.cell? ((⟨bq, ot, none⟩ : Addr).add j) = some u) := prow_cells HPr.out.row
          have hpl : X.len + ps.length ≤ 1000000 := by omega
          clear hlt
          go_wp2_with (at_builtin; refine wpList_append_own_at _ rfl (.tmp 122) (.tmp 123) 146 rfl wc.heap.size 145 i6 (.agg #[.int .i64 0, .string ByteArray.empty, .slice none 0 0, .int .i64 0, .string ByteArray.empty, .slice none 0 0]) 6 96 Try.underlying146 hi6 hz60 hz61 hz62 rfl (by decide) u11 X.len (flat6 (zipK X Y)) rfl HOe.out ⟨bq, ot, none⟩ ps.length (c - 1) (flat6 ps) rfl (flat6_length _) HNw.out (flat6_one _) (by unfold maxLen; omega) (by omega) hsr ?_; intro v' w6 hown' hgrow hnil hat)
          have hB6 : Below wc.heap.size wc w6 := HBr.out.grown hgrow hsr (fun k hk => (HOe.out.lt k hk).1)
          have hle : (zipK X Y ++ ps).length = X.len + ps.length := by rw [List.length_append, zipK_len]
          have hln2 : X.len + ps.length + 3 * m ≤ 1 + 3 * L0 := by have := Hm2.out; omega
          have hgd : ∀ p ∈ zipK X Y ++ ps, Good w6 b b (.slice (some ⟨g, 0, none⟩) len cap) N p.1 ∧ Good w6 b b (.slice (some ⟨g, 0, none⟩) len cap) N p.2 := fun p hp => by
            rcases List.mem_append.1 hp with h | h
            · obtain ⟨i, hi, rfl⟩ := List.mem_map.1 h
              have hi' : i < X.len := List.mem_range.1 hi
              exact ⟨(HGX.out.1.kid hi').below hB6, (HGX.out.2.kid (by have := Hll.out; omega)).below hB6⟩
            · exact ((HPt.out _ (GF.ofBelow hB6)).good p h)
          have hwc : w.heap.size ≤ wc.heap.size := HGc.out.size
          have hRF6 := HRc.out.below hB6
          have hGF6 := HGc.out.trans (TN.refl _ _) (GF.ofBelow hB6)
          rw [← flat6_append] at hown'
          rcases hown'.2 with ⟨rfl, h0⟩ | ⟨g', cap', cur, rfl, hlo', _, hnc, _⟩
          · have hnil2 : zipK X Y ++ ps = [] := List.eq_nil_of_length_eq_zero (by omega)
            have HFn : Hid (∀ F, L0 < F → ∃ F', m < F' ∧ meetF F σ L0 [(S, T)] = meetF F' σ' m []) := by
              have := HF.out
              rw [hnil2] at this
              exact this
            go_roundg m
            case measure => exact hmg
            case rel => exact ⟨[], none, 0, τ', ρ', r', σ', rfl, ⟨fun i hi => absurd hi (Nat.not_lt_zero i), fun k o e => (by cases e), fun p hp => absurd hp (by simp), Nat.le_refl _⟩, hRF6, hGF6, HFn.out, (by simp; omega), hml.2⟩
          · go_roundg m
            case measure => exact hmg
            case rel => exact ⟨zipK X Y ++ ps, some ⟨g', 0, none⟩, cap', τ', ρ', r', σ', (by rw [hle]), ⟨own_prow hown' hle, fun k o e => (by cases e; omega), hgd, (by omega)⟩, hRF6, hGF6, HF.out, (by omega), hml.2⟩
        have hltI : (j : Int) < (X.len : Int) := by omega
        have hltJ : (j : Int) < (Y.len : Int) := by have := Hll.out; omega
        obtain ⟨bx, ox, ex, c0, c1, c2⟩ := (HGX.out.1.1.below HBr.out).row hlt
        obtain ⟨by', oy, ey, d0, d1, d2⟩ := (HGX.out.2.1.below HBr.out).row (show j < Y.len by have := Hll.out; omega)
        rw [hxa] at ex
        rw [hya] at ey
        subst ex ey
        have HO1 : Hid ((wr.alloc (.cells #[.int .i64 (X.f j).v, .string (X.f j).nm, .slice (X.f j).a (X.f j).len (X.f j).cap, .int .i64 (Y.f j).v, .string (Y.f j).nm, .slice (Y.f j).a (Y.f j).len (Y.f j).cap] 145)).ownsRow wc.heap.size 145 6 u11 j (flat6 ((zipK X Y).take j))) := HO.out.kept (grown_of_below ((Below.refl wr.heap.size wr).alloc (Nat.le_refl _) _) none) (by cases u11.ownBlock with | none => exact .inl rfl | some g => exact .inr (by simp))
        have HBw : Hid (Below wc.heap.size wc (wr.alloc (.cells #[.int .i64 (X.f j).v, .string (X.f j).nm, .slice (X.f j).a (X.f j).len (X.f j).cap, .int .i64 (Y.f j).v, .string (Y.f j).nm, .slice (Y.f j).a (Y.f j).len (Y.f j).cap] 145))) := HBr.out.alloc hsr _
        go_wp2_with fail
        go_region_law (refine step_append_own_at rfl (.tmp 108) (.tmp 120) 146 rfl wc.heap.size 145 i6 (.agg #[.int .i64 0, .string ByteArray.empty, .slice none 0 0, .int .i64 0, .string ByteArray.empty, .slice none 0 0]) 6 96 Try.underlying146 hi6 hz60 hz61 hz62 rfl (by decide) u11 j (flat6 ((zipK X Y).take j)) (by first | rfl | simp [Act.eval, Act.put]) HO1.out ⟨wr.heap.size, 0, none⟩ 1 1 (flat6 [(X.f j, Y.f j)]) (by first | rfl | simp [Act.eval, Act.put]) rfl (news6 wr _ _) (flat6_one _) (by unfold maxLen; omega) (by omega) (by simp; omega) (by omega) ?_
                       intro g1 c1' w6 ho6 hg6 hat6
                       have HO6 : Hid (w6.ownsRow wc.heap.size 145 6 (.slice (some ⟨g1, 0, none⟩) (j + 1) c1') (j + 1) (flat6 ((zipK X Y).take (j + 1)))) := (by rw [zipK_take hlt, flat6_append]; exact ho6)
                       have HB6 : Hid (Below wc.heap.size wc w6) := Below.grown HBw.out (w' := w6) (row := u11.ownBlock) ⟨hg6.os, hg6.tape, hg6.output, hg6.size, hg6.block⟩ HBw.out.size (fun k hk => (HO.out.lt k hk).1)
                       clear ho6 hg6 hat6)
        all_goals
          go_wp2_with fail
          go_roundw
          case rel => exact ⟨j + 1, by omega, by go_num, HO6.out, HB6.out⟩
          case measure => simp [intOf]; omega
end Go.Proofs.Ytmggaclaoefdaaa
