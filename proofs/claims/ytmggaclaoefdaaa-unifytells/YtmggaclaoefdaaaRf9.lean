/- The reference's More: what it answers. -/
import Derived.Test.YtmggaclaoefdaaaRf8
import Derived.Test.YtmggaclaoefdaaaRf5
namespace Go.Proofs.Ytmggaclaoefdaaa
open Go.RowKit

/-- The two cells of a state, wherever they stand in their block. -/
structure Bx (ob : Nat) (B : Value → Value → Obj) : Prop where
  c0 : ∀ (w : World) (b : Nat) (v k : Value), w.heap[b]? = some (B v k) → w.cell? ⟨b, ob, none⟩ = some v
  c1 : ∀ (w : World) (b : Nat) (v k : Value), w.heap[b]? = some (B v k) → w.cell? ⟨b, ob + 1, none⟩ = some k
  f0 : ∀ (w : World) (b : Nat) (v k : Value), w.heap[b]? = some (B v k) → w.frozen? ⟨b, ob, none⟩ = false
  f1 : ∀ (w : World) (b : Nat) (v k : Value), w.heap[b]? = some (B v k) → w.frozen? ⟨b, ob + 1, none⟩ = false
  s0 : ∀ (w : World) (b : Nat) (v k v' : Value), w.heap[b]? = some (B v k) → (w.setCell ⟨b, ob, none⟩ v').heap[b]? = some (B v' k)
  s1 : ∀ (w : World) (b : Nat) (v k k' : Value), w.heap[b]? = some (B v k) → (w.setCell ⟨b, ob + 1, none⟩ k').heap[b]? = some (B v k')
def bxS : Value → Value → Obj := fun v k => .cells #[v, k] 94
theorem bxS_bx : Bx 0 bxS := by
  refine ⟨fun w b v k h => ?_, fun w b v k h => ?_, fun w b v k h => ?_, fun w b v k h => ?_, fun w b v k v' h => ?_, fun w b v k v' h => ?_⟩ <;> unfold bxS at *
  · simp [World.cell?, h]
  · simp [World.cell?, h]
  · simp [World.frozen?, h]
  · simp [World.frozen?, h]
  · simp only [World.setCell, Array.getElem?_modify]; simp [h]
  · simp only [World.setCell, Array.getElem?_modify]; simp [h]
def newV (n k : Nat) : List Tm := (List.range k).map fun i : Nat => vT ((n : Int) + (i : Int))
/-- The reference's state: its list, in memory of its own, and its work. -/
structure RSt (w : World) (b ob : Nat) (B : Value → Value → Obj) (lo : Nat) (v : Value) (ts : List Tm) (wk : Int) : Prop where
  bx : Bx ob B
  blk : w.heap[b]? = some (B v (.int .i64 wk))
  own : w.ownsRow lo 24 3 v ts.length (flat ts)
  ne : ∀ g, v.ownBlock = some g → g ≠ b
  lo : lo ≤ b
theorem newV_succ (n j : Nat) : newV n (j + 1) = newV n j ++ [vT ((n : Int) + (j : Int))] := by unfold newV; rw [List.range_succ, List.map_append]; rfl
theorem more_gf {wr w6 w7 w8 : World} {b g : Nat} {u : Value} {o : Obj} (h6 : (wr.alloc o).grownBy w6 u.ownBlock) (hA : some g = u.ownBlock ∨ g = (wr.alloc o).heap.size) (h7 : w6.grownBy w7 (some g)) (h8 : w7.grownBy w8 (some b)) : GF b b u wr w8 := by
  have hs : (wr.alloc o).heap.size = wr.heap.size + 1 := by simp
  refine ⟨h8.os.trans (h7.os.trans h6.os), h8.tape.trans (h7.tape.trans h6.tape), h8.output.trans (h7.output.trans h6.output), by have := h8.size; have := h7.size; have := h6.size; omega, fun k hk h1 _ h3 => ?_⟩
  have hkg : k ≠ g := fun e => by
    rcases hA with h | h
    · exact h3 g h.symm e.symm
    · omega
  have := h6.size
  have := h7.size
  exact (h8.block k (by omega) (fun e => h1 (Option.some.inj e))).trans ((h7.block k (by omega) (fun e => hkg (Option.some.inj e))).trans ((h6.block k (by omega) (fun e => h3 k e.symm rfl)).trans (heap_alloc_old _ _ hk)))
theorem more_gf2 {wr w6 w7 w8 : World} {b g : Nat} {u : Value} {o : Obj} (h6 : (wr.alloc o).grownBy w6 u.ownBlock) (hA : some g = u.ownBlock ∨ g = (wr.alloc o).heap.size) (h7 : w6.grownBy w7 (some b)) (h8 : w7.grownBy w8 (some g)) : GF b b u wr w8 := by
  have hs : (wr.alloc o).heap.size = wr.heap.size + 1 := by simp
  refine ⟨h8.os.trans (h7.os.trans h6.os), h8.tape.trans (h7.tape.trans h6.tape), h8.output.trans (h7.output.trans h6.output), by have := h8.size; have := h7.size; have := h6.size; omega, fun k hk h1 _ h3 => ?_⟩
  have hkg : k ≠ g := fun e => by
    rcases hA with h | h
    · exact h3 g h.symm e.symm
    · omega
  have := h6.size
  have := h7.size
  exact (h8.block k (by omega) (fun e => hkg (Option.some.inj e))).trans ((h7.block k (by omega) (fun e => h1 (Option.some.inj e))).trans ((h6.block k (by omega) (fun e => h3 k e.symm rfl)).trans (heap_alloc_old _ _ hk)))
theorem more_cells {w : World} {lo g cap n : Nat} {ts : List Tm} (h : w.ownsRow lo 24 3 (.slice (some ⟨g, 0, none⟩) (n + 1) cap) (n + 1) (flat ts ++ flat [vT 0])) : ∀ p, p < (n + 1) * 3 → w.cell? ⟨g, p, none⟩ = (flat (ts ++ [vT 0]))[p]? ∧ w.frozen? ⟨g, p, none⟩ = false := by
  intro p hp
  refine ⟨?_, ?_⟩
  · rw [flat_append]; exact h.cellAt p hp
  · rcases h.2 with ⟨h2, _⟩ | ⟨g', cap', cur, hv, _, hg, _⟩
    · cases h2
    · cases hv
      simp [World.frozen?, hg]
set_option maxRecDepth 100000 in
set_option maxHeartbeats 4000000 in
theorem more_any (k : Nat) {b ob : Nat} {B : Value → Value → Obj} {lo : Nat} {ts : List Tm} {v : Value} {wk : Int} (w : World) (hS : RSt w b ob B lo v ts wk) (hk : ts.length + k ≤ 1000000) :
    Calls Try.prog 99 #[.pointer (some ⟨b, ob, none⟩), .int .i64 k] w fun e w' => e = .returned (.int .i64 ts.length) ∧ ∃ v', RSt w' b ob B lo v' (ts ++ newV ts.length k) wk ∧ GF b b v w w' ∧ TN v v' w := by
  have hvs : ∃ (a : Option Addr) (c : Nat), v = .slice a ts.length c := by
    rcases hS.own.2 with ⟨rfl, h0⟩ | ⟨g, cap, _, rfl, _⟩
    · exact ⟨none, 0, by rw [h0]⟩
    · exact ⟨_, _, rfl⟩
  obtain ⟨a, c, rfl⟩ := hvs
  have HS : Hid (RSt w b ob B lo (.slice a ts.length c) ts wk) := hS
  have s0 := hS.bx.c0 _ _ _ _ hS.blk
  have f0 := hS.bx.f0 _ _ _ _ hS.blk
  obtain ⟨i0, hi, hz0, hz1, hz2⟩ := info_parts Try.info24
  clear hS
  go_enter Try.func99, Try.ntmps99
  go_wp2_with fail
  go_loopw [6] (fun i wr => ∃ (j : Nat) (u : Value), j ≤ k ∧ i = .int .i64 j ∧ RSt wr b ob B lo u (ts ++ newV ts.length j) wk ∧ GF b b (.slice a ts.length c) w wr ∧ TN (.slice a ts.length c) u w) (fun i _ => k - (intOf i).toNat)
  case atStart => exact ⟨0, _, Nat.zero_le _, rfl, by simpa [newV] using HS.out, GF.refl _ _ _ _, TN.refl _ _⟩
  case round =>
    obtain ⟨j, u, hj, rfl, hR, hG, hN⟩ := hrel
    have HR : Hid (RSt wr b ob B lo u (ts ++ newV ts.length j) wk) := hR
    have HG : Hid (GF b b (.slice a ts.length c) w wr ∧ TN (.slice a ts.length c) u w) := ⟨hG, hN⟩
    clear hR hG hN s0 f0
    by_cases hlt : j < k
    case neg =>
      obtain rfl : j = k := by omega
      go_wp2_with fail
      go_ret
      exact ⟨rfl, u, HR.out, HG.out⟩
    have hltI : (j : Int) < (k : Int) := by omega
    obtain ⟨m, hm⟩ : ∃ m : Nat, m = ts.length + j := ⟨_, rfl⟩
    have hmB : m < 1000000 := by omega
    have hmI : (m : Int) < (m : Int) + 1 := by omega
    have hmJ : (m : Int) < ((m + 1 : Nat) : Int) := by omega
    have hln0 : (ts ++ newV ts.length j).length = m := by rw [hm]; simp [newV]
    have hln : Hid ((ts ++ newV ts.length j).length = m) := hln0
    have Hm : Hid (m = ts.length + j) := hm
    have hwrp : IntKind.i64.wrap ((ts.length : Int) + (j : Int)) = (ts.length : Int) + (j : Int) := by simp [IntKind.wrap, IntKind.bits, IntKind.signed]; omega
    obtain ⟨a', c', hu⟩ : ∃ (a' : Option Addr) (c' : Nat), u = .slice a' m c' := by
      rcases HR.out.own.2 with ⟨h, h0⟩ | ⟨g, cap, _, h, _⟩
      · exact ⟨none, 0, by rw [h, ← hln0, h0]⟩
      · exact ⟨_, _, by rw [h, hln0]⟩
    subst hu
    clear hln0 hm
    have s0 := HR.out.bx.c0 _ _ _ _ HR.out.blk
    have f0 := HR.out.bx.f0 _ _ _ _ HR.out.blk
    go_wp2_with fail
    have hlo := HR.out.lo
    have hbs : b < wr.heap.size := (Array.getElem?_eq_some_iff.1 HR.out.blk).1
    have HO : Hid ((wr.alloc (.cells #[.int .i64 0, .string ⟨#[]⟩, .slice none 0 0] 24)).ownsRow lo 24 3 (.slice a' m c') m (flat (ts ++ newV ts.length j))) := by
      have h := HR.out.own.kept (grown_of_below ((Below.refl wr.heap.size wr).alloc (Nat.le_refl _) (.cells #[.int .i64 0, .string ⟨#[]⟩, .slice none 0 0] 24)) none) (by cases (Value.slice a' m c').ownBlock with | none => exact .inl rfl | some g => exact .inr (by simp))
      rw [hln.out] at h
      exact h
    have HNe : Hid (some b ≠ (Value.slice a' m c').ownBlock) := fun e => HR.out.ne b e.symm rfl
    go_region_law (refine step_append_own_at rfl (.tmp 20) (.tmp 26) 22 rfl lo 24 i0 (.agg #[.int .i64 0, .string ByteArray.empty, .slice none 0 0]) 3 48 Try.underlying22 hi hz0 hz1 hz2 rfl (by decide) (.slice a' m c') m (flat (ts ++ newV ts.length j)) (by first | rfl | simp [Act.eval, Act.put]) HO.out ⟨wr.heap.size, 0, none⟩ 1 1 (flat [vT 0]) (by first | rfl | simp [Act.eval, Act.put]) rfl (news1 wr (vT 0)) (flat_one _) (by unfold maxLen; omega) (by omega) (by simp; omega) (by omega) ?_
                   intro g cap' w6 hown6 hg6 hat6
                   have HO6 : Hid (w6.ownsRow lo 24 3 (.slice (some ⟨g, 0, none⟩) (m + 1) cap') (m + 1) (flat (ts ++ newV ts.length j) ++ flat [vT 0])) := hown6
                   have HG6 : Hid ((wr.alloc (.cells #[.int .i64 0, .string ⟨#[]⟩, .slice none 0 0] 24)).grownBy w6 (Value.slice a' m c').ownBlock) := ⟨hg6.os, hg6.tape, hg6.output, hg6.size, hg6.block⟩
                   have HA6 : Hid (some g = (Value.slice a' m c').ownBlock ∨ g = (wr.alloc (.cells #[.int .i64 0, .string ⟨#[]⟩, .slice none 0 0] 24)).heap.size) := hat6
                   have HB6 : Hid (w6.heap[b]? = some (B (.slice a' m c') (.int .i64 wk))) := (hg6.block b (by simp; omega) HNe.out).trans ((heap_alloc_old _ _ hbs).trans HR.out.blk)
                   obtain ⟨q0, qf0⟩ : w6.cell? ⟨b, ob, none⟩ = some (.slice a' m c') ∧ w6.frozen? ⟨b, ob, none⟩ = false := ⟨HR.out.bx.c0 _ _ _ _ HB6.out, HR.out.bx.f0 _ _ _ _ HB6.out⟩
                   have HX : Hid (∀ p, p < (m + 1) * 3 → w6.cell? ⟨g, p, none⟩ = (flat ((ts ++ newV ts.length j) ++ [vT 0]))[p]? ∧ w6.frozen? ⟨g, p, none⟩ = false) := more_cells hown6
                   obtain ⟨m0, m1, m2⟩ := flat_get ((ts ++ newV ts.length j) ++ [vT 0]) m (by rw [List.length_append, hln.out]; exact Nat.lt_succ_self _)
                   have p0 := (HX.out (m * 3) (by omega)).1.trans m0
                   have p1 := (HX.out (m * 3 + 1) (by omega)).1.trans m1
                   have p2 := (HX.out (m * 3 + 2) (by omega)).1.trans m2
                   have r0 := (HX.out (m * 3) (by omega)).2
                   have r1 := (HX.out (m * 3 + 1) (by omega)).2
                   have r2 := (HX.out (m * 3 + 2) (by omega)).2
                   have hgb : g ≠ b := (by rcases hat6 with e | e; (· exact HR.out.ne g e.symm); (· rw [e]; simp; omega))
                   have HG7 : Hid (w6.grownBy (((w6.setCell ⟨g, m * 3, none⟩ (.int .i64 ((ts.length : Int) + (j : Int)))).setCell ⟨g, m * 3 + 1, none⟩ (.string ⟨#[]⟩)).setCell ⟨g, m * 3 + 2, none⟩ (.slice none 0 0)) (some g)) := G.trans (G.trans (grown_set g (m * 3) _) (grown_set g (m * 3 + 1) _)) (grown_set g (m * 3 + 2) _)
                   have HB7 : Hid ((((w6.setCell ⟨g, m * 3, none⟩ (.int .i64 ((ts.length : Int) + (j : Int)))).setCell ⟨g, m * 3 + 1, none⟩ (.string ⟨#[]⟩)).setCell ⟨g, m * 3 + 2, none⟩ (.slice none 0 0)).heap[b]? = some (B (.slice a' m c') (.int .i64 wk))) := (HG7.out.block b (Array.getElem?_eq_some_iff.1 HB6.out).1 (fun e => hgb (Option.some.inj e).symm)).trans HB6.out
                   obtain ⟨t0, tf0⟩ : (((w6.setCell ⟨g, m * 3, none⟩ (.int .i64 ((ts.length : Int) + (j : Int)))).setCell ⟨g, m * 3 + 1, none⟩ (.string ⟨#[]⟩)).setCell ⟨g, m * 3 + 2, none⟩ (.slice none 0 0)).cell? ⟨b, ob, none⟩ = some (.slice a' m c') ∧ (((w6.setCell ⟨g, m * 3, none⟩ (.int .i64 ((ts.length : Int) + (j : Int)))).setCell ⟨g, m * 3 + 1, none⟩ (.string ⟨#[]⟩)).setCell ⟨g, m * 3 + 2, none⟩ (.slice none 0 0)).frozen? ⟨b, ob, none⟩ = false := ⟨HR.out.bx.c0 _ _ _ _ HB7.out, HR.out.bx.f0 _ _ _ _ HB7.out⟩
                   clear hown6 hg6 hat6 m0 m1 m2)
    all_goals
      have hLen : (((ts ++ newV ts.length j) ++ [vT 0]).set m (vT ((ts.length : Int) + (j : Int)))) = ts ++ newV ts.length (j + 1) := by
        rw [← hln.out, newV_succ]
        simp
      have hl1 : ((ts ++ newV ts.length j) ++ [vT 0]).length = m + 1 := by rw [List.length_append, hln.out]; rfl
      have hO6 : w6.ownsRow lo 24 3 (.slice (some ⟨g, 0, none⟩) (m + 1) cap') (m + 1) (flat ((ts ++ newV ts.length j) ++ [vT 0])) := by rw [flat_append]; exact HO6.out
      have hl2 : (ts ++ newV ts.length (j + 1)).length = m + 1 := by rw [← hLen, List.length_set]; exact hl1
      have HFA : Hid (RSt ((((w6.setCell ⟨g, m * 3, none⟩ (.int .i64 ((ts.length : Int) + (j : Int)))).setCell ⟨g, m * 3 + 1, none⟩ (.string ⟨#[]⟩)).setCell ⟨g, m * 3 + 2, none⟩ (.slice none 0 0)).setCell ⟨b, ob, none⟩ (.slice (some ⟨g, 0, none⟩) (m + 1) cap')) b ob B lo (.slice (some ⟨g, 0, none⟩) (m + 1) cap') (ts ++ newV ts.length (j + 1)) wk ∧ GF b b (.slice a' m c') wr ((((w6.setCell ⟨g, m * 3, none⟩ (.int .i64 ((ts.length : Int) + (j : Int)))).setCell ⟨g, m * 3 + 1, none⟩ (.string ⟨#[]⟩)).setCell ⟨g, m * 3 + 2, none⟩ (.slice none 0 0)).setCell ⟨b, ob, none⟩ (.slice (some ⟨g, 0, none⟩) (m + 1) cap'))) := by
        have h7 := owns_set hO6 hl1 (Nat.lt_succ_self m) (vT ((ts.length : Int) + (j : Int)))
        rw [hLen] at h7
        have h8 := h7.kept (grown_set b ob (.slice (some ⟨g, 0, none⟩) (m + 1) cap')) (.inr (fun e => hgb (Option.some.inj e)))
        exact ⟨⟨HR.out.bx, HR.out.bx.s0 _ _ _ _ _ HB7.out, by rw [hl2]; exact h8, fun q hq => by obtain rfl := Option.some.inj hq; exact hgb, hlo⟩, more_gf HG6.out HA6.out HG7.out (grown_set b ob _)⟩
      have HFB : Hid (RSt ((((w6.setCell ⟨b, ob, none⟩ (.slice (some ⟨g, 0, none⟩) (m + 1) cap')).setCell ⟨g, m * 3, none⟩ (.int .i64 ((ts.length : Int) + (j : Int)))).setCell ⟨g, m * 3 + 1, none⟩ (.string ⟨#[]⟩)).setCell ⟨g, m * 3 + 2, none⟩ (.slice none 0 0)) b ob B lo (.slice (some ⟨g, 0, none⟩) (m + 1) cap') (ts ++ newV ts.length (j + 1)) wk ∧ GF b b (.slice a' m c') wr ((((w6.setCell ⟨b, ob, none⟩ (.slice (some ⟨g, 0, none⟩) (m + 1) cap')).setCell ⟨g, m * 3, none⟩ (.int .i64 ((ts.length : Int) + (j : Int)))).setCell ⟨g, m * 3 + 1, none⟩ (.string ⟨#[]⟩)).setCell ⟨g, m * 3 + 2, none⟩ (.slice none 0 0))) := by
        have h6 := hO6.kept (grown_set b ob (.slice (some ⟨g, 0, none⟩) (m + 1) cap')) (.inr (fun e => hgb (Option.some.inj e)))
        have h7 := owns_set h6 hl1 (Nat.lt_succ_self m) (vT ((ts.length : Int) + (j : Int)))
        rw [hLen] at h7
        have hg3 : (w6.setCell ⟨b, ob, none⟩ (.slice (some ⟨g, 0, none⟩) (m + 1) cap')).grownBy ((((w6.setCell ⟨b, ob, none⟩ (.slice (some ⟨g, 0, none⟩) (m + 1) cap')).setCell ⟨g, m * 3, none⟩ (.int .i64 ((ts.length : Int) + (j : Int)))).setCell ⟨g, m * 3 + 1, none⟩ (.string ⟨#[]⟩)).setCell ⟨g, m * 3 + 2, none⟩ (.slice none 0 0)) (some g) := G.trans (G.trans (grown_set g (m * 3) _) (grown_set g (m * 3 + 1) _)) (grown_set g (m * 3 + 2) _)
        have hbB := HR.out.bx.s0 _ _ _ _ (.slice (some ⟨g, 0, none⟩) (m + 1) cap') HB6.out
        exact ⟨⟨HR.out.bx, (hg3.block b (Array.getElem?_eq_some_iff.1 hbB).1 (fun e => hgb (Option.some.inj e).symm)).trans hbB, by rw [hl2]; exact h7, fun q hq => by obtain rfl := Option.some.inj hq; exact hgb, hlo⟩, more_gf2 HG6.out HA6.out (grown_set b ob _) hg3⟩
      have HTN : Hid (TN (.slice a ts.length c) (.slice (some ⟨g, 0, none⟩) (m + 1) cap') w) := HG.out.2.trans (fun q hq => by
        obtain rfl := Option.some.inj hq
        rcases HA6.out with e | e
        · exact .inl e.symm
        · exact .inr (by rw [e]; simp)) HG.out.1.size
      clear hLen hl1 hO6 hl2
      go_wp2_with fail
      go_roundw
      case rel => first | exact ⟨j + 1, _, by omega, by go_num, HFA.out.1, HG.out.1.trans HG.out.2 HFA.out.2, HTN.out⟩ | exact ⟨j + 1, _, by omega, by go_num, HFB.out.1, HG.out.1.trans HG.out.2 HFB.out.2, HTN.out⟩
      case measure => simp [intOf]; omega
end Go.Proofs.Ytmggaclaoefdaaa
