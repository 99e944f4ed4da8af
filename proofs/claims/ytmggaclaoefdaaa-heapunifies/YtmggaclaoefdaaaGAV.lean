/- The reference's More: what it answers. The reference's state, whole: its list, and what it means; one more binding; Begin. -/
import Derived.Test.YtmggaclaoefdaaaGAT
import Derived.Test.YtmggaclaoefdaaaRf5
namespace Go.Proofs.Ytmggaclaoefdaaa
open Go.RowKit

/-- The two cells of a state, wherever they stand in their block. -/
structure Bx (ob : Nat) (B : Value → Value → Obj) : Prop where
  c0 : ∀ (w : World) (b : Nat) (v k : Value), w.heap[b]? = some (B v k) → w.cell? ⟨b, ob, none⟩ = some v
  c1 : ∀ (w : World) (b : Nat) (v k : Value), w.heap[b]? = some (B v k) → w.cell? ⟨b, ob + 1, none⟩ = some k
  f0 : ∀ (w : World) (b : Nat) (v k : Value), w.heap[b]? = some (B v k) → w.frozen? ⟨b, ob, none⟩ = false
  f1 : ∀ (w : World) (b : Nat) (v k : Value), w.heap[b]? = some (B v k) → w.frozen? ⟨b, ob + 1, none⟩ = false
  s0 : ∀ (w : World) (b : Nat) (v k v' : Value), w.heap[b]? = some (B v k) → (w.setCell ⟨b, ob, none⟩ v').heap[b]? = some (B v' k)
  s1 : ∀ (w : World) (b : Nat) (v k k' : Value), w.heap[b]? = some (B v k) → (w.setCell ⟨b, ob + 1, none⟩ k').heap[b]? = some (B v k')
def bxS : Value → Value → Obj := fun v k => .cells #[v, k] 94
theorem bxS_bx : Bx 0 bxS := by
  refine ⟨fun w b v k h => ?_, fun w b v k h => ?_, fun w b v k h => ?_, fun w b v k h => ?_, fun w b v k v' h => ?_, fun w b v k v' h => ?_⟩ <;> unfold bxS at *
  · simp [World.cell?, h]
  · simp [World.cell?, h]
  · simp [World.frozen?, h]
  · simp [World.frozen?, h]
  · simp only [World.setCell, Array.getElem?_modify]; simp [h]
  · simp only [World.setCell, Array.getElem?_modify]; simp [h]
def newV (n k : Nat) : List Tm := (List.range k).map fun i : Nat => vT ((n : Int) + (i : Int))
/-- The reference's state: its list, in memory of its own, and its work. -/
structure RSt (w : World) (b ob : Nat) (B : Value → Value → Obj) (lo : Nat) (v : Value) (ts : List Tm) (wk : Int) : Prop where
  bx : Bx ob B
  blk : w.heap[b]? = some (B v (.int .i64 wk))
  own : w.ownsRow lo 24 3 v ts.length (flat ts)
  ne : ∀ g, v.ownBlock = some g → g ≠ b
  lo : lo ≤ b
theorem newV_succ (n j : Nat) : newV n (j + 1) = newV n j ++ [vT ((n : Int) + (j : Int))] := by unfold newV; rw [List.range_succ, List.map_append]; rfl
theorem more_gf {wr w6 w7 w8 : World} {b g : Nat} {u : Value} {o : Obj} (h6 : (wr.alloc o).grownBy w6 u.ownBlock) (hA : some g = u.ownBlock ∨ g = (wr.alloc o).heap.size) (h7 : w6.grownBy w7 (some g)) (h8 : w7.grownBy w8 (some b)) : GF b b u wr w8 := by
  have hs : (wr.alloc o).heap.size = wr.heap.size + 1 := by simp
  refine ⟨h8.os.trans (h7.os.trans h6.os), h8.tape.trans (h7.tape.trans h6.tape), h8.output.trans (h7.output.trans h6.output), by have := h8.size; have := h7.size; have := h6.size; omega, fun k hk h1 _ h3 => ?_⟩
  have hkg : k ≠ g := fun e => by
    rcases hA with h | h
    · exact h3 g h.symm e.symm
    · omega
  have := h6.size
  have := h7.size
  exact (h8.block k (by omega) (fun e => h1 (Option.some.inj e))).trans ((h7.block k (by omega) (fun e => hkg (Option.some.inj e))).trans ((h6.block k (by omega) (fun e => h3 k e.symm rfl)).trans (heapOld _ _ hk)))
theorem more_gf2 {wr w6 w7 w8 : World} {b g : Nat} {u : Value} {o : Obj} (h6 : (wr.alloc o).grownBy w6 u.ownBlock) (hA : some g = u.ownBlock ∨ g = (wr.alloc o).heap.size) (h7 : w6.grownBy w7 (some b)) (h8 : w7.grownBy w8 (some g)) : GF b b u wr w8 := by
  have hs : (wr.alloc o).heap.size = wr.heap.size + 1 := by simp
  refine ⟨h8.os.trans (h7.os.trans h6.os), h8.tape.trans (h7.tape.trans h6.tape), h8.output.trans (h7.output.trans h6.output), by have := h8.size; have := h7.size; have := h6.size; omega, fun k hk h1 _ h3 => ?_⟩
  have hkg : k ≠ g := fun e => by
    rcases hA with h | h
    · exact h3 g h.symm e.symm
    · omega
  have := h6.size
  have := h7.size
  exact (h8.block k (by omega) (fun e => hkg (Option.some.inj e))).trans ((h7.block k (by omega) (fun e => h1 (Option.some.inj e))).trans ((h6.block k (by omega) (fun e => h3 k e.symm rfl)).trans (heapOld _ _ hk)))
theorem more_cells {w : World} {lo g cap n : Nat} {ts : List Tm} (h : w.ownsRow lo 24 3 (.slice (some ⟨g, 0, none⟩) (n + 1) cap) (n + 1) (flat ts ++ flat [vT 0])) : ∀ p, p < (n + 1) * 3 → w.cell? ⟨g, p, none⟩ = (flat (ts ++ [vT 0]))[p]? ∧ w.frozen? ⟨g, p, none⟩ = false := by
  intro p hp
  refine ⟨?_, ?_⟩
  · rw [flat_append]; exact h.cellAt p hp
  · rcases h.2 with ⟨h2, _⟩ | ⟨g', cap', cur, hv, _, hg, _⟩
    · cases h2
    · cases hv
      simp [World.frozen?, hg]
set_option maxRecDepth 100000 in
set_option maxHeartbeats 4000000 in
theorem more_any (k : Nat) {b ob : Nat} {B : Value → Value → Obj} {lo : Nat} {ts : List Tm} {v : Value} {wk : Int} (w : World) (hS : RSt w b ob B lo v ts wk) (hk : ts.length + k ≤ 1000000) :
    Calls Try.prog 99 #[.pointer (some ⟨b, ob, none⟩), .int .i64 k] w fun e w' => e = .returned (.int .i64 ts.length) ∧ ∃ v', RSt w' b ob B lo v' (ts ++ newV ts.length k) wk ∧ GF b b v w w' ∧ TN v v' w := by
  have hvs : ∃ (a : Option Addr) (c : Nat), v = .slice a ts.length c := by
    rcases hS.own.2 with ⟨rfl, h0⟩ | ⟨g, cap, _, rfl, _⟩
    · exact ⟨none, 0, by rw [h0]⟩
    · exact ⟨_, _, rfl⟩
  obtain ⟨a, c, rfl⟩ := hvs
  have HS : Hid (RSt w b ob B lo (.slice a ts.length c) ts wk) := hS
  have s0 := hS.bx.c0 _ _ _ _ hS.blk
  have f0 := hS.bx.f0 _ _ _ _ hS.blk
  obtain ⟨i0, hi, hz0, hz1, hz2⟩ := info_parts Try.info24
  clear hS
  go_enter Try.func99, Try.ntmps99
  go_wp2_with fail
  go_loopw [6] (fun i wr => ∃ (j : Nat) (u : Value), j ≤ k ∧ i = .int .i64 j ∧ RSt wr b ob B lo u (ts ++ newV ts.length j) wk ∧ GF b b (.slice a ts.length c) w wr ∧ TN (.slice a ts.length c) u w) (fun i _ => k - (intOf i).toNat)
  case atStart => exact ⟨0, _, Nat.zero_le _, rfl, by simpa [newV] using HS.out, GF.refl _ _ _ _, TN.refl _ _⟩
  case round =>
    obtain ⟨j, u, hj, rfl, hR, hG, hN⟩ := hrel
    have HR : Hid (RSt wr b ob B lo u (ts ++ newV ts.length j) wk) := hR
    have HG : Hid (GF b b (.slice a ts.length c) w wr ∧ TN (.slice a ts.length c) u w) := ⟨hG, hN⟩
    clear hR hG hN s0 f0
    by_cases hlt : j < k
    case neg =>
      obtain rfl : j = k := by omega
      go_wp2_with fail
      go_ret
      exact ⟨rfl, u, HR.out, HG.out⟩
    have hltI : (j : Int) < (k : Int) := by omega
    obtain ⟨m, hm⟩ : ∃ m : Nat, m = ts.length + j := ⟨_, rfl⟩
    have hmB : m < 1000000 := by omega
    have hmI : (m : Int) < (m : Int) + 1 := by omega
    have hmJ : (m : Int) < ((m + 1 : Nat) : Int) := by omega
    have hln0 : (ts ++ newV ts.length j).length = m := by rw [hm]; simp [newV]
    have hln : Hid ((ts ++ newV ts.length j).length = m) := hln0
    have Hm : Hid (m = ts.length + j) := hm
    have hwrp : IntKind.i64.wrap ((ts.length : Int) + (j : Int)) = (ts.length : Int) + (j : Int) := by simp [IntKind.wrap, IntKind.bits, IntKind.signed]; omega
    obtain ⟨a', c', hu⟩ : ∃ (a' : Option Addr) (c' : Nat), u = .slice a' m c' := by
      rcases HR.out.own.2 with ⟨h, h0⟩ | ⟨g, cap, _, h, _⟩
      · exact ⟨none, 0, by rw [h, ← hln0, h0]⟩
      · exact ⟨_, _, by rw [h, hln0]⟩
    subst hu
    clear hln0 hm
    have s0 := HR.out.bx.c0 _ _ _ _ HR.out.blk
    have f0 := HR.out.bx.f0 _ _ _ _ HR.out.blk
    go_wp2_with fail
    have hlo := HR.out.lo
    have hbs : b < wr.heap.size := (Array.getElem?_eq_some_iff.1 HR.out.blk).1
    have HO : Hid ((wr.alloc (.cells #[.int .i64 0, .string ⟨#[]⟩, .slice none 0 0] 24)).ownsRow lo 24 3 (.slice a' m c') m (flat (ts ++ newV ts.length j))) := by
      have h := HR.out.own.kept (grown_of_below ((Below.refl wr.heap.size wr).alloc (Nat.le_refl _) (.cells #[.int .i64 0, .string ⟨#[]⟩, .slice none 0 0] 24)) none) (by cases (Value.slice a' m c').ownBlock with | none => exact .inl rfl | some g => exact .inr (by simp))
      rw [hln.out] at h
      exact h
    have HNe : Hid (some b ≠ (Value.slice a' m c').ownBlock) := fun e => HR.out.ne b e.symm rfl
    go_region_law (refine step_append_own_at rfl (.tmp 20) (.tmp 26) 22 rfl lo 24 i0 (.agg #[.int .i64 0, .string ByteArray.empty, .slice none 0 0]) 3 48 Try.underlying22 hi hz0 hz1 hz2 rfl (by decide) (.slice a' m c') m (flat (ts ++ newV ts.length j)) (by first | rfl | simp [Act.eval, Act.put]) HO.out ⟨wr.heap.size, 0, none⟩ 1 1 (flat [vT 0]) (by first | rfl | simp [Act.eval, Act.put]) rfl (news1 wr (vT 0)) (flat_one _) (by unfold maxLen; omega) (by omega) (by simp; omega) (by omega) ?_
                   intro g cap' w6 hown6 hg6 hat6
                   have HO6 : Hid (w6.ownsRow lo 24 3 (.slice (some ⟨g, 0, none⟩) (m + 1) cap') (m + 1) (flat (ts ++ newV ts.length j) ++ flat [vT 0])) := hown6
                   have HG6 : Hid ((wr.alloc (.cells #[.int .i64 0, .string ⟨#[]⟩, .slice none 0 0] 24)).grownBy w6 (Value.slice a' m c').ownBlock) := ⟨hg6.os, hg6.tape, hg6.output, hg6.size, hg6.block⟩
                   have HA6 : Hid (some g = (Value.slice a' m c').ownBlock ∨ g = (wr.alloc (.cells #[.int .i64 0, .string ⟨#[]⟩, .slice none 0 0] 24)).heap.size) := hat6
                   have HB6 : Hid (w6.heap[b]? = some (B (.slice a' m c') (.int .i64 wk))) := (hg6.block b (by simp; omega) HNe.out).trans ((heapOld _ _ hbs).trans HR.out.blk)
                   obtain ⟨q0, qf0⟩ : w6.cell? ⟨b, ob, none⟩ = some (.slice a' m c') ∧ w6.frozen? ⟨b, ob, none⟩ = false := ⟨HR.out.bx.c0 _ _ _ _ HB6.out, HR.out.bx.f0 _ _ _ _ HB6.out⟩
                   have HX : Hid (∀ p, p < (m + 1) * 3 → w6.cell? ⟨g, p, none⟩ = (flat ((ts ++ newV ts.length j) ++ [vT 0]))[p]? ∧ w6.frozen? ⟨g, p, none⟩ = false) := more_cells hown6
                   obtain ⟨m0, m1, m2⟩ := flat_get ((ts ++ newV ts.length j) ++ [vT 0]) m (by rw [List.length_append, hln.out]; exact Nat.lt_succ_self _)
                   have p0 := (HX.out (m * 3) (by omega)).1.trans m0
                   have p1 := (HX.out (m * 3 + 1) (by omega)).1.trans m1
                   have p2 := (HX.out (m * 3 + 2) (by omega)).1.trans m2
                   have r0 := (HX.out (m * 3) (by omega)).2
                   have r1 := (HX.out (m * 3 + 1) (by omega)).2
                   have r2 := (HX.out (m * 3 + 2) (by omega)).2
                   have hgb : g ≠ b := (by rcases hat6 with e | e; (· exact HR.out.ne g e.symm); (· rw [e]; simp; omega))
                   have HG7 : Hid (w6.grownBy (((w6.setCell ⟨g, m * 3, none⟩ (.int .i64 ((ts.length : Int) + (j : Int)))).setCell ⟨g, m * 3 + 1, none⟩ (.string ⟨#[]⟩)).setCell ⟨g, m * 3 + 2, none⟩ (.slice none 0 0)) (some g)) := G.trans (G.trans (grown_set g (m * 3) _) (grown_set g (m * 3 + 1) _)) (grown_set g (m * 3 + 2) _)
                   have HB7 : Hid ((((w6.setCell ⟨g, m * 3, none⟩ (.int .i64 ((ts.length : Int) + (j : Int)))).setCell ⟨g, m * 3 + 1, none⟩ (.string ⟨#[]⟩)).setCell ⟨g, m * 3 + 2, none⟩ (.slice none 0 0)).heap[b]? = some (B (.slice a' m c') (.int .i64 wk))) := (HG7.out.block b (Array.getElem?_eq_some_iff.1 HB6.out).1 (fun e => hgb (Option.some.inj e).symm)).trans HB6.out
                   obtain ⟨t0, tf0⟩ : (((w6.setCell ⟨g, m * 3, none⟩ (.int .i64 ((ts.length : Int) + (j : Int)))).setCell ⟨g, m * 3 + 1, none⟩ (.string ⟨#[]⟩)).setCell ⟨g, m * 3 + 2, none⟩ (.slice none 0 0)).cell? ⟨b, ob, none⟩ = some (.slice a' m c') ∧ (((w6.setCell ⟨g, m * 3, none⟩ (.int .i64 ((ts.length : Int) + (j : Int)))).setCell ⟨g, m * 3 + 1, none⟩ (.string ⟨#[]⟩)).setCell ⟨g, m * 3 + 2, none⟩ (.slice none 0 0)).frozen? ⟨b, ob, none⟩ = false := ⟨HR.out.bx.c0 _ _ _ _ HB7.out, HR.out.bx.f0 _ _ _ _ HB7.out⟩
                   clear hown6 hg6 hat6 m0 m1 m2)
    all_goals
      have hLen : (((ts ++ newV ts.length j) ++ [vT 0]).set m (vT ((ts.length : Int) + (j : Int)))) = ts ++ newV ts.length (j + 1) := by
        rw [← hln.out, newV_succ]
        simp
      have hl1 : ((ts ++ newV ts.length j) ++ [vT 0]).length = m + 1 := by rw [List.length_append, hln.out]; rfl
      have hO6 : w6.ownsRow lo 24 3 (.slice (some ⟨g, 0, none⟩) (m + 1) cap') (m + 1) (flat ((ts ++ newV ts.length j) ++ [vT 0])) := by rw [flat_append]; exact HO6.out
      have hl2 : (ts ++ newV ts.length (j + 1)).length = m + 1 := by rw [← hLen, List.length_set]; exact hl1
      have HFA : Hid (RSt ((((w6.setCell ⟨g, m * 3, none⟩ (.int .i64 ((ts.length : Int) + (j : Int)))).setCell ⟨g, m * 3 + 1, none⟩ (.string ⟨#[]⟩)).setCell ⟨g, m * 3 + 2, none⟩ (.slice none 0 0)).setCell ⟨b, ob, none⟩ (.slice (some ⟨g, 0, none⟩) (m + 1) cap')) b ob B lo (.slice (some ⟨g, 0, none⟩) (m + 1) cap') (ts ++ newV ts.length (j + 1)) wk ∧ GF b b (.slice a' m c') wr ((((w6.setCell ⟨g, m * 3, none⟩ (.int .i64 ((ts.length : Int) + (j : Int)))).setCell ⟨g, m * 3 + 1, none⟩ (.string ⟨#[]⟩)).setCell ⟨g, m * 3 + 2, none⟩ (.slice none 0 0)).setCell ⟨b, ob, none⟩ (.slice (some ⟨g, 0, none⟩) (m + 1) cap'))) := by
        have h7 := owns_set hO6 hl1 (Nat.lt_succ_self m) (vT ((ts.length : Int) + (j : Int)))
        rw [hLen] at h7
        have h8 := h7.kept (grown_set b ob (.slice (some ⟨g, 0, none⟩) (m + 1) cap')) (.inr (fun e => hgb (Option.some.inj e)))
        exact ⟨⟨HR.out.bx, HR.out.bx.s0 _ _ _ _ _ HB7.out, by rw [hl2]; exact h8, fun q hq => by obtain rfl := Option.some.inj hq; exact hgb, hlo⟩, more_gf HG6.out HA6.out HG7.out (grown_set b ob _)⟩
      have HFB : Hid (RSt ((((w6.setCell ⟨b, ob, none⟩ (.slice (some ⟨g, 0, none⟩) (m + 1) cap')).setCell ⟨g, m * 3, none⟩ (.int .i64 ((ts.length : Int) + (j : Int)))).setCell ⟨g, m * 3 + 1, none⟩ (.string ⟨#[]⟩)).setCell ⟨g, m * 3 + 2, none⟩ (.slice none 0 0)) b ob B lo (.slice (some ⟨g, 0, none⟩) (m + 1) cap') (ts ++ newV ts.length (j + 1)) wk ∧ GF b b (.slice a' m c') wr ((((w6.setCell ⟨b, ob, none⟩ (.slice (some ⟨g, 0, none⟩) (m + 1) cap')).setCell ⟨g, m * 3, none⟩ (.int .i64 ((ts.length : Int) + (j : Int)))).setCell ⟨g, m * 3 + 1, none⟩ (.string ⟨#[]⟩)).setCell ⟨g, m * 3 + 2, none⟩ (.slice none 0 0))) := by
        have h6 := hO6.kept (grown_set b ob (.slice (some ⟨g, 0, none⟩) (m + 1) cap')) (.inr (fun e => hgb (Option.some.inj e)))
        have h7 := owns_set h6 hl1 (Nat.lt_succ_self m) (vT ((ts.length : Int) + (j : Int)))
        rw [hLen] at h7
        have hg3 : (w6.setCell ⟨b, ob, none⟩ (.slice (some ⟨g, 0, none⟩) (m + 1) cap')).grownBy ((((w6.setCell ⟨b, ob, none⟩ (.slice (some ⟨g, 0, none⟩) (m + 1) cap')).setCell ⟨g, m * 3, none⟩ (.int .i64 ((ts.length : Int) + (j : Int)))).setCell ⟨g, m * 3 + 1, none⟩ (.string ⟨#[]⟩)).setCell ⟨g, m * 3 + 2, none⟩ (.slice none 0 0)) (some g) := G.trans (G.trans (grown_set g (m * 3) _) (grown_set g (m * 3 + 1) _)) (grown_set g (m * 3 + 2) _)
        have hbB := HR.out.bx.s0 _ _ _ _ (.slice (some ⟨g, 0, none⟩) (m + 1) cap') HB6.out
        exact ⟨⟨HR.out.bx, (hg3.block b (Array.getElem?_eq_some_iff.1 hbB).1 (fun e => hgb (Option.some.inj e).symm)).trans hbB, by rw [hl2]; exact h7, fun q hq => by obtain rfl := Option.some.inj hq; exact hgb, hlo⟩, more_gf2 HG6.out HA6.out (grown_set b ob _) hg3⟩
      have HTN : Hid (TN (.slice a ts.length c) (.slice (some ⟨g, 0, none⟩) (m + 1) cap') w) := HG.out.2.trans (fun q hq => by
        obtain rfl := Option.some.inj hq
        rcases HA6.out with e | e
        · exact .inl e.symm
        · exact .inr (by rw [e]; simp)) HG.out.1.size
      clear hLen hl1 hO6 hl2
      go_wp2_with fail
      go_roundw
      case rel => first | exact ⟨j + 1, _, by omega, by go_num, HFA.out.1, HG.out.1.trans HG.out.2 HFA.out.2, HTN.out⟩ | exact ⟨j + 1, _, by omega, by go_num, HFB.out.1, HG.out.1.trans HG.out.2 HFB.out.2, HTN.out⟩
      case measure => simp [intOf]; omega
end Go.Proofs.Ytmggaclaoefdaaa

namespace Go.Proofs.Ytmggaclaoefdaaa
open Go.RowKit

/-- One more variable is something: the steps to it still come to an end. -/
theorem chain_put {N : Int} {τ ρ : Int → Tm} {r : Int → Nat} (hC : Chain N τ ρ r) {x : Int} {Y : Tm} (hx : x ≠ 0) (hroot : (ρ x).v = x) (hY : Okv N Y) (hYx : Y.v ≠ x) (hYi : Y.v ≠ 0 → (ρ Y.v).v = Y.v) :
    Chain N (fun u => if u = x then Y else τ u) (rput ρ x (lk ρ Y)) (fun u => if (ρ u).v = x then r u + (if Y.v = 0 then 0 else r Y.v) + 1 else r u) := by
  intro v h0 h1
  have hc := hC v h0 h1
  show Okv N (if v = x then Y else τ v) ∧ _
  by_cases e : v = x
  · subst e
    refine ⟨by rw [if_pos rfl]; exact hY, .inr ?_⟩
    simp only [if_true]
    refine ⟨hYx, ?_, fun hv => ?_⟩
    · rw [lk_rput hx]
      have e1 : rput ρ v (lk ρ Y) v = lk ρ Y := by unfold rput; rw [if_pos hroot]
      rw [e1]
      by_cases hv : Y.v = 0
      · have e2 : lk ρ Y = Y := by unfold lk; rw [if_pos hv]
        rw [e2, if_neg (by omega)]
      · have e2 : lk ρ Y = ρ Y.v := by unfold lk; rw [if_neg hv]
        rw [e2, if_neg (by have := hYi hv; omega)]
    · rw [if_neg (by have := hYi hv; omega), if_pos hroot, if_neg hv]; omega
  · refine ⟨by rw [if_neg e]; exact hc.1, ?_⟩
    simp only [if_neg e]
    rcases hc.2 with ⟨h2, h3⟩ | ⟨h2, h3, h4⟩
    · refine .inl ⟨h2, ?_⟩
      unfold rput
      rw [if_neg (by omega)]
      exact h3
    · refine .inr ⟨h2, ?_, fun hv => ?_⟩
      · rw [lk_rput hx, h3]
        show _ = (if (ρ v).v = x then lk ρ Y else ρ v)
        rfl
      · have e2 : ρ (τ v).v = ρ v := by rw [← h3]; unfold lk; rw [if_neg hv]
        rw [e2]
        have := h4 hv
        split <;> omega
/-- The reference's state, and what it means. -/
structure RF (w : World) (b ob : Nat) (B : Value → Value → Obj) (lo g cap : Nat) (N : Int) (len : Nat) (τ ρ : Int → Tm) (r : Int → Nat) (σ : Sg) (wk : Int) : Prop where
  st : RSt w b ob B lo (.slice (some ⟨g, 0, none⟩) len cap) ((List.range len).map fun i : Nat => τ (i : Int)) wk
  ln : (len : Int) = N + 1
  big : N ≤ 1000000
  ch : Chain N τ ρ r
  rel : Rel N σ ρ
  dec : Dec σ
  ok : ∀ v U, σ v = some U → Okv N U
  trm : ∀ v, 0 ≤ v → v ≤ N → Good w b b (.slice (some ⟨g, 0, none⟩) len cap) N (τ v)
theorem RF.blk {w : World} {b ob : Nat} {B : Value → Value → Obj} {lo g cap : Nat} {N : Int} {len : Nat} {τ ρ : Int → Tm} {r : Int → Nat} {σ : Sg} {wk : Int} (h : RF w b ob B lo g cap N len τ ρ r σ wk) : w.heap[b]? = some (B (.slice (some ⟨g, 0, none⟩) len cap) (.int .i64 wk)) := h.st.blk
theorem RF.by {w : World} {b ob : Nat} {B : Value → Value → Obj} {lo g cap : Nat} {N : Int} {len : Nat} {τ ρ : Int → Tm} {r : Int → Nat} {σ : Sg} {wk : Int} (h : RF w b ob B lo g cap N len τ ρ r σ wk) : ByIs w b ob g 0 cap N len τ := by
  refine ⟨h.st.bx.c0 _ _ _ _ h.blk, h.ln, h.big, fun i hi => ?_⟩
  have hl : ((List.range len).map fun i : Nat => τ (i : Int)).length = len := by simp
  obtain ⟨f0, f1, f2⟩ := flat_get ((List.range len).map fun i : Nat => τ (i : Int)) i (by rw [hl]; exact hi)
  have e : ((List.range len).map fun i : Nat => τ (i : Int))[i]'(by rw [hl]; exact hi) = τ (i : Int) := by simp
  rw [e] at f0 f1 f2
  have ho := h.st.own
  rw [hl] at ho
  refine ⟨g, 0, rfl, ?_, ?_, ?_⟩
  · rw [Nat.zero_add]; exact (ho.cellAt (i * 3) (by omega)).trans f0
  · rw [Nat.zero_add]; exact (ho.cellAt (i * 3 + 1) (by omega)).trans f1
  · rw [Nat.zero_add]; exact (ho.cellAt (i * 3 + 2) (by omega)).trans f2
theorem RF.lt {w : World} {b ob : Nat} {B : Value → Value → Obj} {lo g cap : Nat} {N : Int} {len : Nat} {τ ρ : Int → Tm} {r : Int → Nat} {σ : Sg} {wk : Int} (h : RF w b ob B lo g cap N len τ ρ r σ wk) : b < w.heap.size ∧ g < w.heap.size ∧ g ≠ b :=
  ⟨(Array.getElem?_eq_some_iff.1 h.blk).1, (h.st.own.lt g rfl).2, h.st.ne g rfl⟩
theorem RF.below {w w' : World} {b ob : Nat} {B : Value → Value → Obj} {lo g cap : Nat} {N : Int} {len : Nat} {τ ρ : Int → Tm} {r : Int → Nat} {σ : Sg} {wk : Int} (h : RF w b ob B lo g cap N len τ ρ r σ wk) (hb : Below w.heap.size w w') : RF w' b ob B lo g cap N len τ ρ r σ wk :=
  ⟨⟨h.st.bx, (hb.block b h.lt.1).trans h.blk, h.st.own.kept (grown_of_below hb none) (.inr (fun e => by cases e)), h.st.ne, h.st.lo⟩, h.ln, h.big, h.ch, h.rel, h.dec, h.ok, fun v h0 h1 => (h.trm v h0 h1).below hb⟩
/-- The work is counted. -/
theorem RF.work {w : World} {b ob : Nat} {B : Value → Value → Obj} {lo g cap : Nat} {N : Int} {len : Nat} {τ ρ : Int → Tm} {r : Int → Nat} {σ : Sg} {wk : Int} (h : RF w b ob B lo g cap N len τ ρ r σ wk) (k : Int) : RF (w.setCell ⟨b, ob + 1, none⟩ (.int .i64 k)) b ob B lo g cap N len τ ρ r σ k := by
  have hg := grown_set (W := w) b (ob + 1) (.int .i64 k)
  have hG : GF b b (.slice (some ⟨g, 0, none⟩) len cap) w (w.setCell ⟨b, ob + 1, none⟩ (.int .i64 k)) := GF.ofG hg
  exact ⟨⟨h.st.bx, h.st.bx.s1 _ _ _ _ _ h.blk, h.st.own.kept hg (.inr (fun e => h.lt.2.2 (Option.some.inj e))), h.st.ne, h.st.lo⟩, h.ln, h.big, h.ch, h.rel, h.dec, h.ok, fun v h0 h1 => (h.trm v h0 h1).gf hG (TN.refl _ _)⟩
/-- What the reference looks at is what the program looks at. -/
theorem within_lk {N : Int} {σ : Sg} {ρ : Int → Tm} (hR : Rel N σ ρ) (hd : Dec σ) (hO : ∀ v U, σ v = some U → Okv N U) {T Y : Tm} (hT : Okv N T) (hY : Lk N ρ T Y) (x : Int) (L : Nat) (ts : List Tm) : within σ x L (Y :: ts) = within σ x L (wha σ T :: ts) := by
  have hroot : wha σ (wha σ T) = wha σ T := by
    by_cases h : (wha σ T).v = 0
    · exact wha_fn h
    · exact wha_none (wh_root hd _ T hT.top.1 (by omega) h)
  cases L with
  | zero => rfl
  | succ L =>
    rw [within_succ, within_succ, hroot]
    by_cases h0 : Y.v = 0
    · have e : wha σ T = Y := by rw [hY.2.1 h0]; exact hR.fn T hT (by rw [← hY.1]; exact h0)
      rw [e, wha_fn h0]
    · have hv : (lk ρ T).v ≠ 0 := by rw [← hY.1]; exact h0
      have hYl : (lk ρ Y).v = Y.v := by
        have h1 := hR.idem T hT
        have e1 : lk ρ Y = ρ Y.v := by unfold lk; rw [if_neg h0]
        have e2 : lk ρ (lk ρ T) = ρ (lk ρ T).v := by show (if (lk ρ T).v = 0 then _ else _) = _; rw [if_neg hv]
        rw [e1, hY.1, ← e2]; exact h1
      have hc : (wha σ Y).v = (wha σ T).v := (hR.cls Y T hY.2.2 hT (by rw [hYl]; exact h0)).1 (by rw [hYl]; exact hY.1)
      have hw := hR.vr T hT hv
      have k1 : kidsL (wha σ T) = [] := kidsL_nil ((wha_okv hO hT).top.2.2 hw).2
      have k2 : kidsL (wha σ Y) = [] := kidsL_nil ((wha_okv hO hY.2.2).top.2.2 (by rw [hc]; exact hw)).2
      rw [hc, k1, k2]
theorem newV_get (n k : Nat) : newV n k = (List.range k).map fun i : Nat => (fun v : Int => vT ((n : Int) + v)) (i : Int) := rfl
set_option maxRecDepth 100000 in
set_option maxHeartbeats 4000000 in
theorem begin_any (w : World) : Calls Try.prog 65 #[] w fun e w' => ∃ (g cap : Nat), e = .returned (.agg #[.slice (some ⟨g, 0, none⟩) 13 cap, .int .i64 0]) ∧ w'.ownsRow w.heap.size 24 3 (.slice (some ⟨g, 0, none⟩) 13 cap) 13 (flat (newV 0 13)) ∧ Below w.heap.size w w' := by
  go_enter Try.func65, Try.ntmps65
  go_wp2_with fail
  have HX : Hid (Below w.heap.size w ((w.alloc (.cells #[.slice none 0 0, .int .i64 0] 94)).alloc (.cells #[.slice none 0 0, .int .i64 0] 94))) := ((Below.refl _ _).alloc (Nat.le_refl _) _).alloc (by simp) _
  have h0 : ((w.alloc (.cells #[.slice none 0 0, .int .i64 0] 94)).alloc (.cells #[.slice none 0 0, .int .i64 0] 94)).heap[w.heap.size]? = some (.cells #[.slice none 0 0, .int .i64 0] 94) := by
    rw [heapOld _ _ (by simp)]; exact heap_alloc_new w _
  have h1 : ((w.alloc (.cells #[.slice none 0 0, .int .i64 0] 94)).alloc (.cells #[.slice none 0 0, .int .i64 0] 94)).heap[w.heap.size + 1]? = some (.cells #[.slice none 0 0, .int .i64 0] 94) := by
    have := heap_alloc_new (w.alloc (.cells #[.slice none 0 0, .int .i64 0] 94)) (.cells #[.slice none 0 0, .int .i64 0] 94)
    rwa [show (w.alloc (.cells #[.slice none 0 0, .int .i64 0] 94)).heap.size = w.heap.size + 1 from by simp] at this
  generalize (w.alloc (.cells #[.slice none 0 0, .int .i64 0] 94)).alloc (.cells #[.slice none 0 0, .int .i64 0] 94) = wa at *
  refine (more_any 13 (b := w.heap.size + 1) (ob := 0) (B := bxS) (lo := w.heap.size) (ts := []) (v := .slice none 0 0) (wk := 0) wa ⟨bxS_bx, h1, World.ownsRow_nil _ _ _ _, fun g hg => (by cases hg), by omega⟩ (by simp)).mono ?_
  rintro e w1 ⟨rfl, v', hR, hG, hN⟩
  have ho := hR.own
  rw [show ([] ++ newV ([] : List Tm).length 13 : List Tm) = newV 0 13 from rfl, show (newV 0 13).length = 13 from rfl] at ho
  obtain ⟨g, cap, rfl, hgl⟩ : ∃ g cap, v' = .slice (some ⟨g, 0, none⟩) 13 cap ∧ w.heap.size ≤ g := by
    rcases ho.2 with ⟨_, h⟩ | ⟨g, cap, _, h, h', _⟩
    · omega
    · exact ⟨g, cap, h, h'⟩
  have HO : Hid (w1.ownsRow w.heap.size 24 3 (.slice (some ⟨g, 0, none⟩) 13 cap) 13 (flat (newV 0 13))) := ho
  have hgb : g ≠ w.heap.size + 1 := hR.ne g rfl
  have hgw : g ≠ w.heap.size := by
    rcases hN g rfl with h | h
    · cases h
    · have := (Array.getElem?_eq_some_iff.1 h1).1; omega
  have HB1 : Hid (Below w.heap.size w w1) := ⟨hG.os.trans HX.out.os, hG.tape.trans HX.out.tape, hG.output.trans HX.out.output, Nat.le_trans HX.out.size hG.size, fun k hk => (hG.block k (Nat.lt_of_lt_of_le hk HX.out.size) (by omega) (by omega) (fun _ h => by cases h)).trans (HX.out.block k hk)⟩
  have k0 : w1.heap[w.heap.size]? = some (.cells #[.slice none 0 0, .int .i64 0] 94) := (hG.block _ (Array.getElem?_eq_some_iff.1 h0).1 (by omega) (by omega) (fun _ h => by cases h)).trans h0
  have k1 := hR.blk
  obtain ⟨c0, c1, f0, f1⟩ : w1.cell? ⟨w.heap.size, 0, none⟩ = some (.slice none 0 0) ∧ w1.cell? ⟨w.heap.size, 1, none⟩ = some (.int .i64 0) ∧ w1.frozen? ⟨w.heap.size, 0, none⟩ = false ∧ w1.frozen? ⟨w.heap.size, 1, none⟩ = false := by
    refine ⟨?_, ?_, ?_, ?_⟩ <;> simp [World.cell?, World.frozen?, k0]
  obtain ⟨d0, d1⟩ : w1.cell? ⟨w.heap.size + 1, 0, none⟩ = some (.slice (some ⟨g, 0, none⟩) 13 cap) ∧ w1.cell? ⟨w.heap.size + 1, 1, none⟩ = some (.int .i64 0) := by
    refine ⟨?_, ?_⟩ <;> simp [World.cell?, k1, bxS]
  clear hR hG hN ho h0 h1 k1
  have HK0 : Hid (w1.heap[w.heap.size]? = some (.cells #[.slice none 0 0, .int .i64 0] 94)) := k0
  clear k0
  go_wp2_with fail
  have hg2 : w1.grownBy ((w1.setCell ⟨w.heap.size, 0, none⟩ (.slice (some ⟨g, 0, none⟩) 13 cap)).setCell ⟨w.heap.size, 1, none⟩ (.int .i64 0)) (some w.heap.size) := G.trans (grown_set _ 0 _) (grown_set _ 1 _)
  have hc : ((w1.setCell ⟨w.heap.size, 0, none⟩ (.slice (some ⟨g, 0, none⟩) 13 cap)).setCell ⟨w.heap.size, 1, none⟩ (.int .i64 0)).heap[w.heap.size]? = some (.cells #[.slice (some ⟨g, 0, none⟩) 13 cap, .int .i64 0] 94) := by
    simp only [World.setCell, Array.getElem?_modify]
    simp [HK0.out]
  have hB2 := HB1.out.grown hg2 HB1.out.size (fun k hk => by have := Option.some.inj hk; omega)
  have hO2 := HO.out.kept hg2 (.inr (fun e => hgw (Option.some.inj e)))
  generalize (w1.setCell ⟨w.heap.size, 0, none⟩ (.slice (some ⟨g, 0, none⟩) 13 cap)).setCell ⟨w.heap.size, 1, none⟩ (.int .i64 0) = w2 at *
  refine bodyPost_ret (v := .agg #[.slice (some ⟨g, 0, none⟩) 13 cap, .int .i64 0]) ?_ rfl ⟨g, cap, rfl, hO2, hB2⟩
  simp [results, Try.results65, go_sem, World.cell?, hc]
end Go.Proofs.Ytmggaclaoefdaaa
