/- The program's view: Room. A region that draws its order, in a round: as everywhere. -/
import Derived.Test.YtmggaclaoefdaaaGAZ
import Derived.Test.YtmggaclaoefdaaaGAV
import Derived.Deep.RegionHeld3
namespace Go.Proofs.Ytmggaclaoefdaaa
open Go.RowKit Go.Shelf
set_option linter.unusedVariables false
set_option linter.unusedSimpArgs false
attribute [local go_sem] Oper.semAt_some

/-- A function to range over, that hands on the cells of a list. -/
def SeqL (g : Nat) (lb : Array Value) (len : Nat) (L : List Nat) (b : Nat) (w : World) : Prop := ∀ n, SeqStopsK Fence.wide n Try.prog g lb (fun x : Cx len => #[Value.int .i64 (x.1 : Int)]) (Kb b) (fun ys => vals ys = L) (fun pre => vals pre <+: L) L.length w
theorem SeqL.below {g : Nat} {lb : Array Value} {len : Nat} {L : List Nat} {b : Nat} {w w' : World} (h : SeqL g lb len L b w) (hb : Below w.heap.size w w') : SeqL g lb len L b w' :=
  fun n l J Jx W hW => h n l J Jx W (hb.trans (hW.mono hb.size))
set_option maxRecDepth 100000 in
set_option maxHeartbeats 4000000 in
theorem values1_in {len : Nat} (n : Nat) (l B b : Nat) (sa : Option Addr) (cp : Nat) (J Jx : List (Cx len) → World → Prop) (xs : List (Cx len))
    (W : World) (hlb : xs.length ≤ 1000000)
    (hY : ∀ pre x W, J pre W → pre.length < xs.length → YieldAt Fence.wide (n - 1) Try.prog l #[.int .i64 (x.1 : Int)] W fun e W' =>
      (e = .returned (.bool true) ∧ J (pre ++ [x]) W' ∧ Kb b W W') ∨ (e = .returned (.bool false) ∧ Jx (pre ++ [x]) W'))
    (hB : W.heap[B]? = some (.cells #[.slice sa xs.length cp] 56)) (hs : ∀ k (hk : k < xs.length), ∃ o, sa = some ⟨b, o, none⟩ ∧ W.cell? ⟨b, o + k, none⟩ = some (.int .i64 (xs[k].1 : Int))) (hJ0 : J [] W) :
    CallsIn Fence.wide n Try.prog 109 #[.func (.yield l) #[] #[], .pointer (some ⟨B, 0, none⟩)] W fun e W' => (∃ v, e = .returned v) ∧
      ((∃ ys, vals ys = vals xs ∧ J ys W') ∨ (∃ pre, vals pre <+: vals xs ∧ Jx pre W')) := by
  have hb0 := cell_of_block hB
  have HY : Hid (∀ pre x W, J pre W → pre.length < xs.length → YieldAt Fence.wide (n - 1) Try.prog l #[.int .i64 (x.1 : Int)] W fun e W' =>
      (e = .returned (.bool true) ∧ J (pre ++ [x]) W' ∧ Kb b W W') ∨ (e = .returned (.bool false) ∧ Jx (pre ++ [x]) W')) := hY
  have HS : Hid (∀ k (hk : k < xs.length), ∃ o, sa = some ⟨b, o, none⟩ ∧ W.cell? ⟨b, o + k, none⟩ = some (.int .i64 (xs[k].1 : Int))) := hs
  have HJ0 : Hid (J [] W) := hJ0
  clear hY hs hJ0
  refine callsIn_of_wp Try.func109 rfl trivial ?_ rfl
  simp only [Try.ntmps109, List.size_toArray, List.length_cons, List.length_nil, Nat.reduceAdd, Nat.reduceSub, Array.replicate_succ, Array.replicate_zero, List.push_toArray, List.append_toArray, List.nil_append, List.cons_append]
  gi_wp2
  gi_loopw [7] (fun p wr => ∃ k : Nat, k ≤ xs.length ∧ p = .int .i64 (k : Int) ∧ J (xs.take k) wr ∧ (0 < xs.length → wr.heap[b]? = W.heap[b]?)) (fun p _ => xs.length - (intOf p).toNat)
  case atStart => exact ⟨0, Nat.zero_le _, rfl, HJ0.out, fun _ => rfl⟩
  case round =>
    obtain ⟨k, hkm, rfl, hJk, hBk⟩ := hrel
    by_cases hlt : k < xs.length
    case neg =>
      have hke : ¬ (k : Int) < (xs.length : Int) := by omega
      gi_wp2
      go_end0
      exact ⟨⟨_, rfl⟩, .inl ⟨xs, rfl, by rw [List.take_of_length_le (by omega)] at hJk; exact hJk⟩⟩
    · obtain ⟨o, rfl, hc⟩ := HS.out k hlt
      have hc' : wr.cell? ⟨b, o + k, none⟩ = some (.int .i64 (xs[k].1 : Int)) := (World.cell?_of_block (w := W) (hBk (by omega))).trans hc
      obtain ⟨fn, tmps, assign, body, hy, hR⟩ := HY.out (xs.take k) xs[k] wr hJk (by rw [List.length_take]; omega)
      have hkI : (k : Int) < (xs.length : Int) := by omega
      generalize hxk : xs[k] = x at *
      have Hxk : Hid (xs.take (k + 1) = xs.take k ++ [x]) := by rw [Hid, List.take_succ_eq_append_getElem hlt, hxk]
      clear hxk
      gi_wp2
      refine ⟨fun h => (by cases h), ?_⟩
      refine hR.mono ?_
      rintro e W3 (⟨rfl, hJ3, hk3⟩ | ⟨rfl, hJx3⟩)
      · gi_wp2
        go_roundw
        case rel => exact ⟨k + 1, by omega, by go_num, by rw [Hxk.out]; exact hJ3, fun h => hk3.2.trans (hBk h)⟩
        case measure => simp [intOf]; omega
      · gi_wp2
        refine bodyPost_ret (results_none rfl _ _ _) rfl ?_
        refine ⟨⟨_, rfl⟩, .inr ⟨xs.take k ++ [x], ?_, hJx3⟩⟩
        rw [← Hxk.out]
        unfold vals
        rw [List.map_take]
        exact List.take_prefix _ _
theorem values_seq {len : Nat} (B b : Nat) (sa : Option Addr) (cp : Nat) (L : List Nat) (hL : ∀ x ∈ L, x < len) (hlb : L.length ≤ 1000000) (w : World) (hB : w.heap[B]? = some (.cells #[.slice sa L.length cp] 56)) (hs : ∀ k (hk : k < L.length), ∃ o, sa = some ⟨b, o, none⟩ ∧ w.cell? ⟨b, o + k, none⟩ = some (.int .i64 (L[k] : Int))) : SeqL 109 #[.pointer (some ⟨B, 0, none⟩)] len L b w := fun n l J Jx W hW hJ hJx hY h0 => by
  obtain ⟨xs, rfl⟩ := vals_ex (p := fun x => x < len) L hL
  have hxl : (vals xs).length = xs.length := by simp [vals]
  refine values1_in n l B b sa cp J Jx xs W (by omega) (fun pre x W hj hl => hY pre x W hj (by omega)) (by rw [← hxl]; exact (hW.block _ (Array.getElem?_eq_some_iff.1 hB).1).trans hB) (fun k hk => ?_) h0
  obtain ⟨o, e, hc⟩ := hs k (by omega)
  refine ⟨o, e, (hW.cell (p := ⟨b, o + k, none⟩) (lt_of_cell hc)).trans ?_⟩
  rw [hc]
  simp [vals]
set_option maxHeartbeats 1000000 in
theorem values_any (sa : Option Addr) (n cp : Nat) (w : World) :
    Calls Try.prog 79 #[.slice sa n cp] w fun e w' => e = .returned (.func (.func 109) #[] #[.pointer (some ⟨w.heap.size, 0, none⟩)]) ∧ w' = w.alloc (.cells #[.slice sa n cp] 56) := by
  go_enter Try.func79, Try.ntmps79
  go_wp2_with fail
  go_ret
  exact ⟨rfl, rfl⟩
/-- How many parts stand at cells. -/
noncomputable def sumC (h : Nat → Cl) (len : Nat) (l : List Nat) : Nat := (l.map (cntA h len)).sum
theorem sumC_snoc (h : Nat → Cl) (len : Nat) (l : List Nat) (x : Nat) : sumC h len (l ++ [x]) = sumC h len l + cntA h len x := by simp [sumC]
theorem sumC_pre {h : Nat → Cl} {len : Nat} {l m : List Nat} (hp : l <+: m) : sumC h len l ≤ sumC h len m := by
  obtain ⟨t, rfl⟩ := hp
  simp [sumC]
theorem sumTo_list (g : Nat → Nat) (n : Nat) : sumTo g n = ((List.range n).map g).sum := by
  induction n with
  | zero => rfl
  | succ n ih => rw [List.range_succ, List.map_append, List.sum_append, ← ih]; simp [sumTo]
theorem sum_leads {h : Nat → Cl} {len i : Nat} (H : HG h len) (hi : i < len) : sumC h len (leads h (endA h len i)) + 1 = cntA h len i := by
  rcases H.end_or hi with c | c
  · rw [cntA_var c.1]
    unfold leads
    rw [if_pos c.1, if_pos c.2]
    rfl
  · have h0 := H.ok.n0 _ (H.end_lt hi)
    have hn : (h (endA h len i)).n = ((h (endA h len i)).n.toNat : Int) := by omega
    rw [cntA_fn H hi c hn, sumTo_list]
    unfold leads sumC
    rw [if_neg (by omega), List.map_map]
    show _ + 1 = 1 + _
    rw [Nat.add_comm]
    rfl
theorem VW.own {w w' : World} {vb m : Nat} {a : Option Addr} {len cap : Nat} {h : Nat → Cl} {σ : Int → Option Int} {B : Nat} {row : Option Nat} (V : VW w vb m a len cap h σ) (hm : m < B) (hg : w.grownBy w' row) (hr : ∀ r, row = some r → B ≤ r ∧ ∃ o : Obj, w.heap[r]? = some o ∧ o.isCells = false) : VW w' vb m a len cap h σ :=
  ⟨(hg.block _ V.lt.1 (ne_of_cells (fun r e => (hr r e).2) V.blk rfl)).trans V.blk, ⟨fun i hi => (V.row.row i hi).grown hg fun p v hc e => by
    obtain ⟨o, h1, h2⟩ := cells_of_cell hc
    exact ne_of_cells (fun r e => (hr r e).2) h1 h2 e, V.row.big, V.row.nm⟩, V.mp.keep (hg.block _ V.mp.lt (fun e => by have := (hr m e.symm).1; omega)), V.ends⟩
/-- Blocks that lay there when the view was made stand: so does the view. -/
theorem VW.low {w0 w w' : World} {vb m : Nat} {a : Option Addr} {len cap : Nat} {h : Nat → Cl} {σ0 σ : Int → Option Int} (V0 : VW w0 vb m a len cap h σ0) (V : VW w vb m a len cap h σ) (hk : ∀ k, k < w0.heap.size → w'.heap[k]? = w.heap[k]?) : VW w' vb m a len cap h σ := by
  refine ⟨(hk _ V0.lt.1).trans V.blk, ⟨fun j hj => ?_, V.row.big, V.row.nm⟩, V.mp.keep (hk _ V0.lt.2), V.ends⟩
  obtain ⟨b, o, e, c0, c1, c2⟩ := V.row.row j hj
  obtain ⟨b', o', e', d0, _, _⟩ := V0.row.row j hj
  rw [e] at e'
  cases e'
  have hb : b < w0.heap.size := lt_of_cell d0
  have hx : ∀ q, w'.cell? ⟨b, q, none⟩ = w.cell? ⟨b, q, none⟩ := fun q => World.cell?_of_block (hk b hb)
  exact ⟨b, o, e, (hx _).trans c0, (hx _).trans c1, (hx _).trans c2⟩
end Go.Proofs.Ytmggaclaoefdaaa

namespace Go.Proofs.Ytmggaclaoefdaaa
open Go.RowKit Go.Shelf

def noDefer (ops : Array Oper) : Bool := ops.all fun o => match o.op with | .defer _ => false | _ => true
theorem noDefer_at {ops : Array Oper} (h : noDefer ops = true) {i : Nat} {o : Oper} (ho : ops[i]? = some o) : ∀ c, o.op ≠ .defer c := fun c e => by
  unfold noDefer at h
  rw [Array.all_eq_true] at h
  obtain ⟨hi, e1⟩ := Array.getElem?_eq_some_iff.1 ho
  have := h i hi
  rw [e1, e] at this
  cases this
theorem rows_round {P : Program} {row : String} {args : Array Value} {w : World} {R : Value → World → Prop} {l n : Nat} (h : Rows P row args w R) : RowsIn (Fence.wide.inRound l) n P row args w R := fun c cs _ => by
  obtain ⟨v, w', r, s⟩ := h c cs
  exact ⟨v, w', r, stepsIn_wide.2 s⟩
theorem wpOp_round {P : Program} {ops : Array Oper} {Q : Exit → Act → World → Prop} {l n i : Nat} {K : Act → World → Prop} {a : Act} {w : World} (hd : noDefer ops = true) (hQ : ¬ LetsOut Q) (h : wpOp P ops Q i K a w) : wpOpIn (Fence.wide.inRound l) n P ops Q i K a w := by
  unfold wpOp at h
  unfold wpOpIn
  cases ho : ops[i]? with
  | none => rw [ho] at h; exact h
  | some o =>
    rw [ho] at h
    dsimp only at h ⊢
    by_cases hw : Region.wanted o (yielded ops a.tmps) = true
    · rw [if_pos hw] at h ⊢
      rcases h with h | h
      · refine ⟨fun _ _ => trivial, ?_⟩
        rw [Oper.semAt_plain _ _ _ (noDefer_at hd ho)]
        unfold Oper.wp at h
        generalize (execOp a.eval o).run P w = r at *
        cases r with
        | ok x w' =>
          cases x <;> simp only [Oper.upon] at h
          case value => exact h
          case skip => exact h
          case defer => exact h
          case enter => exact ⟨fun e => (by cases e), CallsIn.inRound l (callsIn_wide.2 h)⟩
          case row => exact ⟨fun e => (by cases e), rows_round h⟩
          all_goals exact h.elim
        | halt x w' =>
          cases x <;> simp only [Oper.upon] at h
          case panic => exact h
          all_goals exact h.elim
      · exact absurd h.2 hQ
    · rw [if_neg hw] at h ⊢
      exact ⟨fun _ _ => trivial, h⟩
theorem wpAny_round {P : Program} {ops : Array Oper} {Q : Exit → Act → World → Prop} {md : Region.Mode} {l n : Nat} (hd : noDefer ops = true) (hQ : ¬ LetsOut Q) : ∀ (fuel : Nat) (listed : Array Bool) (a : Act) (w : World), wpAny P md ops Q fuel listed a w → wpAnyIn (Fence.wide.inRound l) n P md ops Q fuel listed a w := by
  intro fuel
  induction fuel with
  | zero => intro listed a w h; exact h
  | succ fuel ih => intro listed a w h; exact ⟨h.1, fun i hi => wpOpIn_mono (fun a w h => ih _ a w h) (wpOp_round hd hQ (h.2 i hi))⟩
/-- A region that draws its order, in a round: under a condition on the world that holds throughout. -/
theorem region_round {P : Program} {ops : Array Oper} {Q : Exit → Act → World → Prop} {l n id : Nat} {a : Act} {w : World} (S : World → Prop) (hm : P.follows .mixedOrders = true) (hd : noDefer ops = true) (hQ : ¬ LetsOut Q) (hS : S w.drew)
    (h : S w.drew → wpAnyH P .any ops Q S ops.size (Array.replicate ops.size false) a w.drew) : (Code.region id ops true).wpIn (Fence.wide.inRound l) n P Q a w :=
  wpIn_region_any hm (wpAny_round hd hQ _ _ _ _ (wpAny_of_held _ _ _ _ (h hS)))
end Go.Proofs.Ytmggaclaoefdaaa
