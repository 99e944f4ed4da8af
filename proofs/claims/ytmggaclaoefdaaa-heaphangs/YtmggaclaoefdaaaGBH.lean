/- A variable bound to what it does not stand in: the heap stays right. A variable bound, walked. -/
import Derived.Test.YtmggaclaoefdaaaHm2
namespace Go.Proofs.Ytmggaclaoefdaaa
open Go.RowKit
set_option linter.unusedVariables false
set_option linter.unusedSimpArgs false

def bndH (h : Nat → Cl) (v t : Nat) : Nat → Cl := fun i => if i = v then setN (h v) (t : Int) else h i
theorem bndH_at (h : Nat → Cl) (v t : Nat) : bndH h v t v = setN (h v) (t : Int) := by unfold bndH; rw [if_pos rfl]
theorem bndH_ne {h : Nat → Cl} {v t i : Nat} (hi : i ≠ v) : bndH h v t i = h i := by unfold bndH; rw [if_neg hi]
theorem bndH_k (h : Nat → Cl) (v t i : Nat) : (bndH h v t i).k = (h i).k ∧ (bndH h v t i).nm = (h i).nm := by
  by_cases e : i = v
  · subst e; rw [bndH_at]; exact ⟨rfl, rfl⟩
  · rw [bndH_ne e]; exact ⟨rfl, rfl⟩
theorem leads_bnd {h : Nat → Cl} {v t i : Nat} (hi : i ≠ v) : leads (bndH h v t) i = leads h i := by unfold leads; rw [bndH_ne hi]
theorem leads_bnd_at {h : Nat → Cl} {v t : Nat} (hk : (h v).k = 1) (hne : t ≠ v) : leads (bndH h v t) v = [t] := by
  unfold leads
  rw [bndH_at, if_pos (show (setN (h v) (t : Int)).k = 1 from hk), if_neg (show ¬ (setN (h v) (t : Int)).n = (v : Int) from fun e => by
    have : (t : Int) = (v : Int) := e
    omega)]
  rfl
/-- A cell leads to another one, by however many. -/
inductive Rch (h : Nat → Cl) (v : Nat) : Nat → Prop
  | here : Rch h v v
  | step {i j : Nat} : j ∈ leads h i → Rch h v j → Rch h v i
theorem Rch.end {h : Nat → Cl} {len v : Nat} (H : HG h len) (hv : endA h len v = v) {t : Nat} (r : Rch h v t) : t < len → endA h len t = v ∨ ∃ x ∈ leads h (endA h len t), Rch h v x := by
  induction r with
  | here => intro _; exact .inl hv
  | step hj r ih =>
    rename_i i j
    intro hi
    by_cases e : endA h len i = i
    · exact .inr ⟨j, by rw [e]; exact hj, r⟩
    · rcases H.kind i hi with hk | hk
      · by_cases hn : (h i).n = i
        · unfold leads at hj
          rw [if_pos hk, if_pos hn] at hj
          cases hj
        · obtain ⟨j', hr, hj'⟩ := H.ref hi hk hn
          rw [hr.leads, List.mem_singleton] at hj
          subst hj
          rw [(end_ref H hi hr).2]
          exact ih hj'
      · exact absurd (endA_eq (.root hi fun c => by omega)) e
theorem lkL_not {h : Nat → Cl} {len v : Nat} (H : HG h len) (hv : endA h len v = v) : ∀ (n : Nat) (l : List Nat) (k : Nat), lkL h len v n l = .ok k → ∀ t ∈ l, t < len → ¬ Rch h v t := by
  intro n
  induction n with
  | zero =>
    intro l k e
    cases l with
    | nil => intro t ht; cases ht
    | cons => cases e
  | succ n ih =>
    intro l k e
    cases l with
    | nil => intro t ht; cases ht
    | cons x l =>
      rw [show lkL h len v (n + 1) (x :: l) = if endA h len x = v then .hit n else lkL h len v n (leads h (endA h len x) ++ l) from rfl] at e
      by_cases hx : endA h len x = v
      · rw [if_pos hx] at e; cases e
      · rw [if_neg hx] at e
        have hi := ih _ k e
        intro t ht htl r
        rcases List.mem_cons.1 ht with rfl | ht
        · rcases r.end H hv htl with e' | ⟨y, hy, ry⟩
          · exact hx e'
          · exact hi y (List.mem_append_left _ hy) (H.ok.inn _ (H.end_lt htl) y hy) ry
        · exact hi t (List.mem_append_right _ ht) htl r
theorem HG.bind {h : Nat → Cl} {len v t : Nat} (H : HG h len) (hv : v < len) (hk : (h v).k = 1) (ht : t < len) (hne : t ≠ v) (hR : ¬ Rch h v t) : HG (bndH h v t) len := by
  have hnn : ∀ i, i ≠ v → (bndH h v t i).n = (h i).n := fun i hi => by rw [bndH_ne hi]
  refine ⟨⟨fun i hi => ?_, fun i hi h1 => ?_, fun i hi y hy => ?_, H.ok.few⟩, ?_, fun i hi => ?_, fun i hi h2 j hj => ?_, fun i hi h1 => ?_, fun i hi h2 => ?_⟩
  · by_cases e : i = v
    · subst e; rw [bndH_at]; show (0 : Int) ≤ (t : Int); omega
    · rw [hnn i e]; exact H.ok.n0 i hi
  · rw [(bndH_k h v t i).1] at h1
    by_cases e : i = v
    · subst e; exact absurd hk h1
    · rw [hnn i e]; exact H.ok.n4 i hi h1
  · by_cases e : i = v
    · subst e
      rw [leads_bnd_at hk hne, List.mem_singleton] at hy
      omega
    · rw [leads_bnd e] at hy; exact H.ok.inn i hi y hy
  · obtain ⟨r, hr⟩ := H.acy
    classical
    refine ⟨fun i => if Rch h v i then r i + r t + 1 else r i, fun x hx y hy => ?_⟩
    by_cases e : x = v
    · subst e
      rw [leads_bnd_at hk hne, List.mem_singleton] at hy
      subst hy
      show (if Rch h x y then r y + r y + 1 else r y) < if Rch h x x then r x + r y + 1 else r x
      rw [if_neg hR, if_pos .here]
      omega
    · rw [leads_bnd e] at hy
      have h1 := hr x hx y hy
      show (if Rch h v y then r y + r t + 1 else r y) < if Rch h v x then r x + r t + 1 else r x
      by_cases ry : Rch h v y
      · rw [if_pos ry, if_pos (.step hy ry)]; omega
      · rw [if_neg ry]
        split <;> omega
  · rw [(bndH_k h v t i).1]; exact H.kind i hi
  · rw [(bndH_k h v t i).1] at h2
    have e : i ≠ v := fun e => by subst e; omega
    rw [hnn i e] at hj
    obtain ⟨h3, h4⟩ := H.kids i hi h2 j hj
    exact ⟨h3, by rw [(bndH_k h v t _).1]; exact h4⟩
  · rw [(bndH_k h v t i).1] at h1
    rw [(bndH_k h v t i).2]; exact H.nmr i hi h1
  · rw [(bndH_k h v t i).1] at h2
    have e : i ≠ v := fun e => by subst e; omega
    rw [(bndH_k h v t i).2, hnn i e]; exact H.nmf i hi h2
theorem Ref.bnd {h : Nat → Cl} {v t i j : Nat} (hn : (h v).n = v) (r : Ref h i j) : Ref (bndH h v t) i j := by
  have e : i ≠ v := fun e => by
    subst e
    have h1 := r.2.1
    have h2 := r.2.2
    omega
  unfold Ref
  rw [bndH_ne e]
  exact r
theorem Pth.bnd {h : Nat → Cl} {v t i j : Nat} (hn : (h v).n = v) (p : Pth h i j) : Pth (bndH h v t) i j := by
  induction p with
  | one r => exact .one (r.bnd hn)
  | more r _ ih => exact .more (r.bnd hn) ih
theorem Ends.bnd {h : Nat → Cl} {len v t : Nat} {σ : Int → Option Int} (hn : (h v).n = v) (E : Ends h len σ) : Ends (bndH h v t) len σ := fun i e hi => by
  obtain ⟨x, y, h1, h2, h3, h4⟩ := E i e hi
  exact ⟨x, y, h1, h2, h3, h4.bnd hn⟩
theorem hOf_set {l : List Cl} {v t : Nat} (hv : v < l.length) : hOf (l.set v (setN l[v] (t : Int))) = bndH (hOf l) v t := by
  funext i
  unfold bndH
  by_cases e : i = v
  · subst e
    rw [if_pos rfl, hOf_get (by simpa using hv), hOf_get hv]
    simp
  · rw [if_neg e]
    unfold hOf
    simp [List.getD, List.getElem?_set_ne (Ne.symm e)]
end Go.Proofs.Ytmggaclaoefdaaa

namespace Go.Proofs.Ytmggaclaoefdaaa
open Go.RowKit
set_option linter.unusedVariables false
set_option linter.unusedSimpArgs false

theorem row_blk {w : World} {lo n s : Nat} {t : TypeId} {v : Value} {xs : List Value} (h : w.ownsRow lo t s v n xs) {g : Nat} (hg : v.ownBlock = some g) : ∃ cur, w.heap[g]? = some (.cells cur t (0, 0)) := by
  rcases h.2 with ⟨hv, _⟩ | ⟨k, cap, cur, hv, _, hk, _⟩
  · subst hv; cases hg
  · subst hv
    have e : k = g := Option.some.inj hg
    subst e
    exact ⟨cur, hk⟩
/-- One who makes two terms the same, on a heap of one's own. -/
structure MW (lo : Nat) (w : World) (mb vb m : Nat) (bv : Value) (left : Int) (g cap : Nat) (l : List Cl) (σ : Int → Option Int) (bs : List Nat) : Prop where
  mkg : MK w mb vb m bv left (some ⟨g, 0, none⟩) l.length cap (hOf l) σ
  row : CRw lo w (.slice (some ⟨g, 0, none⟩) l.length cap) l
  bnd : w.ownsRow lo 3 1 bv bs.length (bs.map fun x : Nat => Value.int .i64 (x : Int))
  low : lo ≤ w.heap.size
def MB (m mb g : Nat) (bv : Value) (k : Nat) : Prop := k = m ∨ k = mb ∨ k = g ∨ bv.ownBlock = some k
variable {lo : Nat} {w w' : World} {mb vb m : Nat} {bv : Value} {left : Int} {g cap : Nat} {l : List Cl} {σ : Int → Option Int} {bs : List Nat}
theorem MW.gne (M : MW lo w mb vb m bv left g cap l σ bs) : g ≠ mb ∧ g ≠ vb ∧ g ≠ m ∧ g < w.heap.size := by
  obtain ⟨cur, hc⟩ := row_blk M.row (g := g) rfl
  refine ⟨fun e => ?_, fun e => ?_, fun e => ?_, (Array.getElem?_eq_some_iff.1 hc).1⟩
  · subst e; rw [M.mkg.blk] at hc; injection hc with hc; injection hc with h1 h2; cases h2
  · subst e; rw [M.mkg.view.blk] at hc; injection hc with hc; injection hc with h1 h2; cases h2
  · subst e; exact M.mkg.view.mp.ne_block hc rfl
theorem MW.bne (M : MW lo w mb vb m bv left g cap l σ bs) : ∀ k, bv.ownBlock = some k → k ≠ mb ∧ k ≠ vb ∧ k ≠ m ∧ k ≠ g ∧ k < w.heap.size ∧ lo ≤ k := by
  intro k hk
  obtain ⟨cur, hc⟩ := row_blk M.bnd hk
  refine ⟨fun e => ?_, fun e => ?_, fun e => ?_, fun e => ?_, (Array.getElem?_eq_some_iff.1 hc).1, (M.bnd.lt k hk).1⟩
  · subst e; rw [M.mkg.blk] at hc; injection hc with hc; injection hc with h1 h2; cases h2
  · subst e; rw [M.mkg.view.blk] at hc; injection hc with hc; injection hc with h1 h2; cases h2
  · subst e; exact M.mkg.view.mp.ne_block hc rfl
  · subst e
    obtain ⟨cur', hc'⟩ := row_blk M.row (g := k) rfl
    rw [hc] at hc'; injection hc' with hc'; injection hc' with h1 h2; cases h2
/-- Only the view's map, and what is left, changed. -/
theorem MW.look {σ' : Int → Option Int} {left' : Int} (M : MW lo w mb vb m bv left g cap l σ bs) (K : MK w' mb vb m bv left' (some ⟨g, 0, none⟩) l.length cap (hOf l) σ') (hb : Bw (MM m mb) w.heap.size w w') : MW lo w' mb vb m bv left' g cap l σ' bs := by
  refine ⟨K, owns_block M.row (fun k hk => ?_), owns_block M.bnd (fun k hk => ?_), Nat.le_trans M.low hb.size⟩
  · have : g = k := Option.some.inj hk
    subst this
    have h9 := M.gne
    exact hb.block g h9.2.2.2 (fun e => by rcases e with e | e; (· exact h9.2.2.1 e); (· exact h9.1 e))
  · have h9 := M.bne k hk
    exact hb.block k h9.2.2.2.2.1 (fun e => by rcases e with e | e; (· exact h9.2.2.1 e); (· exact h9.1 e))
/-- Which of two is bound, and to what. -/
def swB (l : List Cl) (v t : Nat) : Nat × Nat := if (hOf l t).k = 1 ∧ v < t then (t, v) else (v, t)
def bndL (l : List Cl) (v t : Nat) : List Cl := l.set v (setN (hOf l v) (t : Int))
theorem bndL_len (l : List Cl) (v t : Nat) : (bndL l v t).length = l.length := by unfold bndL; simp
theorem bndL_h {v t : Nat} (hv : v < l.length) : hOf (bndL l v t) = bndH (hOf l) v t := by
  unfold bndL
  rw [hOf_get hv]
  exact hOf_set hv
theorem bndL_nm {v t : Nat} (hv : v < l.length) (hm : ∀ c ∈ l, c.nm.size ≤ maxLen) : ∀ c ∈ bndL l v t, c.nm.size ≤ maxLen := by
  intro c hc
  unfold bndL at hc
  rcases List.mem_or_eq_of_mem_set hc with h | h
  · exact hm c h
  · rw [h]
    show (hOf l v).nm.size ≤ maxLen
    rw [hOf_get hv]
    exact hm _ (List.getElem_mem hv)
theorem MW.stored (M : MW lo w mb vb m bv left g cap l σ bs) {v t : Nat} (hv : v < l.length) (hn : (hOf l v).n = v) (hm : ∀ c ∈ l, c.nm.size ≤ maxLen) : MW lo (w.setCell ⟨g, v * 3 + 1, none⟩ (.int .i64 (t : Int))) mb vb m bv left g cap (bndL l v t) σ bs := by
  have hg := grown_set (W := w) g (v * 3 + 1) (.int .i64 (t : Int))
  obtain ⟨g1, g2, g3, g4⟩ := M.gne
  have hR : CRw lo (w.setCell ⟨g, v * 3 + 1, none⟩ (.int .i64 (t : Int))) (.slice (some ⟨g, 0, none⟩) l.length cap) (bndL l v t) := by
    have h9 := CRw.setN M.row rfl hv (t : Int)
    unfold bndL
    rw [hOf_get hv]
    exact h9
  have hbl : ∀ k, k < w.heap.size → k ≠ g → (w.setCell ⟨g, v * 3 + 1, none⟩ (.int .i64 (t : Int))).heap[k]? = w.heap[k]? := fun k hk hne => hg.block k hk (fun e => hne (Option.some.inj e))
  refine ⟨⟨(hbl _ M.mkg.lt (Ne.symm g1)).trans M.mkg.blk, ?_⟩, ?_, M.bnd.kept hg ?_, Nat.le_trans M.low hg.size⟩
  · have hh := CRw.hin hR (bndL_len l v t).symm (bndL_nm hv hm)
    refine ⟨?_, hh, M.mkg.view.mp.keep (hbl _ M.mkg.view.lt.2 (Ne.symm g3)), ?_⟩
    · rw [bndL_len]; exact (hbl _ M.mkg.view.lt.1 (Ne.symm g2)).trans M.mkg.view.blk
    · rw [bndL_len, bndL_h hv]; exact M.mkg.view.ends.bnd hn
  · rw [bndL_len]; exact hR
  · cases hb : bv.ownBlock with
    | none => exact .inl rfl
    | some k => exact .inr (fun e => (M.bne k hb).2.2.2.1 (Option.some.inj e))
theorem MW.noted (M : MW lo w mb vb m bv left g cap l σ bs) {v : Nat} {bv' : Value} {w6 : World} (ho : w6.ownsRow lo 3 1 bv' (bs.length + 1) ((bs.map fun x : Nat => Value.int .i64 (x : Int)) ++ [.int .i64 (v : Int)])) (hg : w.grownBy w6 bv.ownBlock) (hat : bv'.ownBlock = bv.ownBlock ∨ bv'.ownBlock = some w.heap.size) :
    MW lo (w6.setCell ⟨mb, 1, none⟩ bv') mb vb m bv' left g cap l σ (bs ++ [v]) ∧ w6.cell? ⟨mb, 1, none⟩ = some bv ∧ w6.frozen? ⟨mb, 1, none⟩ = false ∧ Bw (MB m mb g bv) w.heap.size w (w6.setCell ⟨mb, 1, none⟩ bv') := by
  have hbl : ∀ k, k < w.heap.size → bv.ownBlock ≠ some k → w6.heap[k]? = w.heap[k]? := fun k hk hne => hg.block k hk (fun e => hne e.symm)
  have hgs := grown_set (W := w6) mb 1 bv'
  have h6 := hg.size
  have hb6 := (hbl mb M.mkg.lt (fun e => (M.bne mb e).1 rfl)).trans M.mkg.blk
  have h7 : ∀ k, k < w.heap.size → bv.ownBlock ≠ some k → k ≠ mb → (w6.setCell ⟨mb, 1, none⟩ bv').heap[k]? = w.heap[k]? := fun k hk hne hnm => (hgs.block k (by omega) (fun e => hnm (Option.some.inj e))).trans (hbl k hk hne)
  obtain ⟨g1, g2, g3, g4⟩ := M.gne
  obtain ⟨n1, n2⟩ := M.mkg.ne
  have hgo : bv.ownBlock ≠ some g := fun e => (M.bne g e).2.2.2.1 rfl
  have hvo : bv.ownBlock ≠ some vb := fun e => (M.bne vb e).2.1 rfl
  have hmo : bv.ownBlock ≠ some m := fun e => (M.bne m e).2.2.1 rfl
  refine ⟨⟨⟨?_, ⟨(h7 vb M.mkg.view.lt.1 hvo (Ne.symm n2)).trans M.mkg.view.blk, ⟨fun i hi => ?_, M.mkg.view.row.big, M.mkg.view.row.nm⟩, M.mkg.view.mp.keep (h7 m M.mkg.view.lt.2 hmo (Ne.symm n1)), M.mkg.view.ends⟩⟩, owns_block M.row (fun k hk => ?_), ?_, by have := M.low; simp; omega⟩, ?_, ?_, ⟨?_, ?_, ?_, by simp; omega, fun k hk hm => ?_⟩⟩
  · simp only [World.setCell, Array.getElem?_modify]
    simp [hb6]
  · obtain ⟨b, o, e, c0, c1, c2⟩ := M.mkg.view.row.row i hi
    cases e
    have hx : ∀ j, (w6.setCell ⟨mb, 1, none⟩ bv').cell? ⟨g, j, none⟩ = w.cell? ⟨g, j, none⟩ := fun j => World.cell?_of_block (h7 g g4 hgo g1)
    exact ⟨g, 0, rfl, (hx _).trans c0, (hx _).trans c1, (hx _).trans c2⟩
  · have : g = k := Option.some.inj hk
    subst this
    exact h7 g g4 hgo g1
  · rw [List.length_append, List.map_append]
    refine ho.kept hgs ?_
    rcases hat with e | e
    · rw [e]
      cases hb : bv.ownBlock with
      | none => exact .inl rfl
      | some k => exact .inr (fun e => (M.bne k hb).1 (Option.some.inj e))
    · rw [e]
      exact .inr (fun e => by have h8 : w.heap.size = mb := Option.some.inj e; have := M.mkg.lt; omega)
  · simp [World.cell?, hb6]
  · simp [World.frozen?, hb6]
  · exact hgs.os.trans hg.os
  · exact hgs.tape.trans hg.tape
  · exact hgs.output.trans hg.output
  · exact h7 k hk (fun e => hm (.inr (.inr (.inr e)))) (fun e => hm (.inr (.inl e)))
end Go.Proofs.Ytmggaclaoefdaaa
