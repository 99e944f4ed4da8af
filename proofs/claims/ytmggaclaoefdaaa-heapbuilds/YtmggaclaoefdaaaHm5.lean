/- bind, walked. -/
import Derived.Test.YtmggaclaoefdaaaGBD
namespace Go.Proofs.Ytmggaclaoefdaaa
open Go.RowKit
set_option linter.unusedVariables false
set_option linter.unusedSimpArgs false

theorem MW.below {lo : Nat} {w w' : World} {mb vb m : Nat} {bv : Value} {left : Int} {g cap : Nat} {l : List Cl} {σ : Int → Option Int} {bs : List Nat} (M : MW lo w mb vb m bv left g cap l σ bs) (hb : Below w.heap.size w w') : MW lo w' mb vb m bv left g cap l σ bs :=
  ⟨M.mkg.below hb, M.row.kept (grown_of_below hb none) (.inr (by simp [Value.ownBlock])), owns_block M.bnd (fun k hk => hb.block k (M.bne k hk).2.2.2.2.1), Nat.le_trans M.low hb.size⟩
theorem MW.cellN {lo : Nat} {w : World} {mb vb m : Nat} {bv : Value} {left : Int} {g cap : Nat} {l : List Cl} {σ : Int → Option Int} {bs : List Nat} (M : MW lo w mb vb m bv left g cap l σ bs) {i : Nat} (hi : i < l.length) : w.cell? ⟨g, i * 3, none⟩ = some (.int .i64 (hOf l i).k) ∧ w.cell? ⟨g, i * 3 + 1, none⟩ = some (.int .i64 (hOf l i).n) ∧ w.cell? ⟨g, i * 3 + 2, none⟩ = some (.string (hOf l i).nm) ∧ ∀ j, w.frozen? ⟨g, j, none⟩ = false := by
  obtain ⟨b, o, e, c0, c1, c2⟩ := M.mkg.view.row.row i hi
  cases e
  rw [Nat.zero_add] at c0 c1 c2
  refine ⟨c0, c1, c2, fun j => ?_⟩
  obtain ⟨cur, hc⟩ := row_blk M.row (g := g) rfl
  simp [World.frozen?, hc]
def BdP (w : World) (lo mb vb m : Nat) (bv : Value) (g cap : Nat) (l : List Cl) (bs : List Nat) (v t : Nat) (r : LkR) (e : Ending) (w' : World) : Prop :=
  (r.yes = false ∧ e = .returned (.bool false) ∧ ∃ σ', MW lo w' mb vb m bv r.left g cap l σ' bs ∧ Bw (MB m mb g bv) w.heap.size w w') ∨
  (r.yes = true ∧ e = .returned (.bool true) ∧ ∃ bv' σ', MW lo w' mb vb m bv' r.left g cap (bndL l (swB l v t).1 (swB l v t).2) σ' (bs ++ [(swB l v t).1]) ∧ Bw (MB m mb g bv) w.heap.size w w' ∧ (bv'.ownBlock = bv.ownBlock ∨ ∃ q, bv'.ownBlock = some q ∧ w.heap.size ≤ q))
set_option maxRecDepth 100000 in
set_option maxHeartbeats 8000000 in
theorem mbind_any {lo : Nat} {mb vb m : Nat} {bv : Value} {n : Nat} {g cap : Nat} {l : List Cl} {σ : Int → Option Int} {bs : List Nat} {v t : Nat} (w : World) (hn : n ≤ 1000000) (M : MW lo w mb vb m bv (n : Int) g cap l σ bs) (H : HG (hOf l) l.length) (hv : v < l.length) (hnv : (hOf l v).n = v) (ht : t < l.length) (hrt : (hOf l t).k = 1 → (hOf l t).n = t) (hm : ∀ c ∈ l, c.nm.size ≤ maxLen) (hbs : bs.length ≤ 1000000) :
    Calls Try.prog 135 #[.pointer (some ⟨mb, 0, none⟩), .int .i64 (v : Int), .int .i64 (t : Int)] w (BdP w lo mb vb m bv g cap l bs v t (lkL (hOf l) l.length v n [t])) := by
  have HLa : Hid (Calls Try.prog 144 #[.pointer (some ⟨mb, 0, none⟩), .int .i64 (t : Int), .int .i64 (v : Int)] w (LkP w mb vb m bv (some ⟨g, 0, none⟩) l.length cap (hOf l) (lkL (hOf l) l.length v n [t]))) := mlacks_all n hn mb vb m bv (some ⟨g, 0, none⟩) l.length cap (hOf l) σ t v w H (by have := H.ok.few; omega) ht M.mkg
  have HM : Hid (MW lo w mb vb m bv (n : Int) g cap l σ bs) := M
  have Hnv : Hid ((hOf l v).n = v) := hnv
  have Hrt : Hid ((hOf l t).k = 1 → (hOf l t).n = t) := hrt
  have Hm : Hid (∀ c ∈ l, c.nm.size ≤ maxLen) := hm
  have hfew := H.ok.few
  obtain ⟨j0, hj, hj0, hj1, hj2⟩ := info_parts Try.info3
  generalize lkL (hOf l) l.length v n [t] = r at *
  clear M H hnv hrt hm
  go_enter Try.func135, Try.ntmps135
  go_wp2_with fail
  refine HLa.out.mono ?_
  rintro e w1 ⟨rfl, ⟨σ1, hK1⟩, hb1⟩
  have hM1 := HM.out.look hK1 hb1
  have HM1 : Hid (MW lo w1 mb vb m bv r.left g cap l σ1 bs) := hM1
  have HB1 : Hid (Bw (MB m mb g bv) w.heap.size w w1) := hb1.wide fun k _ hk => by
    rcases hk with e | e
    · exact .inl e
    · exact .inr (.inl e)
  have hs1 := hb1.size
  have k10 := hM1.mkg.cells.1
  have v10 := hM1.mkg.view.cells.1
  obtain ⟨t0, t1, t2, tf⟩ := hM1.cellN ht
  have htI : (t : Int) < (l.length : Int) := by omega
  have hvI : (v : Int) < (l.length : Int) := by omega
  clear hK1 hb1 hM1 HLa
  cases hy : r.yes with
  | false =>
    go_wp2_with fail
    go_ret
    exact .inl ⟨hy, rfl, σ1, HM1.out, HB1.out⟩
  | true =>
    by_cases hk1 : (hOf l t).k = 1
    case neg =>
      have hkb : ((hOf l t).k == 1) = false := beq_eq_false_iff_ne.2 hk1
      have HSw : Hid (swB l v t = (v, t)) := by rw [Hid]; unfold swB; rw [if_neg (fun h => hk1 h.1)]
      have f1 : w1.frozen? ⟨g, v * 3 + 1, none⟩ = false := (HM1.out.cellN hv).2.2.2 _
      obtain ⟨y1, c1⟩ : ∃ y1, w1.cell? ⟨g, v * 3 + 1, none⟩ = some y1 := ⟨_, (HM1.out.cellN hv).2.1⟩
      have hM2 := HM1.out.stored (t := t) hv Hnv.out Hm.out
      have HM2 : Hid (MW lo (w1.setCell ⟨g, v * 3 + 1, none⟩ (.int .i64 (t : Int))) mb vb m bv r.left g cap (bndL l v t) σ1 bs) := hM2
      have hG2 := grown_set (W := w1) g (v * 3 + 1) (.int .i64 (t : Int))
      have HB2 : Hid (Bw (MB m mb g bv) w.heap.size w (w1.setCell ⟨g, v * 3 + 1, none⟩ (.int .i64 (t : Int)))) := HB1.out.grown hG2 hs1 (fun k e => .inr (.inr (.inr (.inl (Option.some.inj e).symm))))
      have hs2 : w.heap.size ≤ (w1.setCell ⟨g, v * 3 + 1, none⟩ (.int .i64 (t : Int))).heap.size := Nat.le_trans hs1 hG2.size
      have m21 := hM2.mkg.cells.2.1
      clear hM2 hG2
      have hsw : (w1.setCell ⟨g, v * 3 + 1, none⟩ (.int .i64 (t : Int))).heap.size = w1.heap.size := by simp
      have HNc : Hid (∀ j u, [Value.int .i64 (v : Int)][j]? = some u → ((w1.setCell ⟨g, v * 3 + 1, none⟩ (.int .i64 (t : Int))).alloc (.cells #[.int .i64 (v : Int)] 3)).cell? ((⟨w1.heap.size, 0, none⟩ : Addr).add j) = some u) := by
        have h9 := cell_one_new (w1.setCell ⟨g, v * 3 + 1, none⟩ (.int .i64 (t : Int))) (.int .i64 (v : Int)) 3
        rw [hsw] at h9
        exact h9
      have hB3 : Below (w1.setCell ⟨g, v * 3 + 1, none⟩ (.int .i64 (t : Int))).heap.size (w1.setCell ⟨g, v * 3 + 1, none⟩ (.int .i64 (t : Int))) ((w1.setCell ⟨g, v * 3 + 1, none⟩ (.int .i64 (t : Int))).alloc (.cells #[.int .i64 (v : Int)] 3)) := (Below.refl _ _).alloc (Nat.le_refl _) _
      have HM3 : Hid (MW lo ((w1.setCell ⟨g, v * 3 + 1, none⟩ (.int .i64 (t : Int))).alloc (.cells #[.int .i64 (v : Int)] 3)) mb vb m bv r.left g cap (bndL l v t) σ1 bs) := HM2.out.below hB3
      have HB3 : Hid (Bw (MB m mb g bv) w.heap.size w ((w1.setCell ⟨g, v * 3 + 1, none⟩ (.int .i64 (t : Int))).alloc (.cells #[.int .i64 (v : Int)] 3))) := HB2.out.trans (Bw.ofBelow (hB3.mono hs2))
      have hs3 : w.heap.size ≤ ((w1.setCell ⟨g, v * 3 + 1, none⟩ (.int .i64 (t : Int))).alloc (.cells #[.int .i64 (v : Int)] 3)).heap.size := by simp; omega
      clear hB3
      go_wp2_with (at_builtin; refine wpList_append_own_at _ rfl (.tmp 46) (.tmp 48) 56 rfl lo 3 j0 (.int .i64 0) 1 8 Try.underlying56 hj hj0 hj1 hj2 rfl (by decide) bv bs.length (bs.map fun x : Nat => Value.int .i64 (x : Int)) rfl HM3.out.bnd ⟨w1.heap.size, 0, none⟩ 1 1 [.int .i64 (v : Int)] rfl rfl HNc.out (by simp [Value.oneCell']) (by unfold maxLen; omega) (by omega) HM3.out.low ?_; intro bv' w6 hown' hgrow hnil hat; have hv' : ∃ g' cap', bv' = .slice (some ⟨g', 0, none⟩) (bs.length + 1) cap' := (by rcases hown'.2 with ⟨_, h0⟩ | ⟨g', cap', _, h, _⟩; (· omega); (· exact ⟨g', cap', h⟩)); obtain ⟨g', cap', rfl⟩ := hv'; have h9 := HM3.out.noted (v := v) hown' hgrow hat; have HN9 : Hid (MW lo (w6.setCell ⟨mb, 1, none⟩ (.slice (some ⟨g', 0, none⟩) (bs.length + 1) cap')) mb vb m (.slice (some ⟨g', 0, none⟩) (bs.length + 1) cap') r.left g cap (bndL l v t) σ1 (bs ++ [v])) := h9.1; have q1 := h9.2.1; have qf := h9.2.2.1; have HB9 : Hid (Bw (MB m mb g bv) w.heap.size w (w6.setCell ⟨mb, 1, none⟩ (.slice (some ⟨g', 0, none⟩) (bs.length + 1) cap'))) := HB3.out.trans (h9.2.2.2.mono hs3); have Hat : Hid ((Value.slice (some ⟨g', 0, none⟩) (bs.length + 1) cap').ownBlock = bv.ownBlock ∨ ∃ q, (Value.slice (some ⟨g', 0, none⟩) (bs.length + 1) cap').ownBlock = some q ∧ w.heap.size ≤ q) := (by rcases hat with e | e; (· exact .inl e); (· exact .inr ⟨_, e, hs3⟩)); clear h9 hown' hgrow hnil hat)
      go_ret
      refine .inr ⟨hy, rfl, _, σ1, ?_, HB9.out, Hat.out⟩
      rw [HSw.out]
      exact HN9.out
    have hkb : ((hOf l t).k == 1) = true := beq_iff_eq.2 hk1
    by_cases hvt : v < t
    case neg =>
      have hdb : decide ((t : Int) > (v : Int)) = false := decide_eq_false (by omega)
      have HSw : Hid (swB l v t = (v, t)) := by rw [Hid]; unfold swB; rw [if_neg (fun h => hvt h.2)]
      have f1 : w1.frozen? ⟨g, v * 3 + 1, none⟩ = false := (HM1.out.cellN hv).2.2.2 _
      obtain ⟨y1, c1⟩ : ∃ y1, w1.cell? ⟨g, v * 3 + 1, none⟩ = some y1 := ⟨_, (HM1.out.cellN hv).2.1⟩
      have hM2 := HM1.out.stored (t := t) hv Hnv.out Hm.out
      have HM2 : Hid (MW lo (w1.setCell ⟨g, v * 3 + 1, none⟩ (.int .i64 (t : Int))) mb vb m bv r.left g cap (bndL l v t) σ1 bs) := hM2
      have hG2 := grown_set (W := w1) g (v * 3 + 1) (.int .i64 (t : Int))
      have HB2 : Hid (Bw (MB m mb g bv) w.heap.size w (w1.setCell ⟨g, v * 3 + 1, none⟩ (.int .i64 (t : Int)))) := HB1.out.grown hG2 hs1 (fun k e => .inr (.inr (.inr (.inl (Option.some.inj e).symm))))
      have hs2 : w.heap.size ≤ (w1.setCell ⟨g, v * 3 + 1, none⟩ (.int .i64 (t : Int))).heap.size := Nat.le_trans hs1 hG2.size
      have m21 := hM2.mkg.cells.2.1
      clear hM2 hG2
      have hsw : (w1.setCell ⟨g, v * 3 + 1, none⟩ (.int .i64 (t : Int))).heap.size = w1.heap.size := by simp
      have HNc : Hid (∀ j u, [Value.int .i64 (v : Int)][j]? = some u → ((w1.setCell ⟨g, v * 3 + 1, none⟩ (.int .i64 (t : Int))).alloc (.cells #[.int .i64 (v : Int)] 3)).cell? ((⟨w1.heap.size, 0, none⟩ : Addr).add j) = some u) := by
        have h9 := cell_one_new (w1.setCell ⟨g, v * 3 + 1, none⟩ (.int .i64 (t : Int))) (.int .i64 (v : Int)) 3
        rw [hsw] at h9
        exact h9
      have hB3 : Below (w1.setCell ⟨g, v * 3 + 1, none⟩ (.int .i64 (t : Int))).heap.size (w1.setCell ⟨g, v * 3 + 1, none⟩ (.int .i64 (t : Int))) ((w1.setCell ⟨g, v * 3 + 1, none⟩ (.int .i64 (t : Int))).alloc (.cells #[.int .i64 (v : Int)] 3)) := (Below.refl _ _).alloc (Nat.le_refl _) _
      have HM3 : Hid (MW lo ((w1.setCell ⟨g, v * 3 + 1, none⟩ (.int .i64 (t : Int))).alloc (.cells #[.int .i64 (v : Int)] 3)) mb vb m bv r.left g cap (bndL l v t) σ1 bs) := HM2.out.below hB3
      have HB3 : Hid (Bw (MB m mb g bv) w.heap.size w ((w1.setCell ⟨g, v * 3 + 1, none⟩ (.int .i64 (t : Int))).alloc (.cells #[.int .i64 (v : Int)] 3))) := HB2.out.trans (Bw.ofBelow (hB3.mono hs2))
      have hs3 : w.heap.size ≤ ((w1.setCell ⟨g, v * 3 + 1, none⟩ (.int .i64 (t : Int))).alloc (.cells #[.int .i64 (v : Int)] 3)).heap.size := by simp; omega
      clear hB3
      go_wp2_with (at_builtin; refine wpList_append_own_at _ rfl (.tmp 46) (.tmp 48) 56 rfl lo 3 j0 (.int .i64 0) 1 8 Try.underlying56 hj hj0 hj1 hj2 rfl (by decide) bv bs.length (bs.map fun x : Nat => Value.int .i64 (x : Int)) rfl HM3.out.bnd ⟨w1.heap.size, 0, none⟩ 1 1 [.int .i64 (v : Int)] rfl rfl HNc.out (by simp [Value.oneCell']) (by unfold maxLen; omega) (by omega) HM3.out.low ?_; intro bv' w6 hown' hgrow hnil hat; have hv' : ∃ g' cap', bv' = .slice (some ⟨g', 0, none⟩) (bs.length + 1) cap' := (by rcases hown'.2 with ⟨_, h0⟩ | ⟨g', cap', _, h, _⟩; (· omega); (· exact ⟨g', cap', h⟩)); obtain ⟨g', cap', rfl⟩ := hv'; have h9 := HM3.out.noted (v := v) hown' hgrow hat; have HN9 : Hid (MW lo (w6.setCell ⟨mb, 1, none⟩ (.slice (some ⟨g', 0, none⟩) (bs.length + 1) cap')) mb vb m (.slice (some ⟨g', 0, none⟩) (bs.length + 1) cap') r.left g cap (bndL l v t) σ1 (bs ++ [v])) := h9.1; have q1 := h9.2.1; have qf := h9.2.2.1; have HB9 : Hid (Bw (MB m mb g bv) w.heap.size w (w6.setCell ⟨mb, 1, none⟩ (.slice (some ⟨g', 0, none⟩) (bs.length + 1) cap'))) := HB3.out.trans (h9.2.2.2.mono hs3); have Hat : Hid ((Value.slice (some ⟨g', 0, none⟩) (bs.length + 1) cap').ownBlock = bv.ownBlock ∨ ∃ q, (Value.slice (some ⟨g', 0, none⟩) (bs.length + 1) cap').ownBlock = some q ∧ w.heap.size ≤ q) := (by rcases hat with e | e; (· exact .inl e); (· exact .inr ⟨_, e, hs3⟩)); clear h9 hown' hgrow hnil hat)
      go_ret
      refine .inr ⟨hy, rfl, _, σ1, ?_, HB9.out, Hat.out⟩
      rw [HSw.out]
      exact HN9.out
    have hdb : decide ((t : Int) > (v : Int)) = true := decide_eq_true (by omega)
    have HSw : Hid (swB l v t = (t, v)) := by rw [Hid]; unfold swB; rw [if_pos ⟨hk1, hvt⟩]
    have f1 : w1.frozen? ⟨g, t * 3 + 1, none⟩ = false := (HM1.out.cellN ht).2.2.2 _
    obtain ⟨y1, c1⟩ : ∃ y1, w1.cell? ⟨g, t * 3 + 1, none⟩ = some y1 := ⟨_, (HM1.out.cellN ht).2.1⟩
    have hM2 := HM1.out.stored (t := v) ht (Hrt.out hk1) Hm.out
    have HM2 : Hid (MW lo (w1.setCell ⟨g, t * 3 + 1, none⟩ (.int .i64 (v : Int))) mb vb m bv r.left g cap (bndL l t v) σ1 bs) := hM2
    have hG2 := grown_set (W := w1) g (t * 3 + 1) (.int .i64 (v : Int))
    have HB2 : Hid (Bw (MB m mb g bv) w.heap.size w (w1.setCell ⟨g, t * 3 + 1, none⟩ (.int .i64 (v : Int)))) := HB1.out.grown hG2 hs1 (fun k e => .inr (.inr (.inr (.inl (Option.some.inj e).symm))))
    have hs2 : w.heap.size ≤ (w1.setCell ⟨g, t * 3 + 1, none⟩ (.int .i64 (v : Int))).heap.size := Nat.le_trans hs1 hG2.size
    have m21 := hM2.mkg.cells.2.1
    clear hM2 hG2
    have hsw : (w1.setCell ⟨g, t * 3 + 1, none⟩ (.int .i64 (v : Int))).heap.size = w1.heap.size := by simp
    have HNc : Hid (∀ j u, [Value.int .i64 (t : Int)][j]? = some u → ((w1.setCell ⟨g, t * 3 + 1, none⟩ (.int .i64 (v : Int))).alloc (.cells #[.int .i64 (t : Int)] 3)).cell? ((⟨w1.heap.size, 0, none⟩ : Addr).add j) = some u) := by
      have h9 := cell_one_new (w1.setCell ⟨g, t * 3 + 1, none⟩ (.int .i64 (v : Int))) (.int .i64 (t : Int)) 3
      rw [hsw] at h9
      exact h9
    have hB3 : Below (w1.setCell ⟨g, t * 3 + 1, none⟩ (.int .i64 (v : Int))).heap.size (w1.setCell ⟨g, t * 3 + 1, none⟩ (.int .i64 (v : Int))) ((w1.setCell ⟨g, t * 3 + 1, none⟩ (.int .i64 (v : Int))).alloc (.cells #[.int .i64 (t : Int)] 3)) := (Below.refl _ _).alloc (Nat.le_refl _) _
    have HM3 : Hid (MW lo ((w1.setCell ⟨g, t * 3 + 1, none⟩ (.int .i64 (v : Int))).alloc (.cells #[.int .i64 (t : Int)] 3)) mb vb m bv r.left g cap (bndL l t v) σ1 bs) := HM2.out.below hB3
    have HB3 : Hid (Bw (MB m mb g bv) w.heap.size w ((w1.setCell ⟨g, t * 3 + 1, none⟩ (.int .i64 (v : Int))).alloc (.cells #[.int .i64 (t : Int)] 3))) := HB2.out.trans (Bw.ofBelow (hB3.mono hs2))
    have hs3 : w.heap.size ≤ ((w1.setCell ⟨g, t * 3 + 1, none⟩ (.int .i64 (v : Int))).alloc (.cells #[.int .i64 (t : Int)] 3)).heap.size := by simp; omega
    clear hB3
    go_wp2_with (at_builtin; refine wpList_append_own_at _ rfl (.tmp 46) (.tmp 48) 56 rfl lo 3 j0 (.int .i64 0) 1 8 Try.underlying56 hj hj0 hj1 hj2 rfl (by decide) bv bs.length (bs.map fun x : Nat => Value.int .i64 (x : Int)) rfl HM3.out.bnd ⟨w1.heap.size, 0, none⟩ 1 1 [.int .i64 (t : Int)] rfl rfl HNc.out (by simp [Value.oneCell']) (by unfold maxLen; omega) (by omega) HM3.out.low ?_; intro bv' w6 hown' hgrow hnil hat; have hv' : ∃ g' cap', bv' = .slice (some ⟨g', 0, none⟩) (bs.length + 1) cap' := (by rcases hown'.2 with ⟨_, h0⟩ | ⟨g', cap', _, h, _⟩; (· omega); (· exact ⟨g', cap', h⟩)); obtain ⟨g', cap', rfl⟩ := hv'; have h9 := HM3.out.noted (v := t) hown' hgrow hat; have HN9 : Hid (MW lo (w6.setCell ⟨mb, 1, none⟩ (.slice (some ⟨g', 0, none⟩) (bs.length + 1) cap')) mb vb m (.slice (some ⟨g', 0, none⟩) (bs.length + 1) cap') r.left g cap (bndL l t v) σ1 (bs ++ [t])) := h9.1; have q1 := h9.2.1; have qf := h9.2.2.1; have HB9 : Hid (Bw (MB m mb g bv) w.heap.size w (w6.setCell ⟨mb, 1, none⟩ (.slice (some ⟨g', 0, none⟩) (bs.length + 1) cap'))) := HB3.out.trans (h9.2.2.2.mono hs3); have Hat : Hid ((Value.slice (some ⟨g', 0, none⟩) (bs.length + 1) cap').ownBlock = bv.ownBlock ∨ ∃ q, (Value.slice (some ⟨g', 0, none⟩) (bs.length + 1) cap').ownBlock = some q ∧ w.heap.size ≤ q) := (by rcases hat with e | e; (· exact .inl e); (· exact .inr ⟨_, e, hs3⟩)); clear h9 hown' hgrow hnil hat)
    go_ret
    refine .inr ⟨hy, rfl, _, σ1, ?_, HB9.out, Hat.out⟩
    rw [HSw.out]
    exact HN9.out
end Go.Proofs.Ytmggaclaoefdaaa
