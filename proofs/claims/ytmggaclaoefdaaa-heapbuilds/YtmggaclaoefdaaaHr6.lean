/- The program's view: Room. -/
import Derived.Test.YtmggaclaoefdaaaGAW
namespace Go.Proofs.Ytmggaclaoefdaaa
open Go.RowKit Go.Shelf
set_option linter.unusedVariables false
set_option linter.unusedSimpArgs false
attribute [local go_sem] Oper.semAt_some

theorem Bw.own {M : Nat → Prop} {s B : Nat} {w W W' : World} {row : Option Nat} (h : Bw M s w W) (hs : s ≤ W.heap.size) (hB : s ≤ B) (hg : W.grownBy W' row) (hr : ∀ r, row = some r → B ≤ r ∧ ∃ o : Obj, W.heap[r]? = some o ∧ o.isCells = false) : Bw M s w W' :=
  h.grown hg hs fun k e => .inl (Nat.le_trans hB (hr k e).1)
theorem box_own {W W' : World} {B : Nat} {t : TypeId} {v : Value} {row : Option Nat} {C : Nat} (h : Boxed W B t v) (hg : W.grownBy W' row) (hr : ∀ r, row = some r → C ≤ r ∧ ∃ o : Obj, W.heap[r]? = some o ∧ o.isCells = false) : Boxed W' B t v :=
  h.kept hg (ne_of_cells (fun r e => (hr r e).2) h rfl)
theorem Bw.g {m : Nat} {w W : World} (h : Bw (fun k => k = m) w.heap.size w W) : w.grownBy W (some m) := ⟨h.os, h.tape, h.output, h.size, fun k hk hn => h.block k hk (fun e => hn (by rw [e]))⟩
def RmC (n : Nat) : Prop := ∀ (vb m : Nat) (a : Option Addr) (len cap : Nat) (h : Nat → Cl) (σ : Int → Option Int) (g : Nat) (lb : Array Value) (L : List Nat) (b : Nat) (w : World), HG h len → len ≤ 1000000 → VW w vb m a len cap h σ → (∀ (args : Array Value) (w : World), (callFunc g args).run Try.prog w = .ok (.enter g args) w) → b < w.heap.size → b ≠ m → SeqL g lb len L b w →
  Calls Try.prog 78 #[.pointer (some ⟨vb, 0, none⟩), .int .i64 (n : Int), .func (.func g) #[] lb] w fun e w' => e = .returned (.int .i64 (roomV (n : Int) (sumC h len L))) ∧ (∃ σ', VW w' vb m a len cap h σ') ∧ w.grownBy w' (some m)
def RmI (w : World) (vb m : Nat) (a : Option Addr) (len cap : Nat) (h : Nat → Cl) (n s : Nat) (pre : List (Cx len)) (W : World) : Prop := ∃ (k : Nat) (σ' : Int → Option Int), k + sumC h len (vals pre) = n ∧ Boxed W s 114 (.pointer (some ⟨vb, 0, none⟩)) ∧ Boxed W (s + 1) 3 (.int .i64 (k : Int)) ∧ Boxed W (s + 2) 3 (.int .i64 0) ∧ VW W vb m a len cap h σ' ∧ Bw (fun k => k = m) s w W ∧ s + 3 ≤ W.heap.size
def RmX (w : World) (vb m : Nat) (a : Option Addr) (len cap : Nat) (h : Nat → Cl) (n s : Nat) (c : Code) (pre : List (Cx len)) (W : World) : Prop := c = .ret ∧ n < sumC h len (vals pre) ∧ Boxed W (s + 2) 3 (.int .i64 (-1)) ∧ (∃ σ', VW W vb m a len cap h σ') ∧ Bw (fun k => k = m) s w W ∧ s + 3 ≤ W.heap.size
theorem roomV_lt {n t : Nat} (h : n < t) : roomV (n : Int) t = -1 := by unfold roomV; rw [if_neg (by omega)]
theorem roomV_le {n t k : Nat} (h : k + t = n) : roomV (n : Int) t = (k : Int) := by unfold roomV; rw [if_pos (by omega)]; omega
set_option maxRecDepth 100000 in
set_option maxHeartbeats 8000000 in
theorem vroom_step (n : Nat) (hn : n ≤ 200) (ih : ∀ k, k < n → RmC k) : RmC n := by
  intro vb m a len cap h σ g lb L b w H hlb V hent hb hbm hS
  have HV0 : Hid (VW w vb m a len cap h σ) := V
  have HG' : Hid (HG h len) := H
  obtain ⟨W0, hW0⟩ : ∃ W0, ((w.alloc (.cells #[.pointer (some ⟨vb, 0, none⟩)] 114)).alloc (.cells #[.int .i64 (n : Int)] 3)).alloc (.cells #[.int .i64 0] 3) = W0 := ⟨_, rfl⟩
  have hB0 : Below w.heap.size w W0 := by rw [← hW0]; exact (((Below.refl _ _).alloc (Nat.le_refl _) _).alloc (by simp) _).alloc (by simp; omega) _
  have hs0 : W0.heap.size = w.heap.size + 3 := by rw [← hW0]; simp
  have x0 : Boxed W0 w.heap.size 114 (.pointer (some ⟨vb, 0, none⟩)) := by rw [← hW0]; exact ((Boxed.new w _ _).alloc _).alloc _
  have x1 : Boxed W0 (w.heap.size + 1) 3 (.int .i64 (n : Int)) := by
    rw [← hW0]
    have := (Boxed.new (w.alloc (.cells #[.pointer (some ⟨vb, 0, none⟩)] 114)) 3 (.int .i64 (n : Int))).alloc (.cells #[.int .i64 0] 3)
    rwa [World.size_alloc] at this
  have x2 : Boxed W0 (w.heap.size + 2) 3 (.int .i64 0) := by
    rw [← hW0]
    have := Boxed.new ((w.alloc (.cells #[.pointer (some ⟨vb, 0, none⟩)] 114)).alloc (.cells #[.int .i64 (n : Int)] 3)) 3 (.int .i64 0)
    rwa [World.size_alloc, World.size_alloc] at this
  have HS0 : Hid (SeqL g lb len L b W0) := hS.below hB0
  have HI0 : Hid (RmI w vb m a len cap h n w.heap.size [] W0) := ⟨n, σ, rfl, x0, x1, x2, V.below hB0, Bw.ofBelow hB0, by omega⟩
  have HEn : Hid (∀ (args : Array Value) (w : World), (callFunc g args).run Try.prog w = .ok (.enter g args) w) := hent
  have hml : m < w.heap.size := V.lt.2
  have HIH : Hid (∀ k, k < n → RmC k) := ih
  clear V H hent hS x0 x1 x2 hB0 ih
  refine (callsIn_wide (n := 5)).1 (callsIn_of_wp_marks Try.func78 rfl trivial (wpIn_wide.2 ?_) rfl)
  simp only [Try.ntmps78, List.size_toArray, List.length_cons, List.length_nil, Nat.reduceAdd, Nat.reduceSub, Array.replicate_succ, Array.replicate_zero, List.push_toArray, List.append_toArray, List.nil_append, List.cons_append]
  go_wp2_with fail
  try rw [hW0]
  generalize hs : w.heap.size = s at *
  refine wpIn_wide.1 (wpIn_rangeFunc_ownG (n := 5) rfl (by omega) (gf := g) (lb := lb) rfl trivial HEn.out (HS0.out 4) (fun h k => Kb.t h k) (Kb.b (by omega)) (Below.refl _ _) (fun _ => rfl)
    (RmI w vb m a len cap h n s) (RmX w vb m a len cap h n s)
    (fun pre X Y row hs' hg hr => by
      obtain ⟨k, σ', e, h0, h1, h2, hV, hB, hz⟩ := hs'
      exact ⟨k, σ', e, box_own h0 hg hr, box_own h1 hg hr, box_own h2 hg hr, hV.own (by omega) hg hr, hB.own (by omega) (by omega) hg hr, Nat.le_trans hz hg.size⟩)
    (fun c pre X Y row hs' hg hr => by
      obtain ⟨e, h0, h1, ⟨σ', hV⟩, hB, hz⟩ := hs'
      exact ⟨e, h0, box_own h1 hg hr, ⟨σ', hV.own (by omega) hg hr⟩, hB.own (by omega) (by omega) hg hr, Nat.le_trans hz hg.size⟩)
    HI0.out
    (fun x => { tmps := #[.pointer (some ⟨vb, 0, none⟩), .int .i64 (n : Int), .func (.func g) #[] lb, .pointer (some ⟨s, 0, none⟩), .pointer (some ⟨s + 1, 0, none⟩), undef, .pointer (some ⟨s + 2, 0, none⟩), .int .i64 (x.1 : Int), .func (.func g) #[] lb, .int .i64 (x.1 : Int), undef, undef, undef, undef, undef, undef, undef, undef, undef, undef, undef, undef, undef], defers := [] }) ?assign ?body ?done ?stop)
  case assign =>
    intro l x W K hK
    gi_wp2
    exact hK
  case stop =>
    rintro D c pre W hD hp ⟨rfl, h0, h1, ⟨σ', hV⟩, hB, hz⟩ hDK
    refine wpIn_ret ?_
    have hg := grownBy_putObj' W D (.deferred none)
    have hne : ∀ k, k < s + 3 → some k ≠ some D := fun k hk e => by have := Option.some.inj e; omega
    have h1' : Boxed (W.putObj D (.deferred none)) (s + 2) 3 (.int .i64 (-1)) := h1.kept hg (hne _ (by omega))
    refine ⟨by simp, .inl ⟨_, _, rfl, run_takeDeferred hDK, .int .i64 (-1), ?_, ?_, ⟨σ', ?_⟩, ?_⟩⟩
    · simp [results, Try.results78, go_sem, h1'.cell]
    · rw [roomV_lt (Nat.lt_of_lt_of_le h0 (sumC_pre hp))]
    · exact HV0.out.low hV fun k hk => hg.block k (by omega) (hne _ (by omega))
    · have := hB.grown (B := s) hg (by omega) (fun k e => .inl (by cases e; omega))
      exact Bw.g (by rw [hs]; exact this)
  case done =>
    rintro D ys W hD hys ⟨k, σ', e, h0, h1, h2, hV, hB, hz⟩ hDK
    have b1 := h1.cell
    have b2 := h2.cell
    have f2 := h2.frozen
    have HR : Hid (roomV (n : Int) (sumC h len L) = (k : Int)) := by rw [Hid, ← hys]; exact roomV_le e
    have HV : Hid (VW (W.setCell ⟨s + 2, 0, none⟩ (.int .i64 (k : Int))) vb m a len cap h σ') := HV0.out.low hV fun q hq => (grown_set (W := W) (s + 2) 0 _).block q (by omega) (fun e => by have := Option.some.inj e; omega)
    have HB : Hid (Bw (fun k => k = m) s w (W.setCell ⟨s + 2, 0, none⟩ (.int .i64 (k : Int)))) := hB.grown (grown_set (W := W) (s + 2) 0 _) (by omega) (fun q e => .inl (by cases e; omega))
    have HX : Hid (Boxed (W.setCell ⟨s + 2, 0, none⟩ (.int .i64 (k : Int))) (s + 2) 3 (.int .i64 (k : Int))) := h2.set _
    have HD : Hid ((W.setCell ⟨s + 2, 0, none⟩ (.int .i64 (k : Int))).heap[D]? = some (.deferred (some []))) := (KeepsOthers.setCell _ _ _).same D _ hDK rfl
    clear hV hB h0 h1 h2 hDK
    go_wp2_with fail
    have hg := grownBy_putObj' (W.setCell ⟨s + 2, 0, none⟩ (.int .i64 (k : Int))) D (.deferred none)
    have hne : ∀ k, k < s + 3 → some k ≠ some D := fun k hk e => by have := Option.some.inj e; omega
    have hX := HX.out.kept hg (hne _ (by omega))
    refine ⟨by simp, .inl ⟨_, _, rfl, run_takeDeferred HD.out, .int .i64 (k : Int), ?_, ?_, ⟨σ', ?_⟩, ?_⟩⟩
    · simp [results, Try.results78, go_sem, hX.cell]
    · rw [HR.out]
    · exact HV0.out.low HV.out fun q hq => hg.block q (by simp; omega) (hne _ (by omega))
    · have := HB.out.grown (B := s) hg (by simp; omega) (fun k e => .inl (by cases e; omega))
      exact Bw.g (by rw [hs]; exact this)
  case body =>
    rintro l pre x W ⟨k, σ', e, h0, h1, h2, hV, hB, hz⟩ hpl
    have hxl := x.2
    have b0 := h0.cell
    have b1 := h1.cell
    have b2 := h2.cell
    have f1 := h1.frozen
    have f2 := h2.frozen
    have hcx : 1 ≤ cntA h len x.1 := cntA_pos
    by_cases hk0 : k = 0
    · subst hk0
      have HX : Hid (RmX w vb m a len cap h n s .ret (pre ++ [x]) (W.setCell ⟨s + 2, 0, none⟩ (.int .i64 (-1)))) := by
        refine ⟨rfl, by rw [vals_snoc, sumC_snoc]; omega, h2.set _, ⟨σ', HV0.out.low hV fun q hq => (grown_set (W := W) (s + 2) 0 _).block q (by omega) (fun e => by have := Option.some.inj e; omega)⟩, hB.grown (grown_set (W := W) (s + 2) 0 _) (by omega) (fun q e => .inl (by cases e; omega)), by simp; omega⟩
      clear hV hB h0 h1 h2
      gi_wp2
      exact ⟨(KeepsOthers.setCell _ _ _).from _, HX.out⟩
    have hkb : ((k : Int) == 0) = false := beq_eq_false_iff_ne.2 (by omega)
    have hkn : k ≤ n := by omega
    have hw1 : IntKind.i64.wrap ((k : Int) - 1) = ((k - 1 : Nat) : Int) := by simp [IntKind.wrap, IntKind.bits, IntKind.signed]; omega
    have HV : Hid (VW W vb m a len cap h σ') := hV
    have HB : Hid (Bw (fun k => k = m) s w W) := hB
    have H0 : Hid (Boxed W s 114 (.pointer (some ⟨vb, 0, none⟩))) := h0
    have H1 : Hid (Boxed W (s + 1) 3 (.int .i64 (k : Int))) := h1
    have H2 : Hid (Boxed W (s + 2) 3 (.int .i64 0)) := h2
    have HAr : Hid (∀ W1, Below W.heap.size W W1 → Calls Try.prog 108 #[.pointer (some ⟨vb, 0, none⟩), .int .i64 (x.1 : Int)] W1 fun e w' => ∃ B σ', e = .returned (.func (.func 130) #[] #[.pointer (some ⟨B, 0, none⟩), .pointer (some ⟨B + 1, 0, none⟩)]) ∧ VW w' vb m a len cap h σ' ∧ w'.heap[B]? = some (.cells #[.slice a len cap] 54) ∧ w'.heap[B + 1]? = some (.cells #[.int .i64 (endA h len x.1 : Nat)] 3) ∧ W1.heap.size ≤ B ∧ W1.grownBy w' (some m)) := fun W1 hW1 => args_any HG'.out hlb hxl W1 (HV.out.below hW1)
    have HRo : Hid (∀ (W1 : World) (B : Nat) (σ1 : Int → Option Int), VW W1 vb m a len cap h σ1 → W1.heap[B]? = some (.cells #[.slice a len cap] 54) → W1.heap[B + 1]? = some (.cells #[.int .i64 (endA h len x.1 : Nat)] 3) → m < B → Calls Try.prog 78 #[.pointer (some ⟨vb, 0, none⟩), .int .i64 ((k - 1 : Nat) : Int), .func (.func 130) #[] #[.pointer (some ⟨B, 0, none⟩), .pointer (some ⟨B + 1, 0, none⟩)]] W1 fun e w' => e = .returned (.int .i64 (roomV ((k - 1 : Nat) : Int) (sumC h len (leads h (endA h len x.1))))) ∧ (∃ σ', VW w' vb m a len cap h σ') ∧ W1.grownBy w' (some m)) := fun W1 B σ1 hV1 hx0 hx1 hmB =>
      HIH.out (k - 1) (by omega) vb m a len cap h σ1 _ _ (leads h (endA h len x.1)) (B + 1) W1 HG'.out hlb hV1 (enters_of Try.func130 (by kernel_rfl) rfl) (Array.getElem?_eq_some_iff.1 hx1).1 (by omega) (fun q => leads_stops q (HG'.out.end_lt hxl) B (B + 1) W1 hV1.row HG'.out.ok (HG'.out.kind _ (HG'.out.end_lt hxl)) hlb hx0 hx1)
    have hsl := sum_leads HG'.out hxl
    have hfol : Try.prog.follows .mixedOrders = true := by kernel_rfl
    have HK0 : Hid (∀ W1, W.grownBy W1 (some m) → W1.cell? ⟨s, 0, none⟩ = some (.pointer (some ⟨vb, 0, none⟩)) ∧ W1.cell? ⟨s + 1, 0, none⟩ = some (.int .i64 (k : Int)) ∧ W1.frozen? ⟨s + 1, 0, none⟩ = false) := fun W1 hg => ⟨(H0.out.kept hg (by intro e; have := Option.some.inj e; omega)).cell, (H1.out.kept hg (by intro e; have := Option.some.inj e; omega)).cell, (H1.out.kept hg (by intro e; have := Option.some.inj e; omega)).frozen⟩
    generalize hrv : roomV ((k - 1 : Nat) : Int) (sumC h len (leads h (endA h len x.1))) = r at *
    have Hr : Hid ((n < sumC h len (vals (pre ++ [x])) ∧ r = -1) ∨ ∃ kk : Nat, r = (kk : Int) ∧ kk + sumC h len (vals (pre ++ [x])) = n) := by
      rw [Hid, vals_snoc, sumC_snoc]
      by_cases hle : cntA h len x.1 ≤ k
      · refine .inr ⟨k - cntA h len x.1, ?_, by omega⟩
        rw [← hrv]
        exact roomV_le (by omega)
      · refine .inl ⟨by omega, ?_⟩
        rw [← hrv]
        exact roomV_lt (by omega)
    clear hV hB h0 h1 h2 e hsl hrv
    gi_wp2
    have HX1 : Hid (∀ (w5 : World) (r : Int), W.grownBy w5 (some m) → (w5.setCell ⟨s + 1, 0, none⟩ (.int .i64 r)).cell? ⟨s, 0, none⟩ = some (.pointer (some ⟨vb, 0, none⟩)) ∧ (w5.setCell ⟨s + 1, 0, none⟩ (.int .i64 r)).cell? ⟨s + 1, 0, none⟩ = some (.int .i64 r) ∧ (w5.setCell ⟨s + 1, 0, none⟩ (.int .i64 r)).frozen? ⟨s + 1, 0, none⟩ = false) := fun w5 r hg => by
      have y0 := (H0.out.kept hg (by intro e; have := Option.some.inj e; omega)).other (B' := s + 1) (by omega) (.int .i64 r)
      have y1 := (H1.out.kept hg (by intro e; have := Option.some.inj e; omega)).set (.int .i64 r)
      exact ⟨y0.cell, y1.cell, y1.frozen⟩
    refine region_round (fun W1 => W1.cell? ⟨s, 0, none⟩ = some (.pointer (some ⟨vb, 0, none⟩)) ∧ ∃ v : Int, W1.cell? ⟨s + 1, 0, none⟩ = some (.int .i64 v) ∧ W1.frozen? ⟨s + 1, 0, none⟩ = false) hfol (by kernel_rfl) (by rintro ⟨_, _, h⟩; exact h) (⟨(HK0.out _ (G.below ((Below.refl _ W).drew))).1, _, (HK0.out _ (G.below ((Below.refl _ W).drew))).2.1, (HK0.out _ (G.below ((Below.refl _ W).drew))).2.2⟩) (fun hHeld => ?_)
    refine wpAnyH_take (i := 0) (v := .pointer (some ⟨vb, 0, none⟩)) rfl (by kernel_rfl) (by kernel_rfl) (by kernel_rfl) (fun _ _ _ h => h) (Or.inl ⟨by rfl, fun W1 hS1 => by obtain ⟨e0, v1, e1, e2⟩ := hS1; go_simp⟩) hHeld ?_
    try simp only [Act.put, List.setIfInBounds_toArray, List.set_cons_zero, List.set_cons_succ]
    refine wpAnyH_take (i := 3) (v := .pointer (some ⟨vb, 0, none⟩)) rfl (by kernel_rfl) (by kernel_rfl) (by kernel_rfl) (fun _ _ _ h => h) (Or.inl ⟨by rfl, fun W1 hS1 => by obtain ⟨e0, v1, e1, e2⟩ := hS1; go_simp⟩) hHeld ?_
    try simp only [Act.put, List.setIfInBounds_toArray, List.set_cons_zero, List.set_cons_succ]
    refine wpAnyH_take (i := 4) (v := .int .i64 (x.1 : Int)) rfl (by kernel_rfl) (by kernel_rfl) (by kernel_rfl) (fun _ _ _ h => h) (Or.inl ⟨by rfl, fun W1 hS1 => by obtain ⟨e0, v1, e1, e2⟩ := hS1; go_simp⟩) hHeld ?_
    try simp only [Act.put, List.setIfInBounds_toArray, List.set_cons_zero, List.set_cons_succ]
    refine wpAnyH_ready (rs := [1, 5]) (by kernel_rfl) (by simp) ?_
    refine AllReadyH.cons rfl (fun K hK => ?_) (AllReadyH.cons rfl (fun K hK => ?_) AllReadyH.nil)
    · go_simp
      refine hK.out _ _ hHeld (fun hHeld => ?_)
      clear hK K
      try simp only [Act.put, List.setIfInBounds_toArray, List.set_cons_zero, List.set_cons_succ]
      refine wpAnyH_take (i := 2) (v := .int .i64 ((k - 1 : Nat) : Int)) rfl (by kernel_rfl) (by kernel_rfl) (by kernel_rfl) (fun _ _ _ h => h) (Or.inl ⟨by rfl, fun W1 hS1 => by obtain ⟨e0, v1, e1, e2⟩ := hS1; go_simp⟩) hHeld ?_
      try simp only [Act.put, List.setIfInBounds_toArray, List.set_cons_zero, List.set_cons_succ]
      refine wpAnyH_ready (rs := [5]) (by kernel_rfl) (by simp) ?_
      refine AllReadyH.cons rfl (fun K hK => ?_) AllReadyH.nil
      go_simp
      refine (HAr.out _ (by repeat (first | exact Below.refl _ _ | refine Below.drew ?_))).mono ?_
      rintro e w4 ⟨B, σ4, rfl, hV4, hx0, hx1, hB4, hg4⟩
      have HV4 : Hid (VW w4 vb m a len cap h σ4 ∧ w4.heap[B]? = some (.cells #[.slice a len cap] 54) ∧ w4.heap[B + 1]? = some (.cells #[.int .i64 (endA h len x.1 : Nat)] 3) ∧ m < B) := ⟨hV4, hx0, hx1, by have : W.heap.size ≤ B := hB4; omega⟩
      have HG4 : Hid (W.grownBy w4 (some m)) := G.trans (G.below (by repeat (first | exact Below.refl _ _ | refine Below.drew ?_))) hg4
      clear hV4 hx0 hx1 hB4 hg4
      refine hK.out _ _ ⟨(HK0.out _ HG4.out).1, _, (HK0.out _ HG4.out).2.1, (HK0.out _ HG4.out).2.2⟩ (fun hHeld => ?_)
      clear hK K
      try simp only [Act.put, List.setIfInBounds_toArray, List.set_cons_zero, List.set_cons_succ]
      refine wpAnyH_ready (rs := [6]) (by kernel_rfl) (by simp) ?_
      refine AllReadyH.cons rfl (fun K hK => ?_) AllReadyH.nil
      go_simp
      refine (HRo.out _ B σ4 HV4.out.1 HV4.out.2.1 HV4.out.2.2.1 HV4.out.2.2.2).mono ?_
      rintro e w5 ⟨rfl, ⟨σ5, hV5⟩, hg5⟩
      have HV5 : Hid (VW w5 vb m a len cap h σ5) := hV5
      have HG5 : Hid (W.grownBy w5 (some m)) := HG4.out.trans hg5
      clear hV5 hg5
      refine hK.out _ _ ⟨(HK0.out _ HG5.out).1, _, (HK0.out _ HG5.out).2.1, (HK0.out _ HG5.out).2.2⟩ (fun hHeld => ?_)
      clear hK K
      try simp only [Act.put, List.setIfInBounds_toArray, List.set_cons_zero, List.set_cons_succ]
      refine wpAnyH_ready (rs := [7]) (by kernel_rfl) (by simp) ?_
      refine AllReadyH.cons rfl (fun K hK => ?_) AllReadyH.nil
      obtain ⟨c50, c51, c52⟩ := HK0.out _ HG5.out
      go_simp
      refine hK.out _ _ ⟨(HX1.out _ _ HG5.out).1, r, (HX1.out _ _ HG5.out).2.1, (HX1.out _ _ HG5.out).2.2⟩ (fun hHeld => ?_)
      clear hK K hHeld
      try simp only [Act.put, List.setIfInBounds_toArray, List.set_cons_zero, List.set_cons_succ]
      refine wpAnyH_done (by kernel_rfl) ?_ _
      have HC5 : Hid (Bw (fun k => k = m) s w (w5.setCell ⟨s + 1, 0, none⟩ (.int .i64 r))) := (HB.out.grown HG5.out (by omega) (fun q e => .inr (Option.some.inj e).symm)).grown (grown_set (W := w5) (s + 1) 0 _) (by have := HG5.out.size; omega) (fun q e => .inl (by cases e; omega))
      have HV6 : Hid (VW (w5.setCell ⟨s + 1, 0, none⟩ (.int .i64 r)) vb m a len cap h σ5) := HV0.out.low HV5.out fun q hq => (grown_set (W := w5) (s + 1) 0 _).block q (by have := HG5.out.size; omega) (fun e => by have := Option.some.inj e; omega)
      have HY0 : Hid (Boxed (w5.setCell ⟨s + 1, 0, none⟩ (.int .i64 r)) s 114 (.pointer (some ⟨vb, 0, none⟩))) := (H0.out.kept HG5.out (by intro e; have := Option.some.inj e; omega)).other (by omega) _
      have HY1 : Hid (Boxed (w5.setCell ⟨s + 1, 0, none⟩ (.int .i64 r)) (s + 1) 3 (.int .i64 r)) := (H1.out.kept HG5.out (by intro e; have := Option.some.inj e; omega)).set _
      have HY2 : Hid (Boxed (w5.setCell ⟨s + 1, 0, none⟩ (.int .i64 r)) (s + 2) 3 (.int .i64 0)) := (H2.out.kept HG5.out (by intro e; have := Option.some.inj e; omega)).other (by omega) _
      have HKp : Hid (KeepsFrom W0.heap.size W (w5.setCell ⟨s + 1, 0, none⟩ (.int .i64 r))) := (KeepsFrom.of_grownBy HG5.out (fun j e => by cases e; omega)).trans ((KeepsOthers.setCell _ _ _).from _)
      have HKb : Hid (Kb b W (w5.setCell ⟨s + 1, 0, none⟩ (.int .i64 r))) := ⟨by have := HG5.out.size; simp; omega, ((grown_set (W := w5) (s + 1) 0 _).block b (by have := HG5.out.size; omega) (fun e => by have := Option.some.inj e; omega)).trans (HG5.out.block b (by omega) (fun e => hbm (Option.some.inj e)))⟩
      have hz6 : s + 3 ≤ (w5.setCell ⟨s + 1, 0, none⟩ (.int .i64 r)).heap.size := by have := HG5.out.size; simp; omega
      clear HV4 HG4 HV5 HG5 c50 c51 c52
      generalize w5.setCell ⟨s + 1, 0, none⟩ (.int .i64 r) = W6 at *
      have y1 := HY1.out.cell
      have y2 := HY2.out.cell
      have g2 := HY2.out.frozen
      rcases Hr.out with ⟨hlt, hre⟩ | ⟨kk, hre, hkk⟩
      · subst hre
        have HX : Hid (RmX w vb m a len cap h n s .ret (pre ++ [x]) (W6.setCell ⟨s + 2, 0, none⟩ (.int .i64 (-1)))) := ⟨rfl, hlt, HY2.out.set _, ⟨σ5, HV0.out.low HV6.out fun q hq => (grown_set (W := W6) (s + 2) 0 _).block q (by omega) (fun e => by have := Option.some.inj e; omega)⟩, HC5.out.grown (grown_set (W := W6) (s + 2) 0 _) (by omega) (fun q e => .inl (by cases e; omega)), by simp; omega⟩
        have HKq : Hid (KeepsFrom W0.heap.size W (W6.setCell ⟨s + 2, 0, none⟩ (.int .i64 (-1)))) := HKp.out.trans ((KeepsOthers.setCell _ _ _).from _)
        gi_wp2
        exact ⟨by rw [← hs0]; exact HKq.out, HX.out⟩
      · subst hre
        have hnn : ¬ ((kk : Int) < 0) := by omega
        have HIn : Hid (RmI w vb m a len cap h n s (pre ++ [x]) W6) := ⟨kk, σ5, hkk, HY0.out, HY1.out, HY2.out, HV6.out, HC5.out, hz6⟩
        gi_wp2
        exact ⟨by rw [← hs0]; exact HKp.out, HKb.out, HIn.out⟩
    · go_simp
      refine (HAr.out _ (by repeat (first | exact Below.refl _ _ | refine Below.drew ?_))).mono ?_
      rintro e w4 ⟨B, σ4, rfl, hV4, hx0, hx1, hB4, hg4⟩
      have HV4 : Hid (VW w4 vb m a len cap h σ4 ∧ w4.heap[B]? = some (.cells #[.slice a len cap] 54) ∧ w4.heap[B + 1]? = some (.cells #[.int .i64 (endA h len x.1 : Nat)] 3) ∧ m < B) := ⟨hV4, hx0, hx1, by have : W.heap.size ≤ B := hB4; omega⟩
      have HG4 : Hid (W.grownBy w4 (some m)) := G.trans (G.below (by repeat (first | exact Below.refl _ _ | refine Below.drew ?_))) hg4
      clear hV4 hx0 hx1 hB4 hg4
      refine hK.out _ _ ⟨(HK0.out _ HG4.out).1, _, (HK0.out _ HG4.out).2.1, (HK0.out _ HG4.out).2.2⟩ (fun hHeld => ?_)
      clear hK K
      try simp only [Act.put, List.setIfInBounds_toArray, List.set_cons_zero, List.set_cons_succ]
      refine wpAnyH_ready (rs := [1]) (by kernel_rfl) (by simp) ?_
      refine AllReadyH.cons rfl (fun K hK => ?_) AllReadyH.nil
      obtain ⟨c40, c41, c42⟩ := HK0.out _ HG4.out
      go_simp
      refine hK.out _ _ hHeld (fun hHeld => ?_)
      clear hK K
      try simp only [Act.put, List.setIfInBounds_toArray, List.set_cons_zero, List.set_cons_succ]
      refine wpAnyH_take (i := 2) (v := .int .i64 ((k - 1 : Nat) : Int)) rfl (by kernel_rfl) (by kernel_rfl) (by kernel_rfl) (fun _ _ _ h => h) (Or.inl ⟨by rfl, fun W1 hS1 => by obtain ⟨e0, v1, e1, e2⟩ := hS1; go_simp⟩) hHeld ?_
      try simp only [Act.put, List.setIfInBounds_toArray, List.set_cons_zero, List.set_cons_succ]
      refine wpAnyH_ready (rs := [6]) (by kernel_rfl) (by simp) ?_
      refine AllReadyH.cons rfl (fun K hK => ?_) AllReadyH.nil
      go_simp
      refine (HRo.out _ B σ4 HV4.out.1 HV4.out.2.1 HV4.out.2.2.1 HV4.out.2.2.2).mono ?_
      rintro e w5 ⟨rfl, ⟨σ5, hV5⟩, hg5⟩
      have HV5 : Hid (VW w5 vb m a len cap h σ5) := hV5
      have HG5 : Hid (W.grownBy w5 (some m)) := HG4.out.trans hg5
      clear hV5 hg5
      refine hK.out _ _ ⟨(HK0.out _ HG5.out).1, _, (HK0.out _ HG5.out).2.1, (HK0.out _ HG5.out).2.2⟩ (fun hHeld => ?_)
      clear hK K
      try simp only [Act.put, List.setIfInBounds_toArray, List.set_cons_zero, List.set_cons_succ]
      refine wpAnyH_ready (rs := [7]) (by kernel_rfl) (by simp) ?_
      refine AllReadyH.cons rfl (fun K hK => ?_) AllReadyH.nil
      obtain ⟨c50, c51, c52⟩ := HK0.out _ HG5.out
      go_simp
      refine hK.out _ _ ⟨(HX1.out _ _ HG5.out).1, r, (HX1.out _ _ HG5.out).2.1, (HX1.out _ _ HG5.out).2.2⟩ (fun hHeld => ?_)
      clear hK K hHeld
      try simp only [Act.put, List.setIfInBounds_toArray, List.set_cons_zero, List.set_cons_succ]
      refine wpAnyH_done (by kernel_rfl) ?_ _
      have HC5 : Hid (Bw (fun k => k = m) s w (w5.setCell ⟨s + 1, 0, none⟩ (.int .i64 r))) := (HB.out.grown HG5.out (by omega) (fun q e => .inr (Option.some.inj e).symm)).grown (grown_set (W := w5) (s + 1) 0 _) (by have := HG5.out.size; omega) (fun q e => .inl (by cases e; omega))
      have HV6 : Hid (VW (w5.setCell ⟨s + 1, 0, none⟩ (.int .i64 r)) vb m a len cap h σ5) := HV0.out.low HV5.out fun q hq => (grown_set (W := w5) (s + 1) 0 _).block q (by have := HG5.out.size; omega) (fun e => by have := Option.some.inj e; omega)
      have HY0 : Hid (Boxed (w5.setCell ⟨s + 1, 0, none⟩ (.int .i64 r)) s 114 (.pointer (some ⟨vb, 0, none⟩))) := (H0.out.kept HG5.out (by intro e; have := Option.some.inj e; omega)).other (by omega) _
      have HY1 : Hid (Boxed (w5.setCell ⟨s + 1, 0, none⟩ (.int .i64 r)) (s + 1) 3 (.int .i64 r)) := (H1.out.kept HG5.out (by intro e; have := Option.some.inj e; omega)).set _
      have HY2 : Hid (Boxed (w5.setCell ⟨s + 1, 0, none⟩ (.int .i64 r)) (s + 2) 3 (.int .i64 0)) := (H2.out.kept HG5.out (by intro e; have := Option.some.inj e; omega)).other (by omega) _
      have HKp : Hid (KeepsFrom W0.heap.size W (w5.setCell ⟨s + 1, 0, none⟩ (.int .i64 r))) := (KeepsFrom.of_grownBy HG5.out (fun j e => by cases e; omega)).trans ((KeepsOthers.setCell _ _ _).from _)
      have HKb : Hid (Kb b W (w5.setCell ⟨s + 1, 0, none⟩ (.int .i64 r))) := ⟨by have := HG5.out.size; simp; omega, ((grown_set (W := w5) (s + 1) 0 _).block b (by have := HG5.out.size; omega) (fun e => by have := Option.some.inj e; omega)).trans (HG5.out.block b (by omega) (fun e => hbm (Option.some.inj e)))⟩
      have hz6 : s + 3 ≤ (w5.setCell ⟨s + 1, 0, none⟩ (.int .i64 r)).heap.size := by have := HG5.out.size; simp; omega
      clear HV4 HG4 HV5 HG5 c50 c51 c52
      generalize w5.setCell ⟨s + 1, 0, none⟩ (.int .i64 r) = W6 at *
      have y1 := HY1.out.cell
      have y2 := HY2.out.cell
      have g2 := HY2.out.frozen
      rcases Hr.out with ⟨hlt, hre⟩ | ⟨kk, hre, hkk⟩
      · subst hre
        have HX : Hid (RmX w vb m a len cap h n s .ret (pre ++ [x]) (W6.setCell ⟨s + 2, 0, none⟩ (.int .i64 (-1)))) := ⟨rfl, hlt, HY2.out.set _, ⟨σ5, HV0.out.low HV6.out fun q hq => (grown_set (W := W6) (s + 2) 0 _).block q (by omega) (fun e => by have := Option.some.inj e; omega)⟩, HC5.out.grown (grown_set (W := W6) (s + 2) 0 _) (by omega) (fun q e => .inl (by cases e; omega)), by simp; omega⟩
        have HKq : Hid (KeepsFrom W0.heap.size W (W6.setCell ⟨s + 2, 0, none⟩ (.int .i64 (-1)))) := HKp.out.trans ((KeepsOthers.setCell _ _ _).from _)
        gi_wp2
        exact ⟨by rw [← hs0]; exact HKq.out, HX.out⟩
      · subst hre
        have hnn : ¬ ((kk : Int) < 0) := by omega
        have HIn : Hid (RmI w vb m a len cap h n s (pre ++ [x]) W6) := ⟨kk, σ5, hkk, HY0.out, HY1.out, HY2.out, HV6.out, HC5.out, hz6⟩
        gi_wp2
        exact ⟨by rw [← hs0]; exact HKp.out, HKb.out, HIn.out⟩
theorem vroom_all : ∀ n, n ≤ 200 → RmC n := by
  intro n
  induction n using Nat.strongRecOn with
  | _ n ih => intro hn; exact vroom_step n hn fun k hk => ih k hk (by omega)
end Go.Proofs.Ytmggaclaoefdaaa
