/- CheckSolve, resultIs; both searches are one; the law SolveSolves. -/
import Derived.Test.YtmggaclaoefdaaaSrE
import Derived.Test.YtmggaclaoefdaaaSvX
import Derived.Test.YtmggaclaoefdaaaGB
namespace Go.Proofs.Ytmggaclaoefdaaa
open Go.RowKit

set_option maxRecDepth 100000 in
set_option maxHeartbeats 4000000 in
theorem checkSolve_any (P : Pg) (Q : Tm) (steps : Int) (w : World) (hP : PIn w P) (hQ : TIn w Q) :
    Calls Try.prog 28 #[.slice P.a P.len P.cap, .slice Q.a Q.len Q.cap, .int .i64 steps] w fun e w' => e = .returned (.int .i64 (solveE P Q steps)) ∧ Below w.heap.size w w' := by
  have HK1 : Hid (Calls Try.prog 19 #[.slice P.a P.len P.cap] w fun e w' => e = .returned (.int .i64 (progV P)) ∧ Below w.heap.size w w') := checkProgram_any P w hP
  have HK2 : Hid (∀ W, Below w.heap.size w W → Calls Try.prog 13 #[.slice Q.a Q.len Q.cap] W fun e w' => e = .returned (.int .i64 (queryV Q)) ∧ Below W.heap.size W w') := fun W hW => checkQuery_any Q W (hQ.below hW)
  clear hP hQ
  go_enter Try.func28, Try.ntmps28
  go_wp2_with fail
  refine HK1.out.mono ?_
  rintro e w1 ⟨rfl, hb1⟩
  have HB1 : Hid (Below w.heap.size w w1) := hb1
  clear hb1 HK1
  by_cases hp : progV P = 0
  case neg =>
    have hpb : (progV P == 0) = false := beq_eq_false_iff_ne.2 hp
    have HE : Hid (solveE P Q steps = progV P) := by rw [Hid]; unfold solveE; rw [if_pos hp]
    clear hp
    go_wp2_with fail
    go_ret
    exact ⟨by rw [HE.out]; rfl, HB1.out⟩
  have HPr : Hid (progV P = 0) := hp
  rw [hp]
  clear hp
  go_wp2_with fail
  refine (HK2.out w1 HB1.out).mono ?_
  rintro e w2 ⟨rfl, hb2⟩
  have HB2 : Hid (Below w.heap.size w w2) := HB1.out.trans (hb2.mono HB1.out.size)
  clear hb2
  by_cases hq : queryV Q = 0
  case neg =>
    have hqb : (queryV Q == 0) = false := beq_eq_false_iff_ne.2 hq
    have HE : Hid (solveE P Q steps = queryV Q) := by rw [Hid]; unfold solveE; rw [if_neg (by simpa using HPr.out), if_pos hq]
    clear hq
    go_wp2_with fail
    go_ret
    exact ⟨by rw [HE.out]; rfl, HB2.out⟩
  have HQ0 : Hid (queryV Q = 0) := hq
  rw [hq]
  clear hq
  have HBt : Hid (Calls Try.prog 56 #[.int .i64 steps, .int .i64 0, .int .i64 400] w2 fun e w' => e = .returned (.bool (btw steps 0 400)) ∧ w' = w2) := between_any steps 0 400 w2
  go_wp2_with fail
  refine HBt.out.mono ?_
  rintro e w3 ⟨rfl, h3⟩
  rw [h3]
  clear h3 HBt
  by_cases hs : 0 ≤ steps ∧ steps ≤ 400
  · have HE : Hid (solveE P Q steps = 0) := by rw [Hid]; unfold solveE; rw [if_neg (by simpa using HPr.out), if_neg (by simpa using HQ0.out), if_neg (by omega)]
    rw [show btw steps 0 400 = true from by unfold btw; simp; omega]
    clear hs
    go_wp2_with fail
    go_ret
    exact ⟨by rw [HE.out]; rfl, HB2.out⟩
  · have HE : Hid (solveE P Q steps = 3) := by rw [Hid]; unfold solveE; rw [if_neg (by simpa using HPr.out), if_neg (by simpa using HQ0.out), if_pos (by omega)]
    rw [show btw steps 0 400 = false from by unfold btw; simp; omega]
    clear hs
    go_wp2_with fail
    go_ret
    exact ⟨by rw [HE.out]; rfl, HB2.out⟩
/-- Terms by what their variables are. -/
theorem gr_kid {T : Tm} {i : Nat} (hi : i < T.len) : gr (T.f i) ≤ gr T := by
  rw [gr_eq T]
  have key : ∀ (g : Nat → Int) (k i : Nat), i < k → g i ≤ grTo g k := by
    intro g k
    induction k with
    | zero => intro i h; omega
    | succ k ih =>
      intro i h
      rw [grTo]
      by_cases e : i = k
      · rw [e]; exact Int.le_max_right _ _
      · exact Int.le_trans (ih i (by omega)) (Int.le_max_left _ _)
  exact Int.le_trans (key (fun i => gr (T.f i)) T.len i hi) (Int.le_max_right _ _)
theorem ovu_gr {a : Nat} {N : Int} {U : Int → Prop} (hU : ∀ v : Int, 1 ≤ v → v ≤ a → U v) {T : Tm} (h : Okv N T) (hg : gr T ≤ a) : OvU U T := by
  induction T with
  | nil => exact h.elim
  | mk v nm ad len cap f ih =>
    refine ⟨fun hv => ⟨hU v (by have := h.1; omega) ?_, h.2.2.1 hv⟩, fun i hi => ih i (h.2.2.2.2 i hi) (Int.le_trans (gr_kid (T := .mk v nm ad len cap f) hi) hg)⟩
    have h1 : v ≤ gr (.mk v nm ad len cap f) := by rw [gr_eq]; exact Int.le_max_left _ _
    exact Int.le_trans h1 hg
theorem ovu_can {U : Int → Prop} {T : Tm} (h : OvU U T) : OvU U (can T) := by
  induction T with
  | nil => exact h.elim
  | mk v nm ad len cap f ih =>
    refine ⟨h.1, fun i hi => ?_⟩
    show OvU U (if i < len then can (f i) else .nil)
    have hi' : i < len := hi
    rw [if_pos hi']; exact ih i (h.2 i hi')
theorem ren_one {U : Int → Prop} {T : Tm} (h : OvU U T) : ren (fun v => v) T = can T := by
  induction T with
  | nil => exact h.elim
  | mk v nm ad len cap f ih =>
    by_cases hv : v = 0
    · rw [ren_fn _ (T := .mk v nm ad len cap f) hv]
      show Tm.mk 0 nm none len 0 (fun i => if i < len then ren (fun v => v) (f i) else .nil) = Tm.mk v nm none len 0 (fun i => if i < len then can (f i) else .nil)
      rw [hv]
      congr 1
      funext i
      by_cases hi : i < len
      · rw [if_pos hi, if_pos hi, ih i (h.2 i hi)]
      · rw [if_neg hi, if_neg hi]
    · rw [ren_var _ (T := .mk v nm ad len cap f) hv]
      obtain ⟨_, h2, h3⟩ := h.1 hv
      show vT v = can (.mk v nm ad len cap f)
      rw [can_eq]
      show Tm.mk v ⟨#[]⟩ none 0 0 _ = Tm.mk v nm none len 0 _
      rw [h2]
      subst h3
      congr 1
theorem okv_u12 {T : Tm} (h : Okv 12 T) : OvU U12 T := ovu_gr (a := 12) (fun v h1 h2 => ⟨h1, h2⟩) h (gr_le (by decide) T h)
theorem prg_pu {w : World} {P : Pg} (h : Prg w P) : PU (cls P) := by
  intro j hj
  rw [cls_len] at hj
  rw [cls_get P hj]
  refine ⟨ovu_can (okv_u12 (h.hd j hj)), fun b hb => ?_⟩
  obtain ⟨t, ht, rfl⟩ := List.mem_map.1 hb
  obtain ⟨i, hi, rfl⟩ := List.mem_map.1 ht
  exact ovu_can (okv_u12 ((h.bd j hj).2 i (List.mem_range.1 hi)))
/-- Both searches are one. -/
theorem sol_sim {w : World} {P : Pg} {Q : Tm} {limit : Nat} (hPr : Prg w P) (hq : queryV Q = 0) : (runQ (cls P) (varsV Q).toNat limit 442 (absQ (rr0 P (varsV Q) (.slice none 0 0)) 12 σ0 (goalsQ Q Q.len) [] [])).ans = (solP P Q limit).ans ∧ (runQ (cls P) (varsV Q).toNat limit 442 (absQ (rr0 P (varsV Q) (.slice none 0 0)) 12 σ0 (goalsQ Q Q.len) [] [])).fin = (solP P Q limit).fin ∧ (runQ (cls P) (varsV Q).toNat limit 442 (absQ (rr0 P (varsV Q) (.slice none 0 0)) 12 σ0 (goalsQ Q Q.len) [] [])).st = (solP P Q limit).st := by
  obtain ⟨a, ha, ha12⟩ := vars_12 hq
  have hta : (varsV Q).toNat = a := by rw [ha]; rfl
  have hgr : grs Q = (a : Int) := by rw [varsV, if_pos hq] at ha; exact ha
  have hov : ∀ i, i < Q.len → OvU (Ua a 12) (Q.f i) := fun i hi => ovu_gr (fun v h1 h2 => .inl ⟨h1, h2⟩) ((query_okv hq).2 i hi) (by
    rw [← hgr]
    have key : ∀ (g : Nat → Int) (k i : Nat), i < k → g i ≤ grTo g k := by
      intro g k
      induction k with
      | zero => intro i h; omega
      | succ k ih =>
        intro i h
        rw [grTo]
        by_cases e : i = k
        · rw [e]; exact Int.le_max_right _ _
        · exact Int.le_trans (ih i (by omega)) (Int.le_max_left _ _)
    exact key (fun i => gr (Q.f i)) Q.len i hi)
  have hgl : cgl (goalsQ Q Q.len) = (kidsL Q).map fun t => (can t, 0) := by
    unfold cgl goalsQ
    rw [List.take_of_length_le (by rw [kidsL_len]; exact Nat.le_refl _), List.map_map]
    rfl
  have hsim : SimR a (absQ (rr0 P (a : Int) (.slice none 0 0)) 12 σ0 (goalsQ Q Q.len) [] []) (ps0 Q a) := by
    refine ⟨rfl, rfl, rfl, Int.le_refl _, .nil, fun _ => ⟨Int.le_refl _, fun v => v, ⟨fun v hv => ?_, fun v w _ _ h => h⟩, fun v hv => ?_, fun _ _ _ => rfl, ⟨fun v _ => rfl, fun _ _ => rfl, fun _ _ => rfl, fun v T h => by simp [absQ, cs, σ0] at h⟩, fun g hg => ?_, ?_⟩⟩
    · rcases hv with h | h
      · exact ⟨by omega, by omega⟩
      · have : v ≤ 12 := h.2
        omega
    · rcases hv with h | h
      · exact h.2
      · have : v ≤ 12 := h.2
        omega
    · have hg : g ∈ cgl (goalsQ Q Q.len) := hg
      rw [hgl] at hg
      obtain ⟨t, ht, rfl⟩ := List.mem_map.1 hg
      obtain ⟨i, hi, rfl⟩ := List.mem_map.1 ht
      exact ovu_can (hov i (List.mem_range.1 hi))
    · show ((kidsL Q).map fun t => (can t, 0)) = (cgl (goalsQ Q Q.len)).map (renG fun v => v)
      rw [hgl, List.map_map]
      refine List.map_congr_left fun t ht => ?_
      obtain ⟨i, hi, rfl⟩ := List.mem_map.1 ht
      show (can (Q.f i), 0) = (ren (fun v => v) (can (Q.f i)), 0)
      rw [ren_can, ren_one (hov i (List.mem_range.1 hi))]
  have h := run_sim (prg_pu hPr) ha12 limit 442 _ _ hsim
  unfold solP
  rw [hta, ha]
  exact ⟨h.ans, h.fin, h.st⟩
set_option maxRecDepth 100000 in
set_option maxHeartbeats 4000000 in
theorem resultIs_err (sa : Option Addr) (na ca : Nat) (f1 s1 e1 : Int) (sb : Option Addr) (nb cb : Nat) (f2 s2 e2 : Int) (w : World) (he : e1 = e2) (h0 : e2 ≠ 0) (h1 : na = 0 ∧ f1 = 0 ∧ s1 = 0) :
    Calls Try.prog 31 #[.agg #[.slice sa na ca, .int .i64 f1, .int .i64 s1], .int .i64 e1, .int .i64 e2, .agg #[.slice sb nb cb, .int .i64 f2, .int .i64 s2]] w fun e w' => e = .returned (.bool true) ∧ Below w.heap.size w w' := by
  obtain ⟨rfl, rfl, rfl⟩ := h1
  subst he
  have hb : (e1 != 0) = true := bne_iff_ne.2 h0
  have HBx : Hid (Below w.heap.size w ((w.alloc (.cells #[.slice sa 0 ca, .int .i64 0, .int .i64 0] 44)).alloc (.cells #[.slice none 0 0, .int .i64 0, .int .i64 0] 44))) := below_alloc (below_alloc (Below.refl _ _) _) _
  have HSR : Hid (Calls Try.prog 32 #[.agg #[.slice sa 0 ca, .int .i64 0, .int .i64 0], .agg #[.slice none 0 0, .int .i64 0, .int .i64 0]] ((w.alloc (.cells #[.slice sa 0 ca, .int .i64 0, .int .i64 0] 44)).alloc (.cells #[.slice none 0 0, .int .i64 0, .int .i64 0] 44)) fun e w' => e = .returned (.bool true) ∧ Below ((w.alloc (.cells #[.slice sa 0 ca, .int .i64 0, .int .i64 0] 44)).alloc (.cells #[.slice none 0 0, .int .i64 0, .int .i64 0] 44)).heap.size ((w.alloc (.cells #[.slice sa 0 ca, .int .i64 0, .int .i64 0] 44)).alloc (.cells #[.slice none 0 0, .int .i64 0, .int .i64 0] 44)) w') := by
    have := sameRes_any (sa := sa) (sb := none) (ca := ca) (cb := 0) [] [] 0 0 0 0 ((w.alloc (.cells #[.slice sa 0 ca, .int .i64 0, .int .i64 0] 44)).alloc (.cells #[.slice none 0 0, .int .i64 0, .int .i64 0] 44)) (fun k hk => absurd hk (Nat.not_lt_zero k)) (fun k hk => absurd hk (Nat.not_lt_zero k)) (by simp)
    rw [sameAs_ans (l := []) (m := []) rfl] at this
    simp only [beq_self_eq_true, Bool.true_and] at this
    exact this
  clear h0
  go_enter Try.func31, Try.ntmps31
  go_wp2_with fail
  refine HSR.out.mono ?_
  rintro e w6 ⟨rfl, hb6⟩
  have HB6 : Hid (Below w.heap.size w w6) := HBx.out.trans (hb6.mono HBx.out.size)
  clear hb6
  go_wp2_with fail
  go_ret
  exact ⟨rfl, HB6.out⟩
set_option maxRecDepth 100000 in
set_option maxHeartbeats 4000000 in
theorem resultIs_ok {sa sb : Option Addr} {ca cb : Nat} (an1 an2 : List Tm) (f t : Int) (w : World) (hA1 : AR w sa an1) (hA2 : AR w sb an2) (h40 : an1.length ≤ 40) (h : an1.map ansC = an2.map ansC) :
    Calls Try.prog 31 #[.agg #[.slice sa an1.length ca, .int .i64 f, .int .i64 t], .int .i64 0, .int .i64 0, .agg #[.slice sb an2.length cb, .int .i64 f, .int .i64 t]] w fun e w' => e = .returned (.bool true) ∧ Below w.heap.size w w' := by
  have HBx : Hid (Below w.heap.size w ((w.alloc (.cells #[.slice sa an1.length ca, .int .i64 f, .int .i64 t] 44)).alloc (.cells #[.slice sb an2.length cb, .int .i64 f, .int .i64 t] 44))) := below_alloc (below_alloc (Below.refl _ _) _) _
  have HSR : Hid (Calls Try.prog 32 #[.agg #[.slice sa an1.length ca, .int .i64 f, .int .i64 t], .agg #[.slice sb an2.length cb, .int .i64 f, .int .i64 t]] ((w.alloc (.cells #[.slice sa an1.length ca, .int .i64 f, .int .i64 t] 44)).alloc (.cells #[.slice sb an2.length cb, .int .i64 f, .int .i64 t] 44)) fun e w' => e = .returned (.bool true) ∧ Below ((w.alloc (.cells #[.slice sa an1.length ca, .int .i64 f, .int .i64 t] 44)).alloc (.cells #[.slice sb an2.length cb, .int .i64 f, .int .i64 t] 44)).heap.size ((w.alloc (.cells #[.slice sa an1.length ca, .int .i64 f, .int .i64 t] 44)).alloc (.cells #[.slice sb an2.length cb, .int .i64 f, .int .i64 t] 44)) w') := by
    have := sameRes_any (sa := sa) (sb := sb) (ca := ca) (cb := cb) an1 an2 f t f t ((w.alloc (.cells #[.slice sa an1.length ca, .int .i64 f, .int .i64 t] 44)).alloc (.cells #[.slice sb an2.length cb, .int .i64 f, .int .i64 t] 44)) (hA1.below (HBx.out.mono (Nat.le_refl _))) (hA2.below HBx.out) (by omega)
    rw [sameAs_ans h] at this
    simp only [beq_self_eq_true, Bool.true_and] at this
    exact this
  clear hA1 hA2 h
  go_enter Try.func31, Try.ntmps31
  go_wp2_with fail
  refine HSR.out.mono ?_
  rintro e w6 ⟨rfl, hb6⟩
  have HB6 : Hid (Below w.heap.size w w6) := HBx.out.trans (hb6.mono HBx.out.size)
  clear hb6
  go_wp2_with fail
  go_ret
  exact ⟨rfl, HB6.out⟩
set_option maxRecDepth 100000 in
set_option maxHeartbeats 8000000 in
theorem law_solves (P : Pg) (Q : Tm) (steps : Int) (w : World) (hP : PIn w P) (hc : P.len ≤ P.cap) (hQ : TIn w Q) :
    Calls Try.prog 6 #[.slice P.a P.len P.cap, .slice Q.a Q.len Q.cap, .int .i64 steps] w fun e w' => e = .returned (.bool true) ∧ Below w.heap.size w w' := by
  have HSo : Hid (∀ W, Below w.heap.size w W → Calls Try.prog 27 #[.slice P.a P.len P.cap, .slice Q.a Q.len Q.cap, .int .i64 steps] W (VRes P Q steps W)) := fun W hW => solve_any P Q steps W (hP.below hW) hc (hQ.below hW)
  have HCh : Hid (∀ W, Below w.heap.size w W → Calls Try.prog 28 #[.slice P.a P.len P.cap, .slice Q.a Q.len Q.cap, .int .i64 steps] W fun e w' => e = .returned (.int .i64 (solveE P Q steps)) ∧ Below W.heap.size W w') := fun W hW => checkSolve_any P Q steps W (hP.below hW) (hQ.below hW)
  have HOf : Hid (solveE P Q steps = 0 → ∀ W, Below w.heap.size w W → Calls Try.prog 29 #[.slice P.a P.len P.cap, .slice Q.a Q.len Q.cap, .int .i64 steps] W fun e w' => Below W.heap.size W w' ∧ ∃ (sa : Option Addr) (ca : Nat) (an : List Tm) (fin st : Int), e = .returned (.agg #[.slice sa an.length ca, .int .i64 fin, .int .i64 st]) ∧ (AR w' sa an ∧ ∀ b o, sa = some ⟨b, o, none⟩ → W.heap.size < b) ∧ an.length ≤ 40 ∧ 0 < fin ∧ 0 ≤ st ∧ (solP P Q steps.toNat).ans = an.map ansC ∧ (solP P Q steps.toNat).fin = fin.toNat ∧ (solP P Q steps.toNat).st = st.toNat) := fun h0 W hW => by
    have hp : progV P = 0 := by
      by_cases hp : progV P = 0
      · exact hp
      · unfold solveE at h0; rw [if_pos hp] at h0; exact absurd h0 hp
    have hq : queryV Q = 0 := by
      by_cases hq : queryV Q = 0
      · exact hq
      · unfold solveE at h0; rw [if_neg (by simpa using hp), if_pos hq] at h0; exact absurd h0 hq
    have hs : ¬ (steps < 0 ∨ steps > 400) := fun hs => by
      unfold solveE at h0; rw [if_neg (by simpa using hp), if_neg (by simpa using hq), if_pos hs] at h0; exact absurd h0 (by decide)
    have hst : steps = ((steps.toNat : Nat) : Int) := by omega
    have h1 := solveOf_any P Q steps.toNat W (hP.below hW) hc (hQ.below hW) hp hq (by omega)
    rw [← hst] at h1
    refine h1.mono ?_
    rintro e w' ⟨hb, sa, ca, an, fin, st, he, hA, _, h40, hf, hs0, e1, e2, e3⟩
    obtain ⟨g1, g2, g3⟩ := sol_sim (limit := steps.toNat) (prog_ok (hP.below hW) hc hp) hq
    exact ⟨hb, sa, ca, an, fin, st, he, hA, h40, hf, hs0, by rw [← g1]; exact e1, by rw [← g2]; exact e2, by rw [← g3]; exact e3⟩
  clear hP hc hQ
  go_enter Try.func6, Try.ntmps6
  go_wp2_with fail
  refine (HSo.out w (Below.refl _ _)).mono ?_
  rintro e w2 ⟨hb2, h2⟩
  have HB2 : Hid (Below w.heap.size w w2) := hb2
  obtain ⟨sa, na, ca, f1, s1, e1, rfl, hr1⟩ : ∃ (sa : Option Addr) (na ca : Nat) (f1 s1 e1 : Int), e = .returned (.tuple #[.agg #[.slice sa na ca, .int .i64 f1, .int .i64 s1], .int .i64 e1]) ∧ e1 = solveE P Q steps ∧ ((e1 ≠ 0 ∧ na = 0 ∧ f1 = 0 ∧ s1 = 0) ∨ (e1 = 0 ∧ ∃ an : List Tm, na = an.length ∧ AR w2 sa an ∧ an.length ≤ 40 ∧ 0 < f1 ∧ 0 ≤ s1 ∧ (solP P Q steps.toNat).ans = an.map ansC ∧ (solP P Q steps.toNat).fin = f1.toNat ∧ (solP P Q steps.toNat).st = s1.toNat)) := by
    rcases h2 with ⟨h, rfl⟩ | ⟨h, sa, ca, an, f1, s1, rfl, h3, _, h4, h5⟩
    · exact ⟨none, 0, 0, 0, 0, _, rfl, rfl, .inl ⟨h, rfl, rfl, rfl⟩⟩
    · exact ⟨sa, an.length, ca, f1, s1, 0, rfl, h.symm, .inr ⟨rfl, an, rfl, h3, h4, h5⟩⟩
  have HR1 : Hid (e1 = solveE P Q steps ∧ ((e1 ≠ 0 ∧ na = 0 ∧ f1 = 0 ∧ s1 = 0) ∨ (e1 = 0 ∧ ∃ an : List Tm, na = an.length ∧ AR w2 sa an ∧ an.length ≤ 40 ∧ 0 < f1 ∧ 0 ≤ s1 ∧ (solP P Q steps.toNat).ans = an.map ansC ∧ (solP P Q steps.toNat).fin = f1.toNat ∧ (solP P Q steps.toNat).st = s1.toNat))) := hr1
  clear hb2 h2 hr1
  have HBx : Hid (Below w2.heap.size w2 (w2.alloc (.cells #[.slice sa na ca, .int .i64 f1, .int .i64 s1] 44))) := (Below.refl _ _).alloc (Nat.le_refl _) _
  have HX2 : Hid ((w2.alloc (.cells #[.slice sa na ca, .int .i64 f1, .int .i64 s1] 44)).heap[w2.heap.size]? = some (.cells #[.slice sa na ca, .int .i64 f1, .int .i64 s1] 44)) := heap_alloc_new w2 _
  go_wp2_with fail
  generalize w2.alloc (.cells #[.slice sa na ca, .int .i64 f1, .int .i64 s1] 44) = w3 at *
  have hz3 : w2.heap.size < w3.heap.size := (Array.getElem?_eq_some_iff.1 HX2.out).1
  have HB3 : Hid (Below w.heap.size w w3) := HB2.out.trans (HBx.out.mono HB2.out.size)
  refine (HCh.out w3 HB3.out).mono ?_
  rintro e w4 ⟨rfl, hb4⟩
  have HB4 : Hid (Below w3.heap.size w3 w4) := hb4
  have HB4w : Hid (Below w.heap.size w w4) := HB3.out.trans (hb4.mono HB3.out.size)
  have HX4 : Hid (w4.heap[w2.heap.size]? = some (.cells #[.slice sa na ca, .int .i64 f1, .int .i64 s1] 44)) := (hb4.block _ hz3).trans HX2.out
  have hz4 : w2.heap.size < w4.heap.size := (Array.getElem?_eq_some_iff.1 HX4.out).1
  clear hb4
  have HBy : Hid (Below w4.heap.size w4 (w4.alloc (.cells #[.slice none 0 0, .int .i64 0, .int .i64 0] 44))) := (Below.refl _ _).alloc (Nat.le_refl _) _
  have HY5 : Hid ((w4.alloc (.cells #[.slice none 0 0, .int .i64 0, .int .i64 0] 44)).heap[w4.heap.size]? = some (.cells #[.slice none 0 0, .int .i64 0, .int .i64 0] 44)) := heap_alloc_new w4 _
  by_cases he : solveE P Q steps = 0
  case neg =>
    have heb : (solveE P Q steps == 0) = false := beq_eq_false_iff_ne.2 he
    have HN : Hid (solveE P Q steps ≠ 0) := he
    clear he
    go_wp2_with fail
    refine (begunS _).mono ?_
    rintro e w6 ⟨rfl, hb6⟩
    have hX6 : w6.heap[w2.heap.size]? = some (.cells #[.slice sa na ca, .int .i64 f1, .int .i64 s1] 44) := (hb6.block _ (by simp; omega)).trans ((HBy.out.block _ hz4).trans HX4.out)
    have hY6 : w6.heap[w4.heap.size]? = some (.cells #[.slice none 0 0, .int .i64 0, .int .i64 0] 44) := (hb6.block _ (by simp)).trans HY5.out
    have HB6 : Hid (Below w.heap.size w w6) := (HB4w.out.trans (HBy.out.mono HB4w.out.size)).trans (hb6.mono (by have := HB4w.out.size; simp; omega))
    obtain ⟨x0, x1, x2, _, _, _⟩ := block_cells hX6
    obtain ⟨v0, v1, v2, _, _, _⟩ := block_cells hY6
    have HRI : Hid (Calls Try.prog 31 #[.agg #[.slice sa na ca, .int .i64 f1, .int .i64 s1], .int .i64 e1, .int .i64 (solveE P Q steps), .agg #[.slice none 0 0, .int .i64 0, .int .i64 0]] w6 fun e w' => e = .returned (.bool true) ∧ Below w6.heap.size w6 w') := by
      rcases HR1.out with ⟨h1, ⟨_, h3⟩ | ⟨h2, _⟩⟩
      · exact resultIs_err sa na ca f1 s1 e1 none 0 0 0 0 (solveE P Q steps) w6 h1 HN.out h3
      · exact absurd (h1.symm.trans h2) HN.out
    clear hb6 hX6 hY6
    go_wp2_with fail
    refine HRI.out.mono ?_
    rintro e w7 ⟨rfl, hb7⟩
    have HB7 : Hid (Below w.heap.size w w7) := HB6.out.trans (hb7.mono HB6.out.size)
    clear hb7
    go_wp2_with fail
    go_ret
    exact ⟨rfl, HB7.out⟩
  have heb : (solveE P Q steps == 0) = true := beq_iff_eq.2 he
  have HN : Hid (solveE P Q steps = 0) := he
  have HOf5 := HOf.out he (w4.alloc (.cells #[.slice none 0 0, .int .i64 0, .int .i64 0] 44)) (HB4w.out.trans (HBy.out.mono HB4w.out.size))
  have HO5 : Hid (Calls Try.prog 29 #[.slice P.a P.len P.cap, .slice Q.a Q.len Q.cap, .int .i64 steps] (w4.alloc (.cells #[.slice none 0 0, .int .i64 0, .int .i64 0] 44)) fun e w' => Below (w4.alloc (.cells #[.slice none 0 0, .int .i64 0, .int .i64 0] 44)).heap.size (w4.alloc (.cells #[.slice none 0 0, .int .i64 0, .int .i64 0] 44)) w' ∧ ∃ (sa : Option Addr) (ca : Nat) (an : List Tm) (fin st : Int), e = .returned (.agg #[.slice sa an.length ca, .int .i64 fin, .int .i64 st]) ∧ (AR w' sa an ∧ ∀ b o, sa = some ⟨b, o, none⟩ → (w4.alloc (.cells #[.slice none 0 0, .int .i64 0, .int .i64 0] 44)).heap.size < b) ∧ an.length ≤ 40 ∧ 0 < fin ∧ 0 ≤ st ∧ (solP P Q steps.toNat).ans = an.map ansC ∧ (solP P Q steps.toNat).fin = fin.toNat ∧ (solP P Q steps.toNat).st = st.toNat) := HOf5
  rw [he]
  clear he HOf5 heb
  go_wp2_with fail
  refine HO5.out.mono ?_
  rintro e w6 ⟨hb6, sb, cb, an2, f2, s2, rfl, ⟨hA2, hsb⟩, h40, hf2, hs2, g1, g2, g3⟩
  have hX6 : w6.heap[w2.heap.size]? = some (.cells #[.slice sa na ca, .int .i64 f1, .int .i64 s1] 44) := (hb6.block _ (by simp; omega)).trans ((HBy.out.block _ hz4).trans HX4.out)
  have hY6 : w6.heap[w4.heap.size]? = some (.cells #[.slice none 0 0, .int .i64 0, .int .i64 0] 44) := (hb6.block _ (by simp)).trans HY5.out
  have HB6 : Hid (Below w.heap.size w w6) := (HB4w.out.trans (HBy.out.mono HB4w.out.size)).trans (hb6.mono (by have := HB4w.out.size; simp; omega))
  obtain ⟨z0, z1, z2, zf0, zf1, zf2⟩ := block_cells hY6
  obtain ⟨W', hW', e0, e1', e2', hB', hG'⟩ := fin3t (r := w4.heap.size) HB4w.out.size hY6 HB6.out (.slice sb an2.length cb) (.int .i64 f2) (.int .i64 s2)
  have HFin : Hid (Below w.heap.size w W' ∧ W'.heap[w4.heap.size]? = some (.cells #[.slice sb an2.length cb, .int .i64 f2, .int .i64 s2] 44) ∧ W'.heap[w2.heap.size]? = some (.cells #[.slice sa na ca, .int .i64 f1, .int .i64 s1] 44) ∧ W'.cell? ⟨w4.heap.size, 0, none⟩ = some (.slice sb an2.length cb)) := by
    refine ⟨hB', ?_, (hG'.block _ (Array.getElem?_eq_some_iff.1 hX6).1 (fun e => by have := Option.some.inj e; omega)).trans hX6, e0⟩
    rw [← hW']; exact boxK hY6
  have HBt : Hid (w6.grownBy W' (some w4.heap.size)) := hG'
  have HY6 : Hid (w6.heap[w4.heap.size]? = some (.cells #[.slice none 0 0, .int .i64 0, .int .i64 0] 44)) := hY6
  have hA2W : AR W' sb an2 := hA2.at hG' (fun b o e hb => by have := hsb b o e; simp at this; omega) (fun A hA => by
    obtain ⟨k, hk, rfl⟩ := List.getElem_of_mem hA
    exact nb_res hY6 (hA2 k hk).2)
  have hB2W : Below w2.heap.size w2 W' := ((((HBx.out.trans (HB4.out.mono (Nat.le_of_lt hz3))).trans (HBy.out.mono (Nat.le_of_lt hz4))).trans (hb6.mono (by simp; omega))).grown hG' (by have := hb6.size; simp at this; omega) (fun k hk => by have := Option.some.inj hk; omega))
  have HBW : Hid (Below w2.heap.size w2 W') := hB2W
  have HA2 : Hid (AR W' sb an2 ∧ an2.length ≤ 40 ∧ 0 < f2 ∧ 0 ≤ s2 ∧ (solP P Q steps.toNat).ans = an2.map ansC ∧ (solP P Q steps.toNat).fin = f2.toNat ∧ (solP P Q steps.toNat).st = s2.toNat) := ⟨hA2W, h40, hf2, hs2, g1, g2, g3⟩
  have HB56 : Hid (Below (w4.alloc (.cells #[.slice none 0 0, .int .i64 0, .int .i64 0] 44)).heap.size (w4.alloc (.cells #[.slice none 0 0, .int .i64 0, .int .i64 0] 44)) w6) := hb6
  have HWe : Hid (((w6.setCell ⟨w4.heap.size, 0, none⟩ (.slice sb an2.length cb)).setCell ⟨w4.heap.size, 1, none⟩ (.int .i64 f2)).setCell ⟨w4.heap.size, 2, none⟩ (.int .i64 s2) = W') := hW'
  clear hb6 hA2 g1 g2 g3 hX6 hY6 hW' hB' hG' e0 e1' e2' hsb hA2W hB2W
  go_wp2_with fail
  rw [HWe.out]
  refine (begunS _).mono ?_
  rintro e w7 ⟨rfl, hb7⟩
  have hX7 : w7.heap[w2.heap.size]? = some (.cells #[.slice sa na ca, .int .i64 f1, .int .i64 s1] 44) := (hb7.block _ (Array.getElem?_eq_some_iff.1 HFin.out.2.2.1).1).trans HFin.out.2.2.1
  have hY7 : w7.heap[w4.heap.size]? = some (.cells #[.slice sb an2.length cb, .int .i64 f2, .int .i64 s2] 44) := (hb7.block _ (Array.getElem?_eq_some_iff.1 HFin.out.2.1).1).trans HFin.out.2.1
  have HB7 : Hid (Below w.heap.size w w7) := HFin.out.1.trans (hb7.mono HFin.out.1.size)
  obtain ⟨x0, x1, x2, _, _, _⟩ := block_cells hX7
  obtain ⟨v0, v1, v2, _, _, _⟩ := block_cells hY7
  have HRI : Hid (Calls Try.prog 31 #[.agg #[.slice sa na ca, .int .i64 f1, .int .i64 s1], .int .i64 e1, .int .i64 0, .agg #[.slice sb an2.length cb, .int .i64 f2, .int .i64 s2]] w7 fun e w' => e = .returned (.bool true) ∧ Below w7.heap.size w7 w') := by
    rcases HR1.out with ⟨h1, ⟨h2, _⟩ | ⟨h2, an1, rfl, k1, k2, k3, k4, k5, k6, k7⟩⟩
    · exact absurd (h1.trans HN.out) h2
    · obtain ⟨m1, m2, m3, m4, m5, m6, m7⟩ := HA2.out
      have hf : f1 = f2 := by omega
      have hs : s1 = s2 := by omega
      rw [h2, hf, hs]
      exact resultIs_ok an1 an2 f2 s2 w7 (k1.below (HBW.out.trans (hb7.mono HBW.out.size))) (m1.below hb7) k2 (by rw [← k5, ← m5])
  clear hb7 hX7 hY7 h40 hf2 hs2
  go_wp2_with fail
  refine HRI.out.mono ?_
  rintro e w8 ⟨rfl, hb8⟩
  have HB8 : Hid (Below w.heap.size w w8) := HB7.out.trans (hb8.mono HB7.out.size)
  clear hb8
  go_wp2_with fail
  go_ret
  exact ⟨rfl, HB8.out⟩
end Go.Proofs.Ytmggaclaoefdaaa
