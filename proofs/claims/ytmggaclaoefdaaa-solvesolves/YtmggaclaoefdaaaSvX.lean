/- The law SolveMore, walked. -/
import Derived.Test.YtmggaclaoefdaaaSvW
namespace Go.Proofs.Ytmggaclaoefdaaa
open Go.RowKit

theorem to_runA (a : Option Addr) (ln cp k : Nat) (h : k ≤ ln) (hc : ln ≤ cp) (W : World) : (Instr.slice 42 (.slice a ln cp) none (some (.int .i64 k)) none).run Try.prog W = .ok (.slice a k cp) W := by
  obtain ⟨i0, hi, hz0, hz1, hz2⟩ := info_parts Try.info112
  have h' : (k : Int) ≤ (cp : Int) := by omega
  cases a with
  | none => simp [Instr.slice, run_underlying Try.underlying42, Instr.sliceBounds, run_sliceBound, sizeOf, typeInfo, hi, h', Addr.add]
  | some ad => simp [Instr.slice, run_underlying Try.underlying42, Instr.sliceBounds, run_sliceBound, sizeOf, typeInfo, hi, h', Addr.add]
theorem sameTs_ans {A B : Tm} (h : ansC A = ansC B) : sameTs A B = true := by
  have hl : A.len = B.len := by
    have := congrArg List.length h
    simpa [ansC, kidsL] using this
  unfold sameTs
  rw [hl]
  simp only [beq_self_eq_true, Bool.true_and]
  refine allTo_iff.2 fun i hi => (same_can _ _).2 ?_
  have h1 : (ansC A).getD i .nil = can (A.f i) := by simp [ansC, kidsL, List.getD, show i < A.len by omega]
  have h2 : (ansC B).getD i .nil = can (B.f i) := by simp [ansC, kidsL, List.getD, hi]
  rw [← h1, ← h2, h]
theorem sameAs_ans {l m : List Tm} (h : l.map ansC = m.map ansC) : sameAs l m = true := by
  have hl : l.length = m.length := by simpa using congrArg List.length h
  unfold sameAs
  rw [hl]
  simp only [beq_self_eq_true, Bool.true_and]
  refine allTo_iff.2 fun i hi => sameTs_ans ?_
  have h1 : (l.map ansC)[i]? = (m.map ansC)[i]? := by rw [h]
  simp [hi, show i < l.length by omega] at h1
  simpa [List.getD, hi, show i < l.length by omega] using h1
theorem AR.take {w : World} {sa : Option Addr} {l : List Tm} (h : AR w sa l) (k : Nat) : AR w sa (l.take k) := fun i hi => by
  have hi' : i < l.length := by rw [List.length_take] at hi; omega
  have := h i hi'
  rw [List.getElem_take]
  exact this
/-- With more steps: over what is found. -/
theorem sol_more {P : Pg} {Q : Tm} {a b : Nat} (hab : a ≤ b) (h0 : (solP P Q a).fin ≠ 0) : ((solP P Q a).fin ≠ 2 → solP P Q b = solP P Q a) ∧ ((solP P Q a).fin = 2 → (solP P Q a).st = a ∧ (solP P Q a).ans <+: (solP P Q b).ans) :=
  run_more (P := cls P) (n := (varsV Q).toNat) hab (f := 442) (g := 442) (X := ps0 Q (varsV Q).toNat) (Nat.le_refl _) (Nat.zero_le _) (by show (0 : Nat) ≠ 2; omega) h0
set_option maxRecDepth 100000 in
set_option maxHeartbeats 8000000 in
theorem law_more (P : Pg) (Q : Tm) (steps more : Int) (w : World) (hP : PIn w P) (hc : P.len ≤ P.cap) (hQ : TIn w Q) :
    Calls Try.prog 7 #[.slice P.a P.len P.cap, .slice Q.a Q.len Q.cap, .int .i64 steps, .int .i64 more] w fun e w' => e = .returned (.bool true) ∧ Below w.heap.size w w' := by
  have HSo : Hid (∀ (st : Int) W, Below w.heap.size w W → Calls Try.prog 27 #[.slice P.a P.len P.cap, .slice Q.a Q.len Q.cap, .int .i64 st] W (VRes P Q st W)) := fun st W hW => solve_any P Q st W (hP.below hW) hc (hQ.below hW)
  clear hP hc hQ
  go_enter Try.func7, Try.ntmps7
  go_wp2_with fail
  refine (begunS _).mono ?_
  rintro e w1 ⟨rfl, hb1⟩
  have HB1 : Hid (Below w.heap.size w w1) := hb1
  clear hb1
  go_wp2_with fail
  refine (HSo.out steps w1 HB1.out).mono ?_
  rintro e w2 ⟨hb2, h2⟩
  have HB2 : Hid (Below w.heap.size w w2) := HB1.out.trans (hb2.mono HB1.out.size)
  obtain ⟨sa, na, ca, f1, s1, e1, rfl, hr1⟩ : ∃ (sa : Option Addr) (na ca : Nat) (f1 s1 e1 : Int), e = .returned (.tuple #[.agg #[.slice sa na ca, .int .i64 f1, .int .i64 s1], .int .i64 e1]) ∧ (e1 = 0 → 0 ≤ steps ∧ ∃ an : List Tm, na = an.length ∧ AR w2 sa an ∧ an.length ≤ ca ∧ an.length ≤ 40 ∧ 0 < f1 ∧ 0 ≤ s1 ∧ (solP P Q steps.toNat).ans = an.map ansC ∧ (solP P Q steps.toNat).fin = f1.toNat ∧ (solP P Q steps.toNat).st = s1.toNat) := by
    rcases h2 with ⟨h, rfl⟩ | ⟨h, sa, ca, an, f1, s1, rfl, h3⟩
    · exact ⟨none, 0, 0, 0, 0, _, rfl, fun e => absurd e h⟩
    · refine ⟨sa, an.length, ca, f1, s1, 0, rfl, fun _ => ⟨?_, an, rfl, h3⟩⟩
      exact solveE_pos h
  have HR1 : Hid (e1 = 0 → 0 ≤ steps ∧ ∃ an : List Tm, na = an.length ∧ AR w2 sa an ∧ an.length ≤ ca ∧ an.length ≤ 40 ∧ 0 < f1 ∧ 0 ≤ s1 ∧ (solP P Q steps.toNat).ans = an.map ansC ∧ (solP P Q steps.toNat).fin = f1.toNat ∧ (solP P Q steps.toNat).st = s1.toNat) := hr1
  clear hb2 h2 hr1
  have HBx : Hid (Below w2.heap.size w2 (w2.alloc (.cells #[.slice sa na ca, .int .i64 f1, .int .i64 s1] 44))) := (Below.refl _ _).alloc (Nat.le_refl _) _
  have HX2 : Hid ((w2.alloc (.cells #[.slice sa na ca, .int .i64 f1, .int .i64 s1] 44)).heap[w2.heap.size]? = some (.cells #[.slice sa na ca, .int .i64 f1, .int .i64 s1] 44)) := heap_alloc_new w2 _
  go_wp2_with fail
  generalize w2.alloc (.cells #[.slice sa na ca, .int .i64 f1, .int .i64 s1] 44) = w3 at *
  have hz3 : w2.heap.size < w3.heap.size := (Array.getElem?_eq_some_iff.1 HX2.out).1
  have HB3 : Hid (Below w.heap.size w w3) := HB2.out.trans (HBx.out.mono HB2.out.size)
  refine (HSo.out more w3 HB3.out).mono ?_
  rintro e w4 ⟨hb4, h4⟩
  have HB4 : Hid (Below w3.heap.size w3 w4) := hb4
  obtain ⟨sb, nb, cb, f2, s2, e2, rfl, hr2⟩ : ∃ (sa : Option Addr) (na ca : Nat) (f1 s1 e1 : Int), e = .returned (.tuple #[.agg #[.slice sa na ca, .int .i64 f1, .int .i64 s1], .int .i64 e1]) ∧ (e1 = 0 → ∃ an : List Tm, na = an.length ∧ AR w4 sa an ∧ an.length ≤ ca ∧ an.length ≤ 40 ∧ 0 < f1 ∧ 0 ≤ s1 ∧ (solP P Q more.toNat).ans = an.map ansC ∧ (solP P Q more.toNat).fin = f1.toNat ∧ (solP P Q more.toNat).st = s1.toNat) := by
    rcases h4 with ⟨h, rfl⟩ | ⟨h, sa, ca, an, f1, s1, rfl, h3⟩
    · exact ⟨none, 0, 0, 0, 0, _, rfl, fun e => absurd e h⟩
    · exact ⟨sa, an.length, ca, f1, s1, 0, rfl, fun _ => ⟨an, rfl, h3⟩⟩
  have HR2 : Hid (e2 = 0 → ∃ an : List Tm, nb = an.length ∧ AR w4 sb an ∧ an.length ≤ cb ∧ an.length ≤ 40 ∧ 0 < f2 ∧ 0 ≤ s2 ∧ (solP P Q more.toNat).ans = an.map ansC ∧ (solP P Q more.toNat).fin = f2.toNat ∧ (solP P Q more.toNat).st = s2.toNat) := hr2
  clear hb4 h4 hr2
  have HBy : Hid (Below w4.heap.size w4 (w4.alloc (.cells #[.slice sb nb cb, .int .i64 f2, .int .i64 s2] 44))) := (Below.refl _ _).alloc (Nat.le_refl _) _
  have HX4 : Hid ((w4.alloc (.cells #[.slice sb nb cb, .int .i64 f2, .int .i64 s2] 44)).heap[w4.heap.size]? = some (.cells #[.slice sb nb cb, .int .i64 f2, .int .i64 s2] 44)) := heap_alloc_new w4 _
  have hz5 : w4.heap.size < (w4.alloc (.cells #[.slice sb nb cb, .int .i64 f2, .int .i64 s2] 44)).heap.size := (Array.getElem?_eq_some_iff.1 HX4.out).1
  have HB35 : Hid (Below w3.heap.size w3 (w4.alloc (.cells #[.slice sb nb cb, .int .i64 f2, .int .i64 s2] 44))) := HB4.out.trans (HBy.out.mono HB4.out.size)
  have HB5 : Hid (Below w.heap.size w (w4.alloc (.cells #[.slice sb nb cb, .int .i64 f2, .int .i64 s2] 44))) := HB3.out.trans (HB35.out.mono HB3.out.size)
  have HX2' : Hid ((w4.alloc (.cells #[.slice sb nb cb, .int .i64 f2, .int .i64 s2] 44)).heap[w2.heap.size]? = some (.cells #[.slice sa na ca, .int .i64 f1, .int .i64 s1] 44)) := (HB35.out.block _ hz3).trans HX2.out
  have HX24 : Hid (w4.heap[w2.heap.size]? = some (.cells #[.slice sa na ca, .int .i64 f1, .int .i64 s1] 44)) := (HB4.out.block _ hz3).trans HX2.out
  obtain ⟨c0, c1, c2, _, _, _⟩ := block_cells HX2'.out
  obtain ⟨c04, c14, c24, _, _, _⟩ := block_cells HX24.out
  by_cases he1 : e1 = 0
  case neg =>
    have heb : (e1 != 0) = true := bne_iff_ne.2 he1
    clear he1
    go_wp2_with fail
    go_ret
    exact ⟨rfl, HB5.out⟩
  by_cases he2 : e2 = 0
  case neg =>
    have heb : (e2 != 0) = true := bne_iff_ne.2 he2
    subst he1
    clear he2
    go_wp2_with fail
    go_ret
    exact ⟨rfl, HB5.out⟩
  subst he1 he2
  by_cases hml : more < steps
  case pos =>
    have hmb : decide (more < steps) = true := decide_eq_true hml
    clear hml
    go_wp2_with fail
    go_ret
    exact ⟨rfl, HB5.out⟩
  have hmb : decide (more < steps) = false := decide_eq_false hml
  obtain ⟨hs0, an1, rfl, hA1, hl1, hl40, hf1, hs1, ha1, hF1, hS1⟩ := HR1.out rfl
  obtain ⟨an2, rfl, hA2, hl2, hl402, hf2, hs2, ha2, hF2, hS2⟩ := HR2.out rfl
  have HA1 : Hid (∀ W, Below (w4.alloc (.cells #[.slice sb an2.length cb, .int .i64 f2, .int .i64 s2] 44)).heap.size (w4.alloc (.cells #[.slice sb an2.length cb, .int .i64 f2, .int .i64 s2] 44)) W → AR W sa an1) := fun W hW => hA1.below (HBx.out.trans ((HB35.out.trans (hW.mono HB35.out.size)).mono (Nat.le_of_lt hz3)))
  have HA2 : Hid (∀ W, Below (w4.alloc (.cells #[.slice sb an2.length cb, .int .i64 f2, .int .i64 s2] 44)).heap.size (w4.alloc (.cells #[.slice sb an2.length cb, .int .i64 f2, .int .i64 s2] 44)) W → AR W sb an2) := fun W hW => hA2.below (HBy.out.trans (hW.mono (Nat.le_of_lt hz5)))
  obtain ⟨m1, m2⟩ := sol_more (P := P) (Q := Q) (a := steps.toNat) (b := more.toNat) (by omega) (by rw [hF1]; omega)
  clear HR1 HR2 hA1 hA2
  by_cases hf : f1 = 2
  case neg =>
    have hfb : (f1 != 2) = true := bne_iff_ne.2 hf
    have hsame := m1 (by rw [hF1]; omega)
    rw [hsame] at ha2 hF2 hS2
    have hfe : f1 = f2 := by omega
    have hse : s1 = s2 := by omega
    have HAs : Hid (sameAs an1 an2 = true) := sameAs_ans (by rw [← ha1, ← ha2])
    have HSR : Hid (Calls Try.prog 32 #[.agg #[.slice sa an1.length ca, .int .i64 f1, .int .i64 s1], .agg #[.slice sb an2.length cb, .int .i64 f2, .int .i64 s2]] (w4.alloc (.cells #[.slice sb an2.length cb, .int .i64 f2, .int .i64 s2] 44)) fun e w' => e = .returned (.bool true) ∧ Below (w4.alloc (.cells #[.slice sb an2.length cb, .int .i64 f2, .int .i64 s2] 44)).heap.size (w4.alloc (.cells #[.slice sb an2.length cb, .int .i64 f2, .int .i64 s2] 44)) w') := by
      have := sameRes_any (sa := sa) (sb := sb) (ca := ca) (cb := cb) an1 an2 f1 s1 f2 s2 (w4.alloc (.cells #[.slice sb an2.length cb, .int .i64 f2, .int .i64 s2] 44)) (HA1.out _ (Below.refl _ _)) (HA2.out _ (Below.refl _ _)) (by omega)
      rw [HAs.out, hfe, hse] at this
      simp only [beq_self_eq_true, Bool.true_and] at this
      rw [hfe, hse]
      exact this
    clear m1 m2 hsame ha1 ha2 hF1 hF2 hS1 hS2 hf hfe hse hml
    go_wp2_with fail
    refine HSR.out.mono ?_
    rintro e w6 ⟨rfl, hb6⟩
    have HB6 : Hid (Below w.heap.size w w6) := HB5.out.trans (hb6.mono HB5.out.size)
    clear hb6
    go_wp2_with fail
    go_ret
    exact ⟨rfl, HB6.out⟩
  subst hf
  obtain ⟨hst, hpre⟩ := m2 (by rw [hF1]; rfl)
  have hsE : s1 = steps := by omega
  rw [ha1, ha2] at hpre
  have hle : an1.length ≤ an2.length := by simpa using hpre.length_le
  have HAs : Hid (sameAs (an2.take an1.length) an1 = true) := sameAs_ans (by
    rw [List.map_take]
    obtain ⟨t, ht⟩ := hpre
    rw [← ht, show an1.length = (an1.map ansC).length from by simp, List.take_left])
  have hge : decide ((an2.length : Int) ≥ (an1.length : Int)) = true := decide_eq_true (by omega)
  have hto := to_runA sb an2.length cb an1.length hle hl2
  have HSA : Hid (∀ W, Below (w4.alloc (.cells #[.slice sb an2.length cb, .int .i64 f2, .int .i64 s2] 44)).heap.size (w4.alloc (.cells #[.slice sb an2.length cb, .int .i64 f2, .int .i64 s2] 44)) W → Calls Try.prog 33 #[.slice sb an1.length cb, .slice sa an1.length ca] W fun e w' => e = .returned (.bool true) ∧ Below W.heap.size W w') := fun W hW => by
    have hlt : (an2.take an1.length).length = an1.length := by rw [List.length_take]; omega
    have := sameAns_any (sa := sb) (sb := sa) (ca := cb) (cb := ca) (an2.take an1.length) an1 W ((HA2.out W hW).take _) (HA1.out W hW) (by omega)
    rw [HAs.out, hlt] at this
    exact this
  have hsb : (s1 == steps) = true := beq_iff_eq.2 hsE
  have HKp : Hid (∀ W, Below (w4.alloc (.cells #[.slice sb an2.length cb, .int .i64 f2, .int .i64 s2] 44)).heap.size (w4.alloc (.cells #[.slice sb an2.length cb, .int .i64 f2, .int .i64 s2] 44)) W → (W.cell? ⟨w2.heap.size, 0, none⟩ = some (.slice sa an1.length ca) ∧ W.cell? ⟨w2.heap.size, 2, none⟩ = some (.int .i64 s1)) ∧ W.cell? ⟨w4.heap.size, 0, none⟩ = some (.slice sb an2.length cb)) := fun W hW => ⟨⟨(hW.cell (lt_of_cell c0)).trans c0, (hW.cell (lt_of_cell c2)).trans c2⟩, (hW.cell hz5).trans (block_cells HX4.out).1⟩
  clear m1 m2 ha1 ha2 hF1 hF2 hS1 hS2 hst hpre hsE hml
  have HB9 : Hid (Below (w4.alloc (.cells #[.slice sb an2.length cb, .int .i64 f2, .int .i64 s2] 44)).heap.size (w4.alloc (.cells #[.slice sb an2.length cb, .int .i64 f2, .int .i64 s2] 44)) (w4.alloc (.cells #[.slice sb an2.length cb, .int .i64 f2, .int .i64 s2] 44))) := Below.refl _ _
  go_wp2_with fail
  go_region_held3 (fun W => (W.cell? ⟨w2.heap.size, 0, none⟩ = some (.slice sa an1.length ca) ∧ W.cell? ⟨w2.heap.size, 2, none⟩ = some (.int .i64 s1)) ∧ W.cell? ⟨w4.heap.size, 0, none⟩ = some (.slice sb an2.length cb)) (first | exact HKp.out _ HB9.out | exact HKp.out _ HB9.out.drew)
    (first
      | (go_at_call 33
         refine (HSA.out _ (by first | exact HB9.out | exact HB9.out.drew)).mono ?_
         rintro e wn ⟨rfl, hb⟩
         replace HB9 : Hid (Below (w4.alloc (.cells #[.slice sb an2.length cb, .int .i64 f2, .int .i64 s2] 44)).heap.size (w4.alloc (.cells #[.slice sb an2.length cb, .int .i64 f2, .int .i64 s2] 44)) wn) := Below.trans (by first | exact HB9.out | exact HB9.out.drew) (hb.mono HB9.out.size)
         clear hb))
  all_goals
    go_wp2_with fail
    go_ret
    exact ⟨rfl, HB5.out.trans (HB9.out.mono HB5.out.size)⟩
where
  solveE_pos {P : Pg} {Q : Tm} {steps : Int} (h : solveE P Q steps = 0) : 0 ≤ steps := by
    unfold solveE at h
    split at h
    · rename_i h1; exact absurd h h1
    · split at h
      · rename_i h1; exact absurd h h1
      · split at h
        · omega
        · omega
end Go.Proofs.Ytmggaclaoefdaaa
