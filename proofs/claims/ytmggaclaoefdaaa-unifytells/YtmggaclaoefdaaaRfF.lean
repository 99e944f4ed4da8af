/- Unify and UnifyOf answer the same. -/
import Derived.Test.YtmggaclaoefdaaaRfE
import Derived.Test.YtmggaclaoefdaaaUni5
namespace Go.Proofs.Ytmggaclaoefdaaa
open Go.RowKit

/-- What comes of two right terms, over terms alone. -/
def Out (A B : Tm) (ok : Bool) (n er : Int) (cs : List Tm) : Prop :=
  (meetF 4001 σ0 4000 [(A, B)] = .over ∧ ok = false ∧ n = 0 ∧ er = 2 ∧ cs = []) ∨
  (∃ k : Nat, meetF 4001 σ0 4000 [(A, B)] = .no k ∧ ok = false ∧ n = 4000 - (k : Int) ∧ er = 0 ∧ cs = []) ∨
  (∃ (k : Nat) (σ : Sg), meetF 4001 σ0 4000 [(A, B)] = .yes k σ ∧ (
    ((∃ i : Nat, i < 12 ∧ roomF σ 200 [vT ((i : Int) + 1)] = none) ∧ ok = false ∧ n = 0 ∧ er = 2 ∧ cs = []) ∨
    ((∀ i : Nat, i < 12 → ∃ k, roomF σ 200 [vT ((i : Int) + 1)] = some k) ∧ ok = true ∧ n = 4000 - (k : Int) ∧ er = 0 ∧ cs = (List.range 12).map fun i : Nat => can (ex σ 200 (vT ((i : Int) + 1))))))
theorem Out.same {A B : Tm} {ok ok' : Bool} {n er n' er' : Int} {cs cs' : List Tm} (h : Out A B ok n er cs) (h' : Out A B ok' n' er' cs') : ok = ok' ∧ n = n' ∧ er = er' ∧ cs = cs' := by
  rcases h with ⟨m, rfl, rfl, rfl, rfl⟩ | ⟨k, m, rfl, rfl, rfl, rfl⟩ | ⟨k, σ, m, h⟩
  · rcases h' with ⟨_, rfl, rfl, rfl, rfl⟩ | ⟨k', m', _⟩ | ⟨k', σ', m', _⟩
    · exact ⟨rfl, rfl, rfl, rfl⟩
    · rw [m] at m'; cases m'
    · rw [m] at m'; cases m'
  · rcases h' with ⟨m', _⟩ | ⟨k', m', rfl, rfl, rfl, rfl⟩ | ⟨k', σ', m', _⟩
    · rw [m] at m'; cases m'
    · rw [m] at m'; cases m'; exact ⟨rfl, rfl, rfl, rfl⟩
    · rw [m] at m'; cases m'
  · rcases h' with ⟨m', _⟩ | ⟨k', m', _⟩ | ⟨k', σ', m', h'⟩
    · rw [m] at m'; cases m'
    · rw [m] at m'; cases m'
    · rw [m] at m'; cases m'
      rcases h with ⟨⟨i, hi, h1⟩, rfl, rfl, rfl, rfl⟩ | ⟨h1, rfl, rfl, rfl, rfl⟩ <;> rcases h' with ⟨⟨j, hj, h2⟩, rfl, rfl, rfl, rfl⟩ | ⟨h2, rfl, rfl, rfl, rfl⟩
      · exact ⟨rfl, rfl, rfl, rfl⟩
      · obtain ⟨_, h3⟩ := h2 i hi; rw [h1] at h3; cases h3
      · obtain ⟨_, h3⟩ := h1 j hj; rw [h2] at h3; cases h3
      · exact ⟨rfl, rfl, rfl, rfl⟩
def nilT : Tm := .mk 0 ⟨#[]⟩ none 0 0 (fun _ => .nil)
theorem nilT_in (w : World) : TIn w nilT := ⟨Nat.zero_le _, Nat.zero_le _, fun i hi => absurd hi (Nat.not_lt_zero i)⟩
/-- An answer that is as it must be. -/
def OQ (A B : Tm) (w : World) (e : Ending) (w' : World) : Prop := Below w.heap.size w w' ∧ ∃ (Q : Tm) (ok : Bool) (n er : Int), e = R4 (.slice Q.a Q.len Q.cap) ok n er ∧ TIn w' Q ∧ Out A B ok n er ((kidsL Q).map can)
theorem up_oq {A B : Tm} {w : World} {e : Ending} {w' : World} (h : UP A B w e w') (hA : checkV A = 0) (hB : checkV B = 0) : OQ A B w e w' := by
  obtain ⟨hb, h⟩ := h
  refine ⟨hb, ?_⟩
  rcases h with ⟨h, _⟩ | ⟨_, h, _⟩ | ⟨_, _, h⟩
  · exact absurd hA h
  · exact absurd hB h
  rcases h with ⟨m, rfl⟩ | ⟨k, hk, m, rfl⟩ | ⟨k, σ, hk, m, _, _, h⟩
  · exact ⟨nilT, _, _, _, rfl, nilT_in _, .inl ⟨m, rfl, rfl, rfl, rfl⟩⟩
  · exact ⟨nilT, _, _, _, rfl, nilT_in _, .inr (.inl ⟨k, m, rfl, rfl, rfl, rfl⟩)⟩
  rcases h with ⟨h, rfl⟩ | ⟨h, g, cp, ts, hL, rfl⟩
  · exact ⟨nilT, _, _, _, rfl, nilT_in _, .inr (.inr ⟨k, σ, m, .inl ⟨h, rfl, rfl, rfl, rfl⟩⟩)⟩
  · obtain ⟨T, hv, hT, _, hS⟩ := hL.terms
    refine ⟨T, true, _, _, by rw [← hv], hT, .inr (.inr ⟨k, σ, m, .inr ⟨h, rfl, rfl, rfl, ?_⟩⟩)⟩
    have hl : T.len = 12 := by rw [hS.1]; simp
    refine List.ext_getElem (by simp [kidsL_len, hl]) fun i h1 h2 => ?_
    rw [List.getElem_map, kidsL_get]
    have hi : i < 12 := by simpa using h2
    rw [sim_can (hS.2 i (by omega))]
    simp [List.getD, hi]
theorem uf_oq {A B : Tm} {w : World} {e : Ending} {w' : World} (h : UF A B w e w') : OQ A B w e w' := by
  obtain ⟨hb, h⟩ := h
  refine ⟨hb, ?_⟩
  rcases h with ⟨m, rfl⟩ | ⟨k, hk, m, rfl⟩ | ⟨k, σ, hk, m, h⟩
  · exact ⟨nilT, _, _, _, rfl, nilT_in _, .inl ⟨m, rfl, rfl, rfl, rfl⟩⟩
  · exact ⟨nilT, _, _, _, rfl, nilT_in _, .inr (.inl ⟨k, m, rfl, rfl, rfl, rfl⟩)⟩
  rcases h with ⟨h, rfl⟩ | ⟨h, v, ts, hL, rfl⟩
  · exact ⟨nilT, _, _, _, rfl, nilT_in _, .inr (.inr ⟨k, σ, m, .inl ⟨h, rfl, rfl, rfl, rfl⟩⟩)⟩
  · obtain ⟨T, hv, hT, _, hl, hf⟩ := hL.exact
    refine ⟨T, true, _, _, by rw [← hv], hT, .inr (.inr ⟨k, σ, m, .inr ⟨h, rfl, rfl, rfl, ?_⟩⟩)⟩
    have hl12 : ts.length = 12 := by rw [hL.len]; simp
    refine List.ext_getElem (by simp [kidsL_len, hl, hl12]) fun i h1 h2 => ?_
    rw [List.getElem_map, kidsL_get]
    have hi : i < 12 := by simpa using h2
    rw [hf i (by omega), hL.sim i (by omega)]
    simp [List.getD, hi]
theorem same_kids {Q Q' : Tm} (h : (kidsL Q).map can = (kidsL Q').map can) : sameTs Q Q' = true := by
  have hl : Q.len = Q'.len := by have := congrArg List.length h; simpa [kidsL_len] using this
  unfold sameTs
  rw [hl]
  simp only [beq_self_eq_true, Bool.true_and]
  refine allTo_iff.2 fun i hi => (same_can _ _).2 ?_
  have h1 := congrArg (fun l : List Tm => l[i]?) h
  simp only [List.getElem?_map] at h1
  rw [List.getElem?_eq_getElem (by rw [kidsL_len]; omega), List.getElem?_eq_getElem (by rw [kidsL_len]; omega), kidsL_get, kidsL_get] at h1
  simpa using h1
set_option maxRecDepth 100000 in
set_option maxHeartbeats 16000000 in
theorem law7 (A B : Tm) (w : World) (hA : TIn w A) (hB : TIn w B) :
    Calls Try.prog 4 #[A.val, B.val] w fun e w' => e = .returned (.bool true) ∧ Below w.heap.size w w' := by
  have HIn : Hid (∀ W, Below w.heap.size w W → TIn W A ∧ TIn W B) := fun W hW => ⟨hA.below hW, hB.below hW⟩
  clear hA hB
  show Calls Try.prog 4 #[.agg #[.int .i64 A.v, .string A.nm, .slice A.a A.len A.cap], .agg #[.int .i64 B.v, .string B.nm, .slice B.a B.len B.cap]] w _
  go_enter Try.func4, Try.ntmps4
  go_wp2_with fail
  have HX0 := alloc2 w (.cells #[.int .i64 A.v, .string A.nm, .slice A.a A.len A.cap] 24) (.cells #[.int .i64 B.v, .string B.nm, .slice B.a B.len B.cap] 24)
  have hBx : Below w.heap.size w ((w.alloc (.cells #[.int .i64 A.v, .string A.nm, .slice A.a A.len A.cap] 24)).alloc (.cells #[.int .i64 B.v, .string B.nm, .slice B.a B.len B.cap] 24)) := below_alloc (below_alloc (Below.refl _ _) _) _
  generalize (w.alloc (.cells #[.int .i64 A.v, .string A.nm, .slice A.a A.len A.cap] 24)).alloc (.cells #[.int .i64 B.v, .string B.nm, .slice B.a B.len B.cap] 24) = wb at *
  have hsb : w.heap.size + 1 < wb.heap.size := (Array.getElem?_eq_some_iff.1 HX0.2).1
  have HBx : Hid (Below w.heap.size w wb) := hBx
  have HCx : Hid (∀ W, Below wb.heap.size wb W → W.heap[w.heap.size]? = some (.cells #[.int .i64 A.v, .string A.nm, .slice A.a A.len A.cap] 24) ∧ W.heap[w.heap.size + 1]? = some (.cells #[.int .i64 B.v, .string B.nm, .slice B.a B.len B.cap] 24)) := fun W hW => ⟨(hW.block _ (by omega)).trans HX0.1, (hW.block _ (by omega)).trans HX0.2⟩
  have HInb : Hid (∀ W, Below wb.heap.size wb W → TIn W A ∧ TIn W B) := fun W hW => HIn.out W (below_after HBx.out hW)
  clear HX0 hBx
  have HUn : Hid (Calls Try.prog 21 #[.agg #[.int .i64 A.v, .string A.nm, .slice A.a A.len A.cap], .agg #[.int .i64 B.v, .string B.nm, .slice B.a B.len B.cap]] wb (UP A B wb)) := unify_any A B wb (HInb.out _ (Below.refl _ _)).1 (HInb.out _ (Below.refl _ _)).2
  refine HUn.out.mono ?_
  intro e wU h
  have HU : Hid (Below wb.heap.size wb wU) := h.1
  obtain ⟨x0, x1, x2, _, _, _⟩ := block_cells (HCx.out _ h.1).1
  obtain ⟨t0, t1, t2, _, _, _⟩ := block_cells (HCx.out _ h.1).2
  have HCA : Hid (Calls Try.prog 17 #[.agg #[.int .i64 A.v, .string A.nm, .slice A.a A.len A.cap]] wU fun e w' => e = .returned (.int .i64 (checkV A)) ∧ Below wU.heap.size wU w') := checkTerm_any A wU (HInb.out _ h.1).1
  by_cases hcA : checkV A = 0
  case neg =>
    obtain rfl : e = R4 (.slice none 0 0) false 0 (checkV A) := by
      rcases h.2 with ⟨_, h⟩ | ⟨h, _⟩ | ⟨h, _⟩
      · exact h
      · exact absurd h hcA
      · exact absurd h hcA
    rw [show R4 (.slice none 0 0) false 0 (checkV A) = .returned (.tuple #[.slice none 0 0, .bool false, .int .i64 0, .int .i64 (checkV A)]) from rfl]
    have hcb : (checkV A == 0) = false := beq_eq_false_iff_ne.2 hcA
    clear h hcA
    generalize checkV A = cA at *
    go_wp2_with fail
    refine HCA.out.mono ?_
    rintro e w2 ⟨rfl, hb2⟩
    have HB2 : Hid (Below wb.heap.size wb w2) := below_after HU.out hb2
    clear hb2 x0 x1 x2 t0 t1 t2
    go_wp2_with fail
    refine (begunU w2).mono ?_
    rintro e w3 ⟨rfl, hb3⟩
    have HB3 : Hid (Below wb.heap.size wb w3) := below_after HB2.out hb3
    clear hb3
    have HSm : Hid (Calls Try.prog 24 #[.slice none 0 0, .slice none 0 0] w3 fun e w' => e = .returned (.bool true) ∧ Below w3.heap.size w3 w') := same18 nilT nilT w3 (nilT_in _) (nilT_in _)
    go_wp2_with fail
    refine HSm.out.mono ?_
    rintro e w4 ⟨rfl, hb4⟩
    have HB4 : Hid (Below w.heap.size w w4) := below_after (below_after HBx.out HB3.out) hb4
    clear hb4
    go_wp2_with fail
    go_ret
    exact ⟨rfl, HB4.out⟩
  have HcA : Hid (checkV A = 0) := hcA
  rw [hcA] at HCA
  by_cases hcB : checkV B = 0
  case neg =>
    obtain rfl : e = R4 (.slice none 0 0) false 0 (checkV B) := by
      rcases h.2 with ⟨h, _⟩ | ⟨_, _, h⟩ | ⟨_, h, _⟩
      · exact absurd hcA h
      · exact h
      · exact absurd h hcB
    rw [show R4 (.slice none 0 0) false 0 (checkV B) = .returned (.tuple #[.slice none 0 0, .bool false, .int .i64 0, .int .i64 (checkV B)]) from rfl]
    have hcb : (checkV B == 0) = false := beq_eq_false_iff_ne.2 hcB
    clear h hcA hcB
    go_wp2_with fail
    refine HCA.out.mono ?_
    rintro e w2 ⟨rfl, hb2⟩
    have HB2 : Hid (Below wb.heap.size wb w2) := below_after HU.out hb2
    have HCB : Hid (Calls Try.prog 17 #[.agg #[.int .i64 B.v, .string B.nm, .slice B.a B.len B.cap]] w2 fun e w' => e = .returned (.int .i64 (checkV B)) ∧ Below w2.heap.size w2 w') := checkTerm_any B w2 (HInb.out _ HB2.out).2
    clear hb2 x0 x1 x2 t0 t1 t2
    obtain ⟨t0, t1, t2, _, _, _⟩ := block_cells (HCx.out _ HB2.out).2
    generalize checkV B = cB at *
    go_wp2_with fail
    refine HCB.out.mono ?_
    rintro e w2' ⟨rfl, hb2⟩
    have HB2' : Hid (Below wb.heap.size wb w2') := below_after HB2.out hb2
    clear hb2 t0 t1 t2
    go_wp2_with fail
    refine (begunU w2').mono ?_
    rintro e w3 ⟨rfl, hb3⟩
    have HB3 : Hid (Below wb.heap.size wb w3) := below_after HB2'.out hb3
    clear hb3
    have HSm : Hid (Calls Try.prog 24 #[.slice none 0 0, .slice none 0 0] w3 fun e w' => e = .returned (.bool true) ∧ Below w3.heap.size w3 w') := same18 nilT nilT w3 (nilT_in _) (nilT_in _)
    go_wp2_with fail
    refine HSm.out.mono ?_
    rintro e w4 ⟨rfl, hb4⟩
    have HB4 : Hid (Below w.heap.size w w4) := below_after (below_after HBx.out HB3.out) hb4
    clear hb4
    go_wp2_with fail
    go_ret
    exact ⟨rfl, HB4.out⟩
  obtain ⟨_, Q, ok, n, er, rfl, hQ, hOut⟩ := up_oq h hcA hcB
  rw [show R4 (.slice Q.a Q.len Q.cap) ok n er = .returned (.tuple #[.slice Q.a Q.len Q.cap, .bool ok, .int .i64 n, .int .i64 er]) from rfl]
  have HQ : Hid (TIn wU Q) := hQ
  have HOut : Hid (Out A B ok n er ((kidsL Q).map can)) := hOut
  have HOk : Hid (Okv 12 A ∧ Okv 12 B) := ⟨okv_of_err A (checkV_err hcA), okv_of_err B (checkV_err hcB)⟩
  have HcB : Hid (checkV B = 0) := hcB
  clear h hcA hcB hQ hOut
  go_wp2_with fail
  refine HCA.out.mono ?_
  rintro e w2 ⟨rfl, hb2⟩
  have HU2 : Hid (Below wU.heap.size wU w2) := hb2
  have HB2 : Hid (Below wb.heap.size wb w2) := below_after HU.out hb2
  have HCB : Hid (Calls Try.prog 17 #[.agg #[.int .i64 B.v, .string B.nm, .slice B.a B.len B.cap]] w2 fun e w' => e = .returned (.int .i64 0) ∧ Below w2.heap.size w2 w') := by
    have := checkTerm_any B w2 (HInb.out _ HB2.out).2
    rw [HcB.out] at this
    exact this
  clear hb2 x0 x1 x2 t0 t1 t2
  obtain ⟨t0, t1, t2, _, _, _⟩ := block_cells (HCx.out _ HB2.out).2
  go_wp2_with fail
  refine HCB.out.mono ?_
  rintro e w3 ⟨rfl, hb3⟩
  have HU3 : Hid (Below wU.heap.size wU w3) := below_after HU2.out hb3
  have HB3 : Hid (Below wb.heap.size wb w3) := below_after HB2.out hb3
  clear hb3 t0 t1 t2
  obtain ⟨x0, x1, x2, _, _, _⟩ := block_cells (HCx.out _ HB3.out).1
  obtain ⟨t0, t1, t2, _, _, _⟩ := block_cells (HCx.out _ HB3.out).2
  have HUO : Hid (Calls Try.prog 22 #[.agg #[.int .i64 A.v, .string A.nm, .slice A.a A.len A.cap], .agg #[.int .i64 B.v, .string B.nm, .slice B.a B.len B.cap]] w3 (UF A B w3)) := unifyOf_any A B w3 (HInb.out _ HB3.out).1 (HInb.out _ HB3.out).2 HOk.out.1 HOk.out.2
  go_wp2_with fail
  refine HUO.out.mono ?_
  intro e w4 h
  obtain ⟨hb4, Q', ok', n', er', rfl, hQ', hOut'⟩ := uf_oq h
  obtain ⟨rfl, rfl, rfl, hcs⟩ := HOut.out.same hOut'
  rw [show R4 (.slice Q'.a Q'.len Q'.cap) ok n er = .returned (.tuple #[.slice Q'.a Q'.len Q'.cap, .bool ok, .int .i64 n, .int .i64 er]) from rfl]
  have HB4 : Hid (Below wb.heap.size wb w4) := below_after HB3.out hb4
  have HQ4 : Hid (TIn w4 Q ∧ TIn w4 Q') := ⟨HQ.out.below (below_after HU3.out hb4), hQ'⟩
  have HSs : Hid (sameTs Q Q' = true) := same_kids hcs
  clear h hb4 hQ' hOut' hcs x0 x1 x2 t0 t1 t2
  go_wp2_with fail
  refine (begunU w4).mono ?_
  rintro e w5 ⟨rfl, hb5⟩
  have HB5 : Hid (Below wb.heap.size wb w5) := below_after HB4.out hb5
  have HSm : Hid (Calls Try.prog 24 #[.slice Q.a Q.len Q.cap, .slice Q'.a Q'.len Q'.cap] w5 fun e w' => e = .returned (.bool true) ∧ Below w5.heap.size w5 w') := by
    have := same18 Q Q' w5 (HQ4.out.1.below hb5) (HQ4.out.2.below hb5)
    rw [HSs.out] at this
    exact this
  clear hb5
  have hb : (ok == ok) = true := by cases ok <;> rfl
  go_wp2_with fail
  refine HSm.out.mono ?_
  rintro e w6 ⟨rfl, hb6⟩
  have HB6 : Hid (Below w.heap.size w w6) := below_after (below_after HBx.out HB5.out) hb6
  clear hb6
  go_wp2_with fail
  go_ret
  exact ⟨rfl, HB6.out⟩
end Go.Proofs.Ytmggaclaoefdaaa
