/- What HeapHangs says is true. -/
import Derived.Deep.RegionHeld3
import Derived.Test.YtmggaclaoefdaaaHb4
import Derived.Test.YtmggaclaoefdaaaHw6
import Derived.Test.YtmggaclaoefdaaaGBP
import Derived.Test.YtmggaclaoefdaaaGBO
namespace Go.Proofs.Ytmggaclaoefdaaa
open Go.RowKit
set_option linter.unusedVariables false
set_option linter.unusedSimpArgs false
attribute [local go_sem] Oper.semAt_some

theorem duo_inH {w : World} {b : Nat} {A B : Tm} {nm : ByteArray} (hb : w.heap[b]? = some (.cells #[.int .i64 A.v, .string A.nm, .slice A.a A.len A.cap, .int .i64 B.v, .string B.nm, .slice B.a B.len B.cap] 24)) (hA : TIn w A) (hB : TIn w B) (hn : nm.size ≤ maxLen) : TIn w (duo nm b A B) := by
  refine ⟨hn, by unfold maxLen; omega, fun i hi => ?_⟩
  by_cases h0 : i = 0
  · subst h0
    refine ⟨⟨b, 0, rfl, ?_, ?_, ?_⟩, hA⟩ <;> simp [World.cell?, hb]
  · obtain rfl : i = 1 := by omega
    refine ⟨⟨b, 0, rfl, ?_, ?_, ?_⟩, hB⟩ <;> simp [World.cell?, hb]
theorem UP.form {A B : Tm} {w w' : World} {e : Ending} (h : UP A B w e w') : Below w.heap.size w w' ∧ ∃ l ok n c, e = .returned (.tuple #[l, .bool ok, .int .i64 n, .int .i64 c]) := by
  obtain ⟨hB, h⟩ := h
  refine ⟨hB, ?_⟩
  rcases h with ⟨_, rfl⟩ | ⟨_, _, rfl⟩ | ⟨_, _, ⟨_, rfl⟩ | ⟨k, _, _, rfl⟩ | ⟨k, σ, _, _, _, _, ⟨_, rfl⟩ | ⟨_, g, cp, ts, _, rfl⟩⟩⟩
  all_goals exact ⟨_, _, _, _, rfl⟩
theorem uni_is {l : List Cl} {t : Nat} : uniH (hOf l) l.length ((t : Int) + 1) ((t : Int) + 2) = smH 4001 (t + 1) (t + 2) (4000, l, []) := by
  unfold uniH
  rw [range_hOf, show ((t : Int) + 1).toNat = t + 1 by omega, show ((t : Int) + 2).toNat = t + 2 by omega]
theorem none_in {len : Nat} {n : Nat} (h : n < len) : noneB len (n : Int) = false := by
  unfold noneB
  simp
  omega
/-- What Build answers of two terms in one. -/
theorem hang_two {A B : Tm} {b : Nat} {w : World} {e : Ending} {w' : World} (h : BuR (fun _ => ⟨0, 0, ⟨#[]⟩⟩) 0 (duo ⟨#[116, 119, 111]⟩ b A B) w e w') : Below w.heap.size w w' ∧ ((∃ c : Int, c ≠ 0 ∧ e = .returned (.tuple #[.slice none 0 0, .int .i64 0, .slice none 0 0, .int .i64 c])) ∨
    (checkV A = 0 ∧ checkV B = 0 ∧ ∃ (l : List Cl) (t : Nat) (sv : Option Addr) (cv g : Nat), HangB A B l t ∧ e = .returned (.tuple #[.slice sv l.length cv, .int .i64 (t : Int), .slice (some ⟨g, 0, none⟩) 12 12, .int .i64 0]) ∧ CRw w.heap.size w' (.slice sv l.length cv) l ∧ l.length ≤ cv ∧ (sv = none → l.length = 0 ∧ cv = 0))) := by
  obtain ⟨c, hc, hb, hcs⟩ := h
  refine ⟨hb, ?_⟩
  obtain rfl : c = 0 := hc.same (hg_nil _).chk
  rcases hcs with ⟨h0, _⟩ | ⟨_, ht, rfl⟩ | ⟨_, ht, ⟨_, rfl⟩ | ⟨hfew, v, g, rfl, hv, _⟩⟩
  · exact absurd rfl h0
  · exact .inl ⟨_, ht, rfl⟩
  · exact .inl ⟨2, by omega, rfl⟩
  · refine .inr ?_
    obtain ⟨t, hat, hH⟩ := hang_build (nm := ⟨#[116, 119, 111]⟩) (a := some ⟨b, 0, none⟩) (cap := 2) (f := fun i => if i = 0 then A else B) ht hfew
    have hE := err_kids (checkV_err ht)
    have hcn := checkV_cnt ht
    have hcnt : cnt (duo ⟨#[116, 119, 111]⟩ b A B) = 1 + (cnt A + cnt B) := by show 1 + (0 + cnt A + cnt B) = _; omega
    have hchk : ∀ T : Tm, err T = 0 → cnt T ≤ 60 → checkV T = 0 := fun T h1 h2 => by unfold checkV; rw [if_pos h2]; exact h1
    obtain ⟨sv, cv, hvv, hcv, _⟩ := CRw.form hv
    refine ⟨hchk A (hE.2 0 (by omega)) (by omega), hchk B (hE.2 1 (by omega)) (by omega), (putH _ 0 (duo ⟨#[116, 119, 111]⟩ b A B)).1.1, t, sv, cv, g, hH, ?_, by rw [← hvv]; exact hv, hcv, fun hs => ?_⟩
    · rw [hvv]
      show Ending.returned (.tuple #[_, .int .i64 (putH _ 0 (duo ⟨#[116, 119, 111]⟩ b A B)).2, _, _]) = _
      rw [show (putH (fun _ => (⟨0, 0, ⟨#[]⟩⟩ : Cl)) 0 (duo ⟨#[116, 119, 111]⟩ b A B)).2 = (t : Int) from hat]
    · rcases hv.2 with ⟨h1, h2⟩ | ⟨_, _, _, h1, _⟩
      · rw [hvv] at h1
        injection h1 with _ h3 h4
        exact ⟨h3, h4⟩
      · rw [hvv, hs] at h1
        injection h1 with h2
        cases h2
set_option maxRecDepth 100000 in
set_option maxHeartbeats 16000000 in
theorem law_hangs (A B : Tm) (w : World) (hA : TIn w A) (hB : TIn w B) :
    Calls Try.prog 11 #[.agg #[.int .i64 A.v, .string A.nm, .slice A.a A.len A.cap], .agg #[.int .i64 B.v, .string B.nm, .slice B.a B.len B.cap]] w fun e w' => e = .returned (.bool true) ∧ Below w.heap.size w w' := by
  obtain ⟨W0, hW0⟩ : ∃ W0, (w.alloc (.cells #[.int .i64 A.v, .string A.nm, .slice A.a A.len A.cap] 24)).alloc (.cells #[.int .i64 B.v, .string B.nm, .slice B.a B.len B.cap] 24) = W0 := ⟨_, rfl⟩
  have hB0 : Below w.heap.size w W0 := by rw [← hW0]; exact ((Below.refl _ _).alloc (Nat.le_refl _) _).alloc (by simp) _
  have h12 := alloc2 w (.cells #[.int .i64 A.v, .string A.nm, .slice A.a A.len A.cap] 24) (.cells #[.int .i64 B.v, .string B.nm, .slice B.a B.len B.cap] 24)
  rw [hW0] at h12
  have hs0 : W0.heap.size = w.heap.size + 2 := by rw [← hW0]; simp
  have HX : Hid (∀ W, Below W0.heap.size W0 W → (W.cell? ⟨w.heap.size, 0, none⟩ = some (.int .i64 A.v) ∧ W.cell? ⟨w.heap.size, 1, none⟩ = some (.string A.nm) ∧ W.cell? ⟨w.heap.size, 2, none⟩ = some (.slice A.a A.len A.cap)) ∧ W.cell? ⟨w.heap.size + 1, 0, none⟩ = some (.int .i64 B.v) ∧ W.cell? ⟨w.heap.size + 1, 1, none⟩ = some (.string B.nm) ∧ W.cell? ⟨w.heap.size + 1, 2, none⟩ = some (.slice B.a B.len B.cap)) := fun W hW => by
    have a1 := block_cells ((hW.block w.heap.size (by omega)).trans h12.1)
    have a2 := block_cells ((hW.block (w.heap.size + 1) (by omega)).trans h12.2)
    exact ⟨⟨a1.1, a1.2.1, a1.2.2.1⟩, a2.1, a2.2.1, a2.2.2.1⟩
  have HT : Hid (∀ W, Below W0.heap.size W0 W → TIn W A ∧ TIn W B) := fun W hW => ⟨hA.below (below_after2 hB0 hW), hB.below (below_after2 hB0 hW)⟩
  have HBW : Hid (Below w.heap.size w W0) := hB0
  have HW0 : Hid ((w.alloc (.cells #[.int .i64 A.v, .string A.nm, .slice A.a A.len A.cap] 24)).alloc (.cells #[.int .i64 B.v, .string B.nm, .slice B.a B.len B.cap] 24) = W0) := hW0
  clear hA hB h12 hB0 hW0
  go_enter Try.func11, Try.ntmps11
  go_wp2_with fail
  rw [HW0.out]
  refine (begunH _).mono ?_
  rintro e w1 ⟨rfl, hb1⟩
  have HB1 : Hid (Below W0.heap.size W0 w1) := hb1
  clear hb1
  go_wp2_with fail
  refine (begunU _).mono ?_
  rintro e w2 ⟨rfl, hb2⟩
  have HB2 : Hid (Below W0.heap.size W0 w2) := below_after2 HB1.out hb2
  clear hb2
  obtain ⟨⟨x0, x1, x2⟩, y0, y1, y2⟩ := HX.out w2 HB2.out
  go_wp2_with fail
  have HB3 : Hid (Below w2.heap.size w2 (w2.alloc (.cells #[.int .i64 A.v, .string A.nm, .slice A.a A.len A.cap, .int .i64 B.v, .string B.nm, .slice B.a B.len B.cap] 24))) := (Below.refl _ _).alloc (Nat.le_refl _) _
  have HX3 : Hid ((w2.alloc (.cells #[.int .i64 A.v, .string A.nm, .slice A.a A.len A.cap, .int .i64 B.v, .string B.nm, .slice B.a B.len B.cap] 24)).heap[w2.heap.size]? = some (.cells #[.int .i64 A.v, .string A.nm, .slice A.a A.len A.cap, .int .i64 B.v, .string B.nm, .slice B.a B.len B.cap] 24)) := heap_alloc_new _ _
  have hs3 : (w2.alloc (.cells #[.int .i64 A.v, .string A.nm, .slice A.a A.len A.cap, .int .i64 B.v, .string B.nm, .slice B.a B.len B.cap] 24)).heap.size = w2.heap.size + 1 := by simp
  generalize w2.alloc (.cells #[.int .i64 A.v, .string A.nm, .slice A.a A.len A.cap, .int .i64 B.v, .string B.nm, .slice B.a B.len B.cap] 24) = w3 at *
  refine (fn_any _ _ _ _ _).mono ?_
  rintro e w4 ⟨rfl, hb4⟩
  have HB4 : Hid (Below W0.heap.size W0 w4) := below_after2 (below_after2 HB2.out HB3.out) hb4
  have HD4 : Hid (TIn w4 (duo ⟨#[116, 119, 111]⟩ w2.heap.size A B)) := duo_inH ((hb4.block _ (by omega)).trans HX3.out) (HT.out _ HB4.out).1 (HT.out _ HB4.out).2 (by unfold maxLen; show 3 ≤ _; omega)
  have HBu : Hid (Calls Try.prog 42 #[.slice none 0 0, .agg #[.int .i64 0, .string ⟨#[116, 119, 111]⟩, .slice (some ⟨w2.heap.size, 0, none⟩) 2 2]] w4 (BuR (fun _ => ⟨0, 0, ⟨#[]⟩⟩) 0 (duo ⟨#[116, 119, 111]⟩ w2.heap.size A B) w4)) := build_any (duo ⟨#[116, 119, 111]⟩ w2.heap.size A B) w4 ⟨fun i hi => absurd hi (Nat.not_lt_zero i), Nat.zero_le _, fun i hi => absurd hi (Nat.not_lt_zero i)⟩ (Nat.le_refl _) (fun _ => ⟨rfl, rfl⟩) HD4.out
  clear hb4 x0 x1 x2 y0 y1 y2
  go_wp2_with fail
  refine HBu.out.mono ?_
  intro e w5 h5
  obtain ⟨hb5, h5⟩ := hang_two h5
  have HB5 : Hid (Below W0.heap.size W0 w5) := below_after2 HB4.out hb5
  have HUn : Hid (Calls Try.prog 21 #[.agg #[.int .i64 A.v, .string A.nm, .slice A.a A.len A.cap], .agg #[.int .i64 B.v, .string B.nm, .slice B.a B.len B.cap]] w5 (UP A B w5)) := unify_any A B w5 (HT.out _ HB5.out).1 (HT.out _ HB5.out).2
  obtain ⟨⟨x0, x1, x2⟩, y0, y1, y2⟩ := HX.out w5 HB5.out
  clear hb5 HBu HD4
  rcases h5 with ⟨c, hc0, rfl⟩ | ⟨hcA, hcB, l, t, sv, cv, g, hH, rfl, hv, hcv, hsv⟩
  · have hcb : (c != 0) = true := bne_iff_ne.2 hc0
    go_wp2_with fail
    refine HUn.out.mono ?_
    intro e w6 h6
    obtain ⟨hb6, l, ok, n, c', rfl⟩ := UP.form h6
    have HB6 : Hid (Below w.heap.size w w6) := below_after2 (below_after2 HBW.out HB5.out) hb6
    clear hb6 h6
    go_wp2_with fail
    go_ret
    exact ⟨rfl, HB6.out⟩
  have HHb : Hid (HangB A B l t) := hH
  have HCk : Hid (ChkR (hOf l) l.length 0) := hH.hg.chk
  have HNl : Hid (∀ c ∈ l, c.nm.size ≤ maxLen) := hH.hg.nmL
  have HRw : Hid (∀ W, Below w5.heap.size w5 W → HIn W sv l.length (hOf l)) := fun W hW => CRw.hin (hv.below hW) rfl HNl.out
  have HSv : Hid (sv = none → l.length = 0 ∧ cv = 0) := hsv
  have htl := hH.tl
  have hfew := hH.hg.ok.few
  have HMt : Hid (HangM A B t (uniH (hOf l) l.length ((t : Int) + 1) ((t : Int) + 2))) := by rw [Hid, uni_is]; exact hang_meet hH
  have hw1 : IntKind.i64.wrap ((t : Int) + 1) = (t : Int) + 1 := by simp [IntKind.wrap, IntKind.bits, IntKind.signed]; omega
  have hw2 : IntKind.i64.wrap ((t : Int) + 2) = (t : Int) + 2 := by simp [IntKind.wrap, IntKind.bits, IntKind.signed]; omega
  have HN1 : Hid (noneB l.length ((t : Int) + 1) = false ∧ noneB l.length ((t : Int) + 2) = false ∧ noneB l.length (t : Int) = false) := ⟨none_in (n := t + 1) (by omega), none_in (n := t + 2) (by omega), none_in (by omega)⟩
  have HDr : Hid (∀ W, Below w5.heap.size w5 W → Calls Try.prog 34 #[.slice sv l.length cv, .int .i64 (t : Int)] W fun e w' => e = .returned (.tuple #[.int .i64 (t : Int), .int .i64 0]) ∧ Below W.heap.size W w') := fun W hW => by
    refine (hderef_any (t : Int) W (HRw.out _ hW) hcv).mono ?_
    rintro e w' ⟨r, c, rfl, h1, hb⟩
    rcases h1 with ⟨h1, h2, _⟩ | ⟨_, _, h2, _⟩ | ⟨_, rfl, _, rfl⟩
    · exact absurd (h2.same HCk.out) h1
    · rw [HN1.out.2.2] at h2; cases h2
    · refine ⟨?_, hb⟩
      rw [Int.toNat_natCast, HHb.out.te]
  have HUh : Hid (∀ W, Below w5.heap.size w5 W → Calls Try.prog 46 #[.slice sv l.length cv, .int .i64 ((t : Int) + 1), .int .i64 ((t : Int) + 2)] W (UnR (hOf l) l.length ((t : Int) + 1) ((t : Int) + 2) W)) := fun W hW => hunify_any _ _ W (HRw.out _ hW) hcv HSv.out
  have HoA : Hid (Okv 12 A) := okv_of_err A (checkV_err hcA)
  have HoB : Hid (Okv 12 B) := okv_of_err B (checkV_err hcB)
  have HcA : Hid (checkV A = 0) := hcA
  have HcB : Hid (checkV B = 0) := hcB
  clear hH hv hsv hcA hcB
  go_wp2_with fail
  refine HUn.out.mono ?_
  rintro e w6 ⟨hb6, h6⟩
  have HB56 : Hid (Below w5.heap.size w5 w6) := hb6
  have HB6 : Hid (Below W0.heap.size W0 w6) := below_after2 HB5.out hb6
  clear hb6 x0 x1 x2 y0 y1 y2 HUn
  have fin : ∀ (v : Value) (ok : Bool) (n c : Int), R4 v ok n c = .returned (.tuple #[v, .bool ok, .int .i64 n, .int .i64 c]) := fun _ _ _ _ => rfl
  rcases h6 with ⟨h1, rfl⟩ | ⟨_, h1, rfl⟩ | ⟨_, _, ⟨_, rfl⟩ | ⟨k, hk4, hM, rfl⟩ | ⟨k, τ, hk4, hM, _, _, ⟨_, rfl⟩ | ⟨hr, gl, cpl, ts, hL, rfl⟩⟩⟩
  · exact absurd HcA.out h1
  · exact absurd HcB.out h1
  · rw [fin]
    clear fin
    go_wp2_with fail
    go_ret
    exact ⟨rfl, below_after2 HBW.out HB6.out⟩
  · -- they can't be the same
    have HM : Hid (meetF 4001 σ0 4000 [(A, B)] = .no k) := hM
    rw [fin]
    clear fin hM
    go_wp2_with fail
    refine (HDr.out _ HB56.out).mono ?_
    rintro e w7 ⟨rfl, hb7⟩
    have HB57 : Hid (Below w5.heap.size w5 w7) := below_after2 HB56.out hb7
    have HU7 := HUh.out _ HB57.out
    clear hb7
    go_wp2_with fail
    refine HU7.mono ?_
    rintro e w8 ⟨hb8, h8⟩
    have HB8 : Hid (Below w.heap.size w w8) := below_after2 (below_after2 (below_after2 HBW.out HB5.out) HB57.out) hb8
    obtain ⟨hok, hleft⟩ := hang_no HMt.out HM.out
    rcases h8 with ⟨c, rfl, h8⟩ | ⟨_, _, _, ⟨h8, _⟩ | ⟨_, _, rfl⟩ | ⟨_, h8, _⟩⟩
    · exfalso
      rcases h8 with ⟨h1, h2⟩ | ⟨_, _, h2⟩
      · exact h1 (h2.same HCk.out)
      · rcases h2 with h2 | h2
        · rw [HN1.out.1] at h2; cases h2
        · rw [HN1.out.2.1] at h2; cases h2
    · rw [hleft] at h8; omega
    · rw [hleft, show U5 (.slice none 0 0) (.slice none 0 0) false (4000 - (k : Int)) 0 = .returned (.tuple #[.slice none 0 0, .slice none 0 0, .bool false, .int .i64 (4000 - (k : Int)), .int .i64 0]) from rfl]
      have hkk : (4000 - (k : Int) != 4000 - (k : Int)) = false := by simp
      generalize 4000 - (k : Int) = wx at *
      clear hleft hok hb8
      go_wp2_with fail
      go_ret
      exact ⟨rfl, HB8.out⟩
    · rw [hok] at h8; cases h8
  · rw [fin]
    clear fin
    go_wp2_with fail
    go_ret
    exact ⟨rfl, below_after2 HBW.out HB6.out⟩
  · -- they can
    have HM : Hid (meetF 4001 σ0 4000 [(A, B)] = .yes k τ) := hM
    have HRm : Hid (∀ i : Nat, i < 12 → ∃ k, roomF τ 200 [vT ((i : Int) + 1)] = some k) := hr
    obtain ⟨Y, hvY, hY, hYA, hYS⟩ := hL.terms
    injection hvY with hv1 hv2 hv3
    have HY : Hid (∀ W, Below w6.heap.size w6 W → TIn W Y) := fun W hW => hY.below hW
    have HYc : Hid (Y.a = some ⟨gl, 0, none⟩ ∧ Y.len = 12 ∧ Y.cap = cpl) := ⟨hv1.symm, hv2.symm, hv3.symm⟩
    have HAp : Hid (ap (byOf Y) A = ap (ans τ) A) := ap_congr (fun v h0 h1 => by
      have h9 := hYS.2 (v.toNat - 1) (by omega)
      have h8 : Sim (Y.f (v.toNat - 1)) (ex τ 200 (vT (((v.toNat - 1 : Nat) : Int) + 1))) := by simpa [List.getD, show v.toNat - 1 < 12 by omega] using h9
      have := sim_can h8
      rw [show (((v.toNat - 1 : Nat) : Int) + 1) = v from by omega] at this
      exact this) A HoA.out
    obtain ⟨s, hrs, hsk⟩ := hang_is HMt.out hM
    rw [hrs] at HMt
    obtain ⟨_, hoU, hnU, hst⟩ := hang_yes HMt.out HoA.out HoB.out hM hr
    have HoU : Hid (Okv 12 (ap (ans τ) A)) := hoU
    have HnU : Hid (newN (std (hOf s.2.1) s.2.1.length (t + 1)) = newN (ap (ans τ) A)) := hnU
    have HSt : Hid (std (hOf s.2.1) s.2.1.length (t + 2) = std (hOf s.2.1) s.2.1.length (t + 1)) := hst
    have HGs : Hid (HG (hOf s.2.1) s.2.1.length ∧ s.2.1.length = l.length) := by
      have h9 := smH_good 4001 (t + 1) (t + 2) (4000, l, []) ⟨HHb.out.hg, HNl.out⟩ (by show t + 1 < l.length; omega) (by show t + 2 < l.length; omega)
      rw [← uni_is, hrs] at h9
      exact ⟨h9.hg, h9.len⟩
    have Hrs : Hid (uniH (hOf l) l.length ((t : Int) + 1) ((t : Int) + 2) = .yes s) := hrs
    have Hsk : Hid (s.1 = k) := hsk
    rw [fin]
    clear fin hM hr hL hY hYA hYS hv1 hv2 hv3 hrs hsk hoU hnU hst
    go_wp2_with fail
    refine (HDr.out _ HB56.out).mono ?_
    rintro e w7 ⟨rfl, hb7⟩
    have HB57 : Hid (Below w5.heap.size w5 w7) := below_after2 HB56.out hb7
    have HB67 : Hid (Below w6.heap.size w6 w7) := hb7
    have HU7 := HUh.out _ HB57.out
    clear hb7
    go_wp2_with fail
    refine HU7.mono ?_
    rintro e w8 ⟨hb8, h8⟩
    have HB8 : Hid (Below w.heap.size w w8) := below_after2 (below_after2 (below_after2 HBW.out HB5.out) HB57.out) hb8
    have HB68 : Hid (Below w6.heap.size w6 w8) := below_after2 HB67.out hb8
    rw [Hrs.out] at h8
    rcases h8 with ⟨c, rfl, h8⟩ | ⟨_, _, _, ⟨h8, _⟩ | ⟨_, h8, _⟩ | ⟨_, _, xv, bv, rfl, hxv, _⟩⟩
    · exfalso
      rcases h8 with ⟨h1, h2⟩ | ⟨_, _, h2⟩
      · exact h1 (h2.same HCk.out)
      · rcases h2 with h2 | h2
        · rw [HN1.out.1] at h2; cases h2
        · rw [HN1.out.2.1] at h2; cases h2
    · exfalso
      have : (s.1 : Int) < 0 := h8
      omega
    · cases h8
    · have hxv' : CRw w7.heap.size w8 xv s.2.1 := hxv
      obtain ⟨sx, cx, rfl, hcx, _⟩ := CRw.form hxv'
      have HRx : Hid (∀ W, Below w8.heap.size w8 W → HIn W sx s.2.1.length (hOf s.2.1)) := fun W hW => CRw.hin (hxv'.below hW) rfl HGs.out.1.nmL
      have hlen : s.2.1.length = l.length := HGs.out.2
      have HRd1 : Hid (∀ W, Below w8.heap.size w8 W → Calls Try.prog 35 #[.slice sx s.2.1.length cx, .int .i64 ((t : Int) + 1)] W fun e w' => ∃ (X : Tm) (L : Value) (c : Int), e = .returned (.tuple #[.agg #[.int .i64 X.v, .string X.nm, .slice X.a X.len X.cap], L, .int .i64 c]) ∧ ((c = 2 ∧ 200 < cntA (hOf s.2.1) s.2.1.length (t + 1)) ∨ (c = 0 ∧ cntA (hOf s.2.1) s.2.1.length (t + 1) ≤ 200 ∧ can X = newN (std (hOf s.2.1) s.2.1.length (t + 1)))) ∧ TIn w' X ∧ Below W.heap.size W w') := fun W hW => by
        refine (hread_any ((t : Int) + 1) W (HRx.out _ hW) hcx).mono ?_
        rintro e w' ⟨X, L, li, c, rfl, hR, hX, _, hb⟩
        refine ⟨X, L, c, rfl, ?_, hX, hb⟩
        have hck := HGs.out.1.chk
        unfold RdR at hR
        rw [show ((t : Int) + 1).toNat = t + 1 by omega] at hR
        rcases hR with ⟨h1, h2, _⟩ | ⟨_, _, h2, _⟩ | ⟨_, _, h2, h3, _⟩ | ⟨_, _, h2, h3, h4, _⟩
        · exact absurd (h2.same hck) h1
        · exact absurd h2 (by rw [show noneB s.2.1.length ((t : Int) + 1) = false from none_in (n := t + 1) (by omega)]; simp)
        · exact .inl ⟨h2, h3⟩
        · exact .inr ⟨h2, h3, h4⟩
      have HRd2 : Hid (∀ W, Below w8.heap.size w8 W → Calls Try.prog 35 #[.slice sx s.2.1.length cx, .int .i64 ((t : Int) + 2)] W fun e w' => ∃ (X : Tm) (L : Value) (c : Int), e = .returned (.tuple #[.agg #[.int .i64 X.v, .string X.nm, .slice X.a X.len X.cap], L, .int .i64 c]) ∧ ((c = 2 ∧ 200 < cntA (hOf s.2.1) s.2.1.length (t + 1)) ∨ (c = 0 ∧ cntA (hOf s.2.1) s.2.1.length (t + 1) ≤ 200 ∧ can X = newN (std (hOf s.2.1) s.2.1.length (t + 1)))) ∧ TIn w' X ∧ Below W.heap.size W w') := fun W hW => by
        refine (hread_any ((t : Int) + 2) W (HRx.out _ hW) hcx).mono ?_
        rintro e w' ⟨X, L, li, c, rfl, hR, hX, _, hb⟩
        refine ⟨X, L, c, rfl, ?_, hX, hb⟩
        have hck := HGs.out.1.chk
        have hcc : cntA (hOf s.2.1) s.2.1.length (t + 2) = cntA (hOf s.2.1) s.2.1.length (t + 1) := by unfold cntA; rw [HSt.out]
        unfold RdR at hR
        rw [show ((t : Int) + 2).toNat = t + 2 by omega, hcc, HSt.out] at hR
        rcases hR with ⟨h1, h2, _⟩ | ⟨_, _, h2, _⟩ | ⟨_, _, h2, h3, _⟩ | ⟨_, _, h2, h3, h4, _⟩
        · exact absurd (h2.same hck) h1
        · exact absurd h2 (by rw [show noneB s.2.1.length ((t : Int) + 2) = false from none_in (n := t + 2) (by omega)]; simp)
        · exact .inl ⟨h2, h3⟩
        · exact .inr ⟨h2, h3, h4⟩
      have hms : (4000 - (MR.yes s).left) = 4000 - (k : Int) := by show 4000 - (s.1 : Int) = _; rw [Hsk.out]
      rw [hms, show U5 (.slice sx s.2.1.length cx) bv true (4000 - (k : Int)) 0 = .returned (.tuple #[.slice sx s.2.1.length cx, bv, .bool true, .int .i64 (4000 - (k : Int)), .int .i64 0]) from rfl]
      have hkk : (4000 - (k : Int) != 4000 - (k : Int)) = false := by simp
      generalize 4000 - (k : Int) = wx at *
      generalize cntA (hOf s.2.1) s.2.1.length (t + 1) = cn at *
      generalize hsl : s.2.1.length = sl at *
      have hRd1 := HRd1.out w8 (Below.refl _ _)
      clear hxv hxv' hb8 hms hsl hlen
      go_wp2_with fail
      refine hRd1.mono ?_
      rintro e w9 ⟨X1, L1, c1, rfl, hc1, hX1, hb9⟩
      have HC1 : Hid ((c1 = 2 ∧ 200 < cn) ∨ (c1 = 0 ∧ cn ≤ 200 ∧ can X1 = newN (std (hOf s.2.1) sl (t + 1)))) := hc1
      have HB9 : Hid (Below w9.heap.size w9 (w9.alloc (.cells #[.int .i64 X1.v, .string X1.nm, .slice X1.a X1.len X1.cap] 24))) := (Below.refl _ _).alloc (Nat.le_refl _) _
      have HX9 : Hid ((w9.alloc (.cells #[.int .i64 X1.v, .string X1.nm, .slice X1.a X1.len X1.cap] 24)).heap[w9.heap.size]? = some (.cells #[.int .i64 X1.v, .string X1.nm, .slice X1.a X1.len X1.cap] 24)) := heap_alloc_new _ _
      have HT9 : Hid (TIn (w9.alloc (.cells #[.int .i64 X1.v, .string X1.nm, .slice X1.a X1.len X1.cap] 24)) X1) := hX1.below HB9.out
      have HB89 : Hid (Below w8.heap.size w8 (w9.alloc (.cells #[.int .i64 X1.v, .string X1.nm, .slice X1.a X1.len X1.cap] 24))) := below_after2 hb9 HB9.out
      have hs9 : (w9.alloc (.cells #[.int .i64 X1.v, .string X1.nm, .slice X1.a X1.len X1.cap] 24)).heap.size = w9.heap.size + 1 := by simp
      have hRd2 := HRd2.out _ HB89.out
      have HS9 : Hid (w8.heap.size ≤ w9.heap.size) := hb9.size
      clear hc1 hX1 hb9 hRd1
      go_wp2_with fail
      generalize w9.alloc (.cells #[.int .i64 X1.v, .string X1.nm, .slice X1.a X1.len X1.cap] 24) = wA at *
      refine hRd2.mono ?_
      rintro e w10 ⟨X2, L2, c2, rfl, hc2, hX2, hb10⟩
      have HB10 : Hid (Below w10.heap.size w10 (w10.alloc (.cells #[.int .i64 X2.v, .string X2.nm, .slice X2.a X2.len X2.cap] 24))) := (Below.refl _ _).alloc (Nat.le_refl _) _
      have HX10 : Hid ((w10.alloc (.cells #[.int .i64 X2.v, .string X2.nm, .slice X2.a X2.len X2.cap] 24)).heap[w10.heap.size]? = some (.cells #[.int .i64 X2.v, .string X2.nm, .slice X2.a X2.len X2.cap] 24)) := heap_alloc_new _ _
      have HT10 : Hid (TIn (w10.alloc (.cells #[.int .i64 X2.v, .string X2.nm, .slice X2.a X2.len X2.cap] 24)) X2 ∧ TIn (w10.alloc (.cells #[.int .i64 X2.v, .string X2.nm, .slice X2.a X2.len X2.cap] 24)) X1) := ⟨hX2.below HB10.out, (HT9.out.below hb10).below HB10.out⟩
      have HX11 : Hid ((w10.alloc (.cells #[.int .i64 X2.v, .string X2.nm, .slice X2.a X2.len X2.cap] 24)).heap[w9.heap.size]? = some (.cells #[.int .i64 X1.v, .string X1.nm, .slice X1.a X1.len X1.cap] 24)) := (HB10.out.block _ (by have := hb10.size; omega)).trans ((hb10.block _ (by omega)).trans HX9.out)
      have HB810 : Hid (Below w8.heap.size w8 (w10.alloc (.cells #[.int .i64 X2.v, .string X2.nm, .slice X2.a X2.len X2.cap] 24))) := below_after2 (below_after2 HB89.out hb10) HB10.out
      have hs10 : (w10.alloc (.cells #[.int .i64 X2.v, .string X2.nm, .slice X2.a X2.len X2.cap] 24)).heap.size = w10.heap.size + 1 := by simp
      have HS10 : Hid (w9.heap.size < w10.heap.size) := by have := hb10.size; rw [Hid]; omega
      have hcc : (c1 = 2 ∧ c2 = 2) ∨ (c1 = 0 ∧ c2 = 0 ∧ can X1 = newN (std (hOf s.2.1) sl (t + 1)) ∧ can X2 = newN (std (hOf s.2.1) sl (t + 1))) := by
        rcases HC1.out with ⟨a, b⟩ | ⟨a, b, c⟩ <;> rcases hc2 with ⟨a', b'⟩ | ⟨a', b', c'⟩
        · exact .inl ⟨a, a'⟩
        · omega
        · omega
        · exact .inr ⟨a, a', c, c'⟩
      clear hc2 hX2 hb10 hRd2
      rcases hcc with ⟨rfl, rfl⟩ | ⟨rfl, rfl, hx1, hx2⟩
      · go_wp2_with fail
        go_ret
        exact ⟨rfl, below_after2 HB8.out HB810.out⟩
      have HE12 : Hid (can X1 = can X2) := hx1.trans hx2.symm
      have HE1 : Hid (can X1 = newN (ap (ans τ) A)) := hx1.trans HnU.out
      obtain ⟨j0, hj, hj0, hj1, hj2⟩ := info_parts Try.info3
      clear hx1 hx2
      go_wp2_with (at_make; refine wpList_make_full _ rfl _ _ 56 rfl (w10.heap.size + 1) 3 j0 (.int .i64 0) 1 Try.underlying56 hj hj0 hj1 _ _ _ _ 13 rfl rfl rfl rfl (by rw [hj2]; omega) (by unfold maxLen; omega) (by omega) ?_; intro wm hom hgm; rw [made1 _ rfl] at hom; have HOm : Hid (wm.ownsRow (w10.heap.size + 1) 3 1 (.slice (some ⟨w10.heap.size + 1, 0, none⟩) 13 13) 13 (NmL [])) := (by rw [Hid, ← hs10, show NmL [] = (List.range 13).map fun _ : Nat => Value.int .i64 0 from rfl]; exact (by rw [hs10] at hom ⊢; exact hom)); have HBm : Hid (Below (w10.heap.size + 1) (w10.alloc (.cells #[.int .i64 X2.v, .string X2.nm, .slice X2.a X2.len X2.cap] 24)) wm) := ⟨hgm.os, hgm.tape, hgm.output, hgm.size, fun k hk => hgm.block k (by omega) (by simp)⟩; clear hom hgm)
      rw [← hs10] at HBm
      have hom := HOm.out
      have hgn := hom.lt (w10.heap.size + 1) rfl
      have hs6 := HB68.out.size
      have hs810 := HB810.out.size
      generalize hwx : w10.alloc (.cells #[.int .i64 X2.v, .string X2.nm, .slice X2.a X2.len X2.cap] 24) = wX at *
      have HNB : Hid (NB (w10.heap.size + 1) X1 ∧ NB (w10.heap.size + 1) X2 ∧ NB (w10.heap.size + 1) Y ∧ NB (w10.heap.size + 1) A) := ⟨HT10.out.2.nb (by omega), HT10.out.1.nb (by omega), (HY.out _ (below_after2 HB68.out HB810.out)).nb (by omega), ((HT.out _ (below_after2 (below_after2 HB6.out HB68.out) HB810.out)).1).nb (by omega)⟩
      have HBwX : Hid (Below W0.heap.size W0 wX) := below_after2 (below_after2 HB6.out HB68.out) HB810.out
      have HwXs : Hid (wX.heap.size = w10.heap.size + 1) := hs10
      have hS9 := HS9.out
      have hS10 := HS10.out
      have hs06 := HBwX.out.size
      -- what holds while only the numbers turn
      have HKp : Hid (∀ W, Bw (fun k => k = w10.heap.size + 1) wm.heap.size wm W → ((W.cell? ⟨w9.heap.size, 0, none⟩ = some (.int .i64 X1.v) ∧ W.cell? ⟨w9.heap.size, 1, none⟩ = some (.string X1.nm) ∧ W.cell? ⟨w9.heap.size, 2, none⟩ = some (.slice X1.a X1.len X1.cap)) ∧ (W.cell? ⟨w10.heap.size, 0, none⟩ = some (.int .i64 X2.v) ∧ W.cell? ⟨w10.heap.size, 1, none⟩ = some (.string X2.nm) ∧ W.cell? ⟨w10.heap.size, 2, none⟩ = some (.slice X2.a X2.len X2.cap)) ∧ W.cell? ⟨w.heap.size, 0, none⟩ = some (.int .i64 A.v) ∧ W.cell? ⟨w.heap.size, 1, none⟩ = some (.string A.nm) ∧ W.cell? ⟨w.heap.size, 2, none⟩ = some (.slice A.a A.len A.cap)) ∧ TIn W X1 ∧ TIn W X2 ∧ TIn W Y ∧ TIn W A) := fun W hW => by
        have hms := HBm.out.size
        have hcell : ∀ (b i : Nat) (v : Value), b < wX.heap.size → wX.cell? ⟨b, i, none⟩ = some v → W.cell? ⟨b, i, none⟩ = some v := fun b i v hb hc => (hW.cell (p := ⟨b, i, none⟩) (by show b < wm.heap.size; omega) (by show ¬ (b = w10.heap.size + 1); omega)).trans ((HBm.out.cell (p := ⟨b, i, none⟩) hb).trans hc)
        have htin : ∀ T : Tm, TIn wX T → NB (w10.heap.size + 1) T → TIn W T := fun T h1 h2 => (h1.below HBm.out).grown (Bw.g hW) (fun k hk => by obtain rfl := Option.some.inj hk; exact h2)
        have q1 := block_cells HX11.out
        have q2 := block_cells HX10.out
        have q3 := (HX.out wX HBwX.out).1
        exact ⟨⟨⟨hcell _ _ _ (by omega) q1.1, hcell _ _ _ (by omega) q1.2.1, hcell _ _ _ (by omega) q1.2.2.1⟩, ⟨hcell _ _ _ (by omega) q2.1, hcell _ _ _ (by omega) q2.2.1, hcell _ _ _ (by omega) q2.2.2.1⟩, hcell _ _ _ (by omega) q3.1, hcell _ _ _ (by omega) q3.2.1, hcell _ _ _ (by omega) q3.2.2⟩, htin _ HT10.out.2 HNB.out.1, htin _ HT10.out.1 HNB.out.2.1, htin _ (HY.out _ (below_after2 HB68.out HB810.out)) HNB.out.2.2.1, htin _ (HT.out _ HBwX.out).1 HNB.out.2.2.2⟩
      have HSm : Hid (∀ W, Bw (fun k => k = w10.heap.size + 1) wm.heap.size wm W → Calls Try.prog 25 #[.agg #[.int .i64 X1.v, .string X1.nm, .slice X1.a X1.len X1.cap], .agg #[.int .i64 X2.v, .string X2.nm, .slice X2.a X2.len X2.cap]] W fun e w' => e = .returned (.bool true) ∧ Below W.heap.size W w') := fun W hW => by
        refine (same36 X1 X2 W (HKp.out _ hW).2.1 (HKp.out _ hW).2.2.1).mono ?_
        rintro e w' ⟨rfl, hb⟩
        rw [(same_can X1 X2).2 HE12.out]
        exact ⟨rfl, hb⟩
      have HPu : Hid (∀ W, Bw (fun k => k = w10.heap.size + 1) wm.heap.size wm W → Calls Try.prog 26 #[.agg #[.int .i64 A.v, .string A.nm, .slice A.a A.len A.cap], .slice (some ⟨gl, 0, none⟩) 12 cpl] W fun e w' => ∃ P : Tm, e = .returned (.agg #[.int .i64 P.v, .string P.nm, .slice P.a P.len P.cap]) ∧ Below W.heap.size W w' ∧ TIn w' P ∧ NB (w10.heap.size + 1) P ∧ Okv 12 P ∧ can P = ap (ans τ) A) := fun W hW => by
        have h9 := putIn_all A Y W (HKp.out _ hW).2.2.2.1 HYc.out.2.1 (HKp.out _ hW).2.2.2.2 HoA.out
        rw [HYc.out.1, HYc.out.2.1, HYc.out.2.2] at h9
        refine h9.mono ?_
        rintro e w' ⟨P, rfl, h1, h2, h3, h4⟩
        have h5 : can P = ap (ans τ) A := h3.trans HAp.out
        exact ⟨P, rfl, h1, h2, h4 _ (by have := hW.size; omega) HNB.out.2.2.1, okv_ofcan (by rw [h5]; exact HoU.out) ⟨_, h2⟩, h5⟩
      have HBf : Hid (Below w.heap.size w wm) := by
        have h9 := below_after2 HBwX.out HBm.out
        exact below_after2 HBW.out h9
      have HB0 : Hid (Bw (fun k => k = w10.heap.size + 1) wm.heap.size wm wm) := Bw.refl _ _ _
      have HRo : Hid (wm.ownsRow (w10.heap.size + 1) 3 1 (.slice (some ⟨w10.heap.size + 1, 0, none⟩) 13 13) 13 (NmL [])) := HOm.out
      obtain ⟨⟨⟨p0, p1, p2⟩, ⟨q0, q1, q2⟩, r0, r1, r2⟩, _⟩ := HKp.out wm (Bw.refl _ _ _)
      have hsw : w.heap.size ≤ w10.heap.size := by omega
      clear hom hs6 hs810 hS9 hS10 hs06 hwx
      have tok : True := trivial
      go_wp2_with fail
      go_region_held3 (fun W => (W.cell? ⟨w9.heap.size, 0, none⟩ = some (.int .i64 X1.v) ∧ W.cell? ⟨w9.heap.size, 1, none⟩ = some (.string X1.nm) ∧ W.cell? ⟨w9.heap.size, 2, none⟩ = some (.slice X1.a X1.len X1.cap)) ∧ (W.cell? ⟨w10.heap.size, 0, none⟩ = some (.int .i64 X2.v) ∧ W.cell? ⟨w10.heap.size, 1, none⟩ = some (.string X2.nm) ∧ W.cell? ⟨w10.heap.size, 2, none⟩ = some (.slice X2.a X2.len X2.cap)) ∧ W.cell? ⟨w.heap.size, 0, none⟩ = some (.int .i64 A.v) ∧ W.cell? ⟨w.heap.size, 1, none⟩ = some (.string A.nm) ∧ W.cell? ⟨w.heap.size, 2, none⟩ = some (.slice A.a A.len A.cap)) ((refine (HKp.out _ ?_).1; repeat (first | exact HB0.out | refine Bw.drew ?_))) (first
        | (go_at_call 25
           with_reducible show Calls Try.prog _ #[_, .agg #[.int .i64 X2.v, .string X2.nm, .slice X2.a X2.len X2.cap]] _ _
           refine (HSm.out _ (by repeat (first | exact HB0.out | refine Bw.drew ?_))).mono ?_
           rintro e wk ⟨rfl, hb⟩
           replace HB0 : Hid (Bw (fun k => k = w10.heap.size + 1) wm.heap.size wm wk) := Bw.trans (by repeat (first | exact HB0.out | refine Bw.drew ?_)) (Bw.ofBelow (hb.mono (by first | exact HB0.out.size | simpa using HB0.out.size)))
           replace HRo : Hid (wk.ownsRow (w10.heap.size + 1) 3 1 (.slice (some ⟨w10.heap.size + 1, 0, none⟩) 13 13) 13 (NmL [])) := World.ownsRow.kept (by first | exact HRo.out | exact ownsRow_drew HRo.out) (grown_of_below hb none) (kept_none _)
           clear hb)
        | (go_at_call 26
           refine (HPu.out _ (by repeat (first | exact HB0.out | refine Bw.drew ?_))).mono ?_
           rintro e wp ⟨P, rfl, hb, hP, hPn, hPo, hPc⟩
           replace HB0 : Hid (Bw (fun k => k = w10.heap.size + 1) wm.heap.size wm wp) := Bw.trans (by repeat (first | exact HB0.out | refine Bw.drew ?_)) (Bw.ofBelow (hb.mono (by first | exact HB0.out.size | simpa using HB0.out.size)))
           replace HRo : Hid (wp.ownsRow (w10.heap.size + 1) 3 1 (.slice (some ⟨w10.heap.size + 1, 0, none⟩) 13 13) 13 (NmL [])) := World.ownsRow.kept (by first | exact HRo.out | exact ownsRow_drew HRo.out) (grown_of_below hb none) (kept_none _)
           have HP : Hid (TIn wp P ∧ NB (w10.heap.size + 1) P ∧ Okv 12 P ∧ can P = ap (ans τ) A) := ⟨hP, hPn, hPo, hPc⟩
           clear hb hP hPn hPo hPc)
        | (go_at_call 49
           refine (anew_all P (w10.heap.size + 1) (w10.heap.size + 1) [] _ HP.out.2.2.1 (by first | exact HP.out.1 | exact HP.out.1.below ((Below.refl _ _).drew)) HP.out.2.1 ⟨List.nodup_nil, fun u hu => by cases hu⟩ (by first | exact HRo.out | exact ownsRow_drew HRo.out)).mono ?_
           rintro e wn ⟨Z, rfl, _, hbn, hZ, hZc, _⟩
           rw [show Z.val = .agg #[.int .i64 Z.v, .string Z.nm, .slice Z.a Z.len Z.cap] from rfl]
           have HBz := HB0.out.size
           replace HB0 : Hid (Bw (fun k => k = w10.heap.size + 1) wm.heap.size wm wn) := Bw.trans (by repeat (first | exact HB0.out | refine Bw.drew ?_)) (hbn.mono (by first | exact HBz | simpa using HBz))
           have HZ : Hid (TIn wn Z ∧ can Z = newN P) := ⟨hZ, hZc⟩
           clear hbn hZ hZc HBz HRo)
        | (go_at_call 25
           refine (same36 X1 Z _ (HKp.out _ (by repeat (first | exact HB0.out | refine Bw.drew ?_))).2.1 (by first | exact HZ.out.1 | exact HZ.out.1.below ((Below.refl _ _).drew))).mono ?_
           rintro e wk ⟨rfl, hb⟩
           rw [(same_can X1 Z).2 (HE1.out.trans ((by rw [← HP.out.2.2.2, newN_can]; exact HZ.out.2.symm)))]
           replace HB0 : Hid (Bw (fun k => k = w10.heap.size + 1) wm.heap.size wm wk) := Bw.trans (by repeat (first | exact HB0.out | refine Bw.drew ?_)) (Bw.ofBelow (hb.mono (by first | exact HB0.out.size | simpa using HB0.out.size)))
           clear hb))
      all_goals
        go_wp2_with fail
        go_ret
        refine ⟨rfl, ?_⟩
        have hbz : Bw (fun k => k = w10.heap.size + 1) wm.heap.size wm _ := (by repeat (first | exact HB0.out | refine Bw.drew ?_))
        have hzz := HBf.out.size
        exact HBf.out.trans ⟨hbz.os, hbz.tape, hbz.output, hbz.size, fun k hk => hbz.block k (by omega) (by omega)⟩
end Go.Proofs.Ytmggaclaoefdaaa
