/- The law TextBack, walked. -/
import Derived.Test.YtmggaclaoefdaaaDoorKans
namespace Go.Proofs.YtmggaclaoefdaaaDoor
open Go.RowKit

set_option maxRecDepth 100000 in
set_option maxHeartbeats 16000000 in
theorem law5 (P : Pg) (Q : Tm) (s : ByteArray) (w : World) (hP : PIn w P) (hQ : TIn w Q) (hs : s.size ≤ maxLen) :
    Calls Tryd.prog 5 #[.slice P.a P.len P.cap, .slice Q.a Q.len Q.cap, .string s] w fun e w' => e = .returned (.bool true) ∧ Below w.heap.size w w' := by
  have HIn : Hid (∀ w', Below w.heap.size w w' → PIn w' P ∧ TIn w' Q) := fun w' hb => ⟨hP.below hb, hQ.below hb⟩
  have HS : Hid (s.size ≤ maxLen) := hs
  have HB : Hid (Below w.heap.size w w) := Below.refl _ _
  clear hP hQ hs
  go_enter Tryd.func5, Tryd.ntmps5
  go_wp2_with fail
  refine (begun12 _).mono ?_
  rintro e wc ⟨rfl, hb⟩
  replace HB : Hid (Below w.heap.size w wc) := HB.out.trans (hb.mono HB.out.size)
  clear hb
  go_wp2_with fail
  refine (print_any P _ (HIn.out _ HB.out).1).mono ?_
  rintro e wc ⟨rfl, hb⟩
  replace HB : Hid (Below w.heap.size w wc) := HB.out.trans (hb.mono HB.out.size)
  clear hb
  have HT0 : Hid ((⟨(printV P).toArray⟩ : ByteArray).data.toList = printV P) := rfl
  generalize (⟨(printV P).toArray⟩ : ByteArray) = t at *
  by_cases hv : progV P = 0
  case' neg =>
    have hvb : (progV P == 0) = false := beq_eq_false_iff_ne.2 hv
    clear hv HT0
    go_wp2_with fail
  case' pos =>
    have HV : Hid (progV P = 0) := hv
    have HT : Hid (t.data.toList = progT P) := by rw [Hid, HT0.out, printV, if_pos hv]
    have htm : t.size ≤ 2 ^ 63 - 1 := by
      have h1 := pgTo_bd (okP_prog hv).2
      have h2 := (okP_prog hv).1
      have h3 : t.size = (progT P).length := by rw [← HT.out]; exact size_list t
      have h4 : (progT P).length ≤ 5044 * P.len := h1
      omega
    rw [hv]
    clear hv HT0
    by_cases h6 : t.size ≤ 6000
    case' neg =>
      have hd : decide ((t.size : Int) ≤ 6000) = false := decide_eq_false (by omega)
      go_wp2_with fail
    case' pos =>
      have hd : decide ((t.size : Int) ≤ 6000) = true := decide_eq_true (by omega)
      have H6 : Hid (t.size ≤ 6000) := h6
      clear h6
      go_wp2_with fail
      refine (parse_k (t.size + 1) t _ (by have := H6.out; unfold maxLen; omega) (by omega)).mono ?_
      rintro e wc ⟨X, a, k, rfl, hK, hX, hb⟩
      obtain ⟨rfl, hsm⟩ := hK.back HT.out HV.out H6.out (by omega)
      have HX : Hid (PIn wc X) := hX
      have HSM : Hid (samePg X P = true) := hsm
      replace HB : Hid (Below w.heap.size w wc) := HB.out.trans (hb.mono HB.out.size)
      clear hK hX hb hsm
      go_wp2_with fail
      refine (same17 X P _ HX.out (HIn.out _ HB.out).1 HSM.out).mono ?_
      rintro e wc ⟨rfl, hb⟩
      replace HB : Hid (Below w.heap.size w wc) := HB.out.trans (hb.mono HB.out.size)
      clear hb HX HSM
      go_wp2_with fail
  all_goals
    refine (goals_any Q _ (HIn.out _ HB.out).2).mono ?_
    rintro e wc ⟨rfl, hb⟩
    replace HB : Hid (Below w.heap.size w wc) := HB.out.trans (hb.mono HB.out.size)
    clear hb
    have HU0 : Hid ((⟨(goalsV Q).toArray⟩ : ByteArray).data.toList = goalsV Q) := rfl
    generalize (⟨(goalsV Q).toArray⟩ : ByteArray) = u at *
    by_cases hq : queryV Q = 0
    case' neg =>
      have hqb : (queryV Q == 0) = false := beq_eq_false_iff_ne.2 hq
      clear hq HU0
      go_wp2_with fail
    case' pos =>
      have HQV : Hid (queryV Q = 0) := hq
      have HU : Hid (u.data.toList = goalsT Q) := by rw [Hid, HU0.out, goalsV, if_pos hq]
      have hu6 : u.size ≤ 6000 := by
        have h1 := goalsT_le (okQ_query hq)
        have h3 : u.size = (goalsT Q).length := by rw [← HU.out]; exact size_list u
        omega
      have HUL : Hid (u.toList = u.data.toList) := ByteArray.toList_eq u
      have hdu : decide ((u.size : Int) ≤ 6000) = true := decide_eq_true (by omega)
      rw [hq]
      clear hq HU0
      go_wp2_with fail
      refine (parseGoals_k (u.size + 1) u _ (by unfold maxLen; omega) (by omega)).mono ?_
      rintro e wc ⟨Y, a, k, rfl, hK, hY, hb⟩
      obtain ⟨rfl, hsm⟩ := hK.back HU.out HQV.out (by omega)
      have HY : Hid (TIn wc Y) := hY
      replace HB : Hid (Below w.heap.size w wc) := HB.out.trans (hb.mono HB.out.size)
      clear hK hY hb
      rcases hsm with ⟨ht, hlen⟩ | ⟨ht, hsm⟩
      case' inl =>
        have htb : (u.toList == [116, 114, 117, 101]) = true := beq_iff_eq.2 (HUL.out.trans ht)
        rw [hlen]
        clear ht hlen
        go_wp2_with fail
      case' inr =>
        have htb : (u.toList == [116, 114, 117, 101]) = false := beq_eq_false_iff_ne.2 (fun e => ht (HUL.out.symm.trans e))
        have HSM : Hid (sameTs Y Q = true) := hsm
        clear ht hsm
        go_wp2_with fail
        refine (same18 Y Q _ HY.out (HIn.out _ HB.out).2).mono ?_
        rintro e wc ⟨rfl, hb⟩
        replace HB : Hid (Below w.heap.size w wc) := HB.out.trans (hb.mono HB.out.size)
        clear hb
        rw [HSM.out]
        clear HSM HY
        go_wp2_with fail
  all_goals
    refine (parse_k (s.size + 1) s _ HS.out (by omega)).mono ?_
    rintro e wc ⟨X, a, k, rfl, hK, hX, hb⟩
    replace HB : Hid (Below w.heap.size w wc) := HB.out.trans (hb.mono HB.out.size)
    clear hb
    by_cases hk : k = 0
    case' neg =>
      have hkb : (k == 0) = false := beq_eq_false_iff_ne.2 hk
      clear hk hK hX
      go_wp2_with fail
    case' pos =>
      subst hk
      obtain ⟨h1, h2⟩ := hK.forth
      have HX : Hid (PIn wc X) := hX
      have H1 : Hid (progV X = 0) := h1
      have H2 : Hid ((⟨(printV X).toArray⟩ : ByteArray) = s) := h2
      clear hK hX h1 h2
      go_wp2_with fail
      refine (print_any X _ HX.out).mono ?_
      rintro e wc ⟨rfl, hb⟩
      replace HB : Hid (Below w.heap.size w wc) := HB.out.trans (hb.mono HB.out.size)
      clear hb
      rw [H1.out, H2.out]
      clear HX H1 H2
      go_wp2_with fail
  all_goals
    refine (parseGoals_k (s.size + 1) s _ HS.out (by omega)).mono ?_
    rintro e wc ⟨Y, a, k, rfl, hK, hY, hb⟩
    replace HB : Hid (Below w.heap.size w wc) := HB.out.trans (hb.mono HB.out.size)
    clear hb
    by_cases hk : k = 0
    case' neg =>
      have hkb : (k == 0) = false := beq_eq_false_iff_ne.2 hk
      obtain rfl := hK.none hk
      clear hk hK hY
      rw [show nilL.a = none from rfl, show nilL.len = 0 from rfl, show nilL.cap = 0 from rfl]
      go_wp2_with fail
      go_ret
    case' pos =>
      subst hk
      obtain ⟨h1, h2⟩ := hK.forth
      have HY : Hid (TIn wc Y) := hY
      have H1 : Hid (queryV Y = 0) := h1
      have H2 : Hid ((⟨(goalsV Y).toArray⟩ : ByteArray) = s) := h2
      clear hK hY h1 h2
      go_wp2_with fail
      refine (goals_any Y _ HY.out).mono ?_
      rintro e wc ⟨rfl, hb⟩
      replace HB : Hid (Below w.heap.size w wc) := HB.out.trans (hb.mono HB.out.size)
      clear hb
      rw [H1.out, H2.out]
      clear HY H1 H2
      go_wp2_with fail
      go_ret
  all_goals exact ⟨rfl, HB.out⟩
end Go.Proofs.YtmggaclaoefdaaaDoor
