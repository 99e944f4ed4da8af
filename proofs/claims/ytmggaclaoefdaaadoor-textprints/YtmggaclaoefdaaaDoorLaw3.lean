/- The law TextPrints, walked. -/
import Derived.Test.YtmggaclaoefdaaaDoorBegun2
namespace Go.Proofs.YtmggaclaoefdaaaDoor
open Go.RowKit

set_option maxRecDepth 100000 in
set_option maxHeartbeats 2000000 in
theorem law3 (P : Pg) (Q : Tm) (w : World) (hP : PIn w P) (hQ : TIn w Q) :
    Calls Tryd.prog 3 #[.slice P.a P.len P.cap, .slice Q.a Q.len Q.cap] w fun e w' => e = .returned (.bool true) ∧ Below w.heap.size w w' := by
  have HIn : Hid (∀ w', Below w.heap.size w w' → PIn w' P ∧ TIn w' Q) := fun w' hb => ⟨hP.below hb, hQ.below hb⟩
  have HB : Hid (Below w.heap.size w w) := Below.refl _ _
  clear hP hQ
  go_enter Tryd.func3, Tryd.ntmps3
  go_wp2_with fail
  refine (print_any P _ (HIn.out _ HB.out).1).mono ?_
  rintro e w1 ⟨rfl, hb⟩
  replace HB : Hid (Below w.heap.size w w1) := HB.out.trans (hb.mono HB.out.size)
  clear hb
  go_wp2_with fail
  refine (goals_any Q _ (HIn.out _ HB.out).2).mono ?_
  rintro e w2 ⟨rfl, hb⟩
  replace HB : Hid (Below w.heap.size w w2) := HB.out.trans (hb.mono HB.out.size)
  clear hb
  go_wp2_with fail
  refine (checkProgram_any P _ (HIn.out _ HB.out).1).mono ?_
  rintro e w3 ⟨rfl, hb⟩
  replace HB : Hid (Below w.heap.size w w3) := HB.out.trans (hb.mono HB.out.size)
  clear hb
  go_wp2_with fail
  refine (checkQuery_any Q _ (HIn.out _ HB.out).2).mono ?_
  rintro e w4 ⟨rfl, hb⟩
  replace HB : Hid (Below w.heap.size w w4) := HB.out.trans (hb.mono HB.out.size)
  clear hb
  have fin : ∀ (s t : ByteArray), (s.toList == s.toList) = true := fun s _ => by simp
  by_cases hv : progV P = 0
  · have HOk : Hid (okP P) := okP_prog hv
    have HX : Hid (printV P = progT P) := by rw [Hid, printV, if_pos hv]
    rw [hv, HX.out]
    clear hv
    go_wp2_with fail
    refine (programText_any P _ (HIn.out _ HB.out).1 HOk.out).mono ?_
    rintro e w5 ⟨rfl, hb⟩
    replace HB : Hid (Below w.heap.size w w5) := HB.out.trans (hb.mono HB.out.size)
    clear hb
    by_cases hq : queryV Q = 0
    · have HOq : Hid (okQ Q) := okQ_query hq
      have HY : Hid (goalsV Q = goalsT Q) := by rw [Hid, goalsV, if_pos hq]
      rw [hq, HY.out]
      clear hq
      go_wp2_with fail
      refine (goalsText_any Q _ (HIn.out _ HB.out).2 HOq.out).mono ?_
      rintro e w6 ⟨rfl, hb⟩
      replace HB : Hid (Below w.heap.size w w6) := HB.out.trans (hb.mono HB.out.size)
      clear hb
      go_wp2_with fail
      refine (begun12 _).mono ?_
      rintro e w7 ⟨rfl, hb⟩
      replace HB : Hid (Below w.heap.size w w7) := HB.out.trans (hb.mono HB.out.size)
      clear hb
      go_wp2_with fail
      go_ret
      exact ⟨rfl, HB.out⟩
    · have hqb : (queryV Q == 0) = false := beq_eq_false_iff_ne.2 hq
      have HY : Hid (goalsV Q = []) := by rw [Hid, goalsV, if_neg hq]
      rw [HY.out]
      clear hq
      go_wp2_with fail
      refine (begun12 _).mono ?_
      rintro e w7 ⟨rfl, hb⟩
      replace HB : Hid (Below w.heap.size w w7) := HB.out.trans (hb.mono HB.out.size)
      clear hb
      go_wp2_with fail
      go_ret
      exact ⟨rfl, HB.out⟩
  · have hvb : (progV P == 0) = false := beq_eq_false_iff_ne.2 hv
    have HX : Hid (printV P = []) := by rw [Hid, printV, if_neg hv]
    rw [HX.out]
    clear hv
    by_cases hq : queryV Q = 0
    · have HOq : Hid (okQ Q) := okQ_query hq
      have HY : Hid (goalsV Q = goalsT Q) := by rw [Hid, goalsV, if_pos hq]
      rw [hq, HY.out]
      clear hq
      go_wp2_with fail
      refine (goalsText_any Q _ (HIn.out _ HB.out).2 HOq.out).mono ?_
      rintro e w6 ⟨rfl, hb⟩
      replace HB : Hid (Below w.heap.size w w6) := HB.out.trans (hb.mono HB.out.size)
      clear hb
      go_wp2_with fail
      refine (begun12 _).mono ?_
      rintro e w7 ⟨rfl, hb⟩
      replace HB : Hid (Below w.heap.size w w7) := HB.out.trans (hb.mono HB.out.size)
      clear hb
      go_wp2_with fail
      go_ret
      exact ⟨rfl, HB.out⟩
    · have hqb : (queryV Q == 0) = false := beq_eq_false_iff_ne.2 hq
      have HY : Hid (goalsV Q = []) := by rw [Hid, goalsV, if_neg hq]
      rw [HY.out]
      clear hq
      go_wp2_with fail
      refine (begun12 _).mono ?_
      rintro e w7 ⟨rfl, hb⟩
      replace HB : Hid (Below w.heap.size w w7) := HB.out.trans (hb.mono HB.out.size)
      clear hb
      go_wp2_with fail
      go_ret
      exact ⟨rfl, HB.out⟩
end Go.Proofs.YtmggaclaoefdaaaDoor
