/- What must be in any case, of texts. -/
import Derived.Test.YtmggaclaoefdaaaDoorBegun1
namespace Go.Proofs.YtmggaclaoefdaaaDoor
open Go.RowKit

/-- The sample's text, and the goals', as strings. -/
def smpS : ByteArray := ⟨#[112, 40, 97, 41, 46, 10, 112, 40, 86, 49, 41, 32, 58, 45, 32, 101, 113, 40, 86, 49, 44, 32, 98, 41, 46, 10]⟩
theorem smpS_eq : (⟨smpL.toArray⟩ : ByteArray) = smpS := rfl
theorem smpS_size : smpS.size = 26 := by decide +kernel
theorem smpS_list : smpS.data.toList = smpL := rfl
def gsS : ByteArray := ⟨#[112, 40, 86, 50, 41, 44, 32, 33]⟩
theorem gsS_size : gsS.size = 8 := by decide +kernel
theorem gsS_list : gsS.data.toList = gsL := rfl
theorem smp_parse (w : World) : Calls Tryd.prog 13 #[.string smpS] w fun e w' => ∃ P, e = .returned (.tuple #[.slice P.a P.len P.cap, .int .i64 0, .int .i64 0]) ∧ PSim P smpD ∧ PIn w' P ∧ Below w.heap.size w w' := by
  refine (door13 26 smpS w (by rw [smpS_size]; unfold maxLen; omega) (by rw [smpS_size]; omega)).mono ?_
  obtain ⟨q0, hq0⟩ := okL_eq smp_ok
  have hq : pProg smpS.data.toList 26 (smpS.size + 1) 0 = .ok smpD q0 := by rw [smpS_size, smpS_list]; exact hq0
  rintro e w1 ⟨hB, (⟨h1, rfl⟩ | ⟨h1, q, hpt, rfl⟩ | ⟨h1, P, ds, q, hpt, hS, hP, hA, h⟩)⟩
  · rw [smpS_size] at h1; omega
  · rw [hq] at hpt; exact absurd hpt (by simp)
  · rw [hq] at hpt
    have hds : smpD = ds := by injection hpt
    subst hds
    rcases h with ⟨hv, rfl⟩ | ⟨hv, _⟩
    · exact ⟨P, rfl, hS, hP, hB⟩
    · exact absurd (hS.prog.1.trans smp_prog) hv
theorem gs_parse (w : World) : Calls Tryd.prog 14 #[.string gsS] w fun e w' => ∃ T : Tm, e = .returned (.tuple #[.slice T.a 2 T.cap, .int .i64 0, .int .i64 0]) ∧ Below w.heap.size w w' := by
  refine (door14 9 gsS w (by rw [gsS_size]; unfold maxLen; omega) (by rw [gsS_size]; omega)).mono ?_
  obtain ⟨q0, hq0⟩ := okL_eq gs_ok
  have hq : pGoals gsS.data.toList 9 = .ok gsD q0 := by rw [gsS_list]; exact hq0
  rintro e w1 ⟨hB, (⟨h1, rfl⟩ | ⟨h1, q, hpt, rfl⟩ | ⟨h1, T, us, q, hpt, hS, hP, hA, h⟩)⟩
  · rw [gsS_size] at h1; omega
  · rw [hq] at hpt; exact absurd hpt (by simp)
  · rw [hq] at hpt
    have hds : gsD = us := by injection hpt
    subst hds
    rcases h with ⟨hv, rfl⟩ | ⟨hv, _⟩
    · exact ⟨T, by rw [hS.1, gs_len], hB⟩
    · exact absurd (hS.query.1.trans gs_query) hv
theorem smp_print (w : World) (P : Pg) (hP : PIn w P) (hS : PSim P smpD) : Calls Tryd.prog 6 #[.slice P.a P.len P.cap] w fun e w' => e = .returned (.tuple #[.string smpS, .int .i64 0]) ∧ Below w.heap.size w w' := by
  refine (print_any P w hP).mono ?_
  rintro e w' ⟨rfl, hb⟩
  exact ⟨by rw [hS.prog.1, hS.prog.2.2, smp_prog, smp_text, smpS_eq], hb⟩
theorem nil_gV : goalsV (leafT 0 ⟨#[]⟩) = [116, 114, 117, 101] := by decide +kernel
theorem nil_qV : queryV (leafT 0 ⟨#[]⟩) = 0 := by decide +kernel
theorem nil_goals (w : World) : Calls Tryd.prog 7 #[.slice none 0 0] w fun e w' => e = .returned (.tuple #[.string ⟨#[116, 114, 117, 101]⟩, .int .i64 0]) ∧ Below w.heap.size w w' :=
  (goals_any (leafT 0 ⟨#[]⟩) w (leaf_in _ _ _ (size2 _ (by decide)))).mono fun e w' h => ⟨h.1.trans (by rw [nil_gV, nil_qV]), h.2⟩
theorem smp_beq : (smpS.toList == [112, 40, 97, 41, 46, 10, 112, 40, 86, 49, 41, 32, 58, 45, 32, 101, 113, 40, 86, 49, 44, 32, 98, 41, 46, 10]) = true := by decide +kernel

set_option maxRecDepth 100000 in
set_option maxHeartbeats 2000000 in
theorem begun12 (w : World) : Calls Tryd.prog 12 #[] w fun e w' => e = .returned (.bool true) ∧ Below w.heap.size w w' := by
  go_enter Tryd.func12, Tryd.ntmps12
  go_wp2_with fail
  refine (sample27 _).mono ?_
  rintro e w1 ⟨P, rfl, hS, hP, hb⟩
  have HB : Hid (Below w.heap.size w w1) := hb
  have HP : Hid (PIn w1 P ∧ PSim P smpD) := ⟨hP, hS⟩
  clear hS hP hb
  go_wp2_with fail
  refine (smp_print _ P HP.out.1 HP.out.2).mono ?_
  rintro e w2 ⟨rfl, hb⟩
  replace HB : Hid (Below w.heap.size w w2) := HB.out.trans (hb.mono HB.out.size)
  clear hb
  generalize hsm : smpS = sm
  have HSM : Hid (smpS = sm) := hsm
  clear hsm
  go_wp2_with fail
  rw [← HSM.out]
  refine (smp_parse _).mono ?_
  rintro e w3 ⟨Q, rfl, hS, hP, hb⟩
  replace HB : Hid (Below w.heap.size w w3) := HB.out.trans (hb.mono HB.out.size)
  have HQ : Hid (PIn w3 Q ∧ PSim Q smpD) := ⟨hP, hS⟩
  clear hb hS hP
  go_wp2_with fail
  refine (nil_goals _).mono ?_
  rintro e w4 ⟨rfl, hb⟩
  replace HB : Hid (Below w.heap.size w w4) := HB.out.trans (hb.mono HB.out.size)
  replace HQ : Hid (PIn w4 Q ∧ PSim Q smpD) := ⟨HQ.out.1.below hb, HQ.out.2⟩
  clear hb
  go_wp2_with fail
  refine (gs_parse _).mono ?_
  rintro e w5 ⟨T, rfl, hb⟩
  replace HB : Hid (Below w.heap.size w w5) := HB.out.trans (hb.mono HB.out.size)
  replace HQ : Hid (PIn w5 Q ∧ PSim Q smpD) := ⟨HQ.out.1.below hb, HQ.out.2⟩
  clear hb
  have hse := smp_beq
  go_wp2_with fail
  refine (sample27 _).mono ?_
  rintro e w6 ⟨S, rfl, hS, hP, hb⟩
  replace HB : Hid (Below w.heap.size w w6) := HB.out.trans (hb.mono HB.out.size)
  replace HQ : Hid (PIn w6 Q ∧ PSim Q smpD) := ⟨HQ.out.1.below hb, HQ.out.2⟩
  have HS : Hid (PIn w6 S ∧ PSim S smpD) := ⟨hP, hS⟩
  clear hb hS hP
  go_wp2_with fail
  refine (same17 Q S _ HQ.out.1 HS.out.1 (HQ.out.2.same HS.out.2)).mono ?_
  rintro e w7 ⟨rfl, hb⟩
  replace HB : Hid (Below w.heap.size w w7) := HB.out.trans (hb.mono HB.out.size)
  clear hb
  go_wp2_with fail
  go_ret
  exact ⟨rfl, HB.out⟩
end Go.Proofs.YtmggaclaoefdaaaDoor
