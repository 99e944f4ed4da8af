/- The law's own walk. -/
import Derived.Test.YtmggaclaoefdaaaBegun
import Derived.Deep.RegionHeld3
namespace Go.Proofs.Ytmggaclaoefdaaa
open Go.RowKit

theorem small_of_query (Q : Tm) (h : queryV Q = 0) : ∀ i, i < Q.len → cnt (Q.f i) ≤ 60 := by
  intro i hi
  have h6 : Q.len ≤ 6 := by
    by_cases h6 : Q.len ≤ 6
    · exact h6
    · rw [queryV, if_neg h6] at h; omega
  rw [queryV, if_pos h6] at h
  have h1 : chks Q (i + 1) = 0 := fst_zero _ hi h
  have h0 : chks Q i = 0 := fst_zero _ (Nat.le_of_lt hi) h
  unfold chks at h0 h1
  rw [fst, if_pos h0] at h1
  by_cases hc : cnt (Q.f i) ≤ 60
  · exact hc
  · have h2 : checkV (Q.f i) = 0 := h1
    rw [checkV, if_neg hc] at h2; omega

set_option maxHeartbeats 2000000 in
theorem law_any (T Q : Tm) (P : Pg) (w : World) (hT : TIn w T) (hP : PIn w P) (hQ : TIn w Q) :
    Calls Try.prog 3 #[T.val, .slice P.a P.len P.cap, .slice Q.a Q.len Q.cap] w fun e w' => e = .returned (.bool true) ∧ Below w.heap.size w w' := by
  show Calls Try.prog 3 #[.agg #[.int .i64 T.v, .string T.nm, .slice T.a T.len T.cap], .slice P.a P.len P.cap, .slice Q.a Q.len Q.cap] w _
  have HT : Hid (∀ wr, Below (w.heap.size + 1) (w.alloc (.cells #[.int .i64 T.v, .string T.nm, .slice T.a T.len T.cap] 24)) wr → Below w.heap.size w wr ∧ TIn wr T ∧ PIn wr P ∧ TIn wr Q) := fun wr hb => by
    have hbw : Below w.heap.size w wr := ((Below.refl _ _).alloc (Nat.le_refl _) _).trans (hb.mono (by omega))
    exact ⟨hbw, hT.below hbw, hP.below hbw, hQ.below hbw⟩
  clear hT hP hQ
  have HB : Hid (Below (w.heap.size + 1) (w.alloc (.cells #[.int .i64 T.v, .string T.nm, .slice T.a T.len T.cap] 24)) (w.alloc (.cells #[.int .i64 T.v, .string T.nm, .slice T.a T.len T.cap] 24))) := Below.refl _ _
  by_cases hz : queryV Q = 0
  · have HV : Hid (varsV Q = grs Q) := by rw [Hid, varsV, if_pos hz]
    have HZ : Hid (queryV Q = 0) := hz
    have HC : Hid (∀ i, i < Q.len → cnt (Q.f i) ≤ 60) := small_of_query Q hz
    clear hz
    go_enter Try.func3, Try.ntmps3
    go_wp2_with fail
    refine (vars_any Q _ (HT.out _ HB.out).2.2.2).mono ?_
    rintro e w1 ⟨rfl, hb1⟩
    replace HB : Hid (Below (w.heap.size + 1) (w.alloc (.cells #[.int .i64 T.v, .string T.nm, .slice T.a T.len T.cap] 24)) w1) := HB.out.trans (hb1.mono (by simp))
    have hs : w.heap.size + 1 ≤ w1.heap.size := by have := HB.out.size; simpa using this
    clear hb1
    rw [HV.out, HZ.out]
    go_wp2_with fail
    refine (checkQuery_any Q _ (HT.out _ HB.out).2.2.2).mono ?_
    rintro e w2 ⟨rfl, hb2⟩
    replace HB : Hid (Below (w.heap.size + 1) (w.alloc (.cells #[.int .i64 T.v, .string T.nm, .slice T.a T.len T.cap] 24)) w2) := HB.out.trans (hb2.mono hs)
    replace hs : w.heap.size + 1 ≤ w2.heap.size := by have := HB.out.size; simpa using this
    clear hb2
    rw [HZ.out]
    go_wp2_with fail
    refine (varsOf_any Q _ (HT.out _ HB.out).2.2.2 HC.out).mono ?_
    rintro e w3 ⟨rfl, hb3⟩
    replace HB : Hid (Below (w.heap.size + 1) (w.alloc (.cells #[.int .i64 T.v, .string T.nm, .slice T.a T.len T.cap] 24)) w3) := HB.out.trans (hb3.mono hs)
    replace hs : w.heap.size + 1 ≤ w3.heap.size := by have := HB.out.size; simpa using this
    clear hb3
    go_wp2_with fail
    go_region_held3 (fun w' => w'.cell? ⟨w.heap.size, 0, none⟩ = some (.int .i64 T.v) ∧ w'.cell? ⟨w.heap.size, 1, none⟩ = some (.string T.nm) ∧ w'.cell? ⟨w.heap.size, 2, none⟩ = some (.slice T.a T.len T.cap)) (first | exact box_cells HB.out | exact box_cells HB.out.drew)
      (first
        | (go_at_call 15
           refine (begun_any _).mono ?_
           rintro e w4 ⟨rfl, hb4⟩
           replace HB : Hid (Below (w.heap.size + 1) (w.alloc (.cells #[.int .i64 T.v, .string T.nm, .slice T.a T.len T.cap] 24)) w4) := Below.trans (by first | exact HB.out | exact HB.out.drew) (hb4.mono hs)
           replace hs : w.heap.size + 1 ≤ w4.heap.size := by have := HB.out.size; simpa using this
           clear hb4)
        | (go_at_call 16
           refine (check_any T _ (by first | exact (HT.out _ HB.out).2.1 | exact (HT.out _ HB.out.drew).2.1)).mono ?_
           rintro e w5 ⟨rfl, hb5⟩
           replace HB : Hid (Below (w.heap.size + 1) (w.alloc (.cells #[.int .i64 T.v, .string T.nm, .slice T.a T.len T.cap] 24)) w5) := Below.trans (by first | exact HB.out | exact HB.out.drew) (hb5.mono hs)
           replace hs : w.heap.size + 1 ≤ w5.heap.size := by have := HB.out.size; simpa using this
           clear hb5)
        | (go_at_call 17
           refine (checkTerm_any T _ (by first | exact (HT.out _ HB.out).2.1 | exact (HT.out _ HB.out.drew).2.1)).mono ?_
           rintro e w6 ⟨rfl, hb6⟩
           replace HB : Hid (Below (w.heap.size + 1) (w.alloc (.cells #[.int .i64 T.v, .string T.nm, .slice T.a T.len T.cap] 24)) w6) := Below.trans (by first | exact HB.out | exact HB.out.drew) (hb6.mono hs)
           replace hs : w.heap.size + 1 ≤ w6.heap.size := by have := HB.out.size; simpa using this
           clear hb6)
        | (go_at_call 18
           refine (clauses_any P _ (by first | exact (HT.out _ HB.out).2.2.1 | exact (HT.out _ HB.out.drew).2.2.1)).mono ?_
           rintro e w7 ⟨rfl, hb7⟩
           replace HB : Hid (Below (w.heap.size + 1) (w.alloc (.cells #[.int .i64 T.v, .string T.nm, .slice T.a T.len T.cap] 24)) w7) := Below.trans (by first | exact HB.out | exact HB.out.drew) (hb7.mono hs)
           replace hs : w.heap.size + 1 ≤ w7.heap.size := by have := HB.out.size; simpa using this
           clear hb7)
        | (go_at_call 19
           refine (checkProgram_any P _ (by first | exact (HT.out _ HB.out).2.2.1 | exact (HT.out _ HB.out.drew).2.2.1)).mono ?_
           rintro e w8 ⟨rfl, hb8⟩
           replace HB : Hid (Below (w.heap.size + 1) (w.alloc (.cells #[.int .i64 T.v, .string T.nm, .slice T.a T.len T.cap] 24)) w8) := Below.trans (by first | exact HB.out | exact HB.out.drew) (hb8.mono hs)
           replace hs : w.heap.size + 1 ≤ w8.heap.size := by have := HB.out.size; simpa using this
           clear hb8)
        | (go_at_call 20
           refine (query_any Q _ (by first | exact (HT.out _ HB.out).2.2.2 | exact (HT.out _ HB.out.drew).2.2.2)).mono ?_
           rintro e w9 ⟨rfl, hb9⟩
           replace HB : Hid (Below (w.heap.size + 1) (w.alloc (.cells #[.int .i64 T.v, .string T.nm, .slice T.a T.len T.cap] 24)) w9) := Below.trans (by first | exact HB.out | exact HB.out.drew) (hb9.mono hs)
           replace hs : w.heap.size + 1 ≤ w9.heap.size := by have := HB.out.size; simpa using this
           clear hb9
           rw [HZ.out]))
    go_wp2_with fail
    go_ret
    exact ⟨rfl, (HT.out _ HB.out).1⟩
  · have HV : Hid (varsV Q = 0) := by rw [Hid, varsV, if_neg hz]
    have hzb : (queryV Q == 0) = false := beq_eq_false_iff_ne.2 hz
    clear hz
    go_enter Try.func3, Try.ntmps3
    go_wp2_with fail
    refine (vars_any Q _ (HT.out _ HB.out).2.2.2).mono ?_
    rintro e w1 ⟨rfl, hb1⟩
    replace HB : Hid (Below (w.heap.size + 1) (w.alloc (.cells #[.int .i64 T.v, .string T.nm, .slice T.a T.len T.cap] 24)) w1) := HB.out.trans (hb1.mono (by simp))
    have hs : w.heap.size + 1 ≤ w1.heap.size := by have := HB.out.size; simpa using this
    clear hb1
    rw [HV.out]
    go_wp2_with fail
    refine (checkQuery_any Q _ (HT.out _ HB.out).2.2.2).mono ?_
    rintro e w2 ⟨rfl, hb2⟩
    replace HB : Hid (Below (w.heap.size + 1) (w.alloc (.cells #[.int .i64 T.v, .string T.nm, .slice T.a T.len T.cap] 24)) w2) := HB.out.trans (hb2.mono hs)
    replace hs : w.heap.size + 1 ≤ w2.heap.size := by have := HB.out.size; simpa using this
    clear hb2
    go_wp2_with fail
    go_region_held3 (fun w' => w'.cell? ⟨w.heap.size, 0, none⟩ = some (.int .i64 T.v) ∧ w'.cell? ⟨w.heap.size, 1, none⟩ = some (.string T.nm) ∧ w'.cell? ⟨w.heap.size, 2, none⟩ = some (.slice T.a T.len T.cap)) (first | exact box_cells HB.out | exact box_cells HB.out.drew)
      (first
        | (go_at_call 15
           refine (begun_any _).mono ?_
           rintro e w4 ⟨rfl, hb4⟩
           replace HB : Hid (Below (w.heap.size + 1) (w.alloc (.cells #[.int .i64 T.v, .string T.nm, .slice T.a T.len T.cap] 24)) w4) := Below.trans (by first | exact HB.out | exact HB.out.drew) (hb4.mono hs)
           replace hs : w.heap.size + 1 ≤ w4.heap.size := by have := HB.out.size; simpa using this
           clear hb4)
        | (go_at_call 16
           refine (check_any T _ (by first | exact (HT.out _ HB.out).2.1 | exact (HT.out _ HB.out.drew).2.1)).mono ?_
           rintro e w5 ⟨rfl, hb5⟩
           replace HB : Hid (Below (w.heap.size + 1) (w.alloc (.cells #[.int .i64 T.v, .string T.nm, .slice T.a T.len T.cap] 24)) w5) := Below.trans (by first | exact HB.out | exact HB.out.drew) (hb5.mono hs)
           replace hs : w.heap.size + 1 ≤ w5.heap.size := by have := HB.out.size; simpa using this
           clear hb5)
        | (go_at_call 17
           refine (checkTerm_any T _ (by first | exact (HT.out _ HB.out).2.1 | exact (HT.out _ HB.out.drew).2.1)).mono ?_
           rintro e w6 ⟨rfl, hb6⟩
           replace HB : Hid (Below (w.heap.size + 1) (w.alloc (.cells #[.int .i64 T.v, .string T.nm, .slice T.a T.len T.cap] 24)) w6) := Below.trans (by first | exact HB.out | exact HB.out.drew) (hb6.mono hs)
           replace hs : w.heap.size + 1 ≤ w6.heap.size := by have := HB.out.size; simpa using this
           clear hb6)
        | (go_at_call 18
           refine (clauses_any P _ (by first | exact (HT.out _ HB.out).2.2.1 | exact (HT.out _ HB.out.drew).2.2.1)).mono ?_
           rintro e w7 ⟨rfl, hb7⟩
           replace HB : Hid (Below (w.heap.size + 1) (w.alloc (.cells #[.int .i64 T.v, .string T.nm, .slice T.a T.len T.cap] 24)) w7) := Below.trans (by first | exact HB.out | exact HB.out.drew) (hb7.mono hs)
           replace hs : w.heap.size + 1 ≤ w7.heap.size := by have := HB.out.size; simpa using this
           clear hb7)
        | (go_at_call 19
           refine (checkProgram_any P _ (by first | exact (HT.out _ HB.out).2.2.1 | exact (HT.out _ HB.out.drew).2.2.1)).mono ?_
           rintro e w8 ⟨rfl, hb8⟩
           replace HB : Hid (Below (w.heap.size + 1) (w.alloc (.cells #[.int .i64 T.v, .string T.nm, .slice T.a T.len T.cap] 24)) w8) := Below.trans (by first | exact HB.out | exact HB.out.drew) (hb8.mono hs)
           replace hs : w.heap.size + 1 ≤ w8.heap.size := by have := HB.out.size; simpa using this
           clear hb8)
        | (go_at_call 20
           refine (query_any Q _ (by first | exact (HT.out _ HB.out).2.2.2 | exact (HT.out _ HB.out.drew).2.2.2)).mono ?_
           rintro e w9 ⟨rfl, hb9⟩
           replace HB : Hid (Below (w.heap.size + 1) (w.alloc (.cells #[.int .i64 T.v, .string T.nm, .slice T.a T.len T.cap] 24)) w9) := Below.trans (by first | exact HB.out | exact HB.out.drew) (hb9.mono hs)
           replace hs : w.heap.size + 1 ≤ w9.heap.size := by have := HB.out.size; simpa using this
           clear hb9))
    go_wp2_with fail
    go_ret
    exact ⟨rfl, (HT.out _ HB.out).1⟩
end Go.Proofs.Ytmggaclaoefdaaa
