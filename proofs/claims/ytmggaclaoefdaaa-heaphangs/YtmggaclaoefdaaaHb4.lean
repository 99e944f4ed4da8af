/- heapBegun is true. -/
import Derived.Deep.RegionHeld3
import Derived.Test.YtmggaclaoefdaaaHb3
namespace Go.Proofs.Ytmggaclaoefdaaa
open Go.RowKit
set_option linter.unusedVariables false
set_option linter.unusedSimpArgs false
attribute [local go_sem] Oper.semAt_some

set_option maxRecDepth 100000 in
set_option maxHeartbeats 8000000 in
theorem begunH (w : World) :
    Calls Try.prog 39 #[] w fun e w' => e = .returned (.bool true) ∧ Below w.heap.size w w' := by
  have HB : Hid (Below w.heap.size w w) := Below.refl _ _
  go_enter Try.func39, Try.ntmps39
  go_wp2_with fail
  refine (va_any 1 _).mono ?_
  rintro e w1 ⟨rfl, hb⟩
  replace HB : Hid (Below w.heap.size w w1) := HB.out.trans (hb.mono HB.out.size)
  clear hb
  go_wp2_with fail
  refine (fn_any _ _ _ _ _).mono ?_
  rintro e w2 ⟨rfl, hb⟩
  replace HB : Hid (Below w.heap.size w w2) := HB.out.trans (hb.mono HB.out.size)
  clear hb
  have HA : Hid (TIn (w2.alloc (.cells #[.int .i64 1, .string ⟨#[]⟩, .slice none 0 0, .int .i64 0, .string ⟨#[97]⟩, .slice none 0 0] 24)) (tH1 w2.heap.size)) := duo_in w2 ⟨#[102]⟩ 1 0 ⟨#[]⟩ ⟨#[97]⟩ (size2 _ (by decide)) (size2 _ (by decide)) (size2 _ (by decide))
  replace HB : Hid (Below w.heap.size w (w2.alloc (.cells #[.int .i64 1, .string ⟨#[]⟩, .slice none 0 0, .int .i64 0, .string ⟨#[97]⟩, .slice none 0 0] 24))) := HB.out.alloc HB.out.size _
  go_wp2_with fail
  generalize w2.alloc (.cells #[.int .i64 1, .string ⟨#[]⟩, .slice none 0 0, .int .i64 0, .string ⟨#[97]⟩, .slice none 0 0] 24) = w3 at *
  refine (fn_any _ _ _ _ _).mono ?_
  rintro e w4 ⟨rfl, hb⟩
  replace HB : Hid (Below w.heap.size w w4) := HB.out.trans (hb.mono HB.out.size)
  replace HA : Hid (TIn w4 (tH1 w2.heap.size)) := HA.out.below hb
  clear hb
  go_wp2_with fail
  have HU : Hid (Calls Try.prog 42 #[.slice none 0 0, .agg #[.int .i64 0, .string ⟨#[102]⟩, .slice (some ⟨w2.heap.size, 0, none⟩) 2 2]] w4 fun e w' => ∃ (sv : Option Addr) (cv g : Nat), e = B4 (.slice sv 5 cv) 0 (.slice (some ⟨g, 0, none⟩) 12 12) 0 ∧ CRw w4.heap.size w' (.slice sv 5 cv) c0 ∧ Below w4.heap.size w4 w') := buildE1 w2.heap.size w4 HA.out
  refine HU.out.mono ?_
  rintro e w5 ⟨sv, cv, g1, he, hC5, hb⟩
  rw [show e = .returned (.tuple #[.slice sv 5 cv, .int .i64 0, .slice (some ⟨g1, 0, none⟩) 12 12, .int .i64 0]) from he]
  have HC : Hid (CRw 0 w5 (.slice sv 5 cv) c0) := ownsRow_mono hC5 (Nat.zero_le _)
  replace HB : Hid (Below w.heap.size w w5) := HB.out.trans (hb.mono HB.out.size)
  clear hb hC5 he HU HA
  go_wp2_with fail
  refine (fn_any _ _ _ _ _).mono ?_
  rintro e w6 ⟨rfl, hb⟩
  replace HB : Hid (Below w.heap.size w w6) := HB.out.trans (hb.mono HB.out.size)
  replace HC : Hid (CRw 0 w6 (.slice sv 5 cv) c0) := HC.out.below hb
  clear hb
  go_wp2_with fail
  refine (va_any 2 _).mono ?_
  rintro e w7 ⟨rfl, hb⟩
  replace HB : Hid (Below w.heap.size w w7) := HB.out.trans (hb.mono HB.out.size)
  replace HC : Hid (CRw 0 w7 (.slice sv 5 cv) c0) := HC.out.below hb
  clear hb
  have HT : Hid (TIn (w7.alloc (.cells #[.int .i64 0, .string ⟨#[98]⟩, .slice none 0 0, .int .i64 2, .string ⟨#[]⟩, .slice none 0 0] 24)) (tH2 w7.heap.size)) := duo_in w7 ⟨#[102]⟩ 0 2 ⟨#[98]⟩ ⟨#[]⟩ (size2 _ (by decide)) (size2 _ (by decide)) (size2 _ (by decide))
  replace HB : Hid (Below w.heap.size w (w7.alloc (.cells #[.int .i64 0, .string ⟨#[98]⟩, .slice none 0 0, .int .i64 2, .string ⟨#[]⟩, .slice none 0 0] 24))) := HB.out.alloc HB.out.size _
  replace HC : Hid (CRw 0 (w7.alloc (.cells #[.int .i64 0, .string ⟨#[98]⟩, .slice none 0 0, .int .i64 2, .string ⟨#[]⟩, .slice none 0 0] 24)) (.slice sv 5 cv) c0) := HC.out.below ((Below.refl _ _).alloc (Nat.le_refl _) _)
  go_wp2_with fail
  generalize w7.alloc (.cells #[.int .i64 0, .string ⟨#[98]⟩, .slice none 0 0, .int .i64 2, .string ⟨#[]⟩, .slice none 0 0] 24) = w8 at *
  refine (fn_any _ _ _ _ _).mono ?_
  rintro e w9 ⟨rfl, hb⟩
  replace HB : Hid (Below w.heap.size w w9) := HB.out.trans (hb.mono HB.out.size)
  replace HC : Hid (CRw 0 w9 (.slice sv 5 cv) c0) := HC.out.below hb
  replace HT : Hid (TIn w9 (tH2 w7.heap.size)) := HT.out.below hb
  clear hb
  go_wp2_with fail
  have HU : Hid (Calls Try.prog 42 #[.slice sv 5 cv, .agg #[.int .i64 0, .string ⟨#[102]⟩, .slice (some ⟨w7.heap.size, 0, none⟩) 2 2]] w9 fun e w' => ∃ (sv : Option Addr) (cv g : Nat), e = B4 (.slice sv 10 cv) 5 (.slice (some ⟨g, 0, none⟩) 12 12) 0 ∧ CRw w9.heap.size w' (.slice sv 10 cv) c1 ∧ Below w9.heap.size w9 w') := buildE2 w7.heap.size w9 HC.out HT.out
  refine HU.out.mono ?_
  rintro e w10 ⟨sv2, cv2, g2, he, hC10, hb⟩
  rw [show e = .returned (.tuple #[.slice sv2 10 cv2, .int .i64 5, .slice (some ⟨g2, 0, none⟩) 12 12, .int .i64 0]) from he]
  replace HB : Hid (Below w.heap.size w w10) := HB.out.trans (hb.mono HB.out.size)
  have HUn : Hid (Calls Try.prog 46 #[.slice sv2 10 cv2, .int .i64 0, .int .i64 5] w10 fun e w' => ∃ (sv : Option Addr) (cv : Nat) (sb : Option Addr) (cb : Nat), e = U5 (.slice sv 10 cv) (.slice sb 2 cb) true 5 0 ∧ CRw w10.heap.size w' (.slice sv 10 cv) c3 ∧ Below w10.heap.size w10 w') := hunifyE w10 hC10
  clear hb hC10 he HU HT HC
  go_wp2_with fail
  refine HUn.out.mono ?_
  rintro e w11 ⟨sv3, cv3, sb, cb, he, hC11, hb⟩
  rw [show e = .returned (.tuple #[.slice sv3 10 cv3, .slice sb 2 cb, .bool true, .int .i64 5, .int .i64 0]) from he]
  replace HB : Hid (Below w.heap.size w w11) := HB.out.trans (hb.mono HB.out.size)
  have HC : Hid (CRw 0 w11 (.slice sv3 10 cv3) c3) := ownsRow_mono hC11 (Nat.zero_le _)
  have HRd : Hid (Calls Try.prog 35 #[.slice sv3 10 cv3, .int .i64 5] w11 fun e w' => ∃ (X : Tm) (sl : Option Addr) (cl : Nat), e = T3v X (.slice sl 0 cl) 0 ∧ can X = can (fC (atC 98) (atC 97)) ∧ TIn w' X ∧ Below w11.heap.size w11 w') := hreadE w11 HC.out
  clear hb hC11 he HUn
  go_wp2_with fail
  refine HRd.out.mono ?_
  rintro e w12 ⟨X, sl, cl, he, hX, hXi, hb⟩
  rw [show e = .returned (.tuple #[.agg #[.int .i64 X.v, .string X.nm, .slice X.a X.len X.cap], .slice sl 0 cl, .int .i64 0]) from he]
  have HBx : Hid (Below w12.heap.size w12 (w12.alloc (.cells #[.int .i64 X.v, .string X.nm, .slice X.a X.len X.cap] 24))) := (Below.refl _ _).alloc (Nat.le_refl _) _
  have HX : Hid ((w12.alloc (.cells #[.int .i64 X.v, .string X.nm, .slice X.a X.len X.cap] 24)).heap[w12.heap.size]? = some (.cells #[.int .i64 X.v, .string X.nm, .slice X.a X.len X.cap] 24)) := heap_alloc_new _ _
  replace HB : Hid (Below w.heap.size w (w12.alloc (.cells #[.int .i64 X.v, .string X.nm, .slice X.a X.len X.cap] 24))) := below_after2 (below_after2 HB.out hb) HBx.out
  replace HC : Hid (CRw 0 (w12.alloc (.cells #[.int .i64 X.v, .string X.nm, .slice X.a X.len X.cap] 24)) (.slice sv3 10 cv3) c3) := (HC.out.below hb).below HBx.out
  have HXi : Hid (TIn (w12.alloc (.cells #[.int .i64 X.v, .string X.nm, .slice X.a X.len X.cap] 24)) X) := hXi.below HBx.out
  have HDr : Hid (Calls Try.prog 34 #[.slice sv3 10 cv3, .int .i64 0] (w12.alloc (.cells #[.int .i64 X.v, .string X.nm, .slice X.a X.len X.cap] 24)) fun e w' => e = .returned (.tuple #[.int .i64 0, .int .i64 0]) ∧ Below (w12.alloc (.cells #[.int .i64 X.v, .string X.nm, .slice X.a X.len X.cap] 24)).heap.size (w12.alloc (.cells #[.int .i64 X.v, .string X.nm, .slice X.a X.len X.cap] 24)) w') := hderefE _ HC.out
  have HXs : Hid (∀ b, sameT X (duo ⟨#[102]⟩ b (leafT 0 ⟨#[98]⟩) (leafT 0 ⟨#[97]⟩)) = true) := fun b => (same_can _ _).2 (by
    rw [hX]
    show Tm.mk 0 (nmC 102) none 2 0 _ = Tm.mk 0 (nmC 102) none 2 0 _
    congr 1
    funext i
    by_cases h0 : i = 0
    · subst h0; rfl
    by_cases h1 : i = 1
    · subst h1; rfl
    · have h2 : ¬ i < 2 := by omega
      show (if i < 2 then _ else Tm.nil) = (if i < 2 then _ else Tm.nil)
      rw [if_neg h2, if_neg h2])
  clear hb he hX hXi HRd HBx
  go_wp2_with fail
  have hs13 : (w12.alloc (.cells #[.int .i64 X.v, .string X.nm, .slice X.a X.len X.cap] 24)).heap.size = w12.heap.size + 1 := by simp
  generalize w12.alloc (.cells #[.int .i64 X.v, .string X.nm, .slice X.a X.len X.cap] 24) = w13 at *
  refine HDr.out.mono ?_
  rintro e w14 ⟨rfl, hb⟩
  have HB14 : Hid (Below w.heap.size w w14) := below_after2 HB.out hb
  have HX14 : Hid (∀ W, Below w14.heap.size w14 W → W.cell? ⟨w12.heap.size, 0, none⟩ = some (.int .i64 X.v) ∧ W.cell? ⟨w12.heap.size, 1, none⟩ = some (.string X.nm) ∧ W.cell? ⟨w12.heap.size, 2, none⟩ = some (.slice X.a X.len X.cap)) := fun W hW => by
    have h9 := (hW.block w12.heap.size (by have := hb.size; omega)).trans ((hb.block w12.heap.size (by omega)).trans HX.out)
    exact ⟨(block_cells h9).1, (block_cells h9).2.1, (block_cells h9).2.2.1⟩
  have HTX : Hid (∀ W, Below w14.heap.size w14 W → TIn W X) := fun W hW => (HXi.out.below hb).below hW
  have HCk : Hid (∀ W, Below w14.heap.size w14 W → Calls Try.prog 40 #[.slice sv3 10 cv3] W fun e w' => e = .returned (.int .i64 0) ∧ Below W.heap.size W w') := fun W hW => hcheckE W ((HC.out.below hb).below hW)
  have HB9 : Hid (Below w14.heap.size w14 w14) := Below.refl _ _
  clear hb HB HX HXi HC HDr
  go_wp2_with fail
  go_region_held3 (fun W => W.cell? ⟨w12.heap.size, 0, none⟩ = some (.int .i64 X.v) ∧ W.cell? ⟨w12.heap.size, 1, none⟩ = some (.string X.nm) ∧ W.cell? ⟨w12.heap.size, 2, none⟩ = some (.slice X.a X.len X.cap)) ((refine HX14.out _ ?_; repeat (first | exact HB9.out | refine Below.drew ?_ | refine Below.alloc ?_ (by exact HB9.out.size) _)))
    (first
      | (go_at_call 48
         with_reducible show Calls Try.prog _ #[_, .slice none 0 0] _ _
         refine (fn_any _ _ _ _ _).mono ?_
         rintro e wn ⟨rfl, hb⟩
         replace HB9 : Hid (Below w14.heap.size w14 wn) := Below.trans (by repeat (first | exact HB9.out | refine Below.drew ?_ | refine Below.alloc ?_ (by exact HB9.out.size) _)) (hb.mono HB9.out.size)
         clear hb)
      | (go_at_call 48
         refine (fn_any _ _ _ _ _).mono ?_
         rintro e wm ⟨rfl, hb⟩
         have HD : Hid (TIn wm (duo ⟨#[102]⟩ wn.heap.size (leafT 0 ⟨#[98]⟩) (leafT 0 ⟨#[97]⟩))) := TIn.below (by first | exact duo_in _ ⟨#[102]⟩ 0 0 ⟨#[98]⟩ ⟨#[97]⟩ (size2 _ (by decide)) (size2 _ (by decide)) (size2 _ (by decide)) | exact (duo_in _ ⟨#[102]⟩ 0 0 ⟨#[98]⟩ ⟨#[97]⟩ (size2 _ (by decide)) (size2 _ (by decide)) (size2 _ (by decide))).below ((Below.refl _ _).drew)) hb
         replace HB9 : Hid (Below w14.heap.size w14 wm) := Below.trans (by repeat (first | exact HB9.out | refine Below.drew ?_ | refine Below.alloc ?_ (by exact HB9.out.size) _)) (hb.mono (by have := HB9.out.size; simp; omega))
         clear hb)
      | (go_at_call 25
         refine (same36 X (duo ⟨#[102]⟩ wn.heap.size (leafT 0 ⟨#[98]⟩) (leafT 0 ⟨#[97]⟩)) _ (HTX.out _ (by repeat (first | exact HB9.out | refine Below.drew ?_ | refine Below.alloc ?_ (by exact HB9.out.size) _))) (by first | exact HD.out | exact HD.out.below ((Below.refl _ _).drew))).mono ?_
         rintro e wk ⟨rfl, hb⟩
         rw [HXs.out]
         replace HB9 : Hid (Below w14.heap.size w14 wk) := Below.trans (by repeat (first | exact HB9.out | refine Below.drew ?_ | refine Below.alloc ?_ (by exact HB9.out.size) _)) (hb.mono HB9.out.size)
         clear hb)
      | (go_at_call 40
         refine (HCk.out _ (by repeat (first | exact HB9.out | refine Below.drew ?_ | refine Below.alloc ?_ (by exact HB9.out.size) _))).mono ?_
         rintro e wl ⟨rfl, hb⟩
         replace HB9 : Hid (Below w14.heap.size w14 wl) := Below.trans (by repeat (first | exact HB9.out | refine Below.drew ?_ | refine Below.alloc ?_ (by exact HB9.out.size) _)) (hb.mono HB9.out.size)
         clear hb))
  all_goals
    go_wp2_with fail
    go_ret
    exact ⟨rfl, below_after2 HB14.out (by repeat (first | exact HB9.out | refine Below.drew ?_ | refine Below.alloc ?_ (by exact HB9.out.size) _))⟩
end Go.Proofs.Ytmggaclaoefdaaa
