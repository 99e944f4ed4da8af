/- unifyBegun is true. -/
import Derived.Test.YtmggaclaoefdaaaGH
namespace Go.Proofs.Ytmggaclaoefdaaa
open Go.RowKit

/-- A name with two leaves. -/
def duo (nm : ByteArray) (b : Nat) (T U : Tm) : Tm := .mk 0 nm (some ⟨b, 0, none⟩) 2 2 (fun i => if i = 0 then T else U)
def tA (b : Nat) : Tm := duo ⟨#[102]⟩ b (leafT 2 ⟨#[]⟩) (leafT 3 ⟨#[]⟩)
def tB (b : Nat) : Tm := duo ⟨#[102]⟩ b (leafT 1 ⟨#[]⟩) (leafT 0 ⟨#[97]⟩)
theorem duo_in (w : World) (nm : ByteArray) (v u : Int) (n k : ByteArray) (h : nm.size ≤ maxLen) (hn : n.size ≤ maxLen) (hk : k.size ≤ maxLen) : TIn (w.alloc (.cells #[.int .i64 v, .string n, .slice none 0 0, .int .i64 u, .string k, .slice none 0 0] 24)) (duo nm w.heap.size (leafT v n) (leafT u k)) := by
  have hb := heap_alloc_new w (.cells #[.int .i64 v, .string n, .slice none 0 0, .int .i64 u, .string k, .slice none 0 0] 24)
  generalize w.alloc (.cells #[.int .i64 v, .string n, .slice none 0 0, .int .i64 u, .string k, .slice none 0 0] 24) = W at *
  refine ⟨h, by unfold maxLen; omega, fun i hi => ?_⟩
  have hi2 : i = 0 ∨ i = 1 := by omega
  rcases hi2 with rfl | rfl
  · refine ⟨⟨w.heap.size, 0, rfl, ?_, ?_, ?_⟩, leaf_in _ _ _ hn⟩ <;> simp [World.cell?, hb, leafT, Tm.v, Tm.nm, Tm.a, Tm.len, Tm.cap]
  · refine ⟨⟨w.heap.size, 0, rfl, ?_, ?_, ?_⟩, leaf_in _ _ _ hk⟩ <;> simp [World.cell?, hb, leafT, Tm.v, Tm.nm, Tm.a, Tm.len, Tm.cap]
theorem chkA (b : Nat) : checkV (tA b) = 0 := by kernel_rfl
theorem chkB (b : Nat) : checkV (tB b) = 0 := by kernel_rfl
def sgOf : MO → Sg
  | .yes _ σ => σ
  | _ => σ0
def sgE (b c : Nat) : Sg := sgOf (meetF 4001 σ0 4000 [(tA b, tB c)])
theorem meetE (b c : Nat) : meetF 4001 σ0 4000 [(tA b, tB c)] = .yes 3995 (sgE b c) := by kernel_rfl
theorem roomE (b c : Nat) : ((List.range 12).all fun i : Nat => (roomF (sgE b c) 200 [vT ((i : Int) + 1)]).isSome) = true := by kernel_rfl
theorem ex1E (b c : Nat) : sameT (ex (sgE b c) 200 (vT 2)) (leafT 1 ⟨#[]⟩) = true := by kernel_rfl
theorem ex2E (b c : Nat) : sameT (ex (sgE b c) 200 (vT 3)) (leafT 0 ⟨#[97]⟩) = true := by kernel_rfl

theorem unifyE (b c : Nat) (w : World) (hA : TIn w (tA b)) (hB : TIn w (tB c)) : Calls Try.prog 21 #[(tA b).val, (tB c).val] w fun e w' => ∃ (g cp : Nat) (X Y : Tm), e = .returned (.tuple #[.slice (some ⟨g, 0, none⟩) 12 cp, .bool true, .int .i64 5, .int .i64 0]) ∧ Below w.heap.size w w' ∧ RowAt w' (some ⟨g, 0, none⟩) 1 X ∧ RowAt w' (some ⟨g, 0, none⟩) 2 Y ∧ TIn w' X ∧ TIn w' Y ∧ sameT X (leafT 1 ⟨#[]⟩) = true ∧ sameT Y (leafT 0 ⟨#[97]⟩) = true := by
  refine (unify_any (tA b) (tB c) w hA hB).mono ?_
  rintro e w' ⟨hb, h⟩
  rcases h with ⟨h, _⟩ | ⟨_, h, _⟩ | ⟨_, _, ⟨h, _⟩ | ⟨k, _, h, _⟩ | ⟨k, σ, _, h, _, _, h2⟩⟩
  · exact absurd (chkA b) h
  · exact absurd (chkB c) h
  · rw [meetE] at h; simp at h
  · rw [meetE] at h; simp at h
  · rw [meetE] at h
    injection h with hk hσ
    subst hk
    subst hσ
    rcases h2 with ⟨⟨i, hi, h3⟩, _⟩ | ⟨_, g, cp, ts, hL, rfl⟩
    · have h4 := List.all_eq_true.1 (roomE b c) i (by simp; omega)
      rw [h3] at h4; simp at h4
    · obtain ⟨Q, hv, hQ, _, hS⟩ := hL.terms
      injection hv with hv1 hv2 _
      have r1 := hQ.row (i := 1) (by omega)
      have r2 := hQ.row (i := 2) (by omega)
      rw [← hv1] at r1 r2
      have s1 := hS.2 1 (by omega)
      have s2 := hS.2 2 (by omega)
      refine ⟨g, cp, Q.f 1, Q.f 2, rfl, hb, r1, r2, hQ.kid (by omega), hQ.kid (by omega), ?_, ?_⟩
      · exact (same_can _ _).2 ((sim_can s1).trans ((same_can _ _).1 (ex1E b c)))
      · exact (same_can _ _).2 ((sim_can s2).trans ((same_can _ _).1 (ex2E b c)))
theorem lval (v : Int) (n : ByteArray) : (leafT v n).val = .agg #[.int .i64 v, .string n, .slice none 0 0] := rfl

set_option maxRecDepth 100000 in
set_option maxHeartbeats 4000000 in
theorem begunU (w : World) :
    Calls Try.prog 23 #[] w fun e w' => e = .returned (.bool true) ∧ Below w.heap.size w w' := by
  have HB : Hid (Below w.heap.size w w) := Below.refl _ _
  go_enter Try.func23, Try.ntmps23
  go_wp2_with fail
  refine (va_any 2 _).mono ?_
  rintro e w1 ⟨rfl, hb⟩
  replace HB : Hid (Below w.heap.size w w1) := HB.out.trans (hb.mono HB.out.size)
  clear hb
  go_wp2_with fail
  refine (va_any 3 _).mono ?_
  rintro e w2 ⟨rfl, hb⟩
  replace HB : Hid (Below w.heap.size w w2) := HB.out.trans (hb.mono HB.out.size)
  clear hb
  have HA : Hid (TIn (w2.alloc (.cells #[.int .i64 2, .string ⟨#[]⟩, .slice none 0 0, .int .i64 3, .string ⟨#[]⟩, .slice none 0 0] 24)) (tA w2.heap.size)) := duo_in w2 ⟨#[102]⟩ 2 3 ⟨#[]⟩ ⟨#[]⟩ (size2 _ (by decide)) (size2 _ (by decide)) (size2 _ (by decide))
  replace HB : Hid (Below w.heap.size w (w2.alloc (.cells #[.int .i64 2, .string ⟨#[]⟩, .slice none 0 0, .int .i64 3, .string ⟨#[]⟩, .slice none 0 0] 24))) := HB.out.alloc HB.out.size _
  go_wp2_with fail
  generalize w2.alloc (.cells #[.int .i64 2, .string ⟨#[]⟩, .slice none 0 0, .int .i64 3, .string ⟨#[]⟩, .slice none 0 0] 24) = w3 at *
  refine (fn_any _ _ _ _ _).mono ?_
  rintro e w4 ⟨rfl, hb⟩
  replace HB : Hid (Below w.heap.size w w4) := HB.out.trans (hb.mono HB.out.size)
  replace HA : Hid (TIn w4 (tA w2.heap.size)) := HA.out.below hb
  clear hb
  go_wp2_with fail
  refine (va_any 1 _).mono ?_
  rintro e w5 ⟨rfl, hb⟩
  replace HB : Hid (Below w.heap.size w w5) := HB.out.trans (hb.mono HB.out.size)
  replace HA : Hid (TIn w5 (tA w2.heap.size)) := HA.out.below hb
  clear hb
  go_wp2_with fail
  refine (fn_any _ _ _ _ _).mono ?_
  rintro e w6 ⟨rfl, hb⟩
  replace HB : Hid (Below w.heap.size w w6) := HB.out.trans (hb.mono HB.out.size)
  replace HA : Hid (TIn w6 (tA w2.heap.size)) := HA.out.below hb
  clear hb
  have HBx : Hid (Below w6.heap.size w6 (w6.alloc (.cells #[.int .i64 1, .string ⟨#[]⟩, .slice none 0 0, .int .i64 0, .string ⟨#[97]⟩, .slice none 0 0] 24))) := (Below.refl _ _).alloc (Nat.le_refl _) _
  have HT : Hid (TIn (w6.alloc (.cells #[.int .i64 1, .string ⟨#[]⟩, .slice none 0 0, .int .i64 0, .string ⟨#[97]⟩, .slice none 0 0] 24)) (tB w6.heap.size)) := duo_in w6 ⟨#[102]⟩ 1 0 ⟨#[]⟩ ⟨#[97]⟩ (size2 _ (by decide)) (size2 _ (by decide)) (size2 _ (by decide))
  replace HB : Hid (Below w.heap.size w (w6.alloc (.cells #[.int .i64 1, .string ⟨#[]⟩, .slice none 0 0, .int .i64 0, .string ⟨#[97]⟩, .slice none 0 0] 24))) := HB.out.alloc HB.out.size _
  replace HA : Hid (TIn (w6.alloc (.cells #[.int .i64 1, .string ⟨#[]⟩, .slice none 0 0, .int .i64 0, .string ⟨#[97]⟩, .slice none 0 0] 24)) (tA w2.heap.size)) := HA.out.below HBx.out
  clear HBx
  go_wp2_with fail
  generalize w6.alloc (.cells #[.int .i64 1, .string ⟨#[]⟩, .slice none 0 0, .int .i64 0, .string ⟨#[97]⟩, .slice none 0 0] 24) = w7 at *
  refine (fn_any _ _ _ _ _).mono ?_
  rintro e w8 ⟨rfl, hb⟩
  replace HB : Hid (Below w.heap.size w w8) := HB.out.trans (hb.mono HB.out.size)
  replace HA : Hid (TIn w8 (tA w2.heap.size)) := HA.out.below hb
  replace HT : Hid (TIn w8 (tB w6.heap.size)) := HT.out.below hb
  clear hb
  go_wp2_with fail
  have HU : Hid (Calls Try.prog 21 #[.agg #[.int .i64 0, .string ⟨#[102]⟩, .slice (some ⟨w2.heap.size, 0, none⟩) 2 2], .agg #[.int .i64 0, .string ⟨#[102]⟩, .slice (some ⟨w6.heap.size, 0, none⟩) 2 2]] w8 fun e w' => ∃ (g cp : Nat) (X Y : Tm), e = .returned (.tuple #[.slice (some ⟨g, 0, none⟩) 12 cp, .bool true, .int .i64 5, .int .i64 0]) ∧ Below w8.heap.size w8 w' ∧ RowAt w' (some ⟨g, 0, none⟩) 1 X ∧ RowAt w' (some ⟨g, 0, none⟩) 2 Y ∧ TIn w' X ∧ TIn w' Y ∧ sameT X (leafT 1 ⟨#[]⟩) = true ∧ sameT Y (leafT 0 ⟨#[97]⟩) = true) := unifyE _ _ w8 HA.out HT.out
  refine HU.out.mono ?_
  rintro e w9 ⟨g, cp, X, Y, rfl, hb, hr1, hr2, hX, hY, hsX, hsY⟩
  replace HB : Hid (Below w.heap.size w w9) := HB.out.trans (hb.mono HB.out.size)
  have HX : Hid (∀ W, Below w9.heap.size w9 W → TIn W X ∧ TIn W Y) := fun W hW => ⟨hX.below hW, hY.below hW⟩
  have HSX : Hid (sameT X (leafT 1 ⟨#[]⟩) = true) := hsX
  have HSY : Hid (sameT Y (leafT 0 ⟨#[97]⟩) = true) := hsY
  have HKp : Hid (∀ W, Below w9.heap.size w9 W → W.cell? ⟨g, 3, none⟩ = some (.int .i64 X.v) ∧ W.cell? ⟨g, 4, none⟩ = some (.string X.nm) ∧ W.cell? ⟨g, 5, none⟩ = some (.slice X.a X.len X.cap) ∧ W.cell? ⟨g, 6, none⟩ = some (.int .i64 Y.v) ∧ W.cell? ⟨g, 7, none⟩ = some (.string Y.nm) ∧ W.cell? ⟨g, 8, none⟩ = some (.slice Y.a Y.len Y.cap)) := fun W hW => by
    obtain ⟨b1, o1, e1, c0, c1, c2⟩ := hr1.below hW
    obtain ⟨b2, o2, e2, d0, d1, d2⟩ := hr2.below hW
    injection e1 with e1
    injection e2 with e2
    injection e1 with e1 e1' _
    injection e2 with e2 e2' _
    subst e1 e1' e2 e2'
    exact ⟨c0, c1, c2, d0, d1, d2⟩
  have HB9 : Hid (Below w9.heap.size w9 w9) := Below.refl _ _
  clear hb hr1 hr2 hX hY hsX hsY HA HT
  go_wp2_with fail
  have tok1 : True := trivial
  go_region_held3 (fun W => W.cell? ⟨g, 3, none⟩ = some (.int .i64 X.v) ∧ W.cell? ⟨g, 4, none⟩ = some (.string X.nm) ∧ W.cell? ⟨g, 5, none⟩ = some (.slice X.a X.len X.cap) ∧ W.cell? ⟨g, 6, none⟩ = some (.int .i64 Y.v) ∧ W.cell? ⟨g, 7, none⟩ = some (.string Y.nm) ∧ W.cell? ⟨g, 8, none⟩ = some (.slice Y.a Y.len Y.cap)) (first | exact HKp.out _ HB9.out | exact HKp.out _ HB9.out.drew)
    (first
      | (go_at_call 52
         refine (va_any _ _).mono ?_
         rintro e wn ⟨rfl, hb⟩
         replace HB9 : Hid (Below w9.heap.size w9 wn) := Below.trans (by first | exact HB9.out | exact HB9.out.drew) (hb.mono HB9.out.size)
         clear hb)
      | (go_at_call 48
         refine (fn_any _ _ _ _ _).mono ?_
         rintro e wn ⟨rfl, hb⟩
         replace HB9 : Hid (Below w9.heap.size w9 wn) := Below.trans (by first | exact HB9.out | exact HB9.out.drew) (hb.mono HB9.out.size)
         clear hb)
      | (go_at_call 25
         have _t := tok1
         refine (same36 X (leafT 1 ⟨#[]⟩) _ (by first | exact (HX.out _ HB9.out).1 | exact (HX.out _ HB9.out.drew).1) (leaf_in _ _ _ (size2 _ (by decide)))).mono ?_
         rintro e wn ⟨rfl, hb⟩
         rw [HSX.out]
         replace HB9 : Hid (Below w9.heap.size w9 wn) := Below.trans (by first | exact HB9.out | exact HB9.out.drew) (hb.mono HB9.out.size)
         clear hb tok1)
      | (go_at_call 25
         refine (same36 Y (leafT 0 ⟨#[97]⟩) _ (by first | exact (HX.out _ HB9.out).2 | exact (HX.out _ HB9.out.drew).2) (leaf_in _ _ _ (size2 _ (by decide)))).mono ?_
         rintro e wn ⟨rfl, hb⟩
         rw [HSY.out]
         replace HB9 : Hid (Below w9.heap.size w9 wn) := Below.trans (by first | exact HB9.out | exact HB9.out.drew) (hb.mono HB9.out.size)
         clear hb))
  all_goals
    go_wp2_with fail
    go_ret
    exact ⟨rfl, HB.out.trans (HB9.out.mono HB.out.size)⟩
end Go.Proofs.Ytmggaclaoefdaaa
