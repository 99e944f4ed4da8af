/- solveBegun is true. -/
import Derived.Test.YtmggaclaoefdaaaSvV
import Derived.Test.YtmggaclaoefdaaaUni5
namespace Go.Proofs.Ytmggaclaoefdaaa
open Go.RowKit

/-- A name of two arguments. -/
def biT (nm : ByteArray) (b : Nat) (T U : Tm) : Tm := .mk 0 nm (some ⟨b, 0, none⟩) 2 2 (fun i => if i = 0 then T else U)
def sA : Tm := leafT 0 ⟨#[97]⟩
def sV : Tm := leafT 1 ⟨#[]⟩
def sB : Tm := leafT 0 ⟨#[98]⟩
def smpP (b1 b3 b6 b7 b8 : Nat) : Pg := { a := some ⟨b8, 0, none⟩, len := 2, cap := 2, hd := fun i => if i = 0 then unT ⟨#[112]⟩ b1 sA else unT ⟨#[112]⟩ b3 sV, bd := fun i => if i = 0 then leafT 0 ⟨#[]⟩ else one b7 (biT ⟨#[101, 113]⟩ b6 sV sB) }
theorem un_in {w : World} {b : Nat} {T : Tm} {nm : ByteArray} (hb : b = w.heap.size) (h : TIn w T) (hn : nm.size ≤ 2) : TIn (w.alloc (.cells #[.int .i64 T.v, .string T.nm, .slice T.a T.len T.cap] 24)) (unT nm b T) :=
  (one_in hb h).rename (size2 _ hn)
theorem bi_in {w : World} {b : Nat} {T U : Tm} {nm : ByteArray} (hb : b = w.heap.size) (h : TIn w T) (h' : TIn w U) (hn : nm.size ≤ 2) : TIn (w.alloc (.cells #[.int .i64 T.v, .string T.nm, .slice T.a T.len T.cap, .int .i64 U.v, .string U.nm, .slice U.a U.len U.cap] 24)) (biT nm b T U) := by
  subst hb
  have hB : Below w.heap.size w (w.alloc (.cells #[.int .i64 T.v, .string T.nm, .slice T.a T.len T.cap, .int .i64 U.v, .string U.nm, .slice U.a U.len U.cap] 24)) := (Below.refl _ _).alloc (Nat.le_refl _) _
  refine ⟨size2 _ hn, by unfold maxLen; omega, fun i hi => ?_⟩
  rcases (show i = 0 ∨ i = 1 by omega) with rfl | rfl
  · refine ⟨⟨w.heap.size, 0, rfl, ?_, ?_, ?_⟩, h.below hB⟩
    · show World.cell? _ ⟨w.heap.size, 0, none⟩ = some (.int .i64 T.v); go_simp
    · show World.cell? _ ⟨w.heap.size, 1, none⟩ = some (.string T.nm); go_simp
    · show World.cell? _ ⟨w.heap.size, 2, none⟩ = some (.slice T.a T.len T.cap); go_simp
  · refine ⟨⟨w.heap.size, 0, rfl, ?_, ?_, ?_⟩, h'.below hB⟩
    · show World.cell? _ ⟨w.heap.size, 3, none⟩ = some (.int .i64 U.v); go_simp
    · show World.cell? _ ⟨w.heap.size, 4, none⟩ = some (.string U.nm); go_simp
    · show World.cell? _ ⟨w.heap.size, 5, none⟩ = some (.slice U.a U.len U.cap); go_simp
theorem smp_in {w : World} {b1 b3 b6 b7 b8 : Nat} (hb : b8 = w.heap.size) (h1 : TIn w (unT ⟨#[112]⟩ b1 sA)) (h2 : TIn w (unT ⟨#[112]⟩ b3 sV)) (h3 : TIn w (one b7 (biT ⟨#[101, 113]⟩ b6 sV sB))) :
    PIn (w.alloc (.cells #[.int .i64 0, .string ⟨#[112]⟩, .slice (some ⟨b1, 0, none⟩) 1 1, .slice none 0 0, .int .i64 0, .string ⟨#[112]⟩, .slice (some ⟨b3, 0, none⟩) 1 1, .slice (some ⟨b7, 0, none⟩) 1 1] 82)) (smpP b1 b3 b6 b7 b8) := by
  subst hb
  have hB : Below w.heap.size w (w.alloc (.cells #[.int .i64 0, .string ⟨#[112]⟩, .slice (some ⟨b1, 0, none⟩) 1 1, .slice none 0 0, .int .i64 0, .string ⟨#[112]⟩, .slice (some ⟨b3, 0, none⟩) 1 1, .slice (some ⟨b7, 0, none⟩) 1 1] 82)) := (Below.refl _ _).alloc (Nat.le_refl _) _
  refine ⟨by show 2 ≤ maxLen; unfold maxLen; omega, fun i hi => ?_⟩
  have hi2 : i < 2 := hi
  rcases (show i = 0 ∨ i = 1 by omega) with rfl | rfl
  · refine ⟨⟨w.heap.size, 0, rfl, ?_, ?_, ?_, ?_⟩, h1.below hB, leaf_in _ _ _ (size2 _ (by decide))⟩
    · show World.cell? _ ⟨w.heap.size, 0, none⟩ = some (.int .i64 0); go_simp
    · show World.cell? _ ⟨w.heap.size, 1, none⟩ = some (.string ⟨#[112]⟩); go_simp
    · show World.cell? _ ⟨w.heap.size, 2, none⟩ = some (.slice (some ⟨b1, 0, none⟩) 1 1); go_simp
    · show World.cell? _ ⟨w.heap.size, 3, none⟩ = some (.slice none 0 0); go_simp
  · refine ⟨⟨w.heap.size, 0, rfl, ?_, ?_, ?_, ?_⟩, h2.below hB, h3.below hB⟩
    · show World.cell? _ ⟨w.heap.size, 4, none⟩ = some (.int .i64 0); go_simp
    · show World.cell? _ ⟨w.heap.size, 5, none⟩ = some (.string ⟨#[112]⟩); go_simp
    · show World.cell? _ ⟨w.heap.size, 6, none⟩ = some (.slice (some ⟨b3, 0, none⟩) 1 1); go_simp
    · show World.cell? _ ⟨w.heap.size, 7, none⟩ = some (.slice (some ⟨b7, 0, none⟩) 1 1); go_simp

set_option maxRecDepth 100000 in
set_option maxHeartbeats 2000000 in
theorem sample_any (w : World) : Calls Try.prog 74 #[] w fun e w' => ∃ b1 b3 b6 b7 b8 : Nat, e = .returned (.slice (some ⟨b8, 0, none⟩) 2 2) ∧ PIn w' (smpP b1 b3 b6 b7 b8) ∧ Below w.heap.size w w' := by
  go_enter Try.func74, Try.ntmps74
  go_wp2_with fail
  refine (fn_any _ _ 0 0 _).mono ?_
  rintro e w1 ⟨rfl, hb1⟩
  have HB : Hid (Below w.heap.size w w1) := hb1
  clear hb1
  go_wp2_with fail
  refine (fn_any _ _ 1 1 _).mono ?_
  rintro e w2 ⟨rfl, hb2⟩
  have H1 : Hid (TIn w2 (unT ⟨#[112]⟩ w1.heap.size sA)) := (un_in rfl (leaf_in w1 0 ⟨#[97]⟩ (size2 _ (by decide))) (by decide)).below hb2
  replace HB : Hid (Below w.heap.size w w2) := (HB.out.alloc HB.out.size _).trans (hb2.mono (by have := HB.out.size; simp; omega))
  generalize w1.heap.size = b1 at *
  clear hb2
  go_wp2_with fail
  refine (va_any 1 _).mono ?_
  rintro e w3 ⟨rfl, hb3⟩
  replace H1 : Hid (TIn w3 (unT ⟨#[112]⟩ b1 sA)) := H1.out.below hb3
  replace HB : Hid (Below w.heap.size w w3) := HB.out.trans (hb3.mono HB.out.size)
  clear hb3
  go_wp2_with fail
  refine (fn_any _ _ 1 1 _).mono ?_
  rintro e w4 ⟨rfl, hb4⟩
  have H2 : Hid (TIn w4 (unT ⟨#[112]⟩ w3.heap.size sV)) := (un_in rfl (leaf_in w3 1 ⟨#[]⟩ (size2 _ (by decide))) (by decide)).below hb4
  replace H1 : Hid (TIn w4 (unT ⟨#[112]⟩ b1 sA)) := (H1.out.below ((Below.refl _ _).alloc (Nat.le_refl _) _)).below hb4
  replace HB : Hid (Below w.heap.size w w4) := (HB.out.alloc HB.out.size _).trans (hb4.mono (by have := HB.out.size; simp; omega))
  generalize w3.heap.size = b3 at *
  clear hb4
  go_wp2_with fail
  refine (va_any 1 _).mono ?_
  rintro e w5 ⟨rfl, hb5⟩
  replace H1 : Hid (TIn w5 (unT ⟨#[112]⟩ b1 sA)) := H1.out.below hb5
  replace H2 : Hid (TIn w5 (unT ⟨#[112]⟩ b3 sV)) := H2.out.below hb5
  replace HB : Hid (Below w.heap.size w w5) := HB.out.trans (hb5.mono HB.out.size)
  clear hb5
  go_wp2_with fail
  refine (fn_any _ _ 0 0 _).mono ?_
  rintro e w6 ⟨rfl, hb6⟩
  replace H1 : Hid (TIn w6 (unT ⟨#[112]⟩ b1 sA)) := H1.out.below hb6
  replace H2 : Hid (TIn w6 (unT ⟨#[112]⟩ b3 sV)) := H2.out.below hb6
  replace HB : Hid (Below w.heap.size w w6) := HB.out.trans (hb6.mono HB.out.size)
  clear hb6
  go_wp2_with fail
  refine (fn_any _ _ 2 2 _).mono ?_
  rintro e w7 ⟨rfl, hb7⟩
  have H3 : Hid (TIn w7 (biT ⟨#[101, 113]⟩ w6.heap.size sV sB)) := (bi_in rfl (leaf_in w6 1 ⟨#[]⟩ (size2 _ (by decide))) (leaf_in w6 0 ⟨#[98]⟩ (size2 _ (by decide))) (by decide)).below hb7
  replace H1 : Hid (TIn w7 (unT ⟨#[112]⟩ b1 sA)) := (H1.out.below ((Below.refl _ _).alloc (Nat.le_refl _) _)).below hb7
  replace H2 : Hid (TIn w7 (unT ⟨#[112]⟩ b3 sV)) := (H2.out.below ((Below.refl _ _).alloc (Nat.le_refl _) _)).below hb7
  replace HB : Hid (Below w.heap.size w w7) := (HB.out.alloc HB.out.size _).trans (hb7.mono (by have := HB.out.size; simp; omega))
  generalize w6.heap.size = b6 at *
  clear hb7
  have H4 : Hid (TIn (w7.alloc (.cells #[.int .i64 0, .string ⟨#[101, 113]⟩, .slice (some ⟨b6, 0, none⟩) 2 2] 24)) (one w7.heap.size (biT ⟨#[101, 113]⟩ b6 sV sB))) := one_in rfl H3.out
  have H5 : Hid (Below w7.heap.size w7 (w7.alloc (.cells #[.int .i64 0, .string ⟨#[101, 113]⟩, .slice (some ⟨b6, 0, none⟩) 2 2] 24))) := (Below.refl _ _).alloc (Nat.le_refl _) _
  have hsz := HB.out.size
  go_wp2_with fail
  go_ret
  refine ⟨b1, b3, b6, w7.heap.size, w7.heap.size + 1, rfl, smp_in (by simp) (H1.out.below H5.out) (H2.out.below H5.out) H4.out, ?_⟩
  exact (HB.out.trans (H5.out.mono hsz)).alloc (by simp; omega) _

def smQ (b c : Nat) : Tm := one b (unT ⟨#[112]⟩ c (leafT 1 ⟨#[]⟩))
theorem smE0 (b1 b3 b6 b7 b8 b c : Nat) : solveE (smpP b1 b3 b6 b7 b8) (smQ b c) 10 = 0 := by kernel_rfl
theorem smE1 (b1 b3 b6 b7 b8 b c : Nat) : (solP (smpP b1 b3 b6 b7 b8) (smQ b c) 10).fin = 1 := by kernel_rfl
theorem smE2 (b1 b3 b6 b7 b8 b c : Nat) : (solP (smpP b1 b3 b6 b7 b8) (smQ b c) 10).st = 2 := by kernel_rfl
theorem smE3 (b1 b3 b6 b7 b8 b c : Nat) : ((solP (smpP b1 b3 b6 b7 b8) (smQ b c) 10).ans.map List.length) = [1, 1] := by kernel_rfl
theorem smE4 (b1 b3 b6 b7 b8 b c : Nat) : sameT (((solP (smpP b1 b3 b6 b7 b8) (smQ b c) 10).ans.getD 1 []).getD 0 .nil) (leafT 0 ⟨#[98]⟩) = true := by kernel_rfl
theorem solveS (b1 b3 b6 b7 b8 b c : Nat) (w : World) (hP : PIn w (smpP b1 b3 b6 b7 b8)) (hQ : TIn w (smQ b c)) : Calls Try.prog 27 #[.slice (some ⟨b8, 0, none⟩) 2 2, .slice (some ⟨b, 0, none⟩) 1 1, .int .i64 10] w fun e w' => ∃ (g o ca cx : Nat) (ax : Option Addr) (X : Tm), e = .returned (.tuple #[.agg #[.slice (some ⟨g, o, none⟩) 2 ca, .int .i64 1, .int .i64 2], .int .i64 0]) ∧ Below w.heap.size w w' ∧ w'.cell? ⟨g, o + 1, none⟩ = some (.slice ax 1 cx) ∧ RowAt w' ax 0 X ∧ TIn w' X ∧ sameT X (leafT 0 ⟨#[98]⟩) = true := by
  refine (solve_any (smpP b1 b3 b6 b7 b8) (smQ b c) 10 w hP (Nat.le_refl _) hQ).mono ?_
  rintro e w' ⟨hb, h⟩
  rcases h with ⟨h, _⟩ | ⟨_, sa, ca, an, fin, st, rfl, hA, _, _, hf, hs, h1, h2, h3⟩
  · exact absurd (smE0 b1 b3 b6 b7 b8 b c) h
  have e1 := smE1 b1 b3 b6 b7 b8 b c
  have e2 := smE2 b1 b3 b6 b7 b8 b c
  have e3 := smE3 b1 b3 b6 b7 b8 b c
  have e4 := smE4 b1 b3 b6 b7 b8 b c
  rw [show (10 : Int).toNat = 10 from rfl] at h1 h2 h3
  rw [h2] at e1
  rw [h3] at e2
  rw [h1] at e3 e4
  have hfin : fin = 1 := by omega
  have hst : st = 2 := by omega
  obtain ⟨A, B, rfl⟩ : ∃ A B, an = [A, B] := by
    have hl : an.length = 2 := by have := congrArg List.length e3; simpa using this
    match an, hl with
    | [A, B], _ => exact ⟨A, B, rfl⟩
  subst hfin hst
  have hB : B.len = 1 := by
    have : (ansC B).length = 1 := by
      have := e3
      simp only [List.map_cons, List.map_nil, List.cons.injEq] at this
      exact this.2.1
    simpa [ansC, kidsL] using this
  obtain ⟨⟨g, o, rfl, hc⟩, hT⟩ := hA 1 (by simp)
  have hc : w'.cell? ⟨g, o + 1, none⟩ = some (.slice B.a B.len B.cap) := hc
  have hT : TIn w' B := hT
  rw [hB] at hc
  refine ⟨g, o, ca, B.cap, B.a, B.f 0, rfl, hb, hc, hT.row (by omega), hT.kid (by omega), ?_⟩
  have e5 : sameT ((ansC B).getD 0 .nil) (leafT 0 ⟨#[98]⟩) = true := e4
  have e6 : (ansC B).getD 0 .nil = can (B.f 0) := by simp [ansC, kidsL, hB]
  rw [e6] at e5
  exact (same_can _ _).2 (by have := (same_can _ _).1 e5; rwa [can_can] at this)
set_option maxRecDepth 100000 in
set_option maxHeartbeats 4000000 in
theorem begunS (w : World) :
    Calls Try.prog 30 #[] w fun e w' => e = .returned (.bool true) ∧ Below w.heap.size w w' := by
  go_enter Try.func30, Try.ntmps30
  go_wp2_with fail
  refine (sample_any _).mono ?_
  rintro e w1 ⟨b1, b3, b6, b7, b8, rfl, hP, hb⟩
  have HB1 : Hid (Below w.heap.size w w1) := hb
  have HP : Hid (∀ W, Below w1.heap.size w1 W → PIn W (smpP b1 b3 b6 b7 b8)) := fun W hW => hP.below hW
  clear hb hP
  go_wp2_with fail
  refine (va_any 1 _).mono ?_
  rintro e w2 ⟨rfl, hb⟩
  have HB2 : Hid (Below w1.heap.size w1 w2) := hb
  clear hb
  have HQ : Hid (TIn (w2.alloc (.cells #[.int .i64 1, .string ⟨#[]⟩, .slice none 0 0] 24)) (unT ⟨#[112]⟩ w2.heap.size (leafT 1 ⟨#[]⟩))) := un_in rfl (leaf_in w2 1 ⟨#[]⟩ (size2 _ (by decide))) (by decide)
  have HB3 : Hid (Below w1.heap.size w1 (w2.alloc (.cells #[.int .i64 1, .string ⟨#[]⟩, .slice none 0 0] 24))) := HB2.out.alloc HB2.out.size _
  go_wp2_with fail
  generalize w2.alloc (.cells #[.int .i64 1, .string ⟨#[]⟩, .slice none 0 0] 24) = w3 at *
  refine (fn_any _ _ 1 1 _).mono ?_
  rintro e w4 ⟨rfl, hb⟩
  have HB4 : Hid (Below w1.heap.size w1 w4) := HB3.out.trans (hb.mono HB3.out.size)
  replace HQ : Hid (TIn w4 (unT ⟨#[112]⟩ w2.heap.size (leafT 1 ⟨#[]⟩))) := HQ.out.below hb
  clear hb
  generalize w2.heap.size = c2 at *
  have HQ5 : Hid (TIn (w4.alloc (.cells #[.int .i64 0, .string ⟨#[112]⟩, .slice (some ⟨c2, 0, none⟩) 1 1] 24)) (smQ w4.heap.size c2)) := one_in rfl HQ.out
  have HB5 : Hid (Below w1.heap.size w1 (w4.alloc (.cells #[.int .i64 0, .string ⟨#[112]⟩, .slice (some ⟨c2, 0, none⟩) 1 1] 24))) := HB4.out.alloc HB4.out.size _
  have HSo : Hid (Calls Try.prog 27 #[.slice (some ⟨b8, 0, none⟩) 2 2, .slice (some ⟨w4.heap.size, 0, none⟩) 1 1, .int .i64 10] (w4.alloc (.cells #[.int .i64 0, .string ⟨#[112]⟩, .slice (some ⟨c2, 0, none⟩) 1 1] 24)) fun e w' => ∃ (g o ca cx : Nat) (ax : Option Addr) (X : Tm), e = .returned (.tuple #[.agg #[.slice (some ⟨g, o, none⟩) 2 ca, .int .i64 1, .int .i64 2], .int .i64 0]) ∧ Below (w4.alloc (.cells #[.int .i64 0, .string ⟨#[112]⟩, .slice (some ⟨c2, 0, none⟩) 1 1] 24)).heap.size (w4.alloc (.cells #[.int .i64 0, .string ⟨#[112]⟩, .slice (some ⟨c2, 0, none⟩) 1 1] 24)) w' ∧ w'.cell? ⟨g, o + 1, none⟩ = some (.slice ax 1 cx) ∧ RowAt w' ax 0 X ∧ TIn w' X ∧ sameT X (leafT 0 ⟨#[98]⟩) = true) := solveS b1 b3 b6 b7 b8 w4.heap.size c2 _ (HP.out _ HB5.out) HQ5.out
  go_wp2_with fail
  generalize w4.alloc (.cells #[.int .i64 0, .string ⟨#[112]⟩, .slice (some ⟨c2, 0, none⟩) 1 1] 24) = w5 at *
  refine HSo.out.mono ?_
  rintro e w6 ⟨g, o, ca, cx, ax, X, rfl, hb6, hc6, hr6, hX6, hs6⟩
  have HB6 : Hid (Below w.heap.size w w6) := (HB1.out.trans (HB5.out.mono HB1.out.size)).trans (hb6.mono (by have := HB1.out.size; have := HB5.out.size; omega))
  have HSX : Hid (sameT X (leafT 0 ⟨#[98]⟩) = true) := hs6
  have HX : Hid (∀ W, Below w6.heap.size w6 W → TIn W X) := fun W hW => hX6.below hW
  obtain ⟨bx, ox, rfl, d0, d1, d2⟩ := hr6
  rw [Nat.zero_mul, Nat.add_zero] at d0 d1 d2
  have HBr : Hid (Below w6.heap.size w6 (w6.alloc (.cells #[.slice (some ⟨g, o, none⟩) 2 ca, .int .i64 1, .int .i64 2] 44))) := (Below.refl _ _).alloc (Nat.le_refl _) _
  have HRs : Hid ((w6.alloc (.cells #[.slice (some ⟨g, o, none⟩) 2 ca, .int .i64 1, .int .i64 2] 44)).heap[w6.heap.size]? = some (.cells #[.slice (some ⟨g, o, none⟩) 2 ca, .int .i64 1, .int .i64 2] 44)) := heap_alloc_new w6 _
  have HKp0 : Hid (∀ W, Below w6.heap.size w6 W → W.cell? ⟨g, o + 1, none⟩ = some (.slice (some ⟨bx, ox, none⟩) 1 cx) ∧ W.cell? ⟨bx, ox, none⟩ = some (.int .i64 X.v) ∧ W.cell? ⟨bx, ox + 1, none⟩ = some (.string X.nm) ∧ W.cell? ⟨bx, ox + 2, none⟩ = some (.slice X.a X.len X.cap)) := fun W hW => ⟨(hW.cell (lt_of_cell hc6)).trans hc6, (hW.cell (lt_of_cell d0)).trans d0, (hW.cell (lt_of_cell d1)).trans d1, (hW.cell (lt_of_cell d2)).trans d2⟩
  clear hb6 hc6 hX6 hs6 d0 d1 d2 HP HQ HQ5 HSo
  go_wp2_with fail
  generalize w6.alloc (.cells #[.slice (some ⟨g, o, none⟩) 2 ca, .int .i64 1, .int .i64 2] 44) = w9 at *
  have hz9 : w6.heap.size < w9.heap.size := (Array.getElem?_eq_some_iff.1 HRs.out).1
  obtain ⟨r0', r1', r2', _, _, _⟩ := block_cells HRs.out
  have HKp : Hid (∀ W, Below w9.heap.size w9 W → (W.cell? ⟨w6.heap.size, 0, none⟩ = some (.slice (some ⟨g, o, none⟩) 2 ca) ∧ W.cell? ⟨w6.heap.size, 1, none⟩ = some (.int .i64 1) ∧ W.cell? ⟨w6.heap.size, 2, none⟩ = some (.int .i64 2)) ∧ W.cell? ⟨g, o + 1, none⟩ = some (.slice (some ⟨bx, ox, none⟩) 1 cx) ∧ W.cell? ⟨bx, ox, none⟩ = some (.int .i64 X.v) ∧ W.cell? ⟨bx, ox + 1, none⟩ = some (.string X.nm) ∧ W.cell? ⟨bx, ox + 2, none⟩ = some (.slice X.a X.len X.cap)) := fun W hW => ⟨⟨(hW.cell hz9).trans r0', (hW.cell hz9).trans r1', (hW.cell hz9).trans r2'⟩, HKp0.out W (HBr.out.trans (hW.mono (Nat.le_of_lt hz9)))⟩
  have HB9 : Hid (Below w9.heap.size w9 w9) := Below.refl _ _
  have HXX : Hid (∀ W, Below w9.heap.size w9 W → TIn W X) := fun W hW => HX.out W (HBr.out.trans (hW.mono (Nat.le_of_lt hz9)))
  clear r0' r1' r2'
  go_region_held3 (fun W => (W.cell? ⟨w6.heap.size, 0, none⟩ = some (.slice (some ⟨g, o, none⟩) 2 ca) ∧ W.cell? ⟨w6.heap.size, 1, none⟩ = some (.int .i64 1) ∧ W.cell? ⟨w6.heap.size, 2, none⟩ = some (.int .i64 2)) ∧ W.cell? ⟨g, o + 1, none⟩ = some (.slice (some ⟨bx, ox, none⟩) 1 cx) ∧ W.cell? ⟨bx, ox, none⟩ = some (.int .i64 X.v) ∧ W.cell? ⟨bx, ox + 1, none⟩ = some (.string X.nm) ∧ W.cell? ⟨bx, ox + 2, none⟩ = some (.slice X.a X.len X.cap)) (first | exact HKp.out _ HB9.out | exact HKp.out _ HB9.out.drew)
    (first
      | (go_at_call 48
         refine (fn_any _ _ _ _ _).mono ?_
         rintro e wn ⟨rfl, hb⟩
         replace HB9 : Hid (Below w9.heap.size w9 wn) := Below.trans (by first | exact HB9.out | exact HB9.out.drew) (hb.mono HB9.out.size)
         clear hb)
      | (go_at_call 25
         refine (same36 X (leafT 0 ⟨#[98]⟩) _ (by first | exact HXX.out _ HB9.out | exact HXX.out _ HB9.out.drew) (leaf_in _ _ _ (size2 _ (by decide)))).mono ?_
         rintro e wn ⟨rfl, hb⟩
         rw [HSX.out]
         replace HB9 : Hid (Below w9.heap.size w9 wn) := Below.trans (by first | exact HB9.out | exact HB9.out.drew) (hb.mono HB9.out.size)
         clear hb))
  all_goals
    go_wp2_with fail
    go_ret
    exact ⟨rfl, (HB6.out.trans (HBr.out.mono HB6.out.size)).trans (HB9.out.mono (by have := HB6.out.size; omega))⟩
end Go.Proofs.Ytmggaclaoefdaaa
