/- What sample answers. -/
import Derived.Test.YtmggaclaoefdaaaDoorSim
import Derived.Test.YtmggaclaoefdaaaDoorBegun0
namespace Go.Proofs.YtmggaclaoefdaaaDoor
open Go.RowKit

/-- A name of two arguments. -/
def biT (nm : ByteArray) (b : Nat) (T U : Tm) : Tm := .mk 0 nm (some ⟨b, 0, none⟩) 2 2 (fun i => if i = 0 then T else U)
def sA : Tm := leafT 0 ⟨#[97]⟩
def sV : Tm := leafT 1 ⟨#[]⟩
def sB : Tm := leafT 0 ⟨#[98]⟩
def smpP (b1 b3 b6 b7 b8 : Nat) : Pg := { a := some ⟨b8, 0, none⟩, len := 2, cap := 2, hd := fun i => if i = 0 then unT ⟨#[112]⟩ b1 sA else unT ⟨#[112]⟩ b3 sV, bd := fun i => if i = 0 then leafT 0 ⟨#[]⟩ else one b7 (biT ⟨#[101, 113]⟩ b6 sV sB) }
theorem Sim_leaf {v : Int} {nm : ByteArray} {U : Tm} (h0 : v = U.v) (h1 : nm = U.nm) (h2 : 0 = U.len) : Sim (leafT v nm) U := ⟨h0, h1, h2, fun i hi => absurd hi (Nat.not_lt_zero i)⟩
theorem smp_sim (b1 b3 b6 b7 b8 : Nat) : PSim (smpP b1 b3 b6 b7 b8) smpD := by
  refine ⟨by show 2 = smpD.length; decide +kernel, fun i hi => ?_⟩
  have hi2 : i < 2 := hi
  rcases (show i = 0 ∨ i = 1 by omega) with rfl | rfl
  · refine ⟨⟨by decide +kernel, by decide +kernel, by decide +kernel, fun j hj => ?_⟩, by show 0 = (smpD.getD 0 nilD).2.length; decide +kernel, fun j hj => absurd hj (Nat.not_lt_zero j)⟩
    obtain rfl : j = 0 := by omega
    exact Sim_leaf (by decide +kernel) (by decide +kernel) (by decide +kernel)
  · refine ⟨⟨by decide +kernel, by decide +kernel, by decide +kernel, fun j hj => ?_⟩, by show 1 = (smpD.getD 1 nilD).2.length; decide +kernel, fun j hj => ?_⟩
    · obtain rfl : j = 0 := by omega
      exact Sim_leaf (by decide +kernel) (by decide +kernel) (by decide +kernel)
    · have hj1 : j < 1 := hj
      obtain rfl : j = 0 := by omega
      refine ⟨by decide +kernel, by decide +kernel, by decide +kernel, fun k hk => ?_⟩
      rcases (show k = 0 ∨ k = 1 by omega) with rfl | rfl
      · exact Sim_leaf (by decide +kernel) (by decide +kernel) (by decide +kernel)
      · exact Sim_leaf (by decide +kernel) (by decide +kernel) (by decide +kernel)
theorem un_in {w : World} {b : Nat} {T : Tm} {nm : ByteArray} (hb : b = w.heap.size) (h : TIn w T) (hn : nm.size ≤ 2) : TIn (w.alloc (.cells #[.int .i64 T.v, .string T.nm, .slice T.a T.len T.cap] 48)) (unT nm b T) :=
  (one_in hb h).rename (size2 _ hn)
theorem bi_in {w : World} {b : Nat} {T U : Tm} {nm : ByteArray} (hb : b = w.heap.size) (h : TIn w T) (h' : TIn w U) (hn : nm.size ≤ 2) : TIn (w.alloc (.cells #[.int .i64 T.v, .string T.nm, .slice T.a T.len T.cap, .int .i64 U.v, .string U.nm, .slice U.a U.len U.cap] 48)) (biT nm b T U) := by
  subst hb
  have hB : Below w.heap.size w (w.alloc (.cells #[.int .i64 T.v, .string T.nm, .slice T.a T.len T.cap, .int .i64 U.v, .string U.nm, .slice U.a U.len U.cap] 48)) := (Below.refl _ _).alloc (Nat.le_refl _) _
  refine ⟨size2 _ hn, by unfold maxLen; omega, fun i hi => ?_⟩
  rcases (show i = 0 ∨ i = 1 by omega) with rfl | rfl
  · refine ⟨⟨w.heap.size, 0, rfl, ?_, ?_, ?_⟩, h.below hB⟩
    · show World.cell? _ ⟨w.heap.size, 0, none⟩ = some (.int .i64 T.v); go_simp
    · show World.cell? _ ⟨w.heap.size, 1, none⟩ = some (.string T.nm); go_simp
    · show World.cell? _ ⟨w.heap.size, 2, none⟩ = some (.slice T.a T.len T.cap); go_simp
  · refine ⟨⟨w.heap.size, 0, rfl, ?_, ?_, ?_⟩, h'.below hB⟩
    · show World.cell? _ ⟨w.heap.size, 3, none⟩ = some (.int .i64 U.v); go_simp
    · show World.cell? _ ⟨w.heap.size, 4, none⟩ = some (.string U.nm); go_simp
    · show World.cell? _ ⟨w.heap.size, 5, none⟩ = some (.slice U.a U.len U.cap); go_simp
theorem smp_in {w : World} {b1 b3 b6 b7 b8 : Nat} (hb : b8 = w.heap.size) (h1 : TIn w (unT ⟨#[112]⟩ b1 sA)) (h2 : TIn w (unT ⟨#[112]⟩ b3 sV)) (h3 : TIn w (one b7 (biT ⟨#[101, 113]⟩ b6 sV sB))) :
    PIn (w.alloc (.cells #[.int .i64 0, .string ⟨#[112]⟩, .slice (some ⟨b1, 0, none⟩) 1 1, .slice none 0 0, .int .i64 0, .string ⟨#[112]⟩, .slice (some ⟨b3, 0, none⟩) 1 1, .slice (some ⟨b7, 0, none⟩) 1 1] 50)) (smpP b1 b3 b6 b7 b8) := by
  subst hb
  have hB : Below w.heap.size w (w.alloc (.cells #[.int .i64 0, .string ⟨#[112]⟩, .slice (some ⟨b1, 0, none⟩) 1 1, .slice none 0 0, .int .i64 0, .string ⟨#[112]⟩, .slice (some ⟨b3, 0, none⟩) 1 1, .slice (some ⟨b7, 0, none⟩) 1 1] 50)) := (Below.refl _ _).alloc (Nat.le_refl _) _
  refine ⟨by show 2 ≤ maxLen; unfold maxLen; omega, fun i hi => ?_⟩
  have hi2 : i < 2 := hi
  rcases (show i = 0 ∨ i = 1 by omega) with rfl | rfl
  · refine ⟨⟨w.heap.size, 0, rfl, ?_, ?_, ?_, ?_⟩, h1.below hB, leaf_in _ _ _ (size2 _ (by decide))⟩
    · show World.cell? _ ⟨w.heap.size, 0, none⟩ = some (.int .i64 0); go_simp
    · show World.cell? _ ⟨w.heap.size, 1, none⟩ = some (.string ⟨#[112]⟩); go_simp
    · show World.cell? _ ⟨w.heap.size, 2, none⟩ = some (.slice (some ⟨b1, 0, none⟩) 1 1); go_simp
    · show World.cell? _ ⟨w.heap.size, 3, none⟩ = some (.slice none 0 0); go_simp
  · refine ⟨⟨w.heap.size, 0, rfl, ?_, ?_, ?_, ?_⟩, h2.below hB, h3.below hB⟩
    · show World.cell? _ ⟨w.heap.size, 4, none⟩ = some (.int .i64 0); go_simp
    · show World.cell? _ ⟨w.heap.size, 5, none⟩ = some (.string ⟨#[112]⟩); go_simp
    · show World.cell? _ ⟨w.heap.size, 6, none⟩ = some (.slice (some ⟨b3, 0, none⟩) 1 1); go_simp
    · show World.cell? _ ⟨w.heap.size, 7, none⟩ = some (.slice (some ⟨b7, 0, none⟩) 1 1); go_simp

set_option maxRecDepth 100000 in
set_option maxHeartbeats 2000000 in
theorem sample27 (w : World) : Calls Tryd.prog 27 #[] w fun e w' => ∃ P, e = .returned (.slice P.a P.len P.cap) ∧ PSim P smpD ∧ PIn w' P ∧ Below w.heap.size w w' := by
  go_enter Tryd.func27, Tryd.ntmps27
  go_wp2_with fail
  refine (fn_any _ _ 0 0 _).mono ?_
  rintro e w1 ⟨rfl, hb1⟩
  have HB : Hid (Below w.heap.size w w1) := hb1
  clear hb1
  go_wp2_with fail
  refine (fn_any _ _ 1 1 _).mono ?_
  rintro e w2 ⟨rfl, hb2⟩
  have H1 : Hid (TIn w2 (unT ⟨#[112]⟩ w1.heap.size sA)) := (un_in rfl (leaf_in w1 0 ⟨#[97]⟩ (size2 _ (by decide))) (by decide)).below hb2
  replace HB : Hid (Below w.heap.size w w2) := (HB.out.alloc HB.out.size _).trans (hb2.mono (by have := HB.out.size; simp; omega))
  generalize w1.heap.size = b1 at *
  clear hb2
  go_wp2_with fail
  refine (va_any 1 _).mono ?_
  rintro e w3 ⟨rfl, hb3⟩
  replace H1 : Hid (TIn w3 (unT ⟨#[112]⟩ b1 sA)) := H1.out.below hb3
  replace HB : Hid (Below w.heap.size w w3) := HB.out.trans (hb3.mono HB.out.size)
  clear hb3
  go_wp2_with fail
  refine (fn_any _ _ 1 1 _).mono ?_
  rintro e w4 ⟨rfl, hb4⟩
  have H2 : Hid (TIn w4 (unT ⟨#[112]⟩ w3.heap.size sV)) := (un_in rfl (leaf_in w3 1 ⟨#[]⟩ (size2 _ (by decide))) (by decide)).below hb4
  replace H1 : Hid (TIn w4 (unT ⟨#[112]⟩ b1 sA)) := (H1.out.below ((Below.refl _ _).alloc (Nat.le_refl _) _)).below hb4
  replace HB : Hid (Below w.heap.size w w4) := (HB.out.alloc HB.out.size _).trans (hb4.mono (by have := HB.out.size; simp; omega))
  generalize w3.heap.size = b3 at *
  clear hb4
  go_wp2_with fail
  refine (va_any 1 _).mono ?_
  rintro e w5 ⟨rfl, hb5⟩
  replace H1 : Hid (TIn w5 (unT ⟨#[112]⟩ b1 sA)) := H1.out.below hb5
  replace H2 : Hid (TIn w5 (unT ⟨#[112]⟩ b3 sV)) := H2.out.below hb5
  replace HB : Hid (Below w.heap.size w w5) := HB.out.trans (hb5.mono HB.out.size)
  clear hb5
  go_wp2_with fail
  refine (fn_any _ _ 0 0 _).mono ?_
  rintro e w6 ⟨rfl, hb6⟩
  replace H1 : Hid (TIn w6 (unT ⟨#[112]⟩ b1 sA)) := H1.out.below hb6
  replace H2 : Hid (TIn w6 (unT ⟨#[112]⟩ b3 sV)) := H2.out.below hb6
  replace HB : Hid (Below w.heap.size w w6) := HB.out.trans (hb6.mono HB.out.size)
  clear hb6
  go_wp2_with fail
  refine (fn_any _ _ 2 2 _).mono ?_
  rintro e w7 ⟨rfl, hb7⟩
  have H3 : Hid (TIn w7 (biT ⟨#[101, 113]⟩ w6.heap.size sV sB)) := (bi_in rfl (leaf_in w6 1 ⟨#[]⟩ (size2 _ (by decide))) (leaf_in w6 0 ⟨#[98]⟩ (size2 _ (by decide))) (by decide)).below hb7
  replace H1 : Hid (TIn w7 (unT ⟨#[112]⟩ b1 sA)) := (H1.out.below ((Below.refl _ _).alloc (Nat.le_refl _) _)).below hb7
  replace H2 : Hid (TIn w7 (unT ⟨#[112]⟩ b3 sV)) := (H2.out.below ((Below.refl _ _).alloc (Nat.le_refl _) _)).below hb7
  replace HB : Hid (Below w.heap.size w w7) := (HB.out.alloc HB.out.size _).trans (hb7.mono (by have := HB.out.size; simp; omega))
  generalize w6.heap.size = b6 at *
  clear hb7
  have H4 : Hid (TIn (w7.alloc (.cells #[.int .i64 0, .string ⟨#[101, 113]⟩, .slice (some ⟨b6, 0, none⟩) 2 2] 48)) (one w7.heap.size (biT ⟨#[101, 113]⟩ b6 sV sB))) := one_in rfl H3.out
  have H5 : Hid (Below w7.heap.size w7 (w7.alloc (.cells #[.int .i64 0, .string ⟨#[101, 113]⟩, .slice (some ⟨b6, 0, none⟩) 2 2] 48))) := (Below.refl _ _).alloc (Nat.le_refl _) _
  have hsz := HB.out.size
  go_wp2_with fail
  go_ret
  refine ⟨smpP b1 b3 b6 w7.heap.size (w7.heap.size + 1), rfl, smp_sim _ _ _ _ _, smp_in (by simp) (H1.out.below H5.out) (H2.out.below H5.out) H4.out, ?_⟩
  exact (HB.out.trans (H5.out.mono hsz)).alloc (by simp; omega) _
end Go.Proofs.YtmggaclaoefdaaaDoor
