/- The sample of the heap's laws, in numbers. The sample's heaps are right. unifyBegun is true. -/
import Derived.Test.YtmggaclaoefdaaaGBL
import Derived.Test.YtmggaclaoefdaaaGBO
import Derived.Test.YtmggaclaoefdaaaGAQ
namespace Go.Proofs.Ytmggaclaoefdaaa
open Go.RowKit
set_option linter.unusedVariables false
set_option linter.unusedSimpArgs false

def nmC (c : UInt8) : ByteArray := ⟨#[c]⟩
def atC (c : UInt8) : Tm := .mk 0 (nmC c) none 0 0 (fun _ => .nil)
def fC (x y : Tm) : Tm := .mk 0 (nmC 102) none 2 0 (fun i => if i = 0 then x else if i = 1 then y else .nil)
def c0 : List Cl := [⟨2, 2, nmC 102⟩, frC 3, frC 4, frC 3, ⟨2, 0, nmC 97⟩]
def c1 : List Cl := c0 ++ [⟨2, 2, nmC 102⟩, frC 8, frC 9, ⟨2, 0, nmC 98⟩, frC 9]
def c2 : List Cl := bndL c1 3 8
def c3 : List Cl := bndL c2 9 4
theorem end_here {h : Nat → Cl} {len i : Nat} (hi : i < len) (hk : ¬ ((h i).k = 1 ∧ (h i).n ≠ i)) : endA h len i = i := endA_eq (.root hi hk)
theorem lk_one {h : Nat → Cl} {len v n t : Nat} (he : endA h len t = t) (hne : t ≠ v) (hl : leads h t = []) : lkL h len v (n + 1) [t] = .ok n := by
  rw [lkL_one, he]
  show (if t = v then _ else lkL h len v n (leads h t)) = _
  rw [if_neg hne, hl, lkL_nil]
theorem bd0 (n : Nat) (bs : List Nat) : bdH 3 8 (n + 1, c1, bs) = .yes (n, c2, bs ++ [3]) := by
  have h : lkL (hOf c1) 10 3 (n + 1) [8] = .ok n := lk_one (end_here (by omega) (by decide)) (by decide) rfl
  unfold bdH
  show (match lkL (hOf c1) 10 3 (n + 1) [8] with | .ok k => MR.yes (k, bndL c1 (swB c1 3 8).1 (swB c1 3 8).2, bs ++ [(swB c1 3 8).1]) | q => MR.no q.left c1 bs) = _
  rw [h]
  rfl
theorem bd1 (n : Nat) (bs : List Nat) : bdH 9 4 (n + 1, c2, bs) = .yes (n, c3, bs ++ [9]) := by
  have h : lkL (hOf c2) 10 9 (n + 1) [4] = .ok n := lk_one (end_here (by omega) (by decide)) (by decide) rfl
  unfold bdH
  show (match lkL (hOf c2) 10 9 (n + 1) [4] with | .ok k => MR.yes (k, bndL c2 (swB c2 9 4).1 (swB c2 9 4).2, bs ++ [(swB c2 9 4).1]) | q => MR.no q.left c2 bs) = _
  rw [h]
  rfl
theorem end_step {h : Nat → Cl} {len i j : Nat} (hi : i < len) (hj : j < len) (hk : (h i).k = 1) (hn : (h i).n = (j : Int)) (hne : j ≠ i) (hr : ¬ ((h j).k = 1 ∧ (h j).n ≠ j)) : endA h len i = j := endA_eq (.step hi hk hn hne (.root hj hr))
theorem sm_first (f n : Nat) (bs : List Nat) : smH (f + 1) 1 6 (n + 2, c1, bs) = .yes (n, c2, bs ++ [3]) := by
  rw [smH_one]
  show smE (smH f) (endA (hOf c1) 10 1) (endA (hOf c1) 10 6) (n + 1, c1, bs) = _
  rw [end_step (j := 3) (by omega) (by omega) rfl rfl (by omega) (by decide), end_step (j := 8) (by omega) (by omega) rfl rfl (by omega) (by decide)]
  unfold smE
  rw [if_neg (show ¬ ((hOf c1 3).k = 1 ∧ 3 = 8) by decide), if_pos (by rfl)]
  exact bd0 n bs
theorem sm_second (f n : Nat) (bs : List Nat) : smH (f + 1) 2 7 (n + 2, c2, bs) = .yes (n, c3, bs ++ [9]) := by
  rw [smH_one]
  show smE (smH f) (endA (hOf c2) 10 2) (endA (hOf c2) 10 7) (n + 1, c2, bs) = _
  rw [end_step (j := 4) (by omega) (by omega) rfl rfl (by omega) (by decide), end_step (j := 9) (by omega) (by omega) rfl rfl (by omega) (by decide)]
  unfold smE
  rw [if_neg (show ¬ ((hOf c2 4).k = 1 ∧ 4 = 9) by decide), if_neg (show ¬ (hOf c2 4).k = 1 by decide), if_pos (by rfl)]
  exact bd1 n bs
theorem sm_all : smH 4001 0 5 (4000, c1, []) = .yes (3995, c3, [3, 9]) := by
  rw [smH_one]
  show smE (smH 4000) (endA (hOf c1) 10 0) (endA (hOf c1) 10 5) (3999, c1, []) = _
  rw [end_here (by omega) (by decide), end_here (by omega) (by decide)]
  unfold smE
  rw [if_neg (by decide), if_neg (by decide), if_neg (by decide), if_neg (fun h => h ⟨rfl, rfl⟩)]
  have h0 : smK (smH 4000) 0 5 0 (3999, c1, []) = .yes (3999, c1, []) := rfl
  have h1 : smK (smH 4000) 0 5 1 (3999, c1, []) = .yes (3997, c2, [3]) := by
    rw [smK_next h0]; exact sm_first 3999 3997 []
  show smK (smH 4000) 0 5 2 (3999, c1, []) = _
  rw [smK_next h1]
  exact sm_second 3999 3995 [3]
end Go.Proofs.Ytmggaclaoefdaaa

namespace Go.Proofs.Ytmggaclaoefdaaa
open Go.RowKit
set_option linter.unusedVariables false
set_option linter.unusedSimpArgs false

theorem chk_nil {h : Nat → Cl} {c : Int} (H : ChkR h 0 c) : c = 0 := by
  have h0 : ChkR h 0 0 := .inr (.inr ⟨by omega, rfl, .inl ⟨⟨fun _ => 0, fun x hx => absurd hx (Nat.not_lt_zero x)⟩, rfl⟩⟩)
  exact H.same h0
theorem acy_up {h : Nat → Cl} {len : Nat} (hu : ∀ x, x < len → ∀ y ∈ leads h x, x < y ∧ y < len) : Acy len (leads h) :=
  ⟨fun x => len - x, fun x hx y hy => by have := hu x hx y hy; show len - y < len - x; omega⟩
theorem chk_c0 : ChkR (hOf c0) 5 0 := .inr (.inr ⟨by omega, by kernel_rfl, .inl ⟨acy_up (by decide), rfl⟩⟩)
theorem chk_c1 : ChkR (hOf c1) 10 0 := .inr (.inr ⟨by omega, by kernel_rfl, .inl ⟨acy_up (by decide), rfl⟩⟩)
theorem good_c1 : HG (hOf c1) 10 := chk_c1.good.1
theorem nm_c1 : ∀ c ∈ c1, c.nm.size ≤ maxLen := by
  intro c hc
  simp [c1, c0] at hc
  rcases hc with rfl | rfl | rfl | rfl | rfl | rfl | rfl | rfl | rfl | rfl <;> (unfold maxLen; simp [frC, nmC, ByteArray.size])
theorem good_c3 : HG (hOf c3) 10 := by
  have h := (smH_good 4001 0 5 (4000, c1, []) ⟨good_c1, nm_c1⟩ (by show 0 < 10; omega) (by show 5 < 10; omega)).hg
  rw [sm_all] at h
  exact h
theorem chk_c3 : ChkR (hOf c3) 10 0 := .inr (.inr ⟨by omega, by kernel_rfl, .inl ⟨good_c3.acy, rfl⟩⟩)
theorem std_at {h : Nat → Cl} {len i z : Nat} {c : UInt8} (H : HG h len) (hi : i < len) (he : endA h len i = z) (hk : (h z).k = 2) (hn : (h z).n = ((0 : Nat) : Int)) (hm : (h z).nm = nmC c) : std h len i = can (atC c) := by
  subst he
  rw [std_fn H hi hk hn, hm]
  show _ = Tm.mk 0 (nmC c) none 0 0 (fun i => if i < 0 then can .nil else .nil)
  congr 1
theorem std_c3 : std (hOf c3) 10 5 = can (fC (atC 98) (atC 97)) := by
  have e5 : endA (hOf c3) 10 5 = 5 := end_here (by omega) (by decide)
  have e6 : endA (hOf c3) 10 6 = 8 := end_step (by omega) (by omega) rfl rfl (by omega) (by decide)
  have e7 : endA (hOf c3) 10 7 = 4 := endA_eq (.step (j := 9) (by omega) rfl rfl (by omega) (.step (j := 4) (by omega) rfl rfl (by omega) (.root (by omega) (by decide))))
  have s6 := std_at (c := 98) good_c3 (by omega) e6 rfl rfl rfl
  have s7 := std_at (c := 97) good_c3 (by omega) e7 rfl rfl rfl
  rw [std_fn (n := 2) good_c3 (by omega) (by rw [e5]; rfl) (by rw [e5]; rfl), e5]
  show Tm.mk 0 (nmC 102) none 2 0 _ = Tm.mk 0 (nmC 102) none 2 0 (fun i => if i < 2 then can (if i = 0 then atC 98 else if i = 1 then atC 97 else .nil) else .nil)
  congr 1
  funext j
  by_cases h0 : j = 0
  · subst h0; exact s6
  by_cases h1 : j = 1
  · subst h1; exact s7
  rw [if_neg (by omega), if_neg (by omega)]
theorem cnt_c3 : cntA (hOf c3) 10 5 = 3 := by
  unfold cntA
  rw [std_c3]
  rfl
theorem vs_c3 : vsT (std (hOf c3) 10 5) = [] := by
  rw [std_c3]
  rfl
theorem end_c3 : endA (hOf c3) 10 0 = 0 := end_here (by omega) (by decide)
end Go.Proofs.Ytmggaclaoefdaaa

namespace Go.Proofs.Ytmggaclaoefdaaa
open Go.RowKit

/-- A name with two leaves. -/
def duo (nm : ByteArray) (b : Nat) (T U : Tm) : Tm := .mk 0 nm (some ⟨b, 0, none⟩) 2 2 (fun i => if i = 0 then T else U)
def tA (b : Nat) : Tm := duo ⟨#[102]⟩ b (leafT 2 ⟨#[]⟩) (leafT 3 ⟨#[]⟩)
def tB (b : Nat) : Tm := duo ⟨#[102]⟩ b (leafT 1 ⟨#[]⟩) (leafT 0 ⟨#[97]⟩)
theorem duo_in (w : World) (nm : ByteArray) (v u : Int) (n k : ByteArray) (h : nm.size ≤ maxLen) (hn : n.size ≤ maxLen) (hk : k.size ≤ maxLen) : TIn (w.alloc (.cells #[.int .i64 v, .string n, .slice none 0 0, .int .i64 u, .string k, .slice none 0 0] 24)) (duo nm w.heap.size (leafT v n) (leafT u k)) := by
  have hb := heap_alloc_new w (.cells #[.int .i64 v, .string n, .slice none 0 0, .int .i64 u, .string k, .slice none 0 0] 24)
  generalize w.alloc (.cells #[.int .i64 v, .string n, .slice none 0 0, .int .i64 u, .string k, .slice none 0 0] 24) = W at *
  refine ⟨h, by unfold maxLen; omega, fun i hi => ?_⟩
  have hi2 : i = 0 ∨ i = 1 := by omega
  rcases hi2 with rfl | rfl
  · refine ⟨⟨w.heap.size, 0, rfl, ?_, ?_, ?_⟩, leaf_in _ _ _ hn⟩ <;> simp [World.cell?, hb, leafT, Tm.v, Tm.nm, Tm.a, Tm.len, Tm.cap]
  · refine ⟨⟨w.heap.size, 0, rfl, ?_, ?_, ?_⟩, leaf_in _ _ _ hk⟩ <;> simp [World.cell?, hb, leafT, Tm.v, Tm.nm, Tm.a, Tm.len, Tm.cap]
theorem chkA (b : Nat) : checkV (tA b) = 0 := by kernel_rfl
theorem chkB (b : Nat) : checkV (tB b) = 0 := by kernel_rfl
def sgOf : MO → Sg
  | .yes _ σ => σ
  | _ => σ0
def sgE (b c : Nat) : Sg := sgOf (meetF 4001 σ0 4000 [(tA b, tB c)])
theorem meetE (b c : Nat) : meetF 4001 σ0 4000 [(tA b, tB c)] = .yes 3995 (sgE b c) := by kernel_rfl
theorem roomE (b c : Nat) : ((List.range 12).all fun i : Nat => (roomF (sgE b c) 200 [vT ((i : Int) + 1)]).isSome) = true := by kernel_rfl
theorem ex1E (b c : Nat) : sameT (ex (sgE b c) 200 (vT 2)) (leafT 1 ⟨#[]⟩) = true := by kernel_rfl
theorem ex2E (b c : Nat) : sameT (ex (sgE b c) 200 (vT 3)) (leafT 0 ⟨#[97]⟩) = true := by kernel_rfl

theorem unifyE (b c : Nat) (w : World) (hA : TIn w (tA b)) (hB : TIn w (tB c)) : Calls Try.prog 21 #[(tA b).val, (tB c).val] w fun e w' => ∃ (g cp : Nat) (X Y : Tm), e = .returned (.tuple #[.slice (some ⟨g, 0, none⟩) 12 cp, .bool true, .int .i64 5, .int .i64 0]) ∧ Below w.heap.size w w' ∧ RowAt w' (some ⟨g, 0, none⟩) 1 X ∧ RowAt w' (some ⟨g, 0, none⟩) 2 Y ∧ TIn w' X ∧ TIn w' Y ∧ sameT X (leafT 1 ⟨#[]⟩) = true ∧ sameT Y (leafT 0 ⟨#[97]⟩) = true := by
  refine (unify_any (tA b) (tB c) w hA hB).mono ?_
  rintro e w' ⟨hb, h⟩
  rcases h with ⟨h, _⟩ | ⟨_, h, _⟩ | ⟨_, _, ⟨h, _⟩ | ⟨k, _, h, _⟩ | ⟨k, σ, _, h, _, _, h2⟩⟩
  · exact absurd (chkA b) h
  · exact absurd (chkB c) h
  · rw [meetE] at h; simp at h
  · rw [meetE] at h; simp at h
  · rw [meetE] at h
    injection h with hk hσ
    subst hk
    subst hσ
    rcases h2 with ⟨⟨i, hi, h3⟩, _⟩ | ⟨_, g, cp, ts, hL, rfl⟩
    · have h4 := List.all_eq_true.1 (roomE b c) i (by simp; omega)
      rw [h3] at h4; simp at h4
    · obtain ⟨Q, hv, hQ, _, hS⟩ := hL.terms
      injection hv with hv1 hv2 _
      have r1 := hQ.row (i := 1) (by omega)
      have r2 := hQ.row (i := 2) (by omega)
      rw [← hv1] at r1 r2
      have s1 := hS.2 1 (by omega)
      have s2 := hS.2 2 (by omega)
      refine ⟨g, cp, Q.f 1, Q.f 2, rfl, hb, r1, r2, hQ.kid (by omega), hQ.kid (by omega), ?_, ?_⟩
      · exact (same_can _ _).2 ((sim_can s1).trans ((same_can _ _).1 (ex1E b c)))
      · exact (same_can _ _).2 ((sim_can s2).trans ((same_can _ _).1 (ex2E b c)))
set_option maxRecDepth 100000 in
set_option maxHeartbeats 4000000 in
theorem begunU (w : World) :
    Calls Try.prog 23 #[] w fun e w' => e = .returned (.bool true) ∧ Below w.heap.size w w' := by
  have HB : Hid (Below w.heap.size w w) := Below.refl _ _
  go_enter Try.func23, Try.ntmps23
  go_wp2_with fail
  refine (va_any 2 _).mono ?_
  rintro e w1 ⟨rfl, hb⟩
  replace HB : Hid (Below w.heap.size w w1) := HB.out.trans (hb.mono HB.out.size)
  clear hb
  go_wp2_with fail
  refine (va_any 3 _).mono ?_
  rintro e w2 ⟨rfl, hb⟩
  replace HB : Hid (Below w.heap.size w w2) := HB.out.trans (hb.mono HB.out.size)
  clear hb
  have HA : Hid (TIn (w2.alloc (.cells #[.int .i64 2, .string ⟨#[]⟩, .slice none 0 0, .int .i64 3, .string ⟨#[]⟩, .slice none 0 0] 24)) (tA w2.heap.size)) := duo_in w2 ⟨#[102]⟩ 2 3 ⟨#[]⟩ ⟨#[]⟩ (size2 _ (by decide)) (size2 _ (by decide)) (size2 _ (by decide))
  replace HB : Hid (Below w.heap.size w (w2.alloc (.cells #[.int .i64 2, .string ⟨#[]⟩, .slice none 0 0, .int .i64 3, .string ⟨#[]⟩, .slice none 0 0] 24))) := HB.out.alloc HB.out.size _
  go_wp2_with fail
  generalize w2.alloc (.cells #[.int .i64 2, .string ⟨#[]⟩, .slice none 0 0, .int .i64 3, .string ⟨#[]⟩, .slice none 0 0] 24) = w3 at *
  refine (fn_any _ _ _ _ _).mono ?_
  rintro e w4 ⟨rfl, hb⟩
  replace HB : Hid (Below w.heap.size w w4) := HB.out.trans (hb.mono HB.out.size)
  replace HA : Hid (TIn w4 (tA w2.heap.size)) := HA.out.below hb
  clear hb
  go_wp2_with fail
  refine (va_any 1 _).mono ?_
  rintro e w5 ⟨rfl, hb⟩
  replace HB : Hid (Below w.heap.size w w5) := HB.out.trans (hb.mono HB.out.size)
  replace HA : Hid (TIn w5 (tA w2.heap.size)) := HA.out.below hb
  clear hb
  go_wp2_with fail
  refine (fn_any _ _ _ _ _).mono ?_
  rintro e w6 ⟨rfl, hb⟩
  replace HB : Hid (Below w.heap.size w w6) := HB.out.trans (hb.mono HB.out.size)
  replace HA : Hid (TIn w6 (tA w2.heap.size)) := HA.out.below hb
  clear hb
  have HBx : Hid (Below w6.heap.size w6 (w6.alloc (.cells #[.int .i64 1, .string ⟨#[]⟩, .slice none 0 0, .int .i64 0, .string ⟨#[97]⟩, .slice none 0 0] 24))) := (Below.refl _ _).alloc (Nat.le_refl _) _
  have HT : Hid (TIn (w6.alloc (.cells #[.int .i64 1, .string ⟨#[]⟩, .slice none 0 0, .int .i64 0, .string ⟨#[97]⟩, .slice none 0 0] 24)) (tB w6.heap.size)) := duo_in w6 ⟨#[102]⟩ 1 0 ⟨#[]⟩ ⟨#[97]⟩ (size2 _ (by decide)) (size2 _ (by decide)) (size2 _ (by decide))
  replace HB : Hid (Below w.heap.size w (w6.alloc (.cells #[.int .i64 1, .string ⟨#[]⟩, .slice none 0 0, .int .i64 0, .string ⟨#[97]⟩, .slice none 0 0] 24))) := HB.out.alloc HB.out.size _
  replace HA : Hid (TIn (w6.alloc (.cells #[.int .i64 1, .string ⟨#[]⟩, .slice none 0 0, .int .i64 0, .string ⟨#[97]⟩, .slice none 0 0] 24)) (tA w2.heap.size)) := HA.out.below HBx.out
  clear HBx
  go_wp2_with fail
  generalize w6.alloc (.cells #[.int .i64 1, .string ⟨#[]⟩, .slice none 0 0, .int .i64 0, .string ⟨#[97]⟩, .slice none 0 0] 24) = w7 at *
  refine (fn_any _ _ _ _ _).mono ?_
  rintro e w8 ⟨rfl, hb⟩
  replace HB : Hid (Below w.heap.size w w8) := HB.out.trans (hb.mono HB.out.size)
  replace HA : Hid (TIn w8 (tA w2.heap.size)) := HA.out.below hb
  replace HT : Hid (TIn w8 (tB w6.heap.size)) := HT.out.below hb
  clear hb
  go_wp2_with fail
  have HU : Hid (Calls Try.prog 21 #[.agg #[.int .i64 0, .string ⟨#[102]⟩, .slice (some ⟨w2.heap.size, 0, none⟩) 2 2], .agg #[.int .i64 0, .string ⟨#[102]⟩, .slice (some ⟨w6.heap.size, 0, none⟩) 2 2]] w8 fun e w' => ∃ (g cp : Nat) (X Y : Tm), e = .returned (.tuple #[.slice (some ⟨g, 0, none⟩) 12 cp, .bool true, .int .i64 5, .int .i64 0]) ∧ Below w8.heap.size w8 w' ∧ RowAt w' (some ⟨g, 0, none⟩) 1 X ∧ RowAt w' (some ⟨g, 0, none⟩) 2 Y ∧ TIn w' X ∧ TIn w' Y ∧ sameT X (leafT 1 ⟨#[]⟩) = true ∧ sameT Y (leafT 0 ⟨#[97]⟩) = true) := unifyE _ _ w8 HA.out HT.out
  refine HU.out.mono ?_
  rintro e w9 ⟨g, cp, X, Y, rfl, hb, hr1, hr2, hX, hY, hsX, hsY⟩
  replace HB : Hid (Below w.heap.size w w9) := HB.out.trans (hb.mono HB.out.size)
  have HX : Hid (∀ W, Below w9.heap.size w9 W → TIn W X ∧ TIn W Y) := fun W hW => ⟨hX.below hW, hY.below hW⟩
  have HSX : Hid (sameT X (leafT 1 ⟨#[]⟩) = true) := hsX
  have HSY : Hid (sameT Y (leafT 0 ⟨#[97]⟩) = true) := hsY
  have HKp : Hid (∀ W, Below w9.heap.size w9 W → W.cell? ⟨g, 3, none⟩ = some (.int .i64 X.v) ∧ W.cell? ⟨g, 4, none⟩ = some (.string X.nm) ∧ W.cell? ⟨g, 5, none⟩ = some (.slice X.a X.len X.cap) ∧ W.cell? ⟨g, 6, none⟩ = some (.int .i64 Y.v) ∧ W.cell? ⟨g, 7, none⟩ = some (.string Y.nm) ∧ W.cell? ⟨g, 8, none⟩ = some (.slice Y.a Y.len Y.cap)) := fun W hW => by
    obtain ⟨b1, o1, e1, c0, c1, c2⟩ := hr1.below hW
    obtain ⟨b2, o2, e2, d0, d1, d2⟩ := hr2.below hW
    injection e1 with e1
    injection e2 with e2
    injection e1 with e1 e1' _
    injection e2 with e2 e2' _
    subst e1 e1' e2 e2'
    exact ⟨c0, c1, c2, d0, d1, d2⟩
  have HB9 : Hid (Below w9.heap.size w9 w9) := Below.refl _ _
  clear hb hr1 hr2 hX hY hsX hsY HA HT
  go_wp2_with fail
  have tok1 : True := trivial
  go_region_held3 (fun W => W.cell? ⟨g, 3, none⟩ = some (.int .i64 X.v) ∧ W.cell? ⟨g, 4, none⟩ = some (.string X.nm) ∧ W.cell? ⟨g, 5, none⟩ = some (.slice X.a X.len X.cap) ∧ W.cell? ⟨g, 6, none⟩ = some (.int .i64 Y.v) ∧ W.cell? ⟨g, 7, none⟩ = some (.string Y.nm) ∧ W.cell? ⟨g, 8, none⟩ = some (.slice Y.a Y.len Y.cap)) (first | exact HKp.out _ HB9.out | exact HKp.out _ HB9.out.drew)
    (first
      | (go_at_call 52
         refine (va_any _ _).mono ?_
         rintro e wn ⟨rfl, hb⟩
         replace HB9 : Hid (Below w9.heap.size w9 wn) := Below.trans (by first | exact HB9.out | exact HB9.out.drew) (hb.mono HB9.out.size)
         clear hb)
      | (go_at_call 48
         refine (fn_any _ _ _ _ _).mono ?_
         rintro e wn ⟨rfl, hb⟩
         replace HB9 : Hid (Below w9.heap.size w9 wn) := Below.trans (by first | exact HB9.out | exact HB9.out.drew) (hb.mono HB9.out.size)
         clear hb)
      | (go_at_call 25
         have _t := tok1
         refine (same36 X (leafT 1 ⟨#[]⟩) _ (by first | exact (HX.out _ HB9.out).1 | exact (HX.out _ HB9.out.drew).1) (leaf_in _ _ _ (size2 _ (by decide)))).mono ?_
         rintro e wn ⟨rfl, hb⟩
         rw [HSX.out]
         replace HB9 : Hid (Below w9.heap.size w9 wn) := Below.trans (by first | exact HB9.out | exact HB9.out.drew) (hb.mono HB9.out.size)
         clear hb tok1)
      | (go_at_call 25
         refine (same36 Y (leafT 0 ⟨#[97]⟩) _ (by first | exact (HX.out _ HB9.out).2 | exact (HX.out _ HB9.out.drew).2) (leaf_in _ _ _ (size2 _ (by decide)))).mono ?_
         rintro e wn ⟨rfl, hb⟩
         rw [HSY.out]
         replace HB9 : Hid (Below w9.heap.size w9 wn) := Below.trans (by first | exact HB9.out | exact HB9.out.drew) (hb.mono HB9.out.size)
         clear hb))
  all_goals
    go_wp2_with fail
    go_ret
    exact ⟨rfl, HB.out.trans (HB9.out.mono HB.out.size)⟩
end Go.Proofs.Ytmggaclaoefdaaa
