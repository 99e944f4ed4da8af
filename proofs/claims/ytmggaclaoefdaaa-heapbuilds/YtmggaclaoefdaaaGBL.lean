/- heap.Build, walked. The sample of the heap's laws, in numbers. The sample's heaps are right. unifyBegun is true. -/
import Derived.Deep.RegionHeld3
import Derived.Test.YtmggaclaoefdaaaGBK
import Derived.Test.YtmggaclaoefdaaaGAD
import Derived.Test.YtmggaclaoefdaaaGAH
import Derived.Test.YtmggaclaoefdaaaGBH
import Derived.Test.YtmggaclaoefdaaaGAJ
namespace Go.Proofs.Ytmggaclaoefdaaa
open Go.RowKit
set_option linter.unusedVariables false
set_option linter.unusedSimpArgs false
attribute [local go_sem] Oper.semAt_some

def B4 (v : Value) (n : Int) (l : Value) (c : Int) : Ending := .returned (.tuple #[v, .int .i64 n, l, .int .i64 c])
/-- What a term put behind a heap is: the heap, the cells of variables, where the term stands. -/
def putH (h : Nat → Cl) (len : Nat) (T : Tm) : HSt × Int := putT T ((List.range len).map h, fun _ => none)
def BuR (h : Nat → Cl) (len : Nat) (T : Tm) (w : World) (e : Ending) (w' : World) : Prop := ∃ c : Int, ChkR h len c ∧ Below w.heap.size w w' ∧ (
  (c ≠ 0 ∧ e = B4 (.slice none 0 0) 0 (.slice none 0 0) c) ∨ (c = 0 ∧ checkV T ≠ 0 ∧ e = B4 (.slice none 0 0) 0 (.slice none 0 0) (checkV T)) ∨ (c = 0 ∧ checkV T = 0 ∧ (
    (400000 < (putH h len T).1.1.length ∧ e = B4 (.slice none 0 0) 0 (.slice none 0 0) 2) ∨
    ((putH h len T).1.1.length ≤ 400000 ∧ ∃ (v : Value) (g : Nat), e = B4 v (putH h len T).2 (.slice (some ⟨g, 0, none⟩) 12 12) 0 ∧ CRw w.heap.size w' v (putH h len T).1.1 ∧ w'.ownsRow w.heap.size 3 1 (.slice (some ⟨g, 0, none⟩) 12 12) 12 ((List.range 12).map fun i : Nat => Value.int .i64 (whI (putH h len T).1.2 i))))))
theorem checkV_cnt {T : Tm} (h : checkV T = 0) : cnt T ≤ 60 := by
  unfold checkV at h
  by_cases hc : cnt T ≤ 60
  · exact hc
  · rw [if_neg hc] at h; omega
set_option maxRecDepth 100000 in
set_option maxHeartbeats 8000000 in
theorem build_any {a : Option Addr} {len cap : Nat} {h : Nat → Cl} (T : Tm) (w : World) (hh : HIn w a len h) (hcap : len ≤ cap) (hn : a = none → len = 0 ∧ cap = 0) (hT : TIn w T) :
    Calls Try.prog 42 #[.slice a len cap, T.val] w (BuR h len T w) := by
  have HBa : Hid (Below w.heap.size w (w.alloc (.cells #[.int .i64 T.v, .string T.nm, .slice T.a T.len T.cap] 24))) := (Below.refl _ _).alloc (Nat.le_refl _) _
  have HXa : Hid ((w.alloc (.cells #[.int .i64 T.v, .string T.nm, .slice T.a T.len T.cap] 24)).heap[w.heap.size]? = some (.cells #[.int .i64 T.v, .string T.nm, .slice T.a T.len T.cap] 24)) := heap_alloc_new _ _
  have hsa : (w.alloc (.cells #[.int .i64 T.v, .string T.nm, .slice T.a T.len T.cap] 24)).heap.size = w.heap.size + 1 := by simp
  have HH : Hid (∀ W, Below w.heap.size w W → HIn W a len h) := fun W hW => hh.below hW
  have HT : Hid (∀ W, Below w.heap.size w W → TIn W T) := fun W hW => hT.below hW
  have HC1 : Hid (Calls Try.prog 40 #[.slice a len cap] (w.alloc (.cells #[.int .i64 T.v, .string T.nm, .slice T.a T.len T.cap] 24)) fun e w' => ∃ c : Int, e = .returned (.int .i64 c) ∧ ChkR h len c ∧ Below (w.alloc (.cells #[.int .i64 T.v, .string T.nm, .slice T.a T.len T.cap] 24)).heap.size (w.alloc (.cells #[.int .i64 T.v, .string T.nm, .slice T.a T.len T.cap] 24)) w') := hcheck_any _ (HH.out _ HBa.out) hcap
  have HN : Hid (a = none → len = 0 ∧ cap = 0) := hn
  have hmm := @run_makeMap Try.prog
  clear hh hT hn
  show Calls Try.prog 42 #[.slice a len cap, .agg #[.int .i64 T.v, .string T.nm, .slice T.a T.len T.cap]] w _
  go_enter Try.func42, Try.ntmps42
  go_wp2_with fail
  generalize w.alloc (.cells #[.int .i64 T.v, .string T.nm, .slice T.a T.len T.cap] 24) = wa at *
  refine HC1.out.mono ?_
  rintro e w1 ⟨c, rfl, hc, hb1⟩
  have HCk : Hid (ChkR h len c) := hc
  have HB1 : Hid (Below w.heap.size w w1) := below_after2 HBa.out hb1
  have HX1 : Hid (w1.heap[w.heap.size]? = some (.cells #[.int .i64 T.v, .string T.nm, .slice T.a T.len T.cap] 24)) := (hb1.block _ (by omega)).trans HXa.out
  have hs1 : w.heap.size + 1 ≤ w1.heap.size := by have := hb1.size; omega
  clear hc hb1
  by_cases hc0 : c = 0
  case neg =>
    have hcb : (c != 0) = true := bne_iff_ne.2 hc0
    go_wp2_with fail
    refine bodyPost_ret (v := .tuple #[.slice none 0 0, .int .i64 0, .slice none 0 0, .int .i64 c]) (by simp [results, Try.results42, go_sem]) rfl ?_
    exact ⟨c, HCk.out, HB1.out, .inl ⟨hc0, rfl⟩⟩
  subst hc0
  obtain ⟨hG, hl4⟩ := ChkR.good HCk.out
  clear hG
  obtain ⟨x0, x1, x2, _⟩ := block_cells HX1.out
  have HC2 : Hid (Calls Try.prog 16 #[.agg #[.int .i64 T.v, .string T.nm, .slice T.a T.len T.cap]] w1 fun e w' => e = .returned (.int .i64 (checkV T)) ∧ Below w1.heap.size w1 w') := check_any T w1 (HT.out _ HB1.out)
  go_wp2_with fail
  refine HC2.out.mono ?_
  rintro e w2 ⟨rfl, hb2⟩
  have HB2 : Hid (Below w.heap.size w w2) := below_after2 HB1.out hb2
  have HX2 : Hid (w2.heap[w.heap.size]? = some (.cells #[.int .i64 T.v, .string T.nm, .slice T.a T.len T.cap] 24)) := (hb2.block _ (by omega)).trans HX1.out
  have hs2 : w.heap.size + 1 ≤ w2.heap.size := by have := hb2.size; omega
  clear hb2 x0 x1 x2
  by_cases ht0 : checkV T = 0
  case neg =>
    have hcb : (checkV T != 0) = true := bne_iff_ne.2 ht0
    have Hne : Hid (checkV T ≠ 0) := ht0
    generalize hcv : checkV T = cv at *
    go_wp2_with fail
    refine bodyPost_ret (v := .tuple #[.slice none 0 0, .int .i64 0, .slice none 0 0, .int .i64 cv]) (by simp [results, Try.results42, go_sem]) rfl ?_
    exact ⟨0, HCk.out, HB2.out, .inr (.inl ⟨rfl, by rw [hcv]; exact Hne.out, by rw [hcv]; rfl⟩)⟩
  have HT0 : Hid (checkV T = 0) := ht0
  have HOk : Hid (Okv 12 T) := okv_of_err T (checkV_err ht0)
  have hcn : cnt T ≤ 60 := checkV_cnt ht0
  rw [ht0]
  clear ht0
  have HB3 : Hid (Below w2.heap.size w2 (w2.alloc (.map #[] 0))) := (Below.refl _ _).alloc (Nat.le_refl _) _
  have HM3 : Hid (IM (w2.alloc (.map #[] 0)) w2.heap.size (fun _ => none)) := IM.made w2
  have HX3 : Hid ((w2.alloc (.map #[] 0)).heap[w.heap.size]? = some (.cells #[.int .i64 T.v, .string T.nm, .slice T.a T.len T.cap] 24)) := (HB3.out.block _ (by omega)).trans HX2.out
  have HBw3 : Hid (Below w.heap.size w (w2.alloc (.map #[] 0))) := below_after2 HB2.out HB3.out
  have hs3 : (w2.alloc (.map #[] 0)).heap.size = w2.heap.size + 1 := by simp
  generalize hmb : w2.heap.size = mb at *
  go_wp2_with fail
  generalize hw3 : w2.alloc (.map #[] 0) = w3 at *
  have HKp : Hid (∀ W, Below mb w3 W → W.cell? ⟨w.heap.size, 0, none⟩ = some (.int .i64 T.v) ∧ W.cell? ⟨w.heap.size, 1, none⟩ = some (.string T.nm) ∧ W.cell? ⟨w.heap.size, 2, none⟩ = some (.slice T.a T.len T.cap)) := fun W hW => by
    have hb := (hW.block w.heap.size (by omega)).trans HX3.out
    exact ⟨(block_cells hb).1, (block_cells hb).2.1, (block_cells hb).2.2.1⟩
  have HCl : Hid (∀ W, Below w3.heap.size w3 W → Calls Try.prog 87 #[.slice a len cap] W fun e w' => ∃ v, e = .returned v ∧ CRw w3.heap.size w' v ((List.range len).map h) ∧ Below w3.heap.size w3 w') := fun W hW => by
    refine (clone_any W (HH.out _ (below_after2 HBw3.out hW)) HN.out (by omega)).mono ?_
    rintro e w' ⟨v, rfl, h1, h2⟩
    exact ⟨v, rfl, ownsRow_mono h1 hW.size, hW.trans (h2.mono hW.size)⟩
  have HPu : Hid (∀ v4 w4 W, CRw w3.heap.size w4 v4 ((List.range len).map h) → Below w3.heap.size w3 w4 → Below w4.heap.size w4 W → Calls Try.prog 86 #[v4, .agg #[.int .i64 T.v, .string T.nm, .slice T.a T.len T.cap], .map (some mb)] W fun e w' => ∃ sv cv, e = .returned (.tuple #[.slice sv (putH h len T).1.1.length cv, .int .i64 (putH h len T).2]) ∧ CRw w3.heap.size w' (.slice sv (putH h len T).1.1.length cv) (putH h len T).1.1 ∧ IM w' mb (putH h len T).1.2 ∧ Below mb w3 w') := fun v4 w4 W hC hB hW => by
    have hWw : Below w3.heap.size w3 W := hB.trans (hW.mono hB.size)
    have hTW := HT.out _ (below_after2 HBw3.out hWw)
    have hMW : IM W mb (fun _ => none) := HM3.out.kept (grown_of_below hWw none) (by simp)
    refine (put_all T w3.heap.size mb v4 ((List.range len).map h, fun _ => none) W hTW HOk.out ?_ (hC.below hW) hMW hWw.size (by simp; omega)).mono ?_
    · refine (NM.old (M := MpH mb v4) (w := w) (HT.out w (Below.refl _ _)) fun k hk => ?_)
      rcases hk with e | e
      · omega
      · have := (hC.lt k e).1; omega
    · rintro e w5 ⟨v5, rfl, h1, h2, h3, _⟩
      obtain ⟨sv, cv, hv, _⟩ := CRw.form h1
      subst hv
      refine ⟨sv, cv, rfl, h1, h2, (hWw.mono (by omega)).trans ⟨h3.os, h3.tape, h3.output, h3.size, fun k hk => h3.block k (by have := hWw.size; omega) ?_⟩⟩
      rintro (e | e)
      · omega
      · have := (hC.lt k e).1; omega
  have HK0 := HKp.out w3 (Below.refl _ _)
  obtain ⟨x0, x1, x2⟩ := HK0
  go_region_held3 (fun W => W.cell? ⟨w.heap.size, 0, none⟩ = some (.int .i64 T.v) ∧ W.cell? ⟨w.heap.size, 1, none⟩ = some (.string T.nm) ∧ W.cell? ⟨w.heap.size, 2, none⟩ = some (.slice T.a T.len T.cap)) ((refine HKp.out _ ?_; repeat (first | exact HB5.out | exact HB4m.out | exact Below.refl _ _ | refine Below.drew ?_))) (first
    | (go_at_call 87
       refine (HCl.out _ (by repeat (first | exact Below.refl _ _ | refine Below.drew ?_))).mono ?_
       rintro e w4 ⟨v4, rfl, hC4, hb4⟩
       have HC4 : Hid (CRw w3.heap.size w4 v4 ((List.range len).map h)) := hC4
       have HB4 : Hid (Below w3.heap.size w3 w4) := hb4
       have HB4m : Hid (Below mb w3 w4) := hb4.mono (by omega)
       clear hC4 hb4)
    | (go_at_call 86
       refine (HPu.out v4 w4 _ HC4.out HB4.out (by repeat (first | exact Below.refl _ _ | refine Below.drew ?_))).mono ?_
       rintro e w5 ⟨sv, cv, rfl, hC5, hM5, hb5⟩
       have HC5 : Hid (CRw w3.heap.size w5 (.slice sv (putH h len T).1.1.length cv) (putH h len T).1.1) := hC5
       have HM5 : Hid (IM w5 mb (putH h len T).1.2) := hM5
       have HB5 : Hid (Below mb w3 w5) := hb5
       clear hC5 hM5 hb5))
  all_goals
    have HBw5 : Hid (Below w.heap.size w w5) := HBw3.out.trans (HB5.out.mono (by omega))
    have HWh : Hid (Calls Try.prog 88 #[.map (some mb)] w5 fun e w' => ∃ g, e = .returned (.slice (some ⟨g, 0, none⟩) 12 12) ∧ w'.ownsRow w5.heap.size 3 1 (.slice (some ⟨g, 0, none⟩) 12 12) 12 ((List.range 12).map fun i : Nat => Value.int .i64 (whI (putH h len T).1.2 i)) ∧ Below w5.heap.size w5 w') := where_any w5 HM5.out
    have hs5 := HBw5.out.size
    have hs35 : w.heap.size ≤ w3.heap.size := by omega
    by_cases hbig : 400000 < (putH h len T).1.1.length
    · have hb : decide (((putH h len T).1.1.length : Int) > 400000) = true := decide_eq_true (by omega)
      have HG : Hid (400000 < (putH h len T).1.1.length) := hbig
      go_wp2_with fail
      refine bodyPost_ret (v := .tuple #[.slice none 0 0, .int .i64 0, .slice none 0 0, .int .i64 2]) (by simp [results, Try.results42, go_sem]) rfl ?_
      exact ⟨0, HCk.out, HBw5.out, .inr (.inr ⟨rfl, HT0.out, .inl ⟨HG.out, rfl⟩⟩)⟩
    · have hb : decide (((putH h len T).1.1.length : Int) > 400000) = false := decide_eq_false (by omega)
      have HG : Hid ((putH h len T).1.1.length ≤ 400000) := Nat.le_of_not_lt hbig
      go_wp2_with fail
      refine HWh.out.mono ?_
      rintro e w6 ⟨g, rfl, hO6, hb6⟩
      have HO6 : Hid (w6.ownsRow w.heap.size 3 1 (.slice (some ⟨g, 0, none⟩) 12 12) 12 ((List.range 12).map fun i : Nat => Value.int .i64 (whI (putH h len T).1.2 i))) := ownsRow_mono hO6 hs5
      have HC6 : Hid (CRw w.heap.size w6 (.slice sv (putH h len T).1.1.length cv) (putH h len T).1.1) := ownsRow_mono (HC5.out.below hb6) hs35
      have HB6 : Hid (Below w.heap.size w w6) := below_after2 HBw5.out hb6
      clear hO6 hb6
      go_wp2_with fail
      refine bodyPost_ret (v := .tuple #[.slice sv (putH h len T).1.1.length cv, .int .i64 (putH h len T).2, .slice (some ⟨g, 0, none⟩) 12 12, .int .i64 0]) (by simp [results, Try.results42, go_sem]) rfl ?_
      exact ⟨0, HCk.out, HB6.out, .inr (.inr ⟨rfl, HT0.out, .inr ⟨HG.out, _, g, rfl, HC6.out, HO6.out⟩⟩)⟩
end Go.Proofs.Ytmggaclaoefdaaa

namespace Go.Proofs.Ytmggaclaoefdaaa
open Go.RowKit
set_option linter.unusedVariables false
set_option linter.unusedSimpArgs false

def nmC (c : UInt8) : ByteArray := ⟨#[c]⟩
def atC (c : UInt8) : Tm := .mk 0 (nmC c) none 0 0 (fun _ => .nil)
def fC (x y : Tm) : Tm := .mk 0 (nmC 102) none 2 0 (fun i => if i = 0 then x else if i = 1 then y else .nil)
def c0 : List Cl := [⟨2, 2, nmC 102⟩, frC 3, frC 4, frC 3, ⟨2, 0, nmC 97⟩]
def c1 : List Cl := c0 ++ [⟨2, 2, nmC 102⟩, frC 8, frC 9, ⟨2, 0, nmC 98⟩, frC 9]
def c2 : List Cl := bndL c1 3 8
def c3 : List Cl := bndL c2 9 4
theorem end_here {h : Nat → Cl} {len i : Nat} (hi : i < len) (hk : ¬ ((h i).k = 1 ∧ (h i).n ≠ i)) : endA h len i = i := endA_eq (.root hi hk)
theorem lk_one {h : Nat → Cl} {len v n t : Nat} (he : endA h len t = t) (hne : t ≠ v) (hl : leads h t = []) : lkL h len v (n + 1) [t] = .ok n := by
  rw [lkL_one, he]
  show (if t = v then _ else lkL h len v n (leads h t)) = _
  rw [if_neg hne, hl, lkL_nil]
theorem bd0 (n : Nat) (bs : List Nat) : bdH 3 8 (n + 1, c1, bs) = .yes (n, c2, bs ++ [3]) := by
  have h : lkL (hOf c1) 10 3 (n + 1) [8] = .ok n := lk_one (end_here (by omega) (by decide)) (by decide) rfl
  unfold bdH
  show (match lkL (hOf c1) 10 3 (n + 1) [8] with | .ok k => MR.yes (k, bndL c1 (swB c1 3 8).1 (swB c1 3 8).2, bs ++ [(swB c1 3 8).1]) | q => MR.no q.left c1 bs) = _
  rw [h]
  rfl
theorem bd1 (n : Nat) (bs : List Nat) : bdH 9 4 (n + 1, c2, bs) = .yes (n, c3, bs ++ [9]) := by
  have h : lkL (hOf c2) 10 9 (n + 1) [4] = .ok n := lk_one (end_here (by omega) (by decide)) (by decide) rfl
  unfold bdH
  show (match lkL (hOf c2) 10 9 (n + 1) [4] with | .ok k => MR.yes (k, bndL c2 (swB c2 9 4).1 (swB c2 9 4).2, bs ++ [(swB c2 9 4).1]) | q => MR.no q.left c2 bs) = _
  rw [h]
  rfl
theorem end_step {h : Nat → Cl} {len i j : Nat} (hi : i < len) (hj : j < len) (hk : (h i).k = 1) (hn : (h i).n = (j : Int)) (hne : j ≠ i) (hr : ¬ ((h j).k = 1 ∧ (h j).n ≠ j)) : endA h len i = j := endA_eq (.step hi hk hn hne (.root hj hr))
theorem sm_first (f n : Nat) (bs : List Nat) : smH (f + 1) 1 6 (n + 2, c1, bs) = .yes (n, c2, bs ++ [3]) := by
  rw [smH_one]
  show smE (smH f) (endA (hOf c1) 10 1) (endA (hOf c1) 10 6) (n + 1, c1, bs) = _
  rw [end_step (j := 3) (by omega) (by omega) rfl rfl (by omega) (by decide), end_step (j := 8) (by omega) (by omega) rfl rfl (by omega) (by decide)]
  unfold smE
  rw [if_neg (show ¬ ((hOf c1 3).k = 1 ∧ 3 = 8) by decide), if_pos (by rfl)]
  exact bd0 n bs
theorem sm_second (f n : Nat) (bs : List Nat) : smH (f + 1) 2 7 (n + 2, c2, bs) = .yes (n, c3, bs ++ [9]) := by
  rw [smH_one]
  show smE (smH f) (endA (hOf c2) 10 2) (endA (hOf c2) 10 7) (n + 1, c2, bs) = _
  rw [end_step (j := 4) (by omega) (by omega) rfl rfl (by omega) (by decide), end_step (j := 9) (by omega) (by omega) rfl rfl (by omega) (by decide)]
  unfold smE
  rw [if_neg (show ¬ ((hOf c2 4).k = 1 ∧ 4 = 9) by decide), if_neg (show ¬ (hOf c2 4).k = 1 by decide), if_pos (by rfl)]
  exact bd1 n bs
theorem sm_all : smH 4001 0 5 (4000, c1, []) = .yes (3995, c3, [3, 9]) := by
  rw [smH_one]
  show smE (smH 4000) (endA (hOf c1) 10 0) (endA (hOf c1) 10 5) (3999, c1, []) = _
  rw [end_here (by omega) (by decide), end_here (by omega) (by decide)]
  unfold smE
  rw [if_neg (by decide), if_neg (by decide), if_neg (by decide), if_neg (fun h => h ⟨rfl, rfl⟩)]
  have h0 : smK (smH 4000) 0 5 0 (3999, c1, []) = .yes (3999, c1, []) := rfl
  have h1 : smK (smH 4000) 0 5 1 (3999, c1, []) = .yes (3997, c2, [3]) := by
    rw [smK_next h0]; exact sm_first 3999 3997 []
  show smK (smH 4000) 0 5 2 (3999, c1, []) = _
  rw [smK_next h1]
  exact sm_second 3999 3995 [3]
end Go.Proofs.Ytmggaclaoefdaaa

namespace Go.Proofs.Ytmggaclaoefdaaa
open Go.RowKit
set_option linter.unusedVariables false
set_option linter.unusedSimpArgs false

theorem chk_nil {h : Nat → Cl} {c : Int} (H : ChkR h 0 c) : c = 0 := by
  have h0 : ChkR h 0 0 := .inr (.inr ⟨by omega, rfl, .inl ⟨⟨fun _ => 0, fun x hx => absurd hx (Nat.not_lt_zero x)⟩, rfl⟩⟩)
  exact H.same h0
theorem acy_up {h : Nat → Cl} {len : Nat} (hu : ∀ x, x < len → ∀ y ∈ leads h x, x < y ∧ y < len) : Acy len (leads h) :=
  ⟨fun x => len - x, fun x hx y hy => by have := hu x hx y hy; show len - y < len - x; omega⟩
theorem chk_c0 : ChkR (hOf c0) 5 0 := .inr (.inr ⟨by omega, by kernel_rfl, .inl ⟨acy_up (by decide), rfl⟩⟩)
theorem chk_c1 : ChkR (hOf c1) 10 0 := .inr (.inr ⟨by omega, by kernel_rfl, .inl ⟨acy_up (by decide), rfl⟩⟩)
theorem good_c1 : HG (hOf c1) 10 := chk_c1.good.1
theorem nm_c1 : ∀ c ∈ c1, c.nm.size ≤ maxLen := by
  intro c hc
  simp [c1, c0] at hc
  rcases hc with rfl | rfl | rfl | rfl | rfl | rfl | rfl | rfl | rfl | rfl <;> (unfold maxLen; simp [frC, nmC, ByteArray.size])
theorem good_c3 : HG (hOf c3) 10 := by
  have h := (smH_good 4001 0 5 (4000, c1, []) ⟨good_c1, nm_c1⟩ (by show 0 < 10; omega) (by show 5 < 10; omega)).hg
  rw [sm_all] at h
  exact h
theorem chk_c3 : ChkR (hOf c3) 10 0 := .inr (.inr ⟨by omega, by kernel_rfl, .inl ⟨good_c3.acy, rfl⟩⟩)
theorem std_at {h : Nat → Cl} {len i z : Nat} {c : UInt8} (H : HG h len) (hi : i < len) (he : endA h len i = z) (hk : (h z).k = 2) (hn : (h z).n = ((0 : Nat) : Int)) (hm : (h z).nm = nmC c) : std h len i = can (atC c) := by
  subst he
  rw [std_fn H hi hk hn, hm]
  show _ = Tm.mk 0 (nmC c) none 0 0 (fun i => if i < 0 then can .nil else .nil)
  congr 1
theorem std_c3 : std (hOf c3) 10 5 = can (fC (atC 98) (atC 97)) := by
  have e5 : endA (hOf c3) 10 5 = 5 := end_here (by omega) (by decide)
  have e6 : endA (hOf c3) 10 6 = 8 := end_step (by omega) (by omega) rfl rfl (by omega) (by decide)
  have e7 : endA (hOf c3) 10 7 = 4 := endA_eq (.step (j := 9) (by omega) rfl rfl (by omega) (.step (j := 4) (by omega) rfl rfl (by omega) (.root (by omega) (by decide))))
  have s6 := std_at (c := 98) good_c3 (by omega) e6 rfl rfl rfl
  have s7 := std_at (c := 97) good_c3 (by omega) e7 rfl rfl rfl
  rw [std_fn (n := 2) good_c3 (by omega) (by rw [e5]; rfl) (by rw [e5]; rfl), e5]
  show Tm.mk 0 (nmC 102) none 2 0 _ = Tm.mk 0 (nmC 102) none 2 0 (fun i => if i < 2 then can (if i = 0 then atC 98 else if i = 1 then atC 97 else .nil) else .nil)
  congr 1
  funext j
  by_cases h0 : j = 0
  · subst h0; exact s6
  by_cases h1 : j = 1
  · subst h1; exact s7
  rw [if_neg (by omega), if_neg (by omega)]
theorem cnt_c3 : cntA (hOf c3) 10 5 = 3 := by
  unfold cntA
  rw [std_c3]
  rfl
theorem vs_c3 : vsT (std (hOf c3) 10 5) = [] := by
  rw [std_c3]
  rfl
theorem end_c3 : endA (hOf c3) 10 0 = 0 := end_here (by omega) (by decide)
end Go.Proofs.Ytmggaclaoefdaaa

namespace Go.Proofs.Ytmggaclaoefdaaa
open Go.RowKit

/-- A name with two leaves. -/
def duo (nm : ByteArray) (b : Nat) (T U : Tm) : Tm := .mk 0 nm (some ⟨b, 0, none⟩) 2 2 (fun i => if i = 0 then T else U)
theorem duo_in (w : World) (nm : ByteArray) (v u : Int) (n k : ByteArray) (h : nm.size ≤ maxLen) (hn : n.size ≤ maxLen) (hk : k.size ≤ maxLen) : TIn (w.alloc (.cells #[.int .i64 v, .string n, .slice none 0 0, .int .i64 u, .string k, .slice none 0 0] 24)) (duo nm w.heap.size (leafT v n) (leafT u k)) := by
  have hb := heap_alloc_new w (.cells #[.int .i64 v, .string n, .slice none 0 0, .int .i64 u, .string k, .slice none 0 0] 24)
  generalize w.alloc (.cells #[.int .i64 v, .string n, .slice none 0 0, .int .i64 u, .string k, .slice none 0 0] 24) = W at *
  refine ⟨h, by unfold maxLen; omega, fun i hi => ?_⟩
  have hi2 : i = 0 ∨ i = 1 := by omega
  rcases hi2 with rfl | rfl
  · refine ⟨⟨w.heap.size, 0, rfl, ?_, ?_, ?_⟩, leaf_in _ _ _ hn⟩ <;> simp [World.cell?, hb, leafT, Tm.v, Tm.nm, Tm.a, Tm.len, Tm.cap]
  · refine ⟨⟨w.heap.size, 0, rfl, ?_, ?_, ?_⟩, leaf_in _ _ _ hk⟩ <;> simp [World.cell?, hb, leafT, Tm.v, Tm.nm, Tm.a, Tm.len, Tm.cap]
end Go.Proofs.Ytmggaclaoefdaaa
