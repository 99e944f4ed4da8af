/- Answers that are the same: SameAnswers, SameResult. -/
import Derived.Test.YtmggaclaoefdaaaSv1
import Derived.Test.YtmggaclaoefdaaaGC
namespace Go.Proofs.Ytmggaclaoefdaaa
open Go.RowKit

/-- Answers in memory, wherever they lie. -/
def AR (w : World) (sa : Option Addr) (l : List Tm) : Prop := ∀ k (hk : k < l.length), (∃ b o, sa = some ⟨b, o, none⟩ ∧ w.cell? ⟨b, o + k, none⟩ = some (.slice l[k].a l[k].len l[k].cap)) ∧ TIn w l[k]
theorem AR.below {w w' : World} {sa : Option Addr} {l : List Tm} (h : AR w sa l) (hb : Below w.heap.size w w') : AR w' sa l := fun k hk => by
  obtain ⟨⟨b, o, e, hc⟩, hT⟩ := h k hk
  exact ⟨⟨b, o, e, (hb.cell (lt_of_cell hc)).trans hc⟩, hT.below hb⟩
def sameAs (l m : List Tm) : Bool := ((l.length : Int) == (m.length : Int)) && allTo (fun i => sameTs (l.getD i .nil) (m.getD i .nil)) l.length
theorem allTo_fail {g : Nat → Bool} {k n : Nat} (hk : k < n) (h : g k = false) : allTo g n = false := by
  cases hn : allTo g n with
  | false => rfl
  | true =>
    have := allTo_le (show k + 1 ≤ n by omega) hn
    rw [allTo, h, Bool.and_false] at this
    cases this
set_option maxRecDepth 100000 in
set_option maxHeartbeats 4000000 in
theorem sameAns_any {sa sb : Option Addr} {ca cb : Nat} (l m : List Tm) (w : World) (hl : AR w sa l) (hm : AR w sb m) (hlb : l.length ≤ 2 ^ 63 - 1) :
    Calls Try.prog 33 #[.slice sa l.length ca, .slice sb m.length cb] w fun e w' => e = .returned (.bool (sameAs l m)) ∧ Below w.heap.size w w' := by
  have HL : Hid (AR w sa l) := hl
  have HM : Hid (AR w sb m) := hm
  clear hl hm
  by_cases hlm : l.length = m.length
  case neg =>
    have hnb : ((l.length : Int) != (m.length : Int)) = true := bne_iff_ne.2 (by omega)
    have HR : Hid (sameAs l m = false) := by
      rw [Hid]; unfold sameAs
      rw [beq_eq_false_iff_ne.2 (show (l.length : Int) ≠ (m.length : Int) by omega), Bool.false_and]
    go_enter Try.func33, Try.ntmps33
    go_wp2_with fail
    go_ret
    exact ⟨by rw [HR.out]; rfl, Below.refl _ _⟩
  have hnb : ((l.length : Int) != (m.length : Int)) = false := by rw [hlm]; simp
  have HR : Hid (sameAs l m = allTo (fun i => sameTs (l.getD i .nil) (m.getD i .nil)) l.length) := by
    rw [Hid]; unfold sameAs
    rw [beq_iff_eq.2 (show (l.length : Int) = (m.length : Int) by omega), Bool.true_and]
  have HLM : Hid (l.length = m.length) := hlm
  clear hlm
  go_enter Try.func33, Try.ntmps33
  go_wp2_with fail
  go_loopw [5] (fun x wr => ∃ j : Nat, j ≤ l.length ∧ x = .int .i64 j ∧ allTo (fun i => sameTs (l.getD i .nil) (m.getD i .nil)) j = true ∧ Below w.heap.size w wr) (fun x _ => l.length - (intOf x).toNat)
  case atStart => exact ⟨0, Nat.zero_le _, rfl, rfl, Below.refl _ _⟩
  case round =>
    obtain ⟨j, hj, rfl, hA, hB⟩ := hrel
    have HA : Hid (allTo (fun i => sameTs (l.getD i .nil) (m.getD i .nil)) j = true) := hA
    have HB : Hid (Below w.heap.size w wr) := hB
    clear hA hB
    by_cases hlt : j < l.length
    case neg =>
      have hje : j = l.length := by omega
      have HE : Hid (sameAs l m = true) := by rw [Hid, HR.out, ← hje]; exact HA.out
      clear hje
      go_wp2_with fail
      go_ret
      exact ⟨by rw [HE.out]; rfl, HB.out⟩
    have hltm : j < m.length := by have := HLM.out; omega
    obtain ⟨⟨b1, o1, rfl, d1⟩, hT1⟩ := HL.out.below HB.out j hlt
    obtain ⟨⟨b2, o2, rfl, d2⟩, hT2⟩ := HM.out.below HB.out j hltm
    have hg1 : l.getD j .nil = l[j] := by simp [List.getD, hlt]
    have hg2 : m.getD j .nil = m[j] := by simp [List.getD, hltm]
    have HT : Hid (TIn wr l[j] ∧ TIn wr m[j]) := ⟨hT1, hT2⟩
    have HNx : Hid (∀ b, sameTs l[j] m[j] = b → (b = true → allTo (fun i => sameTs (l.getD i .nil) (m.getD i .nil)) (j + 1) = true) ∧ (b = false → sameAs l m = false)) := fun b hb => by
      refine ⟨fun e => ?_, fun e => ?_⟩
      · rw [allTo, HA.out, hg1, hg2, hb, e]; rfl
      · rw [HR.out]; exact allTo_fail hlt (by rw [hg1, hg2, hb, e])
    clear hT1 hT2 hg1 hg2
    generalize l[j] = A at *
    generalize m[j] = B at *
    have hltI : (j : Int) < (l.length : Int) := by omega
    have hltJ : (j : Int) < (m.length : Int) := by omega
    have HKp : Hid (∀ W, Below wr.heap.size wr W → W.cell? ⟨b1, o1 + j, none⟩ = some (.slice A.a A.len A.cap) ∧ W.cell? ⟨b2, o2 + j, none⟩ = some (.slice B.a B.len B.cap)) := fun W hW => ⟨(hW.cell (lt_of_cell d1)).trans d1, (hW.cell (lt_of_cell d2)).trans d2⟩
    have HC : Hid (∀ W, Below wr.heap.size wr W → Calls Try.prog 24 #[.slice A.a A.len A.cap, .slice B.a B.len B.cap] W fun e w' => e = .returned (.bool (sameTs A B)) ∧ Below W.heap.size W w') := fun W hW => same18 A B W (HT.out.1.below hW) (HT.out.2.below hW)
    go_wp2_with fail
    go_region_held3 (fun w' => w'.cell? ⟨b1, o1 + j, none⟩ = some (.slice A.a A.len A.cap) ∧ w'.cell? ⟨b2, o2 + j, none⟩ = some (.slice B.a B.len B.cap)) ((refine HKp.out _ ?_; repeat (first | exact HB5.out | exact Below.refl _ _ | refine Below.drew ?_))) (first
      | (go_at_call 24
         refine (HC.out _ (by repeat (first | exact Below.refl _ _ | refine Below.drew ?_))).mono ?_
         rintro e w5 ⟨rfl, hb5⟩
         have HB5 : Hid (Below wr.heap.size wr w5) := Below.trans (by repeat (first | exact Below.refl _ _ | refine Below.drew ?_)) (hb5.mono (Nat.le_refl _))
         clear hb5))
    all_goals
      have HBf : Hid (Below w.heap.size w w5) := HB.out.trans (HB5.out.mono HB.out.size)
      cases hs : sameTs A B with
      | true =>
        have HN := (HNx.out true hs).1 rfl
        have HN' : Hid (allTo (fun i => sameTs (l.getD i .nil) (m.getD i .nil)) (j + 1) = true) := HN
        clear hs HN
        go_wp2_with fail
        go_roundw
        case rel => exact ⟨j + 1, by omega, by go_num, HN'.out, HBf.out⟩
        case measure => simp [intOf]; omega
      | false =>
        have HN : Hid (sameAs l m = false) := (HNx.out false hs).2 rfl
        clear hs
        go_wp2_with fail
        go_ret
        exact ⟨by rw [HN.out]; rfl, HBf.out⟩
/-- A result, as it lies: answers, end, steps. -/
def rsV (sa : Option Addr) (n ca : Nat) (fin st : Int) : Value := .agg #[.slice sa n ca, .int .i64 fin, .int .i64 st]
set_option maxRecDepth 100000 in
set_option maxHeartbeats 4000000 in
theorem sameRes_any {sa sb : Option Addr} {ca cb : Nat} (l m : List Tm) (f1 s1 f2 s2 : Int) (w : World) (hl : AR w sa l) (hm : AR w sb m) (hlb : l.length ≤ 2 ^ 63 - 1) :
    Calls Try.prog 32 #[rsV sa l.length ca f1 s1, rsV sb m.length cb f2 s2] w fun e w' => e = .returned (.bool ((f1 == f2) && ((s1 == s2) && sameAs l m))) ∧ Below w.heap.size w w' := by
  have HL : Hid (AR w sa l) := hl
  have HM : Hid (AR w sb m) := hm
  have HC : Hid (∀ W, Below w.heap.size w W → Calls Try.prog 33 #[.slice sa l.length ca, .slice sb m.length cb] W fun e w' => e = .returned (.bool (sameAs l m)) ∧ Below W.heap.size W w') := fun W hW => sameAns_any l m W (hl.below hW) (hm.below hW) hlb
  clear hl hm
  show Calls Try.prog 32 #[.agg #[.slice sa l.length ca, .int .i64 f1, .int .i64 s1], .agg #[.slice sb m.length cb, .int .i64 f2, .int .i64 s2]] w _
  have HBx : Hid (Below w.heap.size w ((w.alloc (.cells #[.slice sa l.length ca, .int .i64 f1, .int .i64 s1] 44)).alloc (.cells #[.slice sb m.length cb, .int .i64 f2, .int .i64 s2] 44))) := ((Below.refl _ _).alloc (Nat.le_refl _) _).alloc (by simp) _
  cases h1 : (f1 == f2) with
  | false =>
    go_enter Try.func32, Try.ntmps32
    go_wp2_with fail
    go_ret
    exact ⟨rfl, HBx.out⟩
  | true =>
    cases h2 : (s1 == s2) with
    | false =>
      go_enter Try.func32, Try.ntmps32
      go_wp2_with fail
      go_ret
      exact ⟨rfl, HBx.out⟩
    | true =>
      go_enter Try.func32, Try.ntmps32
      go_wp2_with fail
      refine (HC.out _ HBx.out).mono ?_
      rintro e w5 ⟨rfl, hb5⟩
      have HB5 : Hid (Below w.heap.size w w5) := HBx.out.trans (hb5.mono HBx.out.size)
      clear hb5
      go_wp2_with fail
      go_ret
      exact ⟨by rw [Bool.true_and, Bool.true_and]; rfl, HB5.out⟩
end Go.Proofs.Ytmggaclaoefdaaa
