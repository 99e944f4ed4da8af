/- What Query and CheckQuery answer. -/
import Derived.Test.YtmggaclaoefdaaaDoorRefTerm
namespace Go.Proofs.YtmggaclaoefdaaaDoor
open Go.RowKit

def chks (T : Tm) (k : Nat) : Int := fst (fun i => checkV (T.f i)) k
/-- The answer of Query, for the arguments of T as a query. -/
def queryV (T : Tm) : Int := if T.len ≤ 6 then chks T T.len else 2
theorem chks_next (T : Tm) {k : Nat} (h : chks T k = 0) (h0 : checkV (T.f k) = 0) : chks T (k + 1) = 0 := by
  unfold chks at h ⊢; rw [fst, if_pos h]; exact h0
theorem chks_stop (T : Tm) {k : Nat} (hk : k < T.len) (h : chks T k = 0) (h0 : checkV (T.f k) ≠ 0) : chks T T.len = checkV (T.f k) := fst_stop _ hk h h0

set_option maxHeartbeats 400000 in
theorem query_any (T : Tm) (w : World) (hin : TIn w T) :
    Calls Tryd.prog 23 #[.slice T.a T.len T.cap] w fun e w' => e = .returned (.int .i64 (queryV T)) ∧ Below w.heap.size w w' := by
  have HIn : Hid (TIn w T) := hin
  have hlen : T.len ≤ 2 ^ 63 - 1 := hin.len
  clear hin
  by_cases h6 : T.len ≤ 6
  case neg =>
    have HR : Hid (queryV T = 2) := by rw [Hid, queryV, if_neg h6]
    go_enter Tryd.func23, Tryd.ntmps23
    go_wp2_with fail
    go_ret
    exact ⟨by rw [HR.out]; rfl, Below.refl _ _⟩
  have HR : Hid (queryV T = chks T T.len) := by rw [Hid, queryV, if_pos h6]
  have HStop : Hid (∀ k, k < T.len → chks T k = 0 → checkV (T.f k) ≠ 0 → queryV T = checkV (T.f k)) := fun k hk h h0 => HR.out.trans (chks_stop T hk h h0)
  have HRow : Hid (∀ k, k < T.len → ∀ wr, Below w.heap.size w wr → RowAt wr T.a k (T.f k) ∧ TIn wr (T.f k)) := fun k hk wr hb => ⟨(HIn.out.row hk).below hb, (HIn.out.kid hk).below hb⟩
  have HNext : Hid (∀ k, chks T k = 0 → checkV (T.f k) = 0 → chks T (k + 1) = 0) := fun k h h0 => chks_next T h h0
  generalize T.f = f at *
  generalize T.cap = cap at *
  generalize T.a = a at *
  generalize hl : T.len = len at *
  clear hl
  go_enter Tryd.func23, Tryd.ntmps23
  go_wp2_with fail
  go_loopw [11] (fun i wr => ∃ k : Nat, k ≤ len ∧ i = .int .i64 k ∧ chks T k = 0 ∧ Below w.heap.size w wr) (fun i _ => len - (intOf i).toNat)
  case atStart => exact ⟨0, Nat.zero_le _, rfl, rfl, Below.refl _ _⟩
  case round =>
    obtain ⟨k, hk, rfl, hf, hb⟩ := hrel
    have HF : Hid (chks T k = 0) := hf
    have HB : Hid (Below w.heap.size w wr) := hb
    have hsz := hb.size
    clear hf hb
    by_cases hlt : k < len
    · obtain ⟨⟨b, o, ha, c0, c1, c2⟩, hT⟩ := HRow.out k hlt wr HB.out
      have HT : Hid (TIn wr (f k)) := hT
      have HS := HStop.out k hlt HF.out
      have HS' : Hid (checkV (f k) ≠ 0 → queryV T = checkV (f k)) := HS
      have HN' : Hid (checkV (f k) = 0 → chks T (k + 1) = 0) := HNext.out k HF.out
      clear hT HS
      subst ha
      go_wp2_with fail
      refine (check_any (f k) _ (HT.out.below ((Below.refl _ _).alloc (Nat.le_refl _) _))).mono ?_
      rintro e w1 ⟨rfl, hb1⟩
      have HW1 : Hid (Below w.heap.size w w1) := (HB.out.trans (((Below.refl _ _).alloc (Nat.le_refl _) _).mono hsz)).trans (hb1.mono (by simp; omega))
      clear hb1
      by_cases hz : checkV (f k) = 0
      · have HX : Hid (chks T (k + 1) = 0) := HN'.out hz
        rw [hz]
        clear hz
        go_wp2_with fail
        go_roundw
        case rel => exact ⟨k + 1, by omega, by go_num, HX.out, HW1.out⟩
        case measure => simp [intOf]; omega
      · have HX : Hid (queryV T = checkV (f k)) := HS'.out hz
        have hzb : (checkV (f k) == 0) = false := beq_eq_false_iff_ne.2 hz
        clear hz
        go_wp2_with fail
        go_ret
        exact ⟨by rw [HX.out]; rfl, HW1.out⟩
    · have hke : k = len := by omega
      have HX : Hid (queryV T = 0) := by rw [Hid, HR.out, ← hke, HF.out]
      clear hke
      go_wp2_with fail
      go_ret
      exact ⟨by rw [HX.out]; rfl, HB.out⟩

set_option maxHeartbeats 400000 in
theorem checkQuery_any (T : Tm) (w : World) (hin : TIn w T) :
    Calls Tryd.prog 9 #[.slice T.a T.len T.cap] w fun e w' => e = .returned (.int .i64 (queryV T)) ∧ Below w.heap.size w w' := by
  have HIn : Hid (TIn w T) := hin
  have hlen : T.len ≤ 2 ^ 63 - 1 := hin.len
  clear hin
  by_cases h6 : T.len ≤ 6
  case neg =>
    have HR : Hid (queryV T = 2) := by rw [Hid, queryV, if_neg h6]
    go_enter Tryd.func9, Tryd.ntmps9
    go_wp2_with fail
    go_ret
    exact ⟨by rw [HR.out]; rfl, Below.refl _ _⟩
  have HR : Hid (queryV T = chks T T.len) := by rw [Hid, queryV, if_pos h6]
  have HStop : Hid (∀ k, k < T.len → chks T k = 0 → checkV (T.f k) ≠ 0 → queryV T = checkV (T.f k)) := fun k hk h h0 => HR.out.trans (chks_stop T hk h h0)
  have HRow : Hid (∀ k, k < T.len → ∀ wr, Below w.heap.size w wr → RowAt wr T.a k (T.f k) ∧ TIn wr (T.f k)) := fun k hk wr hb => ⟨(HIn.out.row hk).below hb, (HIn.out.kid hk).below hb⟩
  have HNext : Hid (∀ k, chks T k = 0 → checkV (T.f k) = 0 → chks T (k + 1) = 0) := fun k h h0 => chks_next T h h0
  generalize T.f = f at *
  generalize T.cap = cap at *
  generalize T.a = a at *
  generalize hl : T.len = len at *
  clear hl
  go_enter Tryd.func9, Tryd.ntmps9
  go_wp2_with fail
  go_loopw [3] (fun i wr => ∃ k : Nat, k ≤ len ∧ i = .int .i64 k ∧ chks T k = 0 ∧ Below w.heap.size w wr) (fun i _ => len - (intOf i).toNat)
  case atStart => exact ⟨0, Nat.zero_le _, rfl, rfl, Below.refl _ _⟩
  case round =>
    obtain ⟨k, hk, rfl, hf, hb⟩ := hrel
    have HF : Hid (chks T k = 0) := hf
    have HB : Hid (Below w.heap.size w wr) := hb
    have hsz := hb.size
    clear hf hb
    by_cases hlt : k < len
    · obtain ⟨⟨b, o, ha, c0, c1, c2⟩, hT⟩ := HRow.out k hlt wr HB.out
      have HT : Hid (TIn wr (f k)) := hT
      have HS := HStop.out k hlt HF.out
      have HS' : Hid (checkV (f k) ≠ 0 → queryV T = checkV (f k)) := HS
      have HN' : Hid (checkV (f k) = 0 → chks T (k + 1) = 0) := HNext.out k HF.out
      clear hT HS
      subst ha
      go_wp2_with fail
      refine (checkTerm_any (f k) _ HT.out).mono ?_
      rintro e w1 ⟨rfl, hb1⟩
      have HW1 : Hid (Below w.heap.size w w1) := HB.out.trans (hb1.mono hsz)
      clear hb1
      by_cases hz : checkV (f k) = 0
      · have HX : Hid (chks T (k + 1) = 0) := HN'.out hz
        rw [hz]
        clear hz
        go_wp2_with fail
        go_roundw
        case rel => exact ⟨k + 1, by omega, by go_num, HX.out, HW1.out⟩
        case measure => simp [intOf]; omega
      · have HX : Hid (queryV T = checkV (f k)) := HS'.out hz
        have hzb : (checkV (f k) == 0) = false := beq_eq_false_iff_ne.2 hz
        clear hz
        go_wp2_with fail
        go_ret
        exact ⟨by rw [HX.out]; rfl, HW1.out⟩
    · have hke : k = len := by omega
      have HX : Hid (queryV T = 0) := by rw [Hid, HR.out, ← hke, HF.out]
      clear hke
      go_wp2_with fail
      go_ret
      exact ⟨by rw [HX.out]; rfl, HB.out⟩
end Go.Proofs.YtmggaclaoefdaaaDoor
