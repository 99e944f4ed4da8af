/- What CheckProgram answers: the same as Clauses. -/
import Derived.Test.YtmggaclaoefdaaaDoorProgs
namespace Go.Proofs.YtmggaclaoefdaaaDoor
open Go.RowKit

set_option maxHeartbeats 800000 in
theorem checkProgram_any (P : Pg) (w : World) (hin : PIn w P) :
    Calls Tryd.prog 8 #[.slice P.a P.len P.cap] w fun e w' => e = .returned (.int .i64 (progV P)) ∧ Below w.heap.size w w' := by
  have HIn : Hid (PIn w P) := hin
  have hlen : P.len ≤ 2 ^ 63 - 1 := hin.1
  clear hin
  by_cases h6 : P.len ≤ 30
  case neg =>
    have HR : Hid (progV P = 2) := by rw [Hid, progV, if_neg h6]
    go_enter Tryd.func8, Tryd.ntmps8
    go_wp2_with fail
    go_ret
    exact ⟨by rw [HR.out]; rfl, Below.refl _ _⟩
  have HR : Hid (progV P = clsV P P.len) := by rw [Hid, progV, if_pos h6]
  have HStop : Hid (∀ k, k < P.len → clsV P k = 0 → clV (P.hd k) (P.bd k) ≠ 0 → progV P = clV (P.hd k) (P.bd k)) := fun k hk h h0 => HR.out.trans (clsV_stop P hk h h0)
  have HRow : Hid (∀ k, k < P.len → ∀ wr, Below w.heap.size w wr → ClAt wr P.a k (P.hd k) (P.bd k) ∧ TIn wr (P.hd k) ∧ TIn wr (P.bd k)) := fun k hk wr hb => (HIn.out.below hb).2 k hk
  have HNext : Hid (∀ k, clsV P k = 0 → clV (P.hd k) (P.bd k) = 0 → clsV P (k + 1) = 0) := fun k h h0 => clsV_next P h h0
  generalize P.hd = hd at *
  generalize P.bd = bd at *
  generalize P.cap = cap at *
  generalize P.a = a at *
  generalize hl : P.len = len at *
  clear hl
  go_enter Tryd.func8, Tryd.ntmps8
  go_wp2_with fail
  go_loopw [3] (fun i wr => ∃ k : Nat, k ≤ len ∧ i = .int .i64 k ∧ clsV P k = 0 ∧ Below w.heap.size w wr) (fun i _ => len - (intOf i).toNat)
  case atStart => exact ⟨0, Nat.zero_le _, rfl, rfl, Below.refl _ _⟩
  case round =>
    obtain ⟨k, hk, rfl, hf, hb⟩ := hrel
    have HF : Hid (clsV P k = 0) := hf
    have HB : Hid (Below w.heap.size w wr) := hb
    have hsz := hb.size
    clear hf hb
    by_cases hlt : k < len
    · obtain ⟨⟨b, o, ha, c0, c1, c2, c3⟩, hT, hQ⟩ := HRow.out k hlt wr HB.out
      have HT : Hid (TIn wr (hd k)) := hT
      have HQ : Hid (TIn wr (bd k)) := hQ
      have HS' : Hid (clV (hd k) (bd k) ≠ 0 → progV P = clV (hd k) (bd k)) := HStop.out k hlt HF.out
      have HN' : Hid (clV (hd k) (bd k) = 0 → clsV P (k + 1) = 0) := HNext.out k HF.out
      clear hT hQ
      subst ha
      have HC3 : Hid (wr.cell? ⟨b, o + k * 4 + 3, none⟩ = some (.slice (bd k).a (bd k).len (bd k).cap)) := c3
      clear c3
      go_wp2_with fail
      refine (checkTerm_any (hd k) _ (HT.out.below ((Below.refl _ _).alloc (Nat.le_refl _) _))).mono ?_
      rintro e w1 ⟨rfl, hb1⟩
      have HB1 : Hid (Below (wr.heap.size + 1) (wr.alloc (.cells #[.int .i64 (hd k).v, .string (hd k).nm, .slice (hd k).a (hd k).len (hd k).cap] 48)) w1) := by
        have := hb1; rw [Hid]; simpa using this
      clear hb1
      have HWr : Hid (Below wr.heap.size wr w1) := ((Below.refl _ _).alloc (Nat.le_refl _) _).trans (HB1.out.mono (by omega))
      have hsz1 : wr.heap.size ≤ w1.heap.size := HWr.out.size
      have HW1 : Hid (Below w.heap.size w w1) := HB.out.trans (HWr.out.mono hsz)
      obtain ⟨hc0, hc1, hc2⟩ := box_cells (T := hd k) HB1.out
      have hc3 : w1.cell? ⟨b, o + k * 4 + 3, none⟩ = some (.slice (bd k).a (bd k).len (bd k).cap) := (HWr.out.cell (lt_of_cell HC3.out)).trans HC3.out
      clear c0 c1 c2
      by_cases hck : checkV (hd k) = 0
      case neg =>
        have HH : Hid (headV (hd k) = checkV (hd k)) := by rw [Hid, headV, if_neg hck]
        have HC : Hid (clV (hd k) (bd k) = checkV (hd k)) := by rw [Hid, clV, HH.out, if_neg hck]
        have HX : Hid (progV P = checkV (hd k)) := (HS'.out (by rw [HC.out]; exact hck)).trans HC.out
        have hzb : (checkV (hd k) == 0) = false := beq_eq_false_iff_ne.2 hck
        clear hck
        go_wp2_with fail
        go_ret
        exact ⟨by rw [HX.out]; rfl, HW1.out⟩
      by_cases hv : (hd k).v = 0
      case neg =>
        have HH : Hid (headV (hd k) = 1) := by rw [Hid, headV, if_pos hck, if_neg hv]
        have HC : Hid (clV (hd k) (bd k) = 1) := by rw [Hid, clV, HH.out]; rfl
        have HX : Hid (progV P = 1) := (HS'.out (by rw [HC.out]; decide)).trans HC.out
        have hvb : ((hd k).v == 0) = false := beq_eq_false_iff_ne.2 hv
        rw [hck]
        clear hck hv
        go_wp2_with fail
        go_ret
        exact ⟨by rw [HX.out]; rfl, HW1.out⟩
      cases hm : meansB (hd k).nm (hd k).len
      case true =>
        have HH : Hid (headV (hd k) = 4) := by rw [Hid, headV, if_pos hck, if_pos hv, if_pos hm]
        have HC : Hid (clV (hd k) (bd k) = 4) := by rw [Hid, clV, HH.out]; rfl
        have HX : Hid (progV P = 4) := (HS'.out (by rw [HC.out]; decide)).trans HC.out
        rw [hck]
        rw [hv] at hc0
        have HM : Hid (meansB (hd k).nm (hd k).len = true) := hm
        clear hck hv hm
        go_wp2_with fail
        refine (isBuiltin_any _ _ _).mono ?_
        rintro e w2 ⟨rfl, rfl⟩
        rw [HM.out]
        go_wp2_with fail
        go_ret
        exact ⟨by rw [HX.out]; rfl, HW1.out⟩
      have HH : Hid (headV (hd k) = 0) := by rw [Hid, headV, if_pos hck, if_pos hv, if_neg (by rw [hm]; simp)]
      have HC : Hid (clV (hd k) (bd k) = queryV (bd k)) := by rw [Hid, clV, if_pos HH.out]
      rw [hck]
      rw [hv] at hc0
      have HM : Hid (meansB (hd k).nm (hd k).len = false) := hm
      clear hck hv hm
      go_wp2_with fail
      refine (isBuiltin_any _ _ _).mono ?_
      rintro e w2 ⟨rfl, rfl⟩
      rw [HM.out]
      go_wp2_with fail
      refine (checkQuery_any (bd k) _ (HQ.out.below HWr.out)).mono ?_
      rintro e w3 ⟨rfl, hb3⟩
      have HW3 : Hid (Below w.heap.size w w3) := HW1.out.trans (hb3.mono (by omega))
      clear hb3
      by_cases hq : queryV (bd k) = 0
      · have HX : Hid (clsV P (k + 1) = 0) := HN'.out (HC.out.trans hq)
        rw [hq]
        clear hq
        go_wp2_with fail
        go_roundw
        case rel => exact ⟨k + 1, by omega, by go_num, HX.out, HW3.out⟩
        case measure => simp [intOf]; omega
      · have HX : Hid (progV P = queryV (bd k)) := (HS'.out (by rw [HC.out]; exact hq)).trans HC.out
        have hqb : (queryV (bd k) == 0) = false := beq_eq_false_iff_ne.2 hq
        clear hq
        go_wp2_with fail
        go_ret
        exact ⟨by rw [HX.out]; rfl, HW3.out⟩
    · have hke : k = len := by omega
      have HX : Hid (progV P = 0) := by rw [Hid, HR.out, ← hke, HF.out]
      clear hke
      go_wp2_with fail
      go_ret
      exact ⟨by rw [HX.out]; rfl, HB.out⟩
end Go.Proofs.YtmggaclaoefdaaaDoor
