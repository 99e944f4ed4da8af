/- What Query and CheckQuery answer. What head, Clauses and CheckProgram answer. What CheckProgram answers: the same as Clauses. What greatest answers. -/
import Derived.Test.YtmggaclaoefdaaaRefTerm
import Derived.Deep.RegionWith
namespace Go.Proofs.Ytmggaclaoefdaaa
open Go.RowKit

def chks (T : Tm) (k : Nat) : Int := fst (fun i => checkV (T.f i)) k
/-- The answer of Query, for the arguments of T as a query. -/
def queryV (T : Tm) : Int := if T.len ≤ 6 then chks T T.len else 2
theorem chks_next (T : Tm) {k : Nat} (h : chks T k = 0) (h0 : checkV (T.f k) = 0) : chks T (k + 1) = 0 := by
  unfold chks at h ⊢; rw [fst, if_pos h]; exact h0
theorem chks_stop (T : Tm) {k : Nat} (hk : k < T.len) (h : chks T k = 0) (h0 : checkV (T.f k) ≠ 0) : chks T T.len = checkV (T.f k) := fst_stop _ hk h h0

set_option maxHeartbeats 400000 in
theorem query_any (T : Tm) (w : World) (hin : TIn w T) :
    Calls Try.prog 20 #[.slice T.a T.len T.cap] w fun e w' => e = .returned (.int .i64 (queryV T)) ∧ Below w.heap.size w w' := by
  have HIn : Hid (TIn w T) := hin
  have hlen : T.len ≤ 2 ^ 63 - 1 := hin.len
  clear hin
  by_cases h6 : T.len ≤ 6
  case neg =>
    have HR : Hid (queryV T = 2) := by rw [Hid, queryV, if_neg h6]
    go_enter Try.func20, Try.ntmps20
    go_wp2_with fail
    go_ret
    exact ⟨by rw [HR.out]; rfl, Below.refl _ _⟩
  have HR : Hid (queryV T = chks T T.len) := by rw [Hid, queryV, if_pos h6]
  have HStop : Hid (∀ k, k < T.len → chks T k = 0 → checkV (T.f k) ≠ 0 → queryV T = checkV (T.f k)) := fun k hk h h0 => HR.out.trans (chks_stop T hk h h0)
  have HRow : Hid (∀ k, k < T.len → ∀ wr, Below w.heap.size w wr → RowAt wr T.a k (T.f k) ∧ TIn wr (T.f k)) := fun k hk wr hb => ⟨(HIn.out.row hk).below hb, (HIn.out.kid hk).below hb⟩
  have HNext : Hid (∀ k, chks T k = 0 → checkV (T.f k) = 0 → chks T (k + 1) = 0) := fun k h h0 => chks_next T h h0
  generalize T.f = f at *
  generalize T.cap = cap at *
  generalize T.a = a at *
  generalize hl : T.len = len at *
  clear hl
  go_enter Try.func20, Try.ntmps20
  go_wp2_with fail
  go_loopw [11] (fun i wr => ∃ k : Nat, k ≤ len ∧ i = .int .i64 k ∧ chks T k = 0 ∧ Below w.heap.size w wr) (fun i _ => len - (intOf i).toNat)
  case atStart => exact ⟨0, Nat.zero_le _, rfl, rfl, Below.refl _ _⟩
  case round =>
    obtain ⟨k, hk, rfl, hf, hb⟩ := hrel
    have HF : Hid (chks T k = 0) := hf
    have HB : Hid (Below w.heap.size w wr) := hb
    have hsz := hb.size
    clear hf hb
    by_cases hlt : k < len
    · obtain ⟨⟨b, o, ha, c0, c1, c2⟩, hT⟩ := HRow.out k hlt wr HB.out
      have HT : Hid (TIn wr (f k)) := hT
      have HS := HStop.out k hlt HF.out
      have HS' : Hid (checkV (f k) ≠ 0 → queryV T = checkV (f k)) := HS
      have HN' : Hid (checkV (f k) = 0 → chks T (k + 1) = 0) := HNext.out k HF.out
      clear hT HS
      subst ha
      go_wp2_with fail
      refine (check_any (f k) _ (HT.out.below ((Below.refl _ _).alloc (Nat.le_refl _) _))).mono ?_
      rintro e w1 ⟨rfl, hb1⟩
      have HW1 : Hid (Below w.heap.size w w1) := (HB.out.trans (((Below.refl _ _).alloc (Nat.le_refl _) _).mono hsz)).trans (hb1.mono (by simp; omega))
      clear hb1
      by_cases hz : checkV (f k) = 0
      · have HX : Hid (chks T (k + 1) = 0) := HN'.out hz
        rw [hz]
        clear hz
        go_wp2_with fail
        go_roundw
        case rel => exact ⟨k + 1, by omega, by go_num, HX.out, HW1.out⟩
        case measure => simp [intOf]; omega
      · have HX : Hid (queryV T = checkV (f k)) := HS'.out hz
        have hzb : (checkV (f k) == 0) = false := beq_eq_false_iff_ne.2 hz
        clear hz
        go_wp2_with fail
        go_ret
        exact ⟨by rw [HX.out]; rfl, HW1.out⟩
    · have hke : k = len := by omega
      have HX : Hid (queryV T = 0) := by rw [Hid, HR.out, ← hke, HF.out]
      clear hke
      go_wp2_with fail
      go_ret
      exact ⟨by rw [HX.out]; rfl, HB.out⟩

set_option maxHeartbeats 400000 in
theorem checkQuery_any (T : Tm) (w : World) (hin : TIn w T) :
    Calls Try.prog 13 #[.slice T.a T.len T.cap] w fun e w' => e = .returned (.int .i64 (queryV T)) ∧ Below w.heap.size w w' := by
  have HIn : Hid (TIn w T) := hin
  have hlen : T.len ≤ 2 ^ 63 - 1 := hin.len
  clear hin
  by_cases h6 : T.len ≤ 6
  case neg =>
    have HR : Hid (queryV T = 2) := by rw [Hid, queryV, if_neg h6]
    go_enter Try.func13, Try.ntmps13
    go_wp2_with fail
    go_ret
    exact ⟨by rw [HR.out]; rfl, Below.refl _ _⟩
  have HR : Hid (queryV T = chks T T.len) := by rw [Hid, queryV, if_pos h6]
  have HStop : Hid (∀ k, k < T.len → chks T k = 0 → checkV (T.f k) ≠ 0 → queryV T = checkV (T.f k)) := fun k hk h h0 => HR.out.trans (chks_stop T hk h h0)
  have HRow : Hid (∀ k, k < T.len → ∀ wr, Below w.heap.size w wr → RowAt wr T.a k (T.f k) ∧ TIn wr (T.f k)) := fun k hk wr hb => ⟨(HIn.out.row hk).below hb, (HIn.out.kid hk).below hb⟩
  have HNext : Hid (∀ k, chks T k = 0 → checkV (T.f k) = 0 → chks T (k + 1) = 0) := fun k h h0 => chks_next T h h0
  generalize T.f = f at *
  generalize T.cap = cap at *
  generalize T.a = a at *
  generalize hl : T.len = len at *
  clear hl
  go_enter Try.func13, Try.ntmps13
  go_wp2_with fail
  go_loopw [3] (fun i wr => ∃ k : Nat, k ≤ len ∧ i = .int .i64 k ∧ chks T k = 0 ∧ Below w.heap.size w wr) (fun i _ => len - (intOf i).toNat)
  case atStart => exact ⟨0, Nat.zero_le _, rfl, rfl, Below.refl _ _⟩
  case round =>
    obtain ⟨k, hk, rfl, hf, hb⟩ := hrel
    have HF : Hid (chks T k = 0) := hf
    have HB : Hid (Below w.heap.size w wr) := hb
    have hsz := hb.size
    clear hf hb
    by_cases hlt : k < len
    · obtain ⟨⟨b, o, ha, c0, c1, c2⟩, hT⟩ := HRow.out k hlt wr HB.out
      have HT : Hid (TIn wr (f k)) := hT
      have HS := HStop.out k hlt HF.out
      have HS' : Hid (checkV (f k) ≠ 0 → queryV T = checkV (f k)) := HS
      have HN' : Hid (checkV (f k) = 0 → chks T (k + 1) = 0) := HNext.out k HF.out
      clear hT HS
      subst ha
      go_wp2_with fail
      refine (checkTerm_any (f k) _ HT.out).mono ?_
      rintro e w1 ⟨rfl, hb1⟩
      have HW1 : Hid (Below w.heap.size w w1) := HB.out.trans (hb1.mono hsz)
      clear hb1
      by_cases hz : checkV (f k) = 0
      · have HX : Hid (chks T (k + 1) = 0) := HN'.out hz
        rw [hz]
        clear hz
        go_wp2_with fail
        go_roundw
        case rel => exact ⟨k + 1, by omega, by go_num, HX.out, HW1.out⟩
        case measure => simp [intOf]; omega
      · have HX : Hid (queryV T = checkV (f k)) := HS'.out hz
        have hzb : (checkV (f k) == 0) = false := beq_eq_false_iff_ne.2 hz
        clear hz
        go_wp2_with fail
        go_ret
        exact ⟨by rw [HX.out]; rfl, HW1.out⟩
    · have hke : k = len := by omega
      have HX : Hid (queryV T = 0) := by rw [Hid, HR.out, ← hke, HF.out]
      clear hke
      go_wp2_with fail
      go_ret
      exact ⟨by rw [HX.out]; rfl, HB.out⟩
end Go.Proofs.Ytmggaclaoefdaaa

namespace Go.Proofs.Ytmggaclaoefdaaa
open Go.RowKit

def headV (T : Tm) : Int := if checkV T = 0 then (if T.v = 0 then (if meansB T.nm T.len = true then 4 else 0) else 1) else checkV T

/-- What is known of a term's own three cells, laid in a new block of w, when w1 has come of that world. -/
theorem box_cells {w w1 : World} {T : Tm} (h : Below (w.heap.size + 1) (w.alloc (.cells #[.int .i64 T.v, .string T.nm, .slice T.a T.len T.cap] 24)) w1) :
    w1.cell? ⟨w.heap.size, 0, none⟩ = some (.int .i64 T.v) ∧ w1.cell? ⟨w.heap.size, 1, none⟩ = some (.string T.nm) ∧ w1.cell? ⟨w.heap.size, 2, none⟩ = some (.slice T.a T.len T.cap) :=
  ⟨(h.cell (p := ⟨w.heap.size, 0, none⟩) (by simp)).trans (by go_simp), (h.cell (p := ⟨w.heap.size, 1, none⟩) (by simp)).trans (by go_simp), (h.cell (p := ⟨w.heap.size, 2, none⟩) (by simp)).trans (by go_simp)⟩

set_option maxHeartbeats 400000 in
theorem head_any (T : Tm) (w : World) (hin : TIn w T) :
    Calls Try.prog 58 #[T.val] w fun e w' => e = .returned (.int .i64 (headV T)) ∧ Below w.heap.size w w' := by
  have HIn : Hid (TIn w T) := hin
  clear hin
  show Calls Try.prog 58 #[.agg #[.int .i64 T.v, .string T.nm, .slice T.a T.len T.cap]] w _
  have H1 : Hid (TIn (w.alloc (.cells #[.int .i64 T.v, .string T.nm, .slice T.a T.len T.cap] 24)) T) := HIn.out.below ((Below.refl _ _).alloc (Nat.le_refl _) _)
  go_enter Try.func58, Try.ntmps58
  go_wp2_with fail
  refine (check_any T _ H1.out).mono ?_
  rintro e w1 ⟨rfl, hb1⟩
  have HB1 : Hid (Below (w.heap.size + 1) (w.alloc (.cells #[.int .i64 T.v, .string T.nm, .slice T.a T.len T.cap] 24)) w1) := by
    have := hb1; rw [Hid]; simpa using this
  have HW1 : Hid (Below w.heap.size w w1) := ((Below.refl _ _).alloc (Nat.le_refl _) _).trans (hb1.mono (by simp))
  have hsz1 : w.heap.size ≤ w1.heap.size := HW1.out.size
  clear hb1
  obtain ⟨hc0, hc1, hc2⟩ := box_cells HB1.out
  by_cases hz : checkV T = 0
  · by_cases hv : T.v = 0
    · cases hm : meansB T.nm T.len
      · have HX : Hid (headV T = 0) := by rw [Hid, headV, if_pos hz, if_pos hv, if_neg (by rw [hm]; simp)]
        rw [hz]
        rw [hv] at hc0
        clear hz
        go_wp2_with fail
        refine (means_any _ _ _ _ _ _).mono ?_
        rintro e w2 ⟨rfl, hb2⟩
        rw [hm]
        have HW2 : Hid (Below w.heap.size w w2) := HW1.out.trans (hb2.mono hsz1)
        clear hb2
        go_wp2_with fail
        go_ret
        exact ⟨by rw [HX.out]; rfl, HW2.out⟩
      · have HX : Hid (headV T = 4) := by rw [Hid, headV, if_pos hz, if_pos hv, if_pos hm]
        rw [hz]
        rw [hv] at hc0
        clear hz
        go_wp2_with fail
        refine (means_any _ _ _ _ _ _).mono ?_
        rintro e w2 ⟨rfl, hb2⟩
        rw [hm]
        have HW2 : Hid (Below w.heap.size w w2) := HW1.out.trans (hb2.mono hsz1)
        clear hb2
        go_wp2_with fail
        go_ret
        exact ⟨by rw [HX.out]; rfl, HW2.out⟩
    · have HX : Hid (headV T = 1) := by rw [Hid, headV, if_pos hz, if_neg hv]
      have hvb : (T.v == 0) = false := beq_eq_false_iff_ne.2 hv
      rw [hz]
      clear hz hv
      go_wp2_with fail
      go_ret
      exact ⟨by rw [HX.out]; rfl, HW1.out⟩
  · have HX : Hid (headV T = checkV T) := by rw [Hid, headV, if_neg hz]
    have hzb : (checkV T == 0) = false := beq_eq_false_iff_ne.2 hz
    clear hz
    go_wp2_with fail
    go_ret
    exact ⟨by rw [HX.out]; rfl, HW1.out⟩

structure Pg where
  a : Option Addr
  len : Nat
  cap : Nat
  hd : Nat → Tm
  bd : Nat → Tm

/-- The cells of clause i of a program. -/
def ClAt (w : World) (a : Option Addr) (i : Nat) (H B : Tm) : Prop :=
  ∃ b o, a = some ⟨b, o, none⟩ ∧ w.cell? ⟨b, o + i * 4, none⟩ = some (.int .i64 H.v) ∧ w.cell? ⟨b, o + i * 4 + 1, none⟩ = some (.string H.nm) ∧ w.cell? ⟨b, o + i * 4 + 2, none⟩ = some (.slice H.a H.len H.cap) ∧ w.cell? ⟨b, o + i * 4 + 3, none⟩ = some (.slice B.a B.len B.cap)
theorem ClAt.below {w w' : World} {a : Option Addr} {i : Nat} {H B : Tm} (h : ClAt w a i H B) (hb : Below w.heap.size w w') : ClAt w' a i H B := by
  obtain ⟨b, o, rfl, h0, h1, h2, h3⟩ := h
  exact ⟨b, o, rfl, (hb.cell (lt_of_cell h0)).trans h0, (hb.cell (lt_of_cell h1)).trans h1, (hb.cell (lt_of_cell h2)).trans h2, (hb.cell (lt_of_cell h3)).trans h3⟩
def PIn (w : World) (P : Pg) : Prop := P.len ≤ maxLen ∧ ∀ i, i < P.len → ClAt w P.a i (P.hd i) (P.bd i) ∧ TIn w (P.hd i) ∧ TIn w (P.bd i)
theorem PIn.below {w w' : World} {P : Pg} (h : PIn w P) (hb : Below w.heap.size w w') : PIn w' P := ⟨h.1, fun i hi => ⟨(h.2 i hi).1.below hb, (h.2 i hi).2.1.below hb, (h.2 i hi).2.2.below hb⟩⟩

def clV (H B : Tm) : Int := if headV H = 0 then queryV B else headV H
def clsV (P : Pg) (k : Nat) : Int := fst (fun i => clV (P.hd i) (P.bd i)) k
def progV (P : Pg) : Int := if P.len ≤ 30 then clsV P P.len else 2
theorem clsV_next (P : Pg) {k : Nat} (h : clsV P k = 0) (h0 : clV (P.hd k) (P.bd k) = 0) : clsV P (k + 1) = 0 := by
  unfold clsV at h ⊢; rw [fst, if_pos h]; exact h0
theorem clsV_stop (P : Pg) {k : Nat} (hk : k < P.len) (h : clsV P k = 0) (h0 : clV (P.hd k) (P.bd k) ≠ 0) : clsV P P.len = clV (P.hd k) (P.bd k) := fst_stop _ hk h h0

set_option maxHeartbeats 400000 in
theorem clauses_any (P : Pg) (w : World) (hin : PIn w P) :
    Calls Try.prog 18 #[.slice P.a P.len P.cap] w fun e w' => e = .returned (.int .i64 (progV P)) ∧ Below w.heap.size w w' := by
  have HIn : Hid (PIn w P) := hin
  have hlen : P.len ≤ 2 ^ 63 - 1 := hin.1
  clear hin
  by_cases h6 : P.len ≤ 30
  case neg =>
    have HR : Hid (progV P = 2) := by rw [Hid, progV, if_neg h6]
    go_enter Try.func18, Try.ntmps18
    go_wp2_with fail
    go_ret
    exact ⟨by rw [HR.out]; rfl, Below.refl _ _⟩
  have HR : Hid (progV P = clsV P P.len) := by rw [Hid, progV, if_pos h6]
  have HStop : Hid (∀ k, k < P.len → clsV P k = 0 → clV (P.hd k) (P.bd k) ≠ 0 → progV P = clV (P.hd k) (P.bd k)) := fun k hk h h0 => HR.out.trans (clsV_stop P hk h h0)
  have HRow : Hid (∀ k, k < P.len → ∀ wr, Below w.heap.size w wr → ClAt wr P.a k (P.hd k) (P.bd k) ∧ TIn wr (P.hd k) ∧ TIn wr (P.bd k)) := fun k hk wr hb => (HIn.out.below hb).2 k hk
  have HNext : Hid (∀ k, clsV P k = 0 → clV (P.hd k) (P.bd k) = 0 → clsV P (k + 1) = 0) := fun k h h0 => clsV_next P h h0
  generalize P.hd = hd at *
  generalize P.bd = bd at *
  generalize P.cap = cap at *
  generalize P.a = a at *
  generalize hl : P.len = len at *
  clear hl
  go_enter Try.func18, Try.ntmps18
  go_wp2_with fail
  go_loopw [12] (fun i wr => ∃ k : Nat, k ≤ len ∧ i = .int .i64 k ∧ clsV P k = 0 ∧ Below w.heap.size w wr) (fun i _ => len - (intOf i).toNat)
  case atStart => exact ⟨0, Nat.zero_le _, rfl, rfl, Below.refl _ _⟩
  case round =>
    obtain ⟨k, hk, rfl, hf, hb⟩ := hrel
    have HF : Hid (clsV P k = 0) := hf
    have HB : Hid (Below w.heap.size w wr) := hb
    have hsz := hb.size
    clear hf hb
    by_cases hlt : k < len
    · obtain ⟨⟨b, o, ha, c0, c1, c2, c3⟩, hT, hQ⟩ := HRow.out k hlt wr HB.out
      have HT : Hid (TIn wr (hd k)) := hT
      have HQ : Hid (TIn wr (bd k)) := hQ
      have HS' : Hid (clV (hd k) (bd k) ≠ 0 → progV P = clV (hd k) (bd k)) := HStop.out k hlt HF.out
      have HN' : Hid (clV (hd k) (bd k) = 0 → clsV P (k + 1) = 0) := HNext.out k HF.out
      clear hT hQ
      subst ha
      go_wp2_with fail
      refine (head_any (hd k) _ (HT.out.below ((Below.refl _ _).alloc (Nat.le_refl _) _))).mono ?_
      rintro e w1 ⟨rfl, hb1⟩
      have HB1 : Hid (Below (wr.heap.size + 1) (wr.alloc (.cells #[.int .i64 (hd k).v, .string (hd k).nm, .slice (hd k).a (hd k).len (hd k).cap, .slice (bd k).a (bd k).len (bd k).cap] 82)) w1) := by
        have := hb1; rw [Hid]; simpa using this
      clear hb1
      have HWr : Hid (Below wr.heap.size wr w1) := ((Below.refl _ _).alloc (Nat.le_refl _) _).trans (HB1.out.mono (by omega))
      have hsz1 : wr.heap.size ≤ w1.heap.size := HWr.out.size
      have HW1 : Hid (Below w.heap.size w w1) := HB.out.trans (HWr.out.mono hsz)
      have hc3 : w1.cell? ⟨wr.heap.size, 3, none⟩ = some (.slice (bd k).a (bd k).len (bd k).cap) := (HB1.out.cell (p := ⟨wr.heap.size, 3, none⟩) (by simp)).trans (by go_simp)
      by_cases hz : headV (hd k) = 0
      · have HC : Hid (clV (hd k) (bd k) = queryV (bd k)) := by rw [Hid, clV, if_pos hz]
        rw [hz]
        clear hz
        go_wp2_with fail
        refine (query_any (bd k) _ (HQ.out.below HWr.out)).mono ?_
        rintro e w2 ⟨rfl, hb2⟩
        have HW2 : Hid (Below w.heap.size w w2) := HW1.out.trans (hb2.mono (by omega))
        clear hb2
        by_cases hq : queryV (bd k) = 0
        · have HX : Hid (clsV P (k + 1) = 0) := HN'.out (HC.out.trans hq)
          rw [hq]
          clear hq
          go_wp2_with fail
          go_roundw
          case rel => exact ⟨k + 1, by omega, by go_num, HX.out, HW2.out⟩
          case measure => simp [intOf]; omega
        · have HX : Hid (progV P = queryV (bd k)) := (HS'.out (by rw [HC.out]; exact hq)).trans HC.out
          have hqb : (queryV (bd k) == 0) = false := beq_eq_false_iff_ne.2 hq
          clear hq
          go_wp2_with fail
          go_ret
          exact ⟨by rw [HX.out]; rfl, HW2.out⟩
      · have HC : Hid (clV (hd k) (bd k) = headV (hd k)) := by rw [Hid, clV, if_neg hz]
        have HX : Hid (progV P = headV (hd k)) := (HS'.out (by rw [HC.out]; exact hz)).trans HC.out
        have hzb : (headV (hd k) == 0) = false := beq_eq_false_iff_ne.2 hz
        clear hz
        go_wp2_with fail
        go_ret
        exact ⟨by rw [HX.out]; rfl, HW1.out⟩
    · have hke : k = len := by omega
      have HX : Hid (progV P = 0) := by rw [Hid, HR.out, ← hke, HF.out]
      clear hke
      go_wp2_with fail
      go_ret
      exact ⟨by rw [HX.out]; rfl, HB.out⟩
end Go.Proofs.Ytmggaclaoefdaaa

namespace Go.Proofs.Ytmggaclaoefdaaa
open Go.RowKit

set_option maxHeartbeats 800000 in
theorem checkProgram_any (P : Pg) (w : World) (hin : PIn w P) :
    Calls Try.prog 19 #[.slice P.a P.len P.cap] w fun e w' => e = .returned (.int .i64 (progV P)) ∧ Below w.heap.size w w' := by
  have HIn : Hid (PIn w P) := hin
  have hlen : P.len ≤ 2 ^ 63 - 1 := hin.1
  clear hin
  by_cases h6 : P.len ≤ 30
  case neg =>
    have HR : Hid (progV P = 2) := by rw [Hid, progV, if_neg h6]
    go_enter Try.func19, Try.ntmps19
    go_wp2_with fail
    go_ret
    exact ⟨by rw [HR.out]; rfl, Below.refl _ _⟩
  have HR : Hid (progV P = clsV P P.len) := by rw [Hid, progV, if_pos h6]
  have HStop : Hid (∀ k, k < P.len → clsV P k = 0 → clV (P.hd k) (P.bd k) ≠ 0 → progV P = clV (P.hd k) (P.bd k)) := fun k hk h h0 => HR.out.trans (clsV_stop P hk h h0)
  have HRow : Hid (∀ k, k < P.len → ∀ wr, Below w.heap.size w wr → ClAt wr P.a k (P.hd k) (P.bd k) ∧ TIn wr (P.hd k) ∧ TIn wr (P.bd k)) := fun k hk wr hb => (HIn.out.below hb).2 k hk
  have HNext : Hid (∀ k, clsV P k = 0 → clV (P.hd k) (P.bd k) = 0 → clsV P (k + 1) = 0) := fun k h h0 => clsV_next P h h0
  generalize P.hd = hd at *
  generalize P.bd = bd at *
  generalize P.cap = cap at *
  generalize P.a = a at *
  generalize hl : P.len = len at *
  clear hl
  go_enter Try.func19, Try.ntmps19
  go_wp2_with fail
  go_loopw [3] (fun i wr => ∃ k : Nat, k ≤ len ∧ i = .int .i64 k ∧ clsV P k = 0 ∧ Below w.heap.size w wr) (fun i _ => len - (intOf i).toNat)
  case atStart => exact ⟨0, Nat.zero_le _, rfl, rfl, Below.refl _ _⟩
  case round =>
    obtain ⟨k, hk, rfl, hf, hb⟩ := hrel
    have HF : Hid (clsV P k = 0) := hf
    have HB : Hid (Below w.heap.size w wr) := hb
    have hsz := hb.size
    clear hf hb
    by_cases hlt : k < len
    · obtain ⟨⟨b, o, ha, c0, c1, c2, c3⟩, hT, hQ⟩ := HRow.out k hlt wr HB.out
      have HT : Hid (TIn wr (hd k)) := hT
      have HQ : Hid (TIn wr (bd k)) := hQ
      have HS' : Hid (clV (hd k) (bd k) ≠ 0 → progV P = clV (hd k) (bd k)) := HStop.out k hlt HF.out
      have HN' : Hid (clV (hd k) (bd k) = 0 → clsV P (k + 1) = 0) := HNext.out k HF.out
      clear hT hQ
      subst ha
      have HC3 : Hid (wr.cell? ⟨b, o + k * 4 + 3, none⟩ = some (.slice (bd k).a (bd k).len (bd k).cap)) := c3
      clear c3
      go_wp2_with fail
      refine (checkTerm_any (hd k) _ (HT.out.below ((Below.refl _ _).alloc (Nat.le_refl _) _))).mono ?_
      rintro e w1 ⟨rfl, hb1⟩
      have HB1 : Hid (Below (wr.heap.size + 1) (wr.alloc (.cells #[.int .i64 (hd k).v, .string (hd k).nm, .slice (hd k).a (hd k).len (hd k).cap] 24)) w1) := by
        have := hb1; rw [Hid]; simpa using this
      clear hb1
      have HWr : Hid (Below wr.heap.size wr w1) := ((Below.refl _ _).alloc (Nat.le_refl _) _).trans (HB1.out.mono (by omega))
      have hsz1 : wr.heap.size ≤ w1.heap.size := HWr.out.size
      have HW1 : Hid (Below w.heap.size w w1) := HB.out.trans (HWr.out.mono hsz)
      obtain ⟨hc0, hc1, hc2⟩ := box_cells (T := hd k) HB1.out
      have hc3 : w1.cell? ⟨b, o + k * 4 + 3, none⟩ = some (.slice (bd k).a (bd k).len (bd k).cap) := (HWr.out.cell (lt_of_cell HC3.out)).trans HC3.out
      clear c0 c1 c2
      by_cases hck : checkV (hd k) = 0
      case neg =>
        have HH : Hid (headV (hd k) = checkV (hd k)) := by rw [Hid, headV, if_neg hck]
        have HC : Hid (clV (hd k) (bd k) = checkV (hd k)) := by rw [Hid, clV, HH.out, if_neg hck]
        have HX : Hid (progV P = checkV (hd k)) := (HS'.out (by rw [HC.out]; exact hck)).trans HC.out
        have hzb : (checkV (hd k) == 0) = false := beq_eq_false_iff_ne.2 hck
        clear hck
        go_wp2_with fail
        go_ret
        exact ⟨by rw [HX.out]; rfl, HW1.out⟩
      by_cases hv : (hd k).v = 0
      case neg =>
        have HH : Hid (headV (hd k) = 1) := by rw [Hid, headV, if_pos hck, if_neg hv]
        have HC : Hid (clV (hd k) (bd k) = 1) := by rw [Hid, clV, HH.out]; rfl
        have HX : Hid (progV P = 1) := (HS'.out (by rw [HC.out]; decide)).trans HC.out
        have hvb : ((hd k).v == 0) = false := beq_eq_false_iff_ne.2 hv
        rw [hck]
        clear hck hv
        go_wp2_with fail
        go_ret
        exact ⟨by rw [HX.out]; rfl, HW1.out⟩
      cases hm : meansB (hd k).nm (hd k).len
      case true =>
        have HH : Hid (headV (hd k) = 4) := by rw [Hid, headV, if_pos hck, if_pos hv, if_pos hm]
        have HC : Hid (clV (hd k) (bd k) = 4) := by rw [Hid, clV, HH.out]; rfl
        have HX : Hid (progV P = 4) := (HS'.out (by rw [HC.out]; decide)).trans HC.out
        rw [hck]
        rw [hv] at hc0
        have HM : Hid (meansB (hd k).nm (hd k).len = true) := hm
        clear hck hv hm
        go_wp2_with fail
        refine (isBuiltin_any _ _ _).mono ?_
        rintro e w2 ⟨rfl, rfl⟩
        rw [HM.out]
        go_wp2_with fail
        go_ret
        exact ⟨by rw [HX.out]; rfl, HW1.out⟩
      have HH : Hid (headV (hd k) = 0) := by rw [Hid, headV, if_pos hck, if_pos hv, if_neg (by rw [hm]; simp)]
      have HC : Hid (clV (hd k) (bd k) = queryV (bd k)) := by rw [Hid, clV, if_pos HH.out]
      rw [hck]
      rw [hv] at hc0
      have HM : Hid (meansB (hd k).nm (hd k).len = false) := hm
      clear hck hv hm
      go_wp2_with fail
      refine (isBuiltin_any _ _ _).mono ?_
      rintro e w2 ⟨rfl, rfl⟩
      rw [HM.out]
      go_wp2_with fail
      refine (checkQuery_any (bd k) _ (HQ.out.below HWr.out)).mono ?_
      rintro e w3 ⟨rfl, hb3⟩
      have HW3 : Hid (Below w.heap.size w w3) := HW1.out.trans (hb3.mono (by omega))
      clear hb3
      by_cases hq : queryV (bd k) = 0
      · have HX : Hid (clsV P (k + 1) = 0) := HN'.out (HC.out.trans hq)
        rw [hq]
        clear hq
        go_wp2_with fail
        go_roundw
        case rel => exact ⟨k + 1, by omega, by go_num, HX.out, HW3.out⟩
        case measure => simp [intOf]; omega
      · have HX : Hid (progV P = queryV (bd k)) := (HS'.out (by rw [HC.out]; exact hq)).trans HC.out
        have hqb : (queryV (bd k) == 0) = false := beq_eq_false_iff_ne.2 hq
        clear hq
        go_wp2_with fail
        go_ret
        exact ⟨by rw [HX.out]; rfl, HW3.out⟩
    · have hke : k = len := by omega
      have HX : Hid (progV P = 0) := by rw [Hid, HR.out, ← hke, HF.out]
      clear hke
      go_wp2_with fail
      go_ret
      exact ⟨by rw [HX.out]; rfl, HB.out⟩
end Go.Proofs.Ytmggaclaoefdaaa

namespace Go.Proofs.Ytmggaclaoefdaaa
open Go.RowKit

def grTo (g : Nat → Int) : Nat → Int
  | 0 => 0
  | k + 1 => max (grTo g k) (g k)
def gr : Tm → Int
  | .nil => max 0 0
  | .mk v _ _ len _ f => max v (grTo (fun i => gr (f i)) len)
def grs (T : Tm) : Int := grTo (fun i => gr (T.f i)) T.len
theorem gr_eq (T : Tm) : gr T = max T.v (grs T) := by cases T <;> rfl

theorem max3 (a b c : Int) : max a (max b c) = if (if a < b then b else a) < c then c else if a < b then b else a := by
  split <;> split <;> omega

set_option maxHeartbeats 800000 in
theorem greatest_any (T : Tm) : ∀ (w : World), TIn w T →
    Calls Try.prog 50 #[.slice T.a T.len T.cap] w fun e w' => e = .returned (.int .i64 (grs T)) ∧ Below w.heap.size w w' := by
  induction T with
  | nil => intro w hin; exact False.elim hin
  | mk v nm a len cap f ih =>
    intro w hin
    have IH : Hid (∀ i (w : World), TIn w (f i) → Calls Try.prog 50 #[.slice (f i).a (f i).len (f i).cap] w fun e w' => e = .returned (.int .i64 (grs (f i))) ∧ Below w.heap.size w w') := ih
    have HIn : Hid (TIn w (.mk v nm a len cap f)) := hin
    have hlen : len ≤ 2 ^ 63 - 1 := TIn.len (T := .mk v nm a len cap f) hin
    have HS : Hid (grs (.mk v nm a len cap f) = grTo (fun i => gr (f i)) len) := rfl
    clear ih hin
    show Calls Try.prog 50 #[.slice a len cap] w _
    go_enter Try.func50, Try.ntmps50
    go_wp2_with fail
    go_loopw [3, 8] (fun n' i wr => ∃ k : Nat, k ≤ len ∧ i = .int .i64 k ∧ n' = .int .i64 (grTo (fun i => gr (f i)) k) ∧ Below w.heap.size w wr) (fun _ i _ => len - (intOf i).toNat)
    case atStart => exact ⟨0, Nat.zero_le _, rfl, rfl, Below.refl _ _⟩
    case round =>
      obtain ⟨k, hk, rfl, rfl, hb⟩ := hrel
      have HB : Hid (Below w.heap.size w wr) := hb
      have hsz := hb.size
      clear hb
      by_cases hlt : k < len
      · have hr : RowAt wr a k (f k) := (TIn.row (T := .mk v nm a len cap f) HIn.out hlt).below HB.out
        obtain ⟨b, o, ha, c0, c1, c2⟩ := hr
        have HT : Hid (TIn wr (f k)) := (TIn.kid (T := .mk v nm a len cap f) HIn.out hlt).below HB.out
        have HE : Hid (grTo (fun i => gr (f i)) (k + 1) = max (grTo (fun i => gr (f i)) k) (max (f k).v (grs (f k)))) := by rw [Hid, grTo, gr_eq]
        generalize grTo (fun i => gr (f i)) k = sk at *
        subst ha
        go_wp2_with fail
        go_region_with (
          go_at_call 50
          refine (IH.out k _ (HT.out.below (by exact ((Below.refl _ _).alloc (Nat.le_refl _) _).drew))).mono ?_
          rintro e w1 ⟨rfl, hb1⟩
          have hc0 : w1.cell? ⟨wr.heap.size, 0, none⟩ = some (.int .i64 (f k).v) := (hb1.cell (p := ⟨wr.heap.size, 0, none⟩) (by simp)).trans (by go_simp)
          have HX : Hid (Below w.heap.size w w1) := by
            refine HB.out.trans (Below.trans ?_ (hb1.mono (by simp; omega)))
            exact (((Below.refl _ _).alloc (Nat.le_refl _) _).drew).mono hsz
          clear hb1)
        all_goals
          go_wp2_with fail
          go_roundw
          case rel => exact ⟨k + 1, by omega, by go_num, by rw [HE.out, max3], HX.out⟩
          case measure => simp [intOf]; omega
      · have hke : k = len := by omega
        have HR : Hid (grs (.mk v nm a len cap f) = grTo (fun i => gr (f i)) k) := by rw [Hid, HS.out, ← hke]
        clear hke
        go_wp2_with fail
        go_ret
        exact ⟨by rw [HR.out]; rfl, HB.out⟩
end Go.Proofs.Ytmggaclaoefdaaa
