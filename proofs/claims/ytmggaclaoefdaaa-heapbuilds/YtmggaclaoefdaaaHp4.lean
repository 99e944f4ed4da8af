/- The reference's CheckHeap: what it answers. -/
import Derived.Test.YtmggaclaoefdaaaHp3
import Derived.Test.YtmggaclaoefdaaaGAB
namespace Go.Proofs.Ytmggaclaoefdaaa
open Go.RowKit

def kidsB (h : Nat → Cl) (i m : Nat) : Bool := allTo (fun j => (h (i + 1 + j)).k == 1) m
/-- The error of one cell. -/
def cellE (h : Nat → Cl) (len i : Nat) : Int :=
  if (h i).k = 1 then (if btw (h i).n 0 ((len : Int) - 1) = true then (if (h i).nm.toList = [] then 0 else 1) else 5)
  else if (h i).k = 2 then (if nameB (h i).nm = true ∧ btw (h i).n 0 4 = true ∧ ¬ ((h i).nm.toList = [33] ∧ 0 < (h i).n) then (if (len : Int) - 1 < (i : Int) + (h i).n then 5 else if kidsB h i (h i).n.toNat = true then 0 else 1) else 1)
  else 1
def firstE (h : Nat → Cl) (len : Nat) : Nat → Int
  | 0 => 0
  | k + 1 => if firstE h len k ≠ 0 then firstE h len k else cellE h len k
theorem firstE_stop {h : Nat → Cl} {len i : Nat} (h0 : firstE h len i = 0) (h1 : cellE h len i ≠ 0) : ∀ k, i < k → firstE h len k = cellE h len i := by
  intro k
  induction k with
  | zero => intro hk; omega
  | succ k ih =>
    intro hk
    show (if firstE h len k ≠ 0 then firstE h len k else cellE h len k) = _
    by_cases e : k = i
    · subst e; rw [if_neg (by simpa using h0)]
    · have := ih (by omega)
      rw [if_pos (by rw [this]; exact h1), this]
theorem firstE_zero {h : Nat → Cl} {len : Nat} : ∀ k, firstE h len k = 0 → ∀ i, i < k → cellE h len i = 0 := by
  intro k
  induction k with
  | zero => intro _ i hi; omega
  | succ k ih =>
    intro h0 i hi
    have h1 : firstE h len k = 0 := by
      by_cases e : firstE h len k = 0
      · exact e
      · have : firstE h len (k + 1) = firstE h len k := if_pos e
        rw [this] at h0; exact h0
    by_cases e : i = k
    · subst e
      have : firstE h len (i + 1) = cellE h len i := if_neg (by simpa using h1)
      rw [this] at h0; exact h0
    · exact ih h1 i (by omega)
/-- What Check says of a heap. -/
def ChkR (h : Nat → Cl) (len : Nat) (e : Int) : Prop :=
  (400000 < len ∧ e = 2) ∨ (len ≤ 400000 ∧ firstE h len len ≠ 0 ∧ e = firstE h len len) ∨ (len ≤ 400000 ∧ firstE h len len = 0 ∧ ((Acy len (leads h) ∧ e = 0) ∨ (¬ Acy len (leads h) ∧ e = 4)))
theorem ChkR.same {h : Nat → Cl} {len : Nat} {e e' : Int} (H : ChkR h len e) (H' : ChkR h len e') : e = e' := by
  rcases H with ⟨a, b⟩ | ⟨a, b, c⟩ | ⟨a, b, c⟩ <;> rcases H' with ⟨a', b'⟩ | ⟨a', b', c'⟩ | ⟨a', b', c'⟩ <;> first | omega | skip
  rcases c with ⟨c, d⟩ | ⟨c, d⟩ <;> rcases c' with ⟨c', d'⟩ | ⟨c', d'⟩
  · omega
  · exact absurd c c'
  · exact absurd c' c
  · omega
theorem btw_iff {n l m : Int} : btw n l m = true ↔ l ≤ n ∧ n ≤ m := by unfold btw; simp
/-- Cells that are right, one by one. -/
theorem cells_ok {h : Nat → Cl} {len : Nat} (hl : len ≤ 400000) (h0 : firstE h len len = 0) : HOk h len := by
  have hz := firstE_zero len h0
  have hcase : ∀ i, i < len → ((h i).k = 1 ∧ 0 ≤ (h i).n ∧ (h i).n ≤ (len : Int) - 1) ∨ ((h i).k = 2 ∧ 0 ≤ (h i).n ∧ (h i).n ≤ 4 ∧ (i : Int) + (h i).n ≤ (len : Int) - 1) := fun i hi => by
    have h1 := hz i hi
    unfold cellE at h1
    by_cases hk : (h i).k = 1
    · rw [if_pos hk] at h1
      by_cases hb : btw (h i).n 0 ((len : Int) - 1) = true
      · have := btw_iff.1 hb; exact .inl ⟨hk, this.1, this.2⟩
      · rw [if_neg hb] at h1; omega
    · rw [if_neg hk] at h1
      by_cases hk2 : (h i).k = 2
      · rw [if_pos hk2] at h1
        split at h1
        · rename_i hc
          have := btw_iff.1 hc.2.1
          split at h1
          · omega
          · exact .inr ⟨hk2, this.1, this.2, by omega⟩
        · omega
      · rw [if_neg hk2] at h1; omega
  refine ⟨fun i hi => ?_, fun i hi hk => ?_, fun i hi y hy => ?_, hl⟩
  · rcases hcase i hi with h | h <;> omega
  · rcases hcase i hi with h | h <;> omega
  · unfold leads at hy
    rcases hcase i hi with ⟨hk, h1, h2⟩ | ⟨hk, h1, h2, h3⟩
    · rw [if_pos hk] at hy
      split at hy
      · cases hy
      · rw [List.mem_singleton] at hy; omega
    · rw [if_neg (by omega)] at hy
      obtain ⟨j, hj, rfl⟩ := List.mem_map.1 hy
      have := List.mem_range.1 hj
      omega
set_option maxRecDepth 100000 in
set_option maxHeartbeats 8000000 in
theorem checkHeap_any {a : Option Addr} {len cap : Nat} {h : Nat → Cl} (w : World) (hh : HIn w a len h) :
    Calls Try.prog 36 #[.slice a len cap] w fun e w' => ∃ c : Int, e = .returned (.int .i64 c) ∧ ChkR h len c ∧ Below w.heap.size w w' := by
  have HH : Hid (∀ W, Below w.heap.size w W → HIn W a len h) := fun W hW => hh.below hW
  have hlb : len ≤ 2 ^ 63 - 1 := hh.big
  clear hh
  by_cases hfew : len ≤ 400000
  case neg =>
    have hgt : decide ((len : Int) > 400000) = true := decide_eq_true (by omega)
    go_enter Try.func36, Try.ntmps36
    go_wp2_with fail
    go_ret
    exact ⟨2, rfl, .inl ⟨by omega, rfl⟩, Below.refl _ _⟩
  have hgt : decide ((len : Int) > 400000) = false := decide_eq_false (by omega)
  go_enter Try.func36, Try.ntmps36
  go_wp2_with fail
  go_loopw [3] (fun x wr => ∃ i : Nat, i ≤ len ∧ x = .int .i64 i ∧ firstE h len i = 0 ∧ Below w.heap.size w wr) (fun x _ => len - (intOf x).toNat)
  case atStart => exact ⟨0, Nat.zero_le _, rfl, rfl, Below.refl _ _⟩
  case round =>
    obtain ⟨i, hil, rfl, hF, hB⟩ := hrel
    have HF : Hid (firstE h len i = 0) := hF
    have HB : Hid (Below w.heap.size w wr) := hB
    clear hF hB
    by_cases hlt : i < len
    case neg =>
      obtain rfl : i = len := by omega
      have HSt : Hid (Calls Try.prog 83 #[.slice a i cap] wr fun e w' => ∃ ok : Bool, e = .returned (.bool ok) ∧ (ok = true ↔ Acy i (leads h)) ∧ Below wr.heap.size wr w') := straight_any wr (HH.out _ HB.out) (cells_ok hfew HF.out)
      go_wp2_with fail
      refine HSt.out.mono ?_
      rintro e w1 ⟨ok, rfl, hok, hb1⟩
      have HB1 : Hid (Below w.heap.size w w1) := below_after HB.out hb1
      have HOk2 : Hid (ok = true ↔ Acy i (leads h)) := hok
      clear hb1 hok
      cases ok with
      | true =>
        go_wp2_with fail
        go_ret
        exact ⟨0, rfl, .inr (.inr ⟨hfew, HF.out, .inl ⟨HOk2.out.1 (by simp), rfl⟩⟩), HB1.out⟩
      | false =>
        go_wp2_with fail
        go_ret
        exact ⟨4, rfl, .inr (.inr ⟨hfew, HF.out, .inr ⟨fun ha => absurd (HOk2.out.2 ha) (by simp), rfl⟩⟩), HB1.out⟩
    have hltI : (i : Int) < (len : Int) := by omega
    have hHr := HH.out _ HB.out
    obtain ⟨b, o, ha, c0, c1, c2⟩ := hHr.row i hlt
    have HA : Hid (a = some ⟨b, o, none⟩) := ha
    rw [ha]
    have hnm := hHr.nm i hlt
    have HBx : Hid (Below w.heap.size w (wr.alloc (.cells #[.int .i64 (h i).k, .int .i64 (h i).n, .string (h i).nm] 128))) := below_alloc HB.out _
    have HStop : Hid (∀ c : Int, cellE h len i = c → c ≠ 0 → ChkR h len c) := fun c h1 h2 => .inr (.inl (by
      have := firstE_stop HF.out (by rw [h1]; exact h2) len hlt
      rw [this]
      exact ⟨hfew, by rw [h1]; exact h2, h1.symm⟩))
    have HNext : Hid (cellE h len i = 0 → firstE h len (i + 1) = 0) := fun h1 => by
      show (if firstE h len i ≠ 0 then _ else cellE h len i) = 0
      rw [if_neg (by simpa using HF.out)]
      exact h1
    clear hHr ha
    by_cases hk1 : (h i).k = 1
    · have hk1b : ((h i).k == 1) = true := beq_iff_eq.2 hk1
      have hlw : IntKind.i64.wrap ((len : Int) - 1) = (len : Int) - 1 := by simp [IntKind.wrap, IntKind.bits, IntKind.signed]; omega
      have HE : Hid (cellE h len i = (if btw (h i).n 0 ((len : Int) - 1) = true then (if (h i).nm.toList = [] then 0 else 1) else 5)) := by unfold cellE; rw [Hid, if_pos hk1]
      clear hk1
      go_wp2_with fail
      refine (between_any _ _ _ _).mono ?_
      rintro e w1 ⟨rfl, rfl⟩
      cases hb : btw (h i).n 0 ((len : Int) - 1) with
      | false =>
        have HC : Hid (ChkR h len 5) := HStop.out 5 (by rw [HE.out, hb]; rfl) (by decide)
        clear hb
        go_wp2_with fail
        go_ret
        exact ⟨5, rfl, HC.out, HBx.out⟩
      | true =>
        by_cases hn : (h i).nm.toList = []
        · have HC : Hid (firstE h len (i + 1) = 0) := HNext.out (by rw [HE.out, if_pos hb, if_pos hn])
          have hnb : ((h i).nm.toList == []) = true := beq_iff_eq.2 hn
          have hnb2 : ((h i).nm.toList != []) = false := by rw [hn]; rfl
          clear hb
          go_wp2_with fail
          go_roundw
          case rel => exact ⟨i + 1, by omega, by go_num, HC.out, HBx.out⟩
          case measure => simp [intOf]; omega
        · have HC : Hid (ChkR h len 1) := HStop.out 1 (by rw [HE.out, if_pos hb, if_neg hn]) (by decide)
          have hnb : ((h i).nm.toList == []) = false := beq_eq_false_iff_ne.2 hn
          have hnb2 : ((h i).nm.toList != []) = true := bne_iff_ne.2 hn
          clear hb
          go_wp2_with fail
          go_ret
          exact ⟨1, rfl, HC.out, HBx.out⟩
    have hk1b : ((h i).k == 1) = false := beq_eq_false_iff_ne.2 hk1
    by_cases hk2 : (h i).k = 2
    case neg =>
      have hk2b : ((h i).k == 2) = false := beq_eq_false_iff_ne.2 hk2
      have HC : Hid (ChkR h len 1) := HStop.out 1 (by unfold cellE; rw [if_neg hk1, if_neg hk2]) (by decide)
      clear hk1 hk2
      go_wp2_with fail
      go_ret
      exact ⟨1, rfl, HC.out, HBx.out⟩
    have hk2b : ((h i).k == 2) = true := beq_iff_eq.2 hk2
    have HE : Hid (cellE h len i = (if nameB (h i).nm = true ∧ btw (h i).n 0 4 = true ∧ ¬ ((h i).nm.toList = [33] ∧ 0 < (h i).n) then (if (len : Int) - 1 < (i : Int) + (h i).n then 5 else if kidsB h i (h i).n.toNat = true then 0 else 1) else 1)) := by unfold cellE; rw [Hid, if_neg hk1, if_pos hk2]
    clear hk1 hk2
    go_wp2_with fail
    refine (isName_any _ _ hnm).mono ?_
    rintro e w1 ⟨rfl, rfl⟩
    cases hb : nameB (h i).nm with
    | false =>
      have HC : Hid (ChkR h len 1) := HStop.out 1 (by rw [HE.out, if_neg (by rw [hb]; simp)]) (by decide)
      clear hb
      go_wp2_with fail
      go_ret
      exact ⟨1, rfl, HC.out, HBx.out⟩
    | true =>
      go_wp2_with fail
      refine (between_any _ _ _ _).mono ?_
      rintro e w1 ⟨rfl, rfl⟩
      cases hb4 : btw (h i).n 0 4 with
      | false =>
        have HC : Hid (ChkR h len 1) := HStop.out 1 (by rw [HE.out, if_neg (by rw [hb4]; simp)]) (by decide)
        clear hb hb4
        go_wp2_with fail
        go_ret
        exact ⟨1, rfl, HC.out, HBx.out⟩
      | true =>
        have hn04 := btw_iff.1 hb4
        have hn0 := hn04.1
        have hn4 := hn04.2
        clear hn04
        by_cases hcut : (h i).nm.toList = [33] ∧ 0 < (h i).n
        · have HC : Hid (ChkR h len 1) := HStop.out 1 (by rw [HE.out, if_neg (fun hc => hc.2.2 hcut)]) (by decide)
          have e1 : ((h i).nm.toList == [33]) = true := beq_iff_eq.2 hcut.1
          have e2 : decide ((h i).n > 0) = true := decide_eq_true hcut.2
          have e3 : (0 : Int) < (h i).n := hcut.2
          clear hb hb4 hcut
          go_wp2_with fail
          go_ret
          exact ⟨1, rfl, HC.out, HBx.out⟩
        have HE2 : Hid (cellE h len i = (if (len : Int) - 1 < (i : Int) + (h i).n then 5 else if kidsB h i (h i).n.toNat = true then 0 else 1)) := by rw [Hid, HE.out, if_pos ⟨hb, hb4, hcut⟩]
        obtain ⟨n, hnn⟩ : ∃ n : Nat, (h i).n = n := ⟨(h i).n.toNat, by omega⟩
        have hcn : ((h i).nm.toList == [33]) = false ∨ ((h i).nm.toList == [33]) = true ∧ n = 0 := by
          by_cases e : (h i).nm.toList = [33]
          · exact .inr ⟨beq_iff_eq.2 e, by
              by_cases h0 : 0 < (h i).n
              · exact absurd ⟨e, h0⟩ hcut
              · omega⟩
          · exact .inl (beq_eq_false_iff_ne.2 e)
        have HE3 : Hid (cellE h len i = (if (len : Int) - 1 < (i : Int) + (n : Int) then 5 else if kidsB h i n = true then 0 else 1)) := by
          have := HE2.out
          rw [hnn] at this
          exact this
        rw [hnn] at c1 HBx
        simp only [hnn]
        have hn4' : n ≤ 4 := by omega
        have hw1 : IntKind.i64.wrap ((i : Int) + (n : Int)) = (i : Int) + (n : Int) := by simp [IntKind.wrap, IntKind.bits, IntKind.signed]; omega
        have hw2 : IntKind.i64.wrap ((len : Int) - 1) = (len : Int) - 1 := by simp [IntKind.wrap, IntKind.bits, IntKind.signed]; omega
        have HXb : Hid ((wr.alloc (.cells #[.int .i64 (h i).k, .int .i64 (n : Int), .string (h i).nm] 128)).heap[wr.heap.size]? = some (.cells #[.int .i64 (h i).k, .int .i64 (n : Int), .string (h i).nm] 128)) := heap_alloc_new _ _
        clear hb hb4 hcut HE HE2 hn0 hn4 hnn
        by_cases hend : (len : Int) - 1 < (i : Int) + (n : Int)
        · have e1 : ((h i).nm.toList == [33]) = false := by
            rcases hcn with e | ⟨_, e⟩
            · exact e
            · omega
          have HC : Hid (ChkR h len 5) := HStop.out 5 (by rw [HE3.out, if_pos hend]) (by decide)
          have hendb : decide ((i : Int) + (n : Int) > (len : Int) - 1) = true := decide_eq_true hend
          clear hcn
          go_wp2_with fail
          go_ret
          exact ⟨5, rfl, HC.out, HBx.out⟩
        have HE4 : Hid (cellE h len i = if kidsB h i n = true then 0 else 1) := by rw [Hid, HE3.out, if_neg hend]
        have hendb : decide ((i : Int) + (n : Int) > (len : Int) - 1) = false := decide_eq_false (by omega)
        have HRw : Hid (∀ j, j < n → CRow (wr.alloc (.cells #[.int .i64 (h i).k, .int .i64 (n : Int), .string (h i).nm] 128)) (some ⟨b, o, none⟩) (i + 1 + j) (h (i + 1 + j))) := fun j hj => by
          have := (HH.out _ HBx.out).row (i + 1 + j) (by omega)
          rw [HA.out] at this
          exact this
        have x1 : (wr.alloc (.cells #[.int .i64 (h i).k, .int .i64 (n : Int), .string (h i).nm] 128)).cell? ⟨wr.heap.size, 1, none⟩ = some (.int .i64 (n : Int)) := (block_cells HXb.out).2.1
        rcases hcn with e1 | ⟨e1, e2⟩
        case inr =>
          have HC : Hid (firstE h len (i + 1) = 0) := HNext.out (by rw [HE4.out, e2]; rfl)
          rw [e2] at HBx x1 hendb hw1 ⊢
          clear e2 HE4 HE3 HRw HXb hend hn4'
          go_wp2_with fail
          generalize hW : wr.alloc (.cells #[.int .i64 (h i).k, .int .i64 ((0 : Nat) : Int), .string (h i).nm] 128) = W at *
          clear hW
          go_loopw [5] (fun x wx => x = .int .i64 1 ∧ wx = W) (fun _ _ => 0)
          case atStart => exact ⟨rfl, rfl⟩
          case round =>
            obtain ⟨rfl, rfl⟩ := hrel
            go_wp2_with fail
            go_roundw
            case rel => exact ⟨i + 1, by omega, by go_num, HC.out, HBx.out⟩
            case measure => simp [intOf]; omega
        case inl =>
          go_wp2_with fail
          generalize hW : wr.alloc (.cells #[.int .i64 (h i).k, .int .i64 (n : Int), .string (h i).nm] 128) = W at *
          clear hW
          go_loopw [5] (fun x wx => ∃ j : Nat, j ≤ n ∧ x = .int .i64 ((j : Int) + 1) ∧ kidsB h i j = true ∧ wx = W) (fun x _ => n + 1 - (intOf x).toNat)
          case atStart => exact ⟨0, Nat.zero_le _, rfl, rfl, rfl⟩
          case round =>
            obtain ⟨j, hjn, rfl, hkb, rfl⟩ := hrel
            have HKb : Hid (kidsB h i j = true) := hkb
            clear hkb
            by_cases hj : j < n
            case neg =>
              obtain rfl : j = n := by omega
              have hle : decide ((j : Int) + 1 ≤ (j : Int)) = false := decide_eq_false (by omega)
              have HC : Hid (firstE h len (i + 1) = 0) := HNext.out (by rw [HE4.out, if_pos HKb.out])
              go_wp2_with fail
              go_roundw
              case rel => exact ⟨i + 1, by omega, by go_num, HC.out, HBx.out⟩
              case measure => simp [intOf]; omega
            have hle : decide ((j : Int) + 1 ≤ (n : Int)) = true := decide_eq_true (by omega)
            have hle2 : (j : Int) + 1 ≤ (n : Int) := by omega
            have hw3 : IntKind.i64.wrap ((i : Int) + ((j : Int) + 1)) = ((i + 1 + j : Nat) : Int) := by simp [IntKind.wrap, IntKind.bits, IntKind.signed]; omega
            obtain ⟨b', o', e', d0, d1, d2⟩ := HRw.out j hj
            cases e'
            have hix : ((i + 1 + j : Nat) : Int) < (len : Int) := by omega
            have HS1 : Hid (kidsB h i (j + 1) = (kidsB h i j && ((h (i + 1 + j)).k == 1))) := rfl
            by_cases hkk : (h (i + 1 + j)).k = 1
            · have hkb2 : ((h (i + 1 + j)).k != 1) = false := by rw [hkk]; rfl
              have HN1 : Hid (kidsB h i (j + 1) = true) := by rw [Hid, HS1.out, HKb.out, hkk]; rfl
              clear hkk
              go_wp2_with fail
              go_roundw
              case rel => exact ⟨j + 1, by omega, by go_num, HN1.out, by first | rfl | trivial⟩
              case measure => simp [intOf]; omega
            · have hkb2 : ((h (i + 1 + j)).k != 1) = true := bne_iff_ne.2 hkk
              have HC : Hid (ChkR h len 1) := HStop.out 1 (by
                rw [HE4.out, if_neg]
                intro hall
                have := allTo_le (show j + 1 ≤ n from hj) hall
                have h2 : ((h (i + 1 + j)).k == 1) = true := by
                  have h3 : kidsB h i (j + 1) = true := this
                  rw [HS1.out, Bool.and_eq_true] at h3
                  exact h3.2
                exact hkk (beq_iff_eq.1 h2)) (by decide)
              clear hkk
              go_wp2_with fail
              go_ret
              exact ⟨1, rfl, HC.out, HBx.out⟩
end Go.Proofs.Ytmggaclaoefdaaa
