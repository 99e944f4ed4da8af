/- The program's heap: a name and what stands behind it. The program's heap: a cell's error. -/
import Derived.Test.YtmggaclaoefdaaaGAP
namespace Go.Proofs.Ytmggaclaoefdaaa
open Go.RowKit

theorem fn1_any (c : Cl) (w : World) : Calls Try.prog 133 #[.agg #[.int .i64 c.k, .int .i64 c.n, .string c.nm]] w fun e w' => e = .returned (.bool (c.k != 1)) ∧ Below w.heap.size w w' := by
  go_enter Try.func133, Try.ntmps133
  go_wp2_with fail
  go_ret
  exact ⟨rfl, (Below.refl _ _).alloc (Nat.le_refl _) _⟩
theorem Try.info128q : (Try.prog.info? 128).map (fun i => (i.zero, i.size, i.bytes)) = some (some (.agg #[.int .i64 0, .int .i64 0, .string ⟨#[]⟩]), 3, 32) := by kernel_rfl
theorem to_runH (a : Option Addr) (ln cp k : Nat) (h : k ≤ ln) (hc : ln ≤ cp) (W : World) : (Instr.slice 54 (.slice a ln cp) none (some (.int .i64 k)) none).run Try.prog W = .ok (.slice a k cp) W := by
  obtain ⟨i0, hi, hz0, hz1, hz2⟩ := info_parts Try.info128q
  have h' : (k : Int) ≤ (cp : Int) := by omega
  cases a with
  | none => simp [Instr.slice, run_underlying Try.underlying54, Instr.sliceBounds, run_sliceBound, sizeOf, typeInfo, hi, h', Addr.add]
  | some ad => simp [Instr.slice, run_underlying Try.underlying54, Instr.sliceBounds, run_sliceBound, sizeOf, typeInfo, hi, h', Addr.add]
set_option maxRecDepth 100000 in
theorem idxF_any {a : Option Addr} {m cap : Nat} {h : Nat → Cl} (w : World) (hh : ∀ i, i < m → CRow w a i (h i)) (hm : m ≤ 2 ^ 63 - 1) :
    Calls Try.prog 143 #[.slice a m cap, .func (.func 133) #[] #[]] w fun e w' => ∃ r : Int, e = .returned (.int .i64 r) ∧ Below w.heap.size w w' ∧ ((r = -1 ∧ ∀ j, j < m → (h j).k = 1) ∨ (0 ≤ r ∧ ∃ j, j < m ∧ (h j).k ≠ 1)) := by
  have HH : Hid (∀ W, Below w.heap.size w W → ∀ i, i < m → CRow W a i (h i)) := fun W hW i hi => (hh i hi).below hW
  clear hh
  go_enter Try.func143, Try.ntmps143
  go_wp2_with fail
  go_loopw [8] (fun x wr => ∃ i : Nat, i ≤ m ∧ x = .int .i64 i ∧ (∀ j, j < i → (h j).k = 1) ∧ Below w.heap.size w wr) (fun x _ => m - (intOf x).toNat)
  case atStart => exact ⟨0, Nat.zero_le _, rfl, fun j hj => absurd hj (Nat.not_lt_zero j), Below.refl _ _⟩
  case round =>
    obtain ⟨i, hi, rfl, hk, hb⟩ := hrel
    have HK : Hid (∀ j, j < i → (h j).k = 1) := hk
    have HB : Hid (Below w.heap.size w wr) := hb
    clear hk hb
    by_cases hil : i < m
    case neg =>
      have hiI : ¬ ((i : Int) < (m : Int)) := by omega
      obtain rfl : i = m := by omega
      go_wp2_with fail
      go_ret
      exact ⟨-1, rfl, HB.out, .inl ⟨rfl, HK.out⟩⟩
    have hiI : (i : Int) < (m : Int) := by omega
    obtain ⟨b, o, rfl, c0, c1, c2⟩ := HH.out wr HB.out i hil
    have HF : Hid (Calls Try.prog 133 #[.agg #[.int .i64 (h i).k, .int .i64 (h i).n, .string (h i).nm]] wr fun e w' => e = .returned (.bool ((h i).k != 1)) ∧ Below wr.heap.size wr w') := fn1_any (h i) wr
    go_wp2_with fail
    refine HF.out.mono ?_
    rintro e w1 ⟨rfl, hb1⟩
    have HB1 : Hid (Below w.heap.size w w1) := HB.out.trans (hb1.mono HB.out.size)
    clear hb1 HF c0 c1 c2
    by_cases hk1 : (h i).k = 1
    · have hkb : ((h i).k != 1) = false := by rw [hk1]; rfl
      have HK1 : Hid (∀ j, j < i + 1 → (h j).k = 1) := fun j hj => by
        by_cases e : j < i
        · exact HK.out j e
        · obtain rfl : j = i := by omega
          exact hk1
      rw [hkb]
      clear hk1 hkb
      go_wp2_with fail
      go_roundw
      case rel => exact ⟨i + 1, by omega, by go_num, HK1.out, HB1.out⟩
      case measure => simp [intOf]; omega
    · have hkb : ((h i).k != 1) = true := bne_iff_ne.2 hk1
      have HN : Hid ((h i).k ≠ 1) := hk1
      rw [hkb]
      clear hk1 hkb
      go_wp2_with fail
      go_ret
      exact ⟨i, rfl, HB1.out, .inr ⟨by omega, i, hil, HN.out⟩⟩
theorem contF_any {a : Option Addr} {m cap : Nat} {h : Nat → Cl} (w : World) (hh : ∀ i, i < m → CRow w a i (h i)) (hm : m ≤ 2 ^ 63 - 1) :
    Calls Try.prog 132 #[.slice a m cap, .func (.func 133) #[] #[]] w fun e w' => e = .returned (.bool (!allTo (fun j => (h j).k == 1) m)) ∧ Below w.heap.size w w' := by
  have HI : Hid (Calls Try.prog 143 #[.slice a m cap, .func (.func 133) #[] #[]] w fun e w' => ∃ r : Int, e = .returned (.int .i64 r) ∧ Below w.heap.size w w' ∧ ((r = -1 ∧ ∀ j, j < m → (h j).k = 1) ∨ (0 ≤ r ∧ ∃ j, j < m ∧ (h j).k ≠ 1))) := idxF_any w hh hm
  clear hh hm
  go_enter Try.func132, Try.ntmps132
  go_wp2_with fail
  refine HI.out.mono ?_
  rintro e w1 ⟨r, rfl, hb, hr⟩
  have HB : Hid (Below w.heap.size w w1) := hb
  have HR : Hid (decide (r ≥ 0) = !allTo (fun j => (h j).k == 1) m) := by
    rw [Hid]
    rcases hr with ⟨rfl, h1⟩ | ⟨h0, j, hj, h1⟩
    · rw [allTo_iff.2 (fun j hj => beq_iff_eq.2 (h1 j hj))]; rfl
    · have e1 : allTo (fun j => (h j).k == 1) m = false := by
        cases e : allTo (fun j => (h j).k == 1) m with
        | false => rfl
        | true => exact absurd (beq_iff_eq.1 (allTo_iff.1 e j hj)) h1
      rw [e1, decide_eq_true (show r ≥ 0 from h0)]; rfl
  clear hb hr HI
  go_wp2_with fail
  go_ret
  exact ⟨by rw [← HR.out]; rfl, HB.out⟩
def fnV (len : Nat) (n : Int) (nm : ByteArray) (h : Nat → Cl) : Int := if namedB n nm = true then (if n > (len : Int) then 5 else if allTo (fun j => (h j).k == 1) n.toNat = true then 0 else 1) else 1
set_option maxRecDepth 100000 in
theorem hfn_any {a : Option Addr} {len cap : Nat} {h : Nat → Cl} (k n : Int) (nm : ByteArray) (w : World) (hh : HIn w a len h) (hcap : len ≤ cap) (hs : nm.size ≤ maxLen) :
    Calls Try.prog 113 #[.agg #[.int .i64 k, .int .i64 n, .string nm], .slice a len cap] w fun e w' => e = .returned (.int .i64 (fnV len n nm h)) ∧ Below w.heap.size w w' := by
  have HNa : Hid (∀ W, Calls Try.prog 131 #[.agg #[.int .i64 k, .int .i64 n, .string nm]] W fun e w' => e = .returned (.bool (namedB n nm)) ∧ Below W.heap.size W w') := fun W => named_any k n nm W hs
  have HH : Hid (∀ W, Below w.heap.size w W → HIn W a len h) := fun W hW => hh.below hW
  have hlb : len ≤ 2 ^ 63 - 1 := hh.big
  have HBa : Hid (Below w.heap.size w (w.alloc (.cells #[.int .i64 k, .int .i64 n, .string nm] 128))) := (Below.refl _ _).alloc (Nat.le_refl _) _
  have HX : Hid ((w.alloc (.cells #[.int .i64 k, .int .i64 n, .string nm] 128)).heap[w.heap.size]? = some (.cells #[.int .i64 k, .int .i64 n, .string nm] 128)) := heap_alloc_new _ _
  clear hh hs
  go_enter Try.func113, Try.ntmps113
  go_wp2_with fail
  generalize w.alloc (.cells #[.int .i64 k, .int .i64 n, .string nm] 128) = wa at *
  refine (HNa.out _).mono ?_
  rintro e w1 ⟨rfl, hb1⟩
  have hX1 : w1.heap[w.heap.size]? = some (.cells #[.int .i64 k, .int .i64 n, .string nm] 128) := (hb1.block _ (Array.getElem?_eq_some_iff.1 HX.out).1).trans HX.out
  have HB1 : Hid (Below w.heap.size w w1) := HBa.out.trans (hb1.mono HBa.out.size)
  obtain ⟨x0, x1, x2, _, _, _⟩ := block_cells hX1
  clear hb1 hX1
  cases hn : namedB n nm with
  | false =>
    have HR : Hid (fnV len n nm h = 1) := by rw [Hid]; unfold fnV; rw [if_neg (by rw [hn]; simp)]
    clear hn
    go_wp2_with fail
    go_ret
    exact ⟨by rw [HR.out]; rfl, HB1.out⟩
  | true =>
    have HN : Hid (namedB n nm = true) := hn
    have h0 : 0 ≤ n := by
      unfold namedB at hn
      simp at hn
      exact hn.1
    clear hn
    by_cases hg : n > (len : Int)
    case pos =>
      have hgb : decide (n > (len : Int)) = true := decide_eq_true hg
      have HR : Hid (fnV len n nm h = 5) := by rw [Hid]; unfold fnV; rw [if_pos HN.out, if_pos hg]
      clear hg
      go_wp2_with fail
      go_ret
      exact ⟨by rw [HR.out]; rfl, HB1.out⟩
    have hgb : decide (n > (len : Int)) = false := decide_eq_false hg
    obtain ⟨m, rfl⟩ : ∃ m : Nat, n = m := ⟨n.toNat, by omega⟩
    have hto := to_runH a len cap m (by omega) hcap
    have HCo : Hid (∀ W, Below w.heap.size w W → Calls Try.prog 132 #[.slice a m cap, .func (.func 133) #[] #[]] W fun e w' => e = .returned (.bool (!allTo (fun j => (h j).k == 1) m)) ∧ Below W.heap.size W w') := fun W hW => contF_any W (fun i hi => (HH.out W hW).row i (by omega)) (by omega)
    have HR : Hid (fnV len m nm h = if allTo (fun j => (h j).k == 1) m = true then 0 else 1) := by
      rw [Hid]; unfold fnV; rw [if_pos HN.out, if_neg hg]; rfl
    go_wp2_with fail
    refine (HCo.out _ HB1.out).mono ?_
    rintro e w2 ⟨rfl, hb2⟩
    have HB2 : Hid (Below w.heap.size w w2) := HB1.out.trans (hb2.mono HB1.out.size)
    clear hb2 HCo hg hgb x0 x1 x2
    cases hall : allTo (fun j => (h j).k == 1) m with
    | true =>
      have HA : Hid (allTo (fun j => (h j).k == 1) m = true) := hall
      rw [show (!true) = false from rfl]
      clear hall
      go_wp2_with fail
      go_ret
      exact ⟨by rw [HR.out, if_pos HA.out]; rfl, HB2.out⟩
    | false =>
      have HA : Hid (allTo (fun j => (h j).k == 1) m = false) := hall
      rw [show (!false) = true from rfl]
      clear hall
      go_wp2_with fail
      go_ret
      exact ⟨by rw [HR.out, if_neg (by rw [HA.out]; simp)]; rfl, HB2.out⟩
end Go.Proofs.Ytmggaclaoefdaaa

namespace Go.Proofs.Ytmggaclaoefdaaa
open Go.RowKit
set_option linter.unusedVariables false
set_option linter.unusedSimpArgs false

theorem from_runH (a : Option Addr) (ln cp k : Nat) (h : k ≤ ln) (hc : ln ≤ cp) (W : World) : (Instr.slice 54 (.slice a ln cp) (some (.int .i64 k)) none none).run Try.prog W = .ok (.slice (if cp = k then a else a.map fun x => x.add (k * 3)) (ln - k) (cp - k)) W := by
  obtain ⟨i0, hi, hz0, hz1, hz2⟩ := info_parts Try.info128q
  have h' : (k : Int) ≤ (ln : Int) := by omega
  have h2 : (ln : Int) ≤ (cp : Int) := by omega
  cases a with
  | none => simp [Instr.slice, run_underlying Try.underlying54, Instr.sliceBounds, run_sliceBound, sizeOf, typeInfo, hi, hz1, h', h2, hc, Addr.add]
  | some ad => simp [Instr.slice, run_underlying Try.underlying54, Instr.sliceBounds, run_sliceBound, sizeOf, typeInfo, hi, hz1, h', h2, hc, Addr.add]
theorem HIn.tail {w : World} {a : Option Addr} {len cap k : Nat} {h : Nat → Cl} (hh : HIn w a len h) (hc : len ≤ cap) (hk : k ≤ len) : HIn w (if cap = k then a else a.map fun x => x.add (k * 3)) (len - k) (fun j => h (k + j)) := by
  refine ⟨fun i hi => ?_, by have := hh.big; omega, fun i hi => hh.nm (k + i) (by omega)⟩
  obtain ⟨b, o, e, c0, c1, c2⟩ := hh.row (k + i) (by omega)
  rw [if_neg (by omega), e]
  refine ⟨b, o + k * 3, by simp [Addr.add], ?_, ?_, ?_⟩
  · rw [show o + k * 3 + i * 3 = o + (k + i) * 3 from by omega]; exact c0
  · rw [show o + k * 3 + i * 3 + 1 = o + (k + i) * 3 + 1 from by omega]; exact c1
  · rw [show o + k * 3 + i * 3 + 2 = o + (k + i) * 3 + 2 from by omega]; exact c2
theorem refV_cell {h : Nat → Cl} {len i : Nat} (hk : (h i).k = 1) : refV len (h i).n (h i).nm = cellE h len i := by
  unfold refV cellE
  rw [if_pos hk]
  by_cases hb : noneB len (h i).n = true
  · have e : ¬ btw (h i).n 0 ((len : Int) - 1) = true := fun e => by
      unfold noneB at hb
      unfold btw at e
      simp at hb e
      omega
    rw [if_pos hb, if_neg e]
  · have e : btw (h i).n 0 ((len : Int) - 1) = true := by
      unfold noneB at hb
      unfold btw
      simp at hb ⊢
      omega
    rw [if_neg hb, if_pos e]
theorem fnV_cell {h : Nat → Cl} {len i : Nat} (hi : i < len) (hk : (h i).k = 2) : fnV (len - (i + 1)) (h i).n (h i).nm (fun j => h (i + 1 + j)) = cellE h len i := by
  unfold fnV cellE kidsB
  rw [if_neg (show ¬ (h i).k = 1 from by omega), if_pos hk]
  have e1 : namedB (h i).n (h i).nm = true ↔ (nameB (h i).nm = true ∧ btw (h i).n 0 4 = true ∧ ¬ ((h i).nm.toList = [33] ∧ 0 < (h i).n)) := by
    unfold namedB btw
    by_cases e : (h i).nm.toList = [33]
    · simp [e]
      constructor
      · rintro ⟨h1, h2, h3⟩; exact ⟨h3, ⟨h1, by omega⟩, h2⟩
      · rintro ⟨h1, h2, h3⟩; exact ⟨h2.1, h3, h1⟩
    · have e' : ((h i).nm.toList == [33]) = false := beq_eq_false_iff_ne.2 e
      simp [e', e]
      constructor
      · rintro ⟨h1, h2, h3⟩; exact ⟨h3, h1, h2⟩
      · rintro ⟨h1, h2, h3⟩; exact ⟨h2, h3, h1⟩
  by_cases hn : namedB (h i).n (h i).nm = true
  · rw [if_pos hn, if_pos (e1.1 hn)]
    have hcast : ((len - (i + 1) : Nat) : Int) = (len : Int) - 1 - i := by omega
    by_cases hg : (h i).n > ((len - (i + 1) : Nat) : Int)
    · have e2 : (len : Int) - 1 < (i : Int) + (h i).n := by omega
      rw [if_pos hg, if_pos e2]
    · have e2 : ¬ (len : Int) - 1 < (i : Int) + (h i).n := by omega
      rw [if_neg hg, if_neg e2]
  · rw [if_neg hn, if_neg (fun e => hn (e1.2 e))]
set_option maxRecDepth 100000 in
set_option maxHeartbeats 4000000 in
theorem cell_any {a : Option Addr} {len cap : Nat} {h : Nat → Cl} (i : Nat) (w : World) (hh : HIn w a len h) (hc : len ≤ cap) (hi : i < len) :
    Calls Try.prog 84 #[.slice a len cap, .int .i64 i] w fun e w' => e = .returned (.int .i64 (cellE h len i)) ∧ Below w.heap.size w w' := by
  have HH : Hid (∀ W, Below w.heap.size w W → HIn W a len h) := fun W hW => hh.below hW
  have hlb : len ≤ 2 ^ 63 - 1 := hh.big
  have hnm : (h i).nm.size ≤ maxLen := hh.nm i hi
  have hiI : (i : Int) < (len : Int) := by omega
  obtain ⟨b, o, rfl, c0, c1, c2⟩ := hh.row i hi
  have HBa : Hid (Below w.heap.size w (w.alloc (.cells #[.int .i64 (h i).k, .int .i64 (h i).n, .string (h i).nm] 128))) := (Below.refl _ _).alloc (Nat.le_refl _) _
  have HX : Hid ((w.alloc (.cells #[.int .i64 (h i).k, .int .i64 (h i).n, .string (h i).nm] 128)).heap[w.heap.size]? = some (.cells #[.int .i64 (h i).k, .int .i64 (h i).n, .string (h i).nm] 128)) := heap_alloc_new _ _
  clear hh
  by_cases hk1 : (h i).k = 1
  · have hkb : ((h i).k == 1) = true := beq_iff_eq.2 hk1
    have HR : Hid (∀ wa, Calls Try.prog 112 #[.slice (some ⟨b, o, none⟩) len cap, .agg #[.int .i64 (h i).k, .int .i64 (h i).n, .string (h i).nm]] wa fun e w' => e = .returned (.int .i64 (cellE h len i)) ∧ Below wa.heap.size wa w') := fun wa => by
      rw [← refV_cell hk1]; exact ref_any _ len cap (h i).k (h i).n (h i).nm wa
    clear hk1
    go_enter Try.func84, Try.ntmps84
    go_wp2_with fail
    refine (HR.out _).mono ?_
    rintro e w1 ⟨rfl, hb1⟩
    have HB1 : Hid (Below w.heap.size w w1) := HBa.out.trans (hb1.mono HBa.out.size)
    clear hb1
    go_wp2_with fail
    go_ret
    exact ⟨rfl, HB1.out⟩
  have hkb : ((h i).k == 1) = false := beq_eq_false_iff_ne.2 hk1
  by_cases hk2 : (h i).k = 2
  case neg =>
    have hkb2 : ((h i).k == 2) = false := beq_eq_false_iff_ne.2 hk2
    have HR : Hid (cellE h len i = 1) := by rw [Hid]; unfold cellE; rw [if_neg hk1, if_neg hk2]
    clear hk1 hk2
    go_enter Try.func84, Try.ntmps84
    go_wp2_with fail
    go_ret
    exact ⟨by rw [HR.out]; rfl, HBa.out⟩
  have hkb2 : ((h i).k == 2) = true := beq_iff_eq.2 hk2
  have hw1 : IntKind.i64.wrap ((i : Int) + 1) = (i : Int) + 1 := by simp [IntKind.wrap, IntKind.bits, IntKind.signed]; omega
  have hfrom := from_runH (some ⟨b, o, none⟩) len cap (i + 1) (by omega) hc
  rw [show ((i + 1 : Nat) : Int) = (i : Int) + 1 from by omega] at hfrom
  have HT : Hid (∀ W, Below w.heap.size w W → HIn W (if cap = i + 1 then some ⟨b, o, none⟩ else (some (⟨b, o, none⟩ : Addr)).map fun x => x.add ((i + 1) * 3)) (len - (i + 1)) (fun j => h (i + 1 + j))) := fun W hW => (HH.out W hW).tail hc (by omega)
  generalize (if cap = i + 1 then some ⟨b, o, none⟩ else (some (⟨b, o, none⟩ : Addr)).map fun x => x.add ((i + 1) * 3)) = ta at *
  have HK2 : Hid ((h i).k = 2) := hk2
  have HNm : Hid ((h i).nm.size ≤ maxLen) := hnm
  clear hk1 hk2 hnm
  go_enter Try.func84, Try.ntmps84
  go_wp2_with fail
  generalize w.alloc (.cells #[.int .i64 (h i).k, .int .i64 (h i).n, .string (h i).nm] 128) = wa at *
  obtain ⟨x0, x1, x2, _, _, _⟩ := block_cells HX.out
  clear c0 c1 c2
  have HF : Hid (∀ W, Below wa.heap.size wa W → Calls Try.prog 113 #[.agg #[.int .i64 (h i).k, .int .i64 (h i).n, .string (h i).nm], .slice ta (len - (i + 1)) (cap - (i + 1))] W fun e w' => e = .returned (.int .i64 (cellE h len i)) ∧ Below W.heap.size W w') := fun W hW => by
    rw [← fnV_cell hi HK2.out]
    exact hfn_any (h i).k (h i).n (h i).nm W (HT.out W (HBa.out.trans (hW.mono HBa.out.size))) (by omega) HNm.out
  have HKp : Hid (∀ W, Below wa.heap.size wa W → W.cell? ⟨w.heap.size, 0, none⟩ = some (.int .i64 (h i).k) ∧ W.cell? ⟨w.heap.size, 1, none⟩ = some (.int .i64 (h i).n) ∧ W.cell? ⟨w.heap.size, 2, none⟩ = some (.string (h i).nm)) := fun W hW => ⟨(hW.cell (lt_of_cell x0)).trans x0, (hW.cell (lt_of_cell x1)).trans x1, (hW.cell (lt_of_cell x2)).trans x2⟩
  go_region_held3 (fun W => W.cell? ⟨w.heap.size, 0, none⟩ = some (.int .i64 (h i).k) ∧ W.cell? ⟨w.heap.size, 1, none⟩ = some (.int .i64 (h i).n) ∧ W.cell? ⟨w.heap.size, 2, none⟩ = some (.string (h i).nm)) ((refine HKp.out _ ?_; repeat (first | exact HB4.out | exact Below.refl _ _ | refine Below.drew ?_))) (first
    | (go_at_call 113
       refine (HF.out _ (by repeat (first | exact Below.refl _ _ | refine Below.drew ?_))).mono ?_
       rintro e w4 ⟨rfl, hb4⟩
       have HB4 : Hid (Below wa.heap.size wa w4) := Below.trans (by repeat (first | exact Below.refl _ _ | refine Below.drew ?_)) (hb4.mono (Nat.le_refl _))
       clear hb4))
  all_goals
    go_wp2_with fail
    go_ret
    exact ⟨rfl, HBa.out.trans (HB4.out.mono HBa.out.size)⟩
end Go.Proofs.Ytmggaclaoefdaaa
