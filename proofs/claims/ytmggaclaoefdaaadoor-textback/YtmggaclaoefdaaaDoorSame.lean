/- SameTerm, SameTerms, SameProgram: what they answer. -/
import Derived.Test.YtmggaclaoefdaaaDoorRdD
import Derived.Deep.RegionHeld3
namespace Go.Proofs.YtmggaclaoefdaaaDoor
open Go.RowKit

def allTo (g : Nat → Bool) : Nat → Bool
  | 0 => true
  | k + 1 => allTo g k && g k
theorem allTo_le {g : Nat → Bool} {j k : Nat} (h : j ≤ k) (hk : allTo g k = true) : allTo g j = true := by
  induction k with
  | zero => rw [Nat.le_zero.1 h]; rfl
  | succ k ih =>
    rcases Nat.lt_or_ge j (k + 1) with h1 | h1
    · exact ih (by omega) (by rw [allTo, Bool.and_eq_true] at hk; exact hk.1)
    · rw [show j = k + 1 by omega]; exact hk
theorem allTo_no {g : Nat → Bool} {j k : Nat} (h : j < k) (hj : g j = false) : allTo g k = false := by
  cases hk : allTo g k with
  | false => rfl
  | true =>
    have := allTo_le (show j + 1 ≤ k from h) hk
    rw [allTo, hj, Bool.and_false] at this
    exact absurd this (by simp)
theorem allTo_iff {g : Nat → Bool} {k : Nat} : allTo g k = true ↔ ∀ i, i < k → g i = true := by
  refine ⟨fun h i hi => ?_, fun h => ?_⟩
  · have := allTo_le (show i + 1 ≤ k from hi) h
    rw [allTo, Bool.and_eq_true] at this
    exact this.2
  · induction k with
    | zero => rfl
    | succ k ih => rw [allTo, ih (fun i hi => h i (by omega)), h k (by omega)]; rfl
def sameT : Tm → Tm → Bool
  | .nil, U => ((0 : Int) == U.v) && ((ByteArray.toList ⟨#[]⟩ == U.nm.toList) && ((((0 : Nat) : Int) == (U.len : Int)) && true))
  | .mk v nm _ len _ f, U => (v == U.v) && ((nm.toList == U.nm.toList) && (((len : Int) == (U.len : Int)) && allTo (fun i => sameT (f i) (U.f i)) len))
def sameTs (T U : Tm) : Bool := ((T.len : Int) == (U.len : Int)) && allTo (fun i => sameT (T.f i) (U.f i)) T.len
theorem sameT_eq (T U : Tm) : sameT T U = ((T.v == U.v) && ((T.nm.toList == U.nm.toList) && sameTs T U)) := by cases T <;> rfl

set_option maxRecDepth 100000 in
set_option maxHeartbeats 1000000 in
theorem same36_of (T U : Tm) (w : World) (hT : TIn w T) (hU : TIn w U)
    (h18 : ∀ w, TIn w T → TIn w U → Calls Tryd.prog 18 #[.slice T.a T.len T.cap, .slice U.a U.len U.cap] w fun e w' => e = .returned (.bool (sameTs T U)) ∧ Below w.heap.size w w') :
    Calls Tryd.prog 36 #[T.val, U.val] w fun e w' => e = .returned (.bool (sameT T U)) ∧ Below w.heap.size w w' := by
  have HT : Hid (TIn w T) := hT
  have HU : Hid (TIn w U) := hU
  have H18 : Hid (∀ w, TIn w T → TIn w U → Calls Tryd.prog 18 #[.slice T.a T.len T.cap, .slice U.a U.len U.cap] w fun e w' => e = .returned (.bool (sameTs T U)) ∧ Below w.heap.size w w') := h18
  have HE : Hid (sameT T U = ((T.v == U.v) && ((T.nm.toList == U.nm.toList) && sameTs T U))) := sameT_eq T U
  clear hT hU h18
  show Calls Tryd.prog 36 #[.agg #[.int .i64 T.v, .string T.nm, .slice T.a T.len T.cap], .agg #[.int .i64 U.v, .string U.nm, .slice U.a U.len U.cap]] w _
  cases hv : (T.v == U.v) with
  | false =>
    have HR : Hid (sameT T U = false) := by rw [Hid, HE.out, hv]; rfl
    go_enter Tryd.func36, Tryd.ntmps36
    go_wp2_with fail
    go_ret
    exact ⟨by rw [HR.out]; rfl, ((Below.refl _ _).alloc (Nat.le_refl _) _).alloc (by simp) _⟩
  | true =>
  cases hn : (T.nm.toList == U.nm.toList) with
  | false =>
    have HR : Hid (sameT T U = false) := by rw [Hid, HE.out, hn]; simp
    go_enter Tryd.func36, Tryd.ntmps36
    go_wp2_with fail
    go_ret
    exact ⟨by rw [HR.out]; rfl, ((Below.refl _ _).alloc (Nat.le_refl _) _).alloc (by simp) _⟩
  | true =>
    have HR : Hid (sameT T U = sameTs T U) := by rw [Hid, HE.out, hv, hn]; rfl
    have HB : Hid (Below w.heap.size w ((w.alloc (.cells #[.int .i64 T.v, .string T.nm, .slice T.a T.len T.cap] 48)).alloc (.cells #[.int .i64 U.v, .string U.nm, .slice U.a U.len U.cap] 48))) := ((Below.refl _ _).alloc (Nat.le_refl _) _).alloc (by simp) _
    go_enter Tryd.func36, Tryd.ntmps36
    go_wp2_with fail
    refine (H18.out _ (HT.out.below HB.out) (HU.out.below HB.out)).mono ?_
    rintro e w1 ⟨rfl, hb1⟩
    have HB1 : Hid (Below w.heap.size w w1) := HB.out.trans (hb1.mono HB.out.size)
    clear hb1
    go_wp2_with fail
    go_ret
    exact ⟨by rw [HR.out]; rfl, HB1.out⟩

set_option maxRecDepth 100000 in
set_option maxHeartbeats 1000000 in
theorem same18 (T : Tm) : ∀ (U : Tm) (w : World), TIn w T → TIn w U →
    Calls Tryd.prog 18 #[.slice T.a T.len T.cap, .slice U.a U.len U.cap] w fun e w' => e = .returned (.bool (sameTs T U)) ∧ Below w.heap.size w w' := by
  induction T with
  | nil => intro U w hin; exact False.elim hin
  | mk v nm a len cap f ih =>
    intro U w hin hU
    have IH : Hid (∀ i (U : Tm) (w : World), TIn w (f i) → TIn w U → Calls Tryd.prog 36 #[(f i).val, U.val] w fun e w' => e = .returned (.bool (sameT (f i) U)) ∧ Below w.heap.size w w') := fun i U w h1 h2 => same36_of (f i) U w h1 h2 (fun w h1 h2 => ih i U w h1 h2)
    have HIn : Hid (TIn w (.mk v nm a len cap f)) := hin
    have HU : Hid (TIn w U) := hU
    have hlen : len ≤ 2 ^ 63 - 1 := TIn.len (T := .mk v nm a len cap f) hin
    have hlenU : U.len ≤ 2 ^ 63 - 1 := hU.len
    have HS : Hid (sameTs (.mk v nm a len cap f) U = (((len : Int) == (U.len : Int)) && allTo (fun i => sameT (f i) (U.f i)) len)) := rfl
    have HRow : Hid (∀ k, k < U.len → ∀ wr, Below w.heap.size w wr → RowAt wr U.a k (U.f k) ∧ TIn wr (U.f k)) := fun k hk wr hb => ⟨(hU.row hk).below hb, (hU.kid hk).below hb⟩
    clear ih hin hU
    show Calls Tryd.prog 18 #[.slice a len cap, .slice U.a U.len U.cap] w _
    cases hl : ((len : Int) == (U.len : Int)) with
    | false =>
      have HR : Hid (sameTs (.mk v nm a len cap f) U = false) := by rw [Hid, HS.out, hl]; rfl
      go_enter Tryd.func18, Tryd.ntmps18
      go_wp2_with fail
      go_ret
      exact ⟨by rw [HR.out]; rfl, Below.refl _ _⟩
    | true =>
    have HR : Hid (sameTs (.mk v nm a len cap f) U = allTo (fun i => sameT (f i) (U.f i)) len) := by rw [Hid, HS.out, hl]; rfl
    have hl2 : len = U.len := by have := beq_iff_eq.1 hl; omega
    generalize hg : sameTs (.mk v nm a len cap f) U = res at *
    generalize U.f = uf at *
    generalize U.cap = ucap at *
    generalize U.a = ua at *
    generalize hul : U.len = ulen at *
    clear hg hul HS hl hlenU
    subst hl2
    go_enter Tryd.func18, Tryd.ntmps18
    go_wp2_with fail
    go_loopw [5] (fun i wr => ∃ k : Nat, k ≤ len ∧ i = .int .i64 k ∧ allTo (fun i => sameT (f i) (uf i)) k = true ∧ Below w.heap.size w wr) (fun i _ => len - (intOf i).toNat)
    case atStart => exact ⟨0, Nat.zero_le _, rfl, rfl, Below.refl _ _⟩
    case round =>
      obtain ⟨k, hk, rfl, hs, hb⟩ := hrel
      have HK : Hid (allTo (fun i => sameT (f i) (uf i)) k = true) := hs
      have HB : Hid (Below w.heap.size w wr) := hb
      have hsz := hb.size
      clear hs hb
      by_cases hlt : k < len
      · have hr : RowAt wr a k (f k) := (TIn.row (T := .mk v nm a len cap f) HIn.out hlt).below HB.out
        obtain ⟨b, o, ha, c0, c1, c2⟩ := hr
        have HT : Hid (TIn wr (f k)) := (TIn.kid (T := .mk v nm a len cap f) HIn.out hlt).below HB.out
        obtain ⟨⟨b', o', ha', d0, d1, d2⟩, hTU⟩ := HRow.out k (by omega) wr HB.out
        have HTU : Hid (TIn wr (uf k)) := hTU
        clear hTU
        have hltU : k < len := hlt
        have HN : Hid (sameT (f k) (uf k) = false → res = false) := fun h => by rw [HR.out]; exact allTo_no hlt h
        have HZ : Hid (sameT (f k) (uf k) = true → allTo (fun i => sameT (f i) (uf i)) (k + 1) = true) := fun h => by rw [allTo, HK.out, h]; rfl
        subst ha ha'
        have HTT : Hid (∀ wx, Below w.heap.size w wx → TIn wx (f k) ∧ TIn wx (uf k)) := fun wx hb => ⟨(TIn.kid (T := .mk v nm (some ⟨b, o, none⟩) len cap f) HIn.out hlt).below hb, (HRow.out k hltU wx hb).2⟩
        have HKp : Hid (∀ w', Below w.heap.size w w' → w'.cell? ⟨b, o + k * 3, none⟩ = some (.int .i64 (f k).v) ∧ w'.cell? ⟨b, o + k * 3 + 1, none⟩ = some (.string (f k).nm) ∧ w'.cell? ⟨b, o + k * 3 + 2, none⟩ = some (.slice (f k).a (f k).len (f k).cap) ∧ w'.cell? ⟨b', o' + k * 3, none⟩ = some (.int .i64 (uf k).v) ∧ w'.cell? ⟨b', o' + k * 3 + 1, none⟩ = some (.string (uf k).nm) ∧ w'.cell? ⟨b', o' + k * 3 + 2, none⟩ = some (.slice (uf k).a (uf k).len (uf k).cap)) := fun wx hb => by
          obtain ⟨b1, o1, e1, x0, x1, x2⟩ := (TIn.row (T := .mk v nm (some ⟨b, o, none⟩) len cap f) HIn.out hlt).below hb
          obtain ⟨⟨b2, o2, e2, y0, y1, y2⟩, _⟩ := HRow.out k hltU wx hb
          cases e1; cases e2
          exact ⟨x0, x1, x2, y0, y1, y2⟩
        have hk0 : (0 : Int) ≤ (k : Int) := by omega
        have hk1 : (k : Int) < (len : Int) := by omega
        go_wp2_with fail
        go_region_held3 (fun w' => w'.cell? ⟨b, o + k * 3, none⟩ = some (.int .i64 (f k).v) ∧ w'.cell? ⟨b, o + k * 3 + 1, none⟩ = some (.string (f k).nm) ∧ w'.cell? ⟨b, o + k * 3 + 2, none⟩ = some (.slice (f k).a (f k).len (f k).cap) ∧ w'.cell? ⟨b', o' + k * 3, none⟩ = some (.int .i64 (uf k).v) ∧ w'.cell? ⟨b', o' + k * 3 + 1, none⟩ = some (.string (uf k).nm) ∧ w'.cell? ⟨b', o' + k * 3 + 2, none⟩ = some (.slice (uf k).a (uf k).len (uf k).cap)) (first | exact HKp.out _ HB1.out | exact HKp.out _ HB.out | exact HKp.out _ HB.out.drew)
          (first
            | (go_at_call 36
               refine (IH.out k (uf k) _ (by first | exact (HTT.out _ HB.out).1 | exact (HTT.out _ HB.out.drew).1) (by first | exact (HTT.out _ HB.out).2 | exact (HTT.out _ HB.out.drew).2)).mono ?_
               rintro e w1 ⟨rfl, hb1⟩
               have HB1 : Hid (Below w.heap.size w w1) := Below.trans (by first | exact HB.out | exact HB.out.drew) (hb1.mono hsz)
               clear hb1))
        cases hs : sameT (f k) (uf k) with
        | false =>
          have HX : Hid (res = false) := HN.out hs
          clear hs
          go_wp2_with fail
          go_ret
          exact ⟨by rw [HX.out]; rfl, HB1.out⟩
        | true =>
          have HX : Hid (allTo (fun i => sameT (f i) (uf i)) (k + 1) = true) := HZ.out hs
          clear hs
          go_wp2_with fail
          go_roundw
          case rel => exact ⟨k + 1, by omega, by go_num, HX.out, HB1.out⟩
          case measure => simp [intOf]; omega
      · have hke : k = len := by omega
        have HX : Hid (res = true) := by rw [Hid, HR.out, ← hke, HK.out]
        clear hke
        go_wp2_with fail
        go_ret
        exact ⟨by rw [HX.out]; rfl, HB.out⟩
theorem same36 (T U : Tm) (w : World) (hT : TIn w T) (hU : TIn w U) :
    Calls Tryd.prog 36 #[T.val, U.val] w fun e w' => e = .returned (.bool (sameT T U)) ∧ Below w.heap.size w w' :=
  same36_of T U w hT hU (fun w h1 h2 => same18 T U w h1 h2)

def sameC (H B H' B' : Tm) : Bool := sameT H H' && sameTs B B'
def samePg (P Q : Pg) : Bool := ((P.len : Int) == (Q.len : Int)) && allTo (fun i => sameC (P.hd i) (P.bd i) (Q.hd i) (Q.bd i)) P.len

set_option maxRecDepth 100000 in
set_option maxHeartbeats 2000000 in
theorem same17 (P Q : Pg) (w : World) (hP : PIn w P) (hQ : PIn w Q) (hsame : samePg P Q = true) :
    Calls Tryd.prog 17 #[.slice P.a P.len P.cap, .slice Q.a Q.len Q.cap] w fun e w' => e = .returned (.bool true) ∧ Below w.heap.size w w' := by
  have hlen : P.len ≤ 2 ^ 63 - 1 := hP.1
  have hlenU : Q.len ≤ 2 ^ 63 - 1 := hQ.1
  have hl2 : P.len = Q.len := by
    rw [samePg, Bool.and_eq_true] at hsame; have := beq_iff_eq.1 hsame.1; omega
  have HAll : Hid (∀ i, i < P.len → sameC (P.hd i) (P.bd i) (Q.hd i) (Q.bd i) = true) := by
    rw [samePg, Bool.and_eq_true] at hsame; exact allTo_iff.1 hsame.2
  clear hsame
  have HRP : Hid (∀ k, k < P.len → ∀ wr, Below w.heap.size w wr → ClAt wr P.a k (P.hd k) (P.bd k) ∧ TIn wr (P.hd k) ∧ TIn wr (P.bd k)) := fun k hk wr hb => (hP.below hb).2 k hk
  have HRQ : Hid (∀ k, k < Q.len → ∀ wr, Below w.heap.size w wr → ClAt wr Q.a k (Q.hd k) (Q.bd k) ∧ TIn wr (Q.hd k) ∧ TIn wr (Q.bd k)) := fun k hk wr hb => (hQ.below hb).2 k hk
  clear hP hQ
  generalize P.hd = hd at *
  generalize P.bd = bd at *
  generalize P.cap = cap at *
  generalize P.a = a at *
  generalize P.len = len at *
  generalize Q.hd = qhd at *
  generalize Q.bd = qbd at *
  generalize Q.cap = qcap at *
  generalize Q.a = qa at *
  generalize Q.len = qlen at *
  clear hlenU
  subst hl2
  go_enter Tryd.func17, Tryd.ntmps17
  go_wp2_with fail
  go_loopw [5] (fun i wr => ∃ k : Nat, k ≤ len ∧ i = .int .i64 k ∧ Below w.heap.size w wr) (fun i _ => len - (intOf i).toNat)
  case atStart => exact ⟨0, Nat.zero_le _, rfl, Below.refl _ _⟩
  case round =>
    obtain ⟨k, hk, rfl, hb⟩ := hrel
    have HB : Hid (Below w.heap.size w wr) := hb
    have hsz := hb.size
    clear hb
    by_cases hlt : k < len
    · have hltU : k < len := hlt
      obtain ⟨⟨b, o, ha, c0, c1, c2, c3⟩, hT, hB⟩ := HRP.out k hlt wr HB.out
      obtain ⟨⟨b', o', ha', d0, d1, d2, d3⟩, hT', hB'⟩ := HRQ.out k hltU wr HB.out
      clear hT hB hT' hB' c0 c1 c2 c3 d0 d1 d2 d3
      have hC := HAll.out k hlt
      rw [sameC, Bool.and_eq_true] at hC
      have HE1 : Hid (sameT (hd k) (qhd k) = true) := hC.1
      have HE2 : Hid (sameTs (bd k) (qbd k) = true) := hC.2
      clear hC
      subst ha ha'
      have HTT : Hid (∀ wx, Below w.heap.size w wx → TIn wx (hd k) ∧ TIn wx (qhd k) ∧ TIn wx (bd k) ∧ TIn wx (qbd k)) := fun wx hb => ⟨(HRP.out k hlt wx hb).2.1, (HRQ.out k hlt wx hb).2.1, (HRP.out k hlt wx hb).2.2, (HRQ.out k hlt wx hb).2.2⟩
      have HKp : Hid (∀ w', Below w.heap.size w w' → w'.cell? ⟨b, o + k * 4, none⟩ = some (.int .i64 (hd k).v) ∧ w'.cell? ⟨b, o + k * 4 + 1, none⟩ = some (.string (hd k).nm) ∧ w'.cell? ⟨b, o + k * 4 + 2, none⟩ = some (.slice (hd k).a (hd k).len (hd k).cap) ∧ w'.cell? ⟨b, o + k * 4 + 3, none⟩ = some (.slice (bd k).a (bd k).len (bd k).cap) ∧ w'.cell? ⟨b', o' + k * 4, none⟩ = some (.int .i64 (qhd k).v) ∧ w'.cell? ⟨b', o' + k * 4 + 1, none⟩ = some (.string (qhd k).nm) ∧ w'.cell? ⟨b', o' + k * 4 + 2, none⟩ = some (.slice (qhd k).a (qhd k).len (qhd k).cap) ∧ w'.cell? ⟨b', o' + k * 4 + 3, none⟩ = some (.slice (qbd k).a (qbd k).len (qbd k).cap)) := fun wx hb => by
        obtain ⟨⟨b1, o1, e1, x0, x1, x2, x3⟩, _⟩ := HRP.out k hlt wx hb
        obtain ⟨⟨b2, o2, e2, y0, y1, y2, y3⟩, _⟩ := HRQ.out k hlt wx hb
        cases e1; cases e2
        exact ⟨x0, x1, x2, x3, y0, y1, y2, y3⟩
      have hk0 : (0 : Int) ≤ (k : Int) := by omega
      have hk1 : (k : Int) < (len : Int) := by omega
      go_wp2_with fail
      go_region_held3 (fun w' => w'.cell? ⟨b, o + k * 4, none⟩ = some (.int .i64 (hd k).v) ∧ w'.cell? ⟨b, o + k * 4 + 1, none⟩ = some (.string (hd k).nm) ∧ w'.cell? ⟨b, o + k * 4 + 2, none⟩ = some (.slice (hd k).a (hd k).len (hd k).cap) ∧ w'.cell? ⟨b, o + k * 4 + 3, none⟩ = some (.slice (bd k).a (bd k).len (bd k).cap) ∧ w'.cell? ⟨b', o' + k * 4, none⟩ = some (.int .i64 (qhd k).v) ∧ w'.cell? ⟨b', o' + k * 4 + 1, none⟩ = some (.string (qhd k).nm) ∧ w'.cell? ⟨b', o' + k * 4 + 2, none⟩ = some (.slice (qhd k).a (qhd k).len (qhd k).cap) ∧ w'.cell? ⟨b', o' + k * 4 + 3, none⟩ = some (.slice (qbd k).a (qbd k).len (qbd k).cap)) (first | exact HKp.out _ HB2.out | exact HKp.out _ HB2.out.drew | exact HKp.out _ HB1.out | exact HKp.out _ HB1.out.drew | exact HKp.out _ HB.out | exact HKp.out _ HB.out.drew)
        (first
          | (go_at_call 36
             refine (same36 (hd k) (qhd k) _ (by first | exact (HTT.out _ HB.out).1 | exact (HTT.out _ HB.out.drew).1) (by first | exact (HTT.out _ HB.out).2.1 | exact (HTT.out _ HB.out.drew).2.1)).mono ?_
             rintro e w1 ⟨rfl, hb1⟩
             have HB1 : Hid (Below w.heap.size w w1) := Below.trans (by first | exact HB.out | exact HB.out.drew) (hb1.mono hsz)
             have hsz1 := HB1.out.size
             clear hb1
             rw [HE1.out])
          | (go_at_call 18
             refine (same18 (bd k) (qbd k) _ (by first | exact (HTT.out _ HB1.out).2.2.1 | exact (HTT.out _ HB1.out.drew).2.2.1) (by first | exact (HTT.out _ HB1.out).2.2.2 | exact (HTT.out _ HB1.out.drew).2.2.2)).mono ?_
             rintro e w2 ⟨rfl, hb2⟩
             have HB2 : Hid (Below w.heap.size w w2) := Below.trans (by first | exact HB1.out | exact HB1.out.drew) (hb2.mono hsz1)
             clear hb2
             rw [HE2.out]))
      go_wp2_with fail
      go_roundw
      case rel => exact ⟨k + 1, by omega, by go_num, HB2.out⟩
      case measure => simp [intOf]; omega
    · go_wp2_with fail
      go_ret
      exact ⟨rfl, HB.out⟩
end Go.Proofs.YtmggaclaoefdaaaDoor
