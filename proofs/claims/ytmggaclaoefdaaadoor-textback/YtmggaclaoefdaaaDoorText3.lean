/- Texts of terms: what TermText answers. -/
import Derived.Test.YtmggaclaoefdaaaDoorText2
namespace Go.Proofs.YtmggaclaoefdaaaDoor
open Go.RowKit

theorem txtTo_le (g : Nat → List UInt8) {j k : Nat} (h : j ≤ k) : (txtTo g j).length ≤ (txtTo g k).length := by
  induction k with
  | zero => rw [Nat.le_zero.1 h]; exact Nat.le_refl _
  | succ k ih =>
    by_cases hj : j = k + 1
    · rw [hj]; exact Nat.le_refl _
    · have := ih (by omega); rw [txtTo, List.length_append, List.length_append]; omega

set_option maxRecDepth 100000 in
set_option maxHeartbeats 1000000 in
theorem termText_any (T : Tm) : ∀ (w : World), TIn w T → err T = 0 → cnt T ≤ 60 →
    Calls Tryd.prog 26 #[T.val] w fun e w' => e = .returned (.string ⟨(txt T).toArray⟩) ∧ Below w.heap.size w w' := by
  induction T with
  | nil => intro w hin; exact False.elim hin
  | mk v nm a len cap f ih =>
    intro w hin hok hcnt
    have IH : Hid (∀ i (w : World), TIn w (f i) → err (f i) = 0 → cnt (f i) ≤ 60 → Calls Tryd.prog 26 #[(f i).val] w fun e w' => e = .returned (.string ⟨(txt (f i)).toArray⟩) ∧ Below w.heap.size w w') := ih
    have HIn : Hid (TIn w (.mk v nm a len cap f)) := hin
    have hlen : len ≤ 2 ^ 63 - 1 := TIn.len (T := .mk v nm a len cap f) hin
    have HOk : Hid (err (.mk v nm a len cap f) = 0) := hok
    have HL : Hid ((txt (.mk v nm a len cap f)).length + 2 ≤ 720) := by have := txt_len _ hok; rw [Hid]; omega
    have HC : Hid (1 + sumTo (fun i => cnt (f i)) len ≤ 60) := hcnt
    clear ih hin hok hcnt
    show Calls Tryd.prog 26 #[.agg #[.int .i64 v, .string nm, .slice a len cap]] w _
    by_cases hv : v = 0
    case neg =>
      obtain ⟨h1, h12, _⟩ := ok_var HOk.out hv
      have h1 : 1 ≤ v := h1
      have h12 : v ≤ 12 := h12
      have HX : Hid (txt (.mk v nm a len cap f) = 86 :: digs v.toNat) := by rw [Hid, txt, if_neg hv]
      have hvb : (v == 0) = false := beq_eq_false_iff_ne.2 hv
      obtain ⟨n, rfl⟩ := Int.eq_ofNat_of_zero_le (show 0 ≤ v by omega)
      have hd := digs_len n
      clear hv
      go_enter Tryd.func26, Tryd.ntmps26
      go_wp2_with fail
      refine (digits_any n (by omega) _).mono ?_
      rintro e w1 ⟨rfl, hb1⟩
      have HB1 : Hid (Below w.heap.size w w1) := ((Below.refl _ _).alloc (Nat.le_refl _) _).trans (hb1.mono (by simp))
      have hz : (⟨(digs n).toArray⟩ : ByteArray).size ≤ 2 := by rw [size_list]; simpa using hd
      generalize hg : (⟨(digs n).toArray⟩ : ByteArray) = g at *
      have HG : Hid (g.data.toList = digs n) := by rw [Hid, ← hg]
      clear hb1 hg
      go_wp2_with fail
      go_ret
      refine ⟨ret_str (bytes_ext ?_), HB1.out⟩
      rw [HX.out]
      simp [HG.out]
    subst hv
    have hn8 : nm.size ≤ 8 := (ok_name (T := .mk 0 nm a len cap f) HOk.out rfl).1
    have HX : Hid (txt (.mk 0 nm a len cap f) = nm.data.toList ++ (if len = 0 then [] else [40] ++ txtTo (fun i => txt (f i)) len ++ [41])) := by rw [Hid, txt, if_pos rfl]
    go_enter Tryd.func26, Tryd.ntmps26
    go_wp2_with fail
    go_loopw [3, 4] (fun s i wr => ∃ (k : Nat) (st : ByteArray), k ≤ len ∧ i = .int .i64 k ∧ s = .string st ∧ st.data.toList = nm.data.toList ++ (if k = 0 then [] else [40] ++ txtTo (fun i => txt (f i)) k) ∧ Below (w.heap.size + 1) (w.alloc (.cells #[.int .i64 0, .string nm, .slice a len cap] 48)) wr) (fun _ i _ => len - (intOf i).toNat)
    case atStart => exact ⟨0, nm, Nat.zero_le _, rfl, rfl, by simp, Below.refl _ _⟩
    case round =>
      obtain ⟨k, st, hk, rfl, rfl, hst, hb⟩ := hrel
      have HS : Hid (st.data.toList = nm.data.toList ++ (if k = 0 then [] else [40] ++ txtTo (fun i => txt (f i)) k)) := hst
      have hbox : wr.cell? ⟨w.heap.size, 2, none⟩ = some (.slice a len cap) := (hb.cell (p := ⟨w.heap.size, 2, none⟩) (by simp)).trans (by go_simp)
      have HB : Hid (Below (w.heap.size + 1) (w.alloc (.cells #[.int .i64 0, .string nm, .slice a len cap] 48)) wr) := hb
      have HBW : Hid (Below w.heap.size w wr) := ((Below.refl _ _).alloc (Nat.le_refl _) _).trans (hb.mono (by omega))
      have hsz : w.heap.size + 1 ≤ wr.heap.size := by have := hb.size; simpa using this
      clear hst hb
      have hss : st.size ≤ 720 := by
        have h1 := HL.out
        rw [HX.out, List.length_append] at h1
        rw [size_list, HS.out, List.length_append]
        by_cases hk0 : k = 0
        · simp [hk0]; omega
        · have h2 := txtTo_le (fun i => txt (f i)) hk
          rw [if_neg (by omega)] at h1
          rw [if_neg hk0]
          simp at h1 ⊢; omega
      by_cases hlt : k < len
      · have hr : RowAt wr a k (f k) := (TIn.row (T := .mk 0 nm a len cap f) HIn.out hlt).below HBW.out
        obtain ⟨b, o, ha, c0, c1, c2⟩ := hr
        have HT : Hid (TIn wr (f k)) := (TIn.kid (T := .mk 0 nm a len cap f) HIn.out hlt).below HBW.out
        have HK : Hid (err (f k) = 0) := ok_kid (T := .mk 0 nm a len cap f) HOk.out hlt
        have HM : Hid (cnt (f k) ≤ 60) := by
          have h1 := sumTo_le (fun i => cnt (f i)) (show k + 1 ≤ len from hlt)
          have h2 : sumTo (fun i => cnt (f i)) (k + 1) = sumTo (fun i => cnt (f i)) k + cnt (f k) := rfl
          have h3 := HC.out
          rw [Hid]; omega
        have HE : Hid (txtTo (fun i => txt (f i)) (k + 1) = txtTo (fun i => txt (f i)) k ++ (if k = 0 then [] else [44, 32]) ++ txt (f k)) := rfl
        have ht : (txt (f k)).length + 2 ≤ 720 := by have := txt_len (f k) HK.out; have := HM.out; omega
        subst ha
        by_cases hk0 : k = 0
        · subst hk0
          simp only [Nat.zero_mul, Nat.add_zero] at c0 c1 c2
          go_wp2_with fail
          refine (IH.out 0 _ HT.out HK.out HM.out).mono ?_
          rintro e w1 ⟨rfl, hb1⟩
          have HB1 : Hid (Below (w.heap.size + 1) (w.alloc (.cells #[.int .i64 0, .string nm, .slice (some ⟨b, o, none⟩) len cap] 48)) w1) := HB.out.trans (hb1.mono hsz)
          have hz : (⟨(txt (f 0)).toArray⟩ : ByteArray).size ≤ 720 := by rw [size_list]; simp; omega
          generalize hg : (⟨(txt (f 0)).toArray⟩ : ByteArray) = g at *
          have HG : Hid (g.data.toList = txt (f 0)) := by rw [Hid, ← hg]
          clear hb1 hg
          go_wp2_with fail
          go_roundw
          case rel => exact ⟨1, _, by omega, by go_num, rfl, by simp [HS.out, HG.out, txtTo], HB1.out⟩
          case measure => simp [intOf]; omega
        · have hkb : ((k : Int) == 0) = false := beq_eq_false_iff_ne.2 (by omega)
          go_wp2_with fail
          refine (IH.out k _ HT.out HK.out HM.out).mono ?_
          rintro e w1 ⟨rfl, hb1⟩
          have HB1 : Hid (Below (w.heap.size + 1) (w.alloc (.cells #[.int .i64 0, .string nm, .slice (some ⟨b, o, none⟩) len cap] 48)) w1) := HB.out.trans (hb1.mono hsz)
          have hz : (⟨(txt (f k)).toArray⟩ : ByteArray).size ≤ 720 := by rw [size_list]; simp; omega
          generalize hg : (⟨(txt (f k)).toArray⟩ : ByteArray) = g at *
          have HG : Hid (g.data.toList = txt (f k)) := by rw [Hid, ← hg]
          clear hb1 hg
          go_wp2_with fail
          go_roundw
          case rel => exact ⟨k + 1, _, by omega, by go_num, rfl, by simp [HS.out, HG.out, HE.out, hk0], HB1.out⟩
          case measure => simp [intOf]; omega
      · have hke : k = len := by omega
        subst hke
        by_cases hk0 : k = 0
        · have HR : Hid (st.data.toList = txt (.mk 0 nm a k cap f)) := by rw [Hid, HX.out, HS.out, if_pos hk0, if_pos hk0]
          subst hk0
          go_wp2_with fail
          go_ret
          exact ⟨ret_str (bytes_of HR.out), HBW.out⟩
        · have HR : Hid (st.data.toList ++ [41] = txt (.mk 0 nm a k cap f)) := by rw [Hid, HX.out, HS.out, if_neg hk0, if_neg hk0]; simp
          have hpos : 0 < k := by omega
          go_wp2_with fail
          go_ret
          refine ⟨ret_str (bytes_ext ?_), HBW.out⟩
          rw [← HR.out]
          simp
end Go.Proofs.YtmggaclaoefdaaaDoor
