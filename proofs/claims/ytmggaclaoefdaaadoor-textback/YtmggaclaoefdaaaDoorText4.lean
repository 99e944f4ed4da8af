/- Texts of goals and programs: what GoalsText and ProgramText answer. -/
import Derived.Test.YtmggaclaoefdaaaDoorText3
import Derived.Test.YtmggaclaoefdaaaDoorBegun0
namespace Go.Proofs.YtmggaclaoefdaaaDoor
open Go.RowKit

def okT (T : Tm) : Prop := cnt T ≤ 60 ∧ err T = 0
def okQ (Q : Tm) : Prop := Q.len ≤ 6 ∧ ∀ i, i < Q.len → okT (Q.f i)
def okP (P : Pg) : Prop := P.len ≤ 30 ∧ ∀ i, i < P.len → okT (P.hd i) ∧ okQ (P.bd i)
theorem okT_check {T : Tm} (h : checkV T = 0) : okT T := by
  by_cases hc : cnt T ≤ 60
  · rw [checkV, if_pos hc] at h; exact ⟨hc, h⟩
  · rw [checkV, if_neg hc] at h; omega
theorem okQ_query {Q : Tm} (h : queryV Q = 0) : okQ Q := by
  by_cases h6 : Q.len ≤ 6
  · rw [queryV, if_pos h6] at h
    exact ⟨h6, fun i hi => okT_check (fst_all _ h i hi)⟩
  · rw [queryV, if_neg h6] at h; omega
theorem okP_prog {P : Pg} (h : progV P = 0) : okP P := by
  by_cases h6 : P.len ≤ 30
  · rw [progV, if_pos h6] at h
    refine ⟨h6, fun i hi => ?_⟩
    have h1 : clV (P.hd i) (P.bd i) = 0 := fst_all _ h i hi
    have h2 : headV (P.hd i) = 0 := by
      by_cases h2 : headV (P.hd i) = 0
      · exact h2
      · rw [clV, if_neg h2] at h1; exact h1
    rw [clV, if_pos h2] at h1
    refine ⟨okT_check ?_, okQ_query h1⟩
    by_cases h3 : checkV (P.hd i) = 0
    · exact h3
    · rw [headV, if_neg h3] at h2; exact h2
  · rw [progV, if_neg h6] at h; omega
theorem txt_le {T : Tm} (h : okT T) : (txt T).length ≤ 718 := by have := txt_len T h.2; have := h.1; omega
theorem txtTo_bd {g : Nat → List UInt8} {k : Nat} (h : ∀ i, i < k → (g i).length ≤ 718) : (txtTo g k).length ≤ 720 * k := by
  induction k with
  | zero => simp [txtTo]
  | succ k ih =>
    have h1 := ih (fun i hi => h i (by omega))
    have h2 := h k (by omega)
    rw [txtTo, List.length_append, List.length_append]
    split <;> simp <;> omega
theorem txts_le {Q : Tm} (h : okQ Q) : (txts Q).length ≤ 4320 := by
  have := txtTo_bd (g := fun i => txt (Q.f i)) (k := Q.len) (fun i hi => txt_le (h.2 i hi))
  have := h.1
  unfold txts; omega
def goalsT (Q : Tm) : List UInt8 := if Q.len = 0 then [116, 114, 117, 101] else txts Q
theorem goalsT_le {Q : Tm} (h : okQ Q) : (goalsT Q).length ≤ 4320 := by
  rw [goalsT]; split
  · simp
  · exact txts_le h

set_option maxRecDepth 100000 in
set_option maxHeartbeats 1000000 in
theorem goalsText_any (Q : Tm) (w : World) (hin : TIn w Q) (hok : okQ Q) :
    Calls Tryd.prog 11 #[.slice Q.a Q.len Q.cap] w fun e w' => e = .returned (.string ⟨(goalsT Q).toArray⟩) ∧ Below w.heap.size w w' := by
  have HOk : Hid (∀ i, i < Q.len → okT (Q.f i)) := hok.2
  have hl6 : Q.len ≤ 6 := hok.1
  have HRow : Hid (∀ k, k < Q.len → ∀ wr, Below w.heap.size w wr → RowAt wr Q.a k (Q.f k) ∧ TIn wr (Q.f k)) := fun k hk wr hb => ⟨(hin.row hk).below hb, (hin.kid hk).below hb⟩
  have HG : Hid (goalsT Q = if Q.len = 0 then [116, 114, 117, 101] else txtTo (fun i => txt (Q.f i)) Q.len) := rfl
  clear hin hok
  generalize goalsT Q = gt at *
  generalize Q.f = f at *
  generalize Q.cap = cap at *
  generalize Q.a = a at *
  generalize hl : Q.len = len at *
  clear hl
  by_cases h0 : len = 0
  · subst h0
    have HG' : Hid (gt = [116, 114, 117, 101]) := HG.out
    go_enter Tryd.func11, Tryd.ntmps11
    go_wp2_with fail
    go_ret
    exact ⟨by rw [HG'.out]; rfl, Below.refl _ _⟩
  have h0b : ((len : Int) == 0) = false := beq_eq_false_iff_ne.2 (by omega)
  replace HG : Hid (gt = txtTo (fun i => txt (f i)) len) := by have := HG.out; rw [if_neg h0] at this; exact this
  go_enter Tryd.func11, Tryd.ntmps11
  go_wp2_with fail
  go_loopw [3, 4] (fun s i wr => ∃ (k : Nat) (st : ByteArray), k ≤ len ∧ i = .int .i64 k ∧ s = .string st ∧ st.data.toList = txtTo (fun i => txt (f i)) k ∧ Below w.heap.size w wr) (fun _ i _ => len - (intOf i).toNat)
  case atStart => exact ⟨0, ⟨#[]⟩, Nat.zero_le _, rfl, rfl, rfl, Below.refl _ _⟩
  case round =>
    obtain ⟨k, st, hk, rfl, rfl, hst, hb⟩ := hrel
    have HS : Hid (st.data.toList = txtTo (fun i => txt (f i)) k) := hst
    have HB : Hid (Below w.heap.size w wr) := hb
    have hsz := hb.size
    have hss : st.size ≤ 4320 := by
      rw [size_list, hst]
      have := txtTo_bd (g := fun i => txt (f i)) (k := k) (fun i hi => txt_le (HOk.out i (by omega)))
      omega
    clear hst hb
    by_cases hlt : k < len
    · obtain ⟨⟨b, o, ha, c0, c1, c2⟩, hT⟩ := HRow.out k hlt wr HB.out
      have HT : Hid (TIn wr (f k)) := hT
      have HK : Hid (okT (f k)) := HOk.out k hlt
      have ht := txt_le HK.out
      have HE : Hid (txtTo (fun i => txt (f i)) (k + 1) = txtTo (fun i => txt (f i)) k ++ (if k = 0 then [] else [44, 32]) ++ txt (f k)) := rfl
      clear hT
      subst ha
      by_cases hk0 : k = 0
      · subst hk0
        simp only [Nat.zero_mul, Nat.add_zero] at c0 c1 c2
        go_wp2_with fail
        refine (termText_any (f 0) _ HT.out HK.out.2 HK.out.1).mono ?_
        rintro e w1 ⟨rfl, hb1⟩
        have HB1 : Hid (Below w.heap.size w w1) := HB.out.trans (hb1.mono hsz)
        have hz : (⟨(txt (f 0)).toArray⟩ : ByteArray).size ≤ 720 := by rw [size_list]; simp; omega
        generalize hg : (⟨(txt (f 0)).toArray⟩ : ByteArray) = g at *
        have HGg : Hid (g.data.toList = txt (f 0)) := by rw [Hid, ← hg]
        clear hb1 hg
        go_wp2_with fail
        go_roundw
        case rel => exact ⟨1, _, by omega, by go_num, rfl, by simp [HS.out, HGg.out, txtTo], HB1.out⟩
        case measure => simp [intOf]; omega
      · have hkp : 0 < k := by omega
        go_wp2_with fail
        refine (termText_any (f k) _ HT.out HK.out.2 HK.out.1).mono ?_
        rintro e w1 ⟨rfl, hb1⟩
        have HB1 : Hid (Below w.heap.size w w1) := HB.out.trans (hb1.mono hsz)
        have hz : (⟨(txt (f k)).toArray⟩ : ByteArray).size ≤ 720 := by rw [size_list]; simp; omega
        generalize hg : (⟨(txt (f k)).toArray⟩ : ByteArray) = g at *
        have HGg : Hid (g.data.toList = txt (f k)) := by rw [Hid, ← hg]
        clear hb1 hg
        go_wp2_with fail
        go_roundw
        case rel => exact ⟨k + 1, _, by omega, by go_num, rfl, by simp [HS.out, HGg.out, HE.out, hk0], HB1.out⟩
        case measure => simp [intOf]; omega
    · have hke : k = len := by omega
      have HR : Hid (st.data.toList = gt) := by rw [Hid, HG.out, HS.out, hke]
      clear hke
      go_wp2_with fail
      go_ret
      exact ⟨ret_str (bytes_of HR.out), HB.out⟩

def clT (H B : Tm) : List UInt8 := txt H ++ (if B.len = 0 then [] else [32, 58, 45, 32] ++ goalsT B) ++ [46, 10]
def pgTo (h b : Nat → Tm) : Nat → List UInt8
  | 0 => []
  | k + 1 => pgTo h b k ++ clT (h k) (b k)
def progT (P : Pg) : List UInt8 := pgTo P.hd P.bd P.len
theorem clT_le {H B : Tm} (hH : okT H) (hB : okQ B) : (clT H B).length ≤ 5044 := by
  have h1 := txt_le hH
  have h2 := goalsT_le hB
  rw [clT, List.length_append, List.length_append]
  split <;> simp <;> omega
theorem pgTo_bd {h b : Nat → Tm} {k : Nat} (hk : ∀ i, i < k → okT (h i) ∧ okQ (b i)) : (pgTo h b k).length ≤ 5044 * k := by
  induction k with
  | zero => simp [pgTo]
  | succ k ih =>
    have h1 := ih (fun i hi => hk i (by omega))
    have h2 := clT_le (hk k (by omega)).1 (hk k (by omega)).2
    rw [pgTo, List.length_append]; omega

set_option maxRecDepth 100000 in
set_option maxHeartbeats 1000000 in
theorem programText_any (P : Pg) (w : World) (hin : PIn w P) (hok : okP P) :
    Calls Tryd.prog 10 #[.slice P.a P.len P.cap] w fun e w' => e = .returned (.string ⟨(progT P).toArray⟩) ∧ Below w.heap.size w w' := by
  have HOk : Hid (∀ i, i < P.len → okT (P.hd i) ∧ okQ (P.bd i)) := hok.2
  have hl30 : P.len ≤ 30 := hok.1
  have HRow : Hid (∀ k, k < P.len → ∀ wr, Below w.heap.size w wr → ClAt wr P.a k (P.hd k) (P.bd k) ∧ TIn wr (P.hd k) ∧ TIn wr (P.bd k)) := fun k hk wr hb => (hin.below hb).2 k hk
  have HG : Hid (progT P = pgTo P.hd P.bd P.len) := rfl
  clear hin hok
  generalize progT P = gt at *
  generalize P.hd = hd at *
  generalize P.bd = bd at *
  generalize P.cap = cap at *
  generalize P.a = a at *
  generalize hl : P.len = len at *
  clear hl
  go_enter Tryd.func10, Tryd.ntmps10
  go_wp2_with fail
  go_loopw [3, 4] (fun s i wr => ∃ (k : Nat) (st : ByteArray), k ≤ len ∧ i = .int .i64 k ∧ s = .string st ∧ st.data.toList = pgTo hd bd k ∧ Below w.heap.size w wr) (fun _ i _ => len - (intOf i).toNat)
  case atStart => exact ⟨0, ⟨#[]⟩, Nat.zero_le _, rfl, rfl, rfl, Below.refl _ _⟩
  case round =>
    obtain ⟨k, st, hk, rfl, rfl, hst, hb⟩ := hrel
    have HS : Hid (st.data.toList = pgTo hd bd k) := hst
    have HB : Hid (Below w.heap.size w wr) := hb
    have hsz := hb.size
    have hss : st.size ≤ 160000 := by
      rw [size_list, hst]
      have := pgTo_bd (h := hd) (b := bd) (k := k) (fun i hi => HOk.out i (by omega))
      omega
    clear hst hb
    by_cases hlt : k < len
    · obtain ⟨⟨b, o, ha, c0, c1, c2, c3⟩, hT, hQ⟩ := HRow.out k hlt wr HB.out
      have HT : Hid (TIn wr (hd k)) := hT
      have HQ : Hid (TIn wr (bd k)) := hQ
      have HK : Hid (okT (hd k)) := (HOk.out k hlt).1
      have HKQ : Hid (okQ (bd k)) := (HOk.out k hlt).2
      have ht := txt_le HK.out
      have htq := goalsT_le HKQ.out
      have HE : Hid (pgTo hd bd (k + 1) = pgTo hd bd k ++ (txt (hd k) ++ (if (bd k).len = 0 then [] else [32, 58, 45, 32] ++ goalsT (bd k)) ++ [46, 10])) := rfl
      have HC3 : Hid (wr.cell? ⟨b, o + k * 4 + 3, none⟩ = some (.slice (bd k).a (bd k).len (bd k).cap)) := c3
      clear hT hQ c3
      subst ha
      go_wp2_with fail
      refine (termText_any (hd k) _ HT.out HK.out.2 HK.out.1).mono ?_
      rintro e w1 ⟨rfl, hb1⟩
      have HW1 : Hid (Below wr.heap.size wr w1) := hb1
      have HB1 : Hid (Below w.heap.size w w1) := HB.out.trans (hb1.mono hsz)
      have hsz1 := HB1.out.size
      have c3 : w1.cell? ⟨b, o + k * 4 + 3, none⟩ = some (.slice (bd k).a (bd k).len (bd k).cap) := (HW1.out.cell (lt_of_cell HC3.out)).trans HC3.out
      have hz : (⟨(txt (hd k)).toArray⟩ : ByteArray).size ≤ 720 := by rw [size_list]; simp; omega
      generalize hg : (⟨(txt (hd k)).toArray⟩ : ByteArray) = g at *
      have HGg : Hid (g.data.toList = txt (hd k)) := by rw [Hid, ← hg]
      clear hb1 hg c0 c1 c2
      by_cases hl0 : (bd k).len = 0
      · have HE2 : Hid (pgTo hd bd (k + 1) = pgTo hd bd k ++ (txt (hd k) ++ [46, 10])) := by rw [Hid, HE.out, if_pos hl0]; simp
        rw [hl0] at c3
        clear hl0
        go_wp2_with fail
        go_roundw
        case rel => exact ⟨k + 1, _, by omega, by go_num, rfl, by rw [HE2.out]; simp [HS.out, HGg.out], HB1.out⟩
        case measure => simp [intOf]; omega
      · have HE2 : Hid (pgTo hd bd (k + 1) = pgTo hd bd k ++ (txt (hd k) ++ ([32, 58, 45, 32] ++ goalsT (bd k)) ++ [46, 10])) := by rw [Hid, HE.out, if_neg hl0]
        have hlp : 0 < (bd k).len := by omega
        clear hl0
        go_wp2_with fail
        refine (goalsText_any (bd k) _ (HQ.out.below HW1.out) HKQ.out).mono ?_
        rintro e w2 ⟨rfl, hb2⟩
        have HB2 : Hid (Below w.heap.size w w2) := HB1.out.trans (hb2.mono hsz1)
        have hz2 : (⟨(goalsT (bd k)).toArray⟩ : ByteArray).size ≤ 4320 := by rw [size_list]; simp; omega
        generalize hg2 : (⟨(goalsT (bd k)).toArray⟩ : ByteArray) = g2 at *
        have HG2 : Hid (g2.data.toList = goalsT (bd k)) := by rw [Hid, ← hg2]
        clear hb2 hg2
        go_wp2_with fail
        go_roundw
        case rel => exact ⟨k + 1, _, by omega, by go_num, rfl, by rw [HE2.out]; simp [HS.out, HGg.out, HG2.out], HB2.out⟩
        case measure => simp [intOf]; omega
    · have hke : k = len := by omega
      have HR : Hid (st.data.toList = gt) := by rw [Hid, HG.out, HS.out, hke]
      clear hke
      go_wp2_with fail
      go_ret
      exact ⟨ret_str (bytes_of HR.out), HB.out⟩
end Go.Proofs.YtmggaclaoefdaaaDoor
