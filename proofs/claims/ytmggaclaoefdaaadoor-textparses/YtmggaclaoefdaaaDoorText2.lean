/- Texts of terms: what Digits and TermText answer. -/
import Derived.Test.YtmggaclaoefdaaaDoorText
namespace Go.Proofs.YtmggaclaoefdaaaDoor
open Go.RowKit

theorem ret_str {a b : ByteArray} (h : a = b) : Ending.returned (.string a) = .returned (.string b) := by rw [h]
theorem bytes_ext {a b : ByteArray} (h : a.data.toList = b.data.toList) : a = b := by
  cases a; cases b; congr; exact Array.ext' h
theorem bytes_of {a : ByteArray} {l : List UInt8} (h : a.data.toList = l) : a = ⟨l.toArray⟩ := bytes_ext (by simpa using h)
theorem size_list (a : ByteArray) : a.size = a.data.toList.length := by simp

set_option maxRecDepth 100000 in
set_option maxHeartbeats 400000 in
theorem digits_any (n : Nat) (h : n < 100) (w : World) :
    Calls Tryd.prog 45 #[.int .i64 n] w fun e w' => e = .returned (.string ⟨(digs n).toArray⟩) ∧ Below w.heap.size w w' := by
  by_cases h10 : n < 10
  · rw [digs, if_pos h10]; exact digits1 n h10 w
  have hge : (10 : Int) ≤ n := by omega
  have H : Hid (digs n = [dig1 (n / 10), dig1 (n % 10)]) := by rw [Hid, digs, if_neg h10]
  go_enter Tryd.func45, Tryd.ntmps45
  go_wp2_with fail
  rw [show ((n : Int) / 10) = ((n / 10 : Nat) : Int) from by omega]
  refine (digits1 (n / 10) (by omega) _).mono ?_
  rintro e w1 ⟨rfl, hb1⟩
  have HB1 : Hid (Below w.heap.size w w1) := hb1
  have hs1 := hb1.size
  clear hb1
  go_wp2_with fail
  rw [show ((n : Int) % 10) = ((n % 10 : Nat) : Int) from by omega]
  refine (digits1 (n % 10) (by omega) _).mono ?_
  rintro e w2 ⟨rfl, hb2⟩
  have HB2 : Hid (Below w.heap.size w w2) := HB1.out.trans (hb2.mono hs1)
  clear hb2
  go_wp2_with fail
  go_ret
  exact ⟨by rw [H.out]; rfl, HB2.out⟩

def txtTo (g : Nat → List UInt8) : Nat → List UInt8
  | 0 => []
  | k + 1 => txtTo g k ++ (if k = 0 then [] else [44, 32]) ++ g k
/-- The text of a term. -/
def txt : Tm → List UInt8
  | .nil => []
  | .mk v nm _ len _ f => if v = 0 then nm.data.toList ++ (if len = 0 then [] else [40] ++ txtTo (fun i => txt (f i)) len ++ [41]) else 86 :: digs v.toNat
/-- .. of its arguments. -/
def txts (T : Tm) : List UInt8 := txtTo (fun i => txt (T.f i)) T.len

theorem fst_all (g : Nat → Int) {k : Nat} (h : fst g k = 0) : ∀ i, i < k → g i = 0 := by
  intro i hi
  have h0 := fst_zero g (Nat.le_of_lt hi) h
  have h1 := fst_zero g (show i + 1 ≤ k from hi) h
  rw [fst, if_pos h0] at h1
  exact h1
theorem ok_part {T : Tm} (h : err T = 0) : partE T.v T.nm T.len = 0 := by
  rw [err_eq] at h
  by_cases hp : partE T.v T.nm T.len = 0
  · exact hp
  · rw [if_neg hp] at h; exact h
theorem ok_kid {T : Tm} (h : err T = 0) {i : Nat} (hi : i < T.len) : err (T.f i) = 0 := by
  have hp := ok_part h
  rw [err_eq, if_pos hp] at h
  exact fst_all _ h i hi
theorem ok_var {T : Tm} (h : err T = 0) (hv : T.v ≠ 0) : 1 ≤ T.v ∧ T.v ≤ 12 ∧ T.len = 0 := by
  have hp := ok_part h
  rw [partE, if_pos hv, varE] at hp
  split at hp
  · omega
  · split at hp
    · omega
    · split at hp
      · split at hp
        · omega
        · omega
      · omega
theorem ok_name {T : Tm} (h : err T = 0) (hv : T.v = 0) : T.nm.size ≤ 8 ∧ 1 ≤ T.nm.size := by
  have hp := ok_part h
  rw [partE, if_neg (by simp [hv])] at hp
  split at hp
  · omega
  · rename_i hn
    have hn : nameB T.nm = true := by simpa using hn
    rw [nameB, Bool.or_eq_true] at hn
    rcases hn with hn | hn
    · have : T.nm.toList = [33] := beq_iff_eq.1 hn
      have hs : T.nm.size = 1 := by
        have h1 := congrArg List.length this
        rw [ByteArray.toList_eq, ← size_list] at h1
        exact h1
      omega
    · simp [wordB] at hn
      exact ⟨hn.1.1.2, hn.1.1.1⟩
theorem digs_len (v : Nat) : (digs v).length ≤ 2 := by rw [digs]; split <;> simp
theorem txt_len (T : Tm) : err T = 0 → (txt T).length + 2 ≤ 12 * cnt T := by
  induction T with
  | nil => intro _; decide
  | mk v nm a len cap f ih =>
    intro h
    by_cases hv : v = 0
    · have hn : nm.size ≤ 8 := (ok_name h hv).1
      have key : ∀ k, k ≤ len → (txtTo (fun i => txt (f i)) k).length ≤ 12 * sumTo (fun i => cnt (f i)) k := by
        intro k
        induction k with
        | zero => intro _; simp [txtTo]
        | succ k ihk =>
          intro hk
          have h1 := ihk (by omega)
          have h2 := ih k (ok_kid (T := .mk v nm a len cap f) h (show k < len by omega))
          rw [txtTo, sumTo, List.length_append, List.length_append]
          split <;> simp <;> omega
      have hk := key len (Nat.le_refl _)
      rw [txt, if_pos hv, cnt, List.length_append]
      split
      · simp; omega
      · simp; omega
    · rw [txt, if_neg hv, cnt]
      have := digs_len v.toNat
      simp; omega

end Go.Proofs.YtmggaclaoefdaaaDoor
