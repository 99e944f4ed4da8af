/- The reference's reader: mustAt. -/
import Derived.Test.YtmggaclaoefdaaaDoorRef1
namespace Go.Proofs.YtmggaclaoefdaaaDoor
open Go.RowKit

theorem mAt_on {l : List UInt8} {p k : Nat} {x : List UInt8} (hk : k < x.length) (h : l[p + k]? = some x[k]) : mAt l (p + k) (x.drop k) = mAt l (p + (k + 1)) (x.drop (k + 1)) := by
  rw [List.drop_eq_getElem_cons hk, mAt, if_pos h]; rfl
theorem mAt_off {l : List UInt8} {p k : Nat} {x : List UInt8} (hk : k < x.length) (h : l[p + k]? ≠ some x[k]) : mAt l (p + k) (x.drop k) = some (p + k) := by
  rw [List.drop_eq_getElem_cons hk, mAt, if_neg h]

theorem below_drewN {b : Nat} {w w' : World} (h : Below b w w') (n : Nat) : Below b w (w'.drewN n) := by
  induction n with
  | zero => exact h
  | succ n ih => exact ih.drew

set_option maxRecDepth 100000 in
set_option maxHeartbeats 2000000 in
theorem mustAt_any (s x : ByteArray) (p : Nat) (w : World) (hs : s.size ≤ 6000) (hp : p ≤ s.size) (hx : x.size ≤ 6000) :
    Calls Tryd.prog 34 #[.string s, .int .i64 p, .string x] w fun e w' => ((mAt s.data.toList p x.data.toList = none ∧ e = .returned (.tuple #[.int .i64 (p + x.size : Nat), .bool true])) ∨ ∃ r, mAt s.data.toList p x.data.toList = some r ∧ e = .returned (.tuple #[.int .i64 r, .bool false])) ∧ Below w.heap.size w w' := by
  have hxl : x.data.toList.length = x.size := (size_list x).symm
  have HXL : Hid (x.data.toList.length = x.size) := hxl
  clear hxl
  go_enter Tryd.func34, Tryd.ntmps34
  go_wp2_with fail
  go_loopw [8] (fun i wr => ∃ k : Nat, k ≤ x.size ∧ i = .int .i64 k ∧ mAt s.data.toList p x.data.toList = mAt s.data.toList (p + k) (x.data.toList.drop k) ∧ Below w.heap.size w wr) (fun i _ => x.size - (intOf i).toNat)
  case atStart => exact ⟨0, Nat.zero_le _, rfl, rfl, Below.refl _ _⟩
  case round =>
    obtain ⟨k, hk, rfl, hm, hwr⟩ := hrel
    have HM : Hid (mAt s.data.toList p x.data.toList = mAt s.data.toList (p + k) (x.data.toList.drop k)) := hm
    have HW : Hid (Below w.heap.size w wr) := hwr
    clear hm hwr
    have hw1 : IntKind.i64.wrap ((p : Int) + (k : Int)) = (p : Int) + (k : Int) := by simp [IntKind.wrap, IntKind.bits, IntKind.signed]; omega
    by_cases hlt : k < x.size
    · have hlt' : (k : Int) < (x.size : Int) := by omega
      have hd : decide ((k : Int) < (x.size : Int)) = true := decide_eq_true hlt'
      have h0k : (0 : Int) ≤ (k : Int) := by omega
      have h0p : (0 : Int) ≤ (p : Int) + (k : Int) := by omega
      have HXK : Hid (x.data.toList[k]'(by rw [HXL.out]; exact hlt) = x[k]) := rfl
      by_cases hin : p + k < s.size
      · have hin' : (p : Int) + (k : Int) < (s.size : Int) := by omega
        have hg : decide ((p : Int) + (k : Int) ≥ (s.size : Int)) = false := decide_eq_false (by omega)
        have ht : ((p : Int) + (k : Int)).toNat = p + k := by omega
        have HG : Hid (s.data.toList[p + k]? = some s[p + k]) := get_of s _ hin
        by_cases he : s[p + k] = x[k]
        · have hb : ((s[p + k].toNat : Int) == (x[k].toNat : Int)) = true := by rw [he]; simp
          have HF : Hid (mAt s.data.toList p x.data.toList = mAt s.data.toList (p + (k + 1)) (x.data.toList.drop (k + 1))) := by
            rw [Hid, HM.out]; exact mAt_on (by rw [HXL.out]; exact hlt) (by rw [HG.out, HXK.out, he])
          clear he
          go_wp2_with fail
          go_quiet (fail)
          go_wp2_with fail
          go_roundw
          case rel => exact ⟨k + 1, by omega, by go_num, HF.out, below_drewN HW.out _⟩
          case measure => simp [intOf]; omega
        · have hb : ((s[p + k].toNat : Int) == (x[k].toNat : Int)) = false := beq_eq_false_iff_ne.2 (fun h => he (UInt8.toNat_inj.1 (by omega)))
          have HF : Hid (mAt s.data.toList p x.data.toList = some (p + k)) := by
            rw [Hid, HM.out]; exact mAt_off (by rw [HXL.out]; exact hlt) (by rw [HG.out, HXK.out]; simpa using he)
          clear he
          go_wp2_with fail
          go_quiet (fail)
          go_wp2_with fail
          go_ret2
          exact ⟨.inr ⟨p + k, HF.out, by simp⟩, below_drewN HW.out _⟩
      · have hg : decide ((p : Int) + (k : Int) ≥ (s.size : Int)) = true := decide_eq_true (by omega)
        have HF : Hid (mAt s.data.toList p x.data.toList = some (p + k)) := by
          rw [Hid, HM.out]; exact mAt_off (by rw [HXL.out]; exact hlt) (by rw [get_none s _ hin]; simp)
        go_wp2_with fail
        go_quiet (fail)
        go_wp2_with fail
        go_ret2
        exact ⟨.inr ⟨p + k, HF.out, by simp⟩, below_drewN HW.out _⟩
    · have hke : k = x.size := by omega
      have HN : Hid (mAt s.data.toList p x.data.toList = none) := by
        rw [Hid, HM.out, hke, ← HXL.out, List.drop_length]; rfl
      have hd : decide ((k : Int) < (x.size : Int)) = false := decide_eq_false (by omega)
      clear hke
      go_wp2_with fail
      go_ret2
      exact ⟨.inl ⟨HN.out, by simp⟩, HW.out⟩
end Go.Proofs.YtmggaclaoefdaaaDoor
