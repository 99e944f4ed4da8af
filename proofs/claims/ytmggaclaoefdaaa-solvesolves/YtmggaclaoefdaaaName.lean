/- Names: what word and IsName answer. -/
import Derived.Test.YtmggaclaoefdaaaLeaf
namespace Go.Proofs.Ytmggaclaoefdaaa
open Go.RowKit

def innerI (c : Int) : Bool := btw c 97 122 || btw c 48 57 || (c == 95)
def allIn (l : List UInt8) : Bool := l.all fun c => innerI (c.toNat : Int)
def firstOk (l : List UInt8) : Bool := match l with | [] => false | c :: _ => btw (c.toNat : Int) 97 122
def wordB (s : ByteArray) : Bool := decide (1 ≤ s.size) && decide (s.size ≤ 8) && firstOk s.data.toList && allIn s.data.toList

def nameB (s : ByteArray) : Bool := (s.toList == [33]) || wordB s

theorem take_snoc (s : ByteArray) (k : Nat) (h : k < s.size) : s.data.toList.take (k + 1) = s.data.toList.take k ++ [s[k]] := by
  rw [List.take_succ_eq_append_getElem (by simpa using h)]; rfl
theorem allIn_snoc (s : ByteArray) (k : Nat) (h : k < s.size) : allIn (s.data.toList.take (k + 1)) = (allIn (s.data.toList.take k) && innerI (s[k].toNat : Int)) := by
  rw [take_snoc s k h]; simp [allIn]
theorem allIn_no (s : ByteArray) (k : Nat) (h : k < s.size) (hi : innerI (s[k].toNat : Int) = false) : wordB s = false := by
  have h1 : allIn s.data.toList = false := by
    rw [← List.take_append_drop (k + 1) s.data.toList, take_snoc s k h]
    simp [allIn, hi]
  simp [wordB, h1]
theorem firstOk_eq (s : ByteArray) (h : 0 < s.size) : firstOk s.data.toList = btw (s[0].toNat : Int) 97 122 := by
  have : s.data.toList = s[0] :: s.data.toList.drop 1 := by
    rw [← List.drop_zero (l := s.data.toList), List.drop_eq_getElem_cons (by simpa using h)]; rfl
  rw [this]; rfl
theorem wordB_yes (s : ByteArray) (h1 : 1 ≤ s.size) (h8 : s.size ≤ 8) (h : 0 < s.size) (hf : btw (s[0].toNat : Int) 97 122 = true) (ha : allIn (s.data.toList.take s.size) = true) : wordB s = true := by
  have e : s.data.toList.take s.size = s.data.toList := List.take_of_length_le (by simp)
  rw [e] at ha
  simp [wordB, h1, h8, firstOk_eq s h, hf, ha]
theorem wordB_short (s : ByteArray) (h : ¬ 1 ≤ s.size) : wordB s = false := by simp [wordB, h]
theorem wordB_long (s : ByteArray) (h : ¬ s.size ≤ 8) : wordB s = false := by simp [wordB, h]
theorem wordB_first (s : ByteArray) (h : 0 < s.size) (hf : btw (s[0].toNat : Int) 97 122 = false) : wordB s = false := by simp [wordB, firstOk_eq s h, hf]
theorem ret_bool {a b : Bool} (h : a = b) : Ending.returned (.bool a) = .returned (.bool b) := by rw [h]

set_option maxHeartbeats 800000 in
theorem word_any (s : ByteArray) (w : World) (hs : s.size ≤ maxLen) :
    Calls Try.prog 118 #[.string s] w fun e w' => e = .returned (.bool (wordB s)) ∧ w' = w := by
  unfold maxLen at hs
  by_cases h1 : 1 ≤ s.size
  case neg =>
    have H : Hid (wordB s = false) := wordB_short s h1
    go_enter Try.func118, Try.ntmps118
    go_wp2_with fail
    go_ret
    exact ⟨by rw [H.out]; rfl, rfl⟩
  by_cases h8 : s.size ≤ 8
  case neg =>
    have H : Hid (wordB s = false) := wordB_long s h8
    go_enter Try.func118, Try.ntmps118
    go_wp2_with fail
    go_ret
    exact ⟨by rw [H.out]; rfl, rfl⟩
  have h0 : 0 < s.size := by omega
  have hf0 : btw (s[0].toNat : Int) 97 122 = true ∨ btw (s[0].toNat : Int) 97 122 = false := by cases btw (s[0].toNat : Int) 97 122 <;> simp
  rcases hf0 with hf | hf
  case inr =>
    have H : Hid (wordB s = false) := wordB_first s h0 hf
    go_enter Try.func118, Try.ntmps118
    go_wp2_with (go_at_call 136; refine (letter_any _ _).mono ?_; rintro e w' ⟨rfl, rfl⟩)
    go_ret
    exact ⟨by rw [H.out]; rfl, rfl⟩
  have HF : Hid (btw (s[0].toNat : Int) 97 122 = true) := hf
  go_enter Try.func118, Try.ntmps118
  go_wp2_with (go_at_call 136; refine (letter_any _ _).mono ?_; rintro e w' ⟨rfl, rfl⟩)
  go_loop [20] (fun i => ∃ k : Nat, k ≤ s.size ∧ i = .int .i64 k ∧ allIn (s.data.toList.take k) = true) (fun i => s.size - (intOf i).toNat)
  case atStart => exact ⟨0, Nat.zero_le _, rfl, rfl⟩
  case round =>
    obtain ⟨k, hk, rfl, hal⟩ := hrel
    have HA : Hid (allIn (s.data.toList.take k) = true) := hal
    clear hal hf
    by_cases hlt : k < s.size
    · have hsn := allIn_snoc s k hlt
      rw [HA.out, Bool.true_and] at hsn
      have HS : Hid (allIn (s.data.toList.take (k + 1)) = innerI (s[k].toNat : Int)) := hsn
      have hno := allIn_no s k hlt
      have HN : Hid (innerI (s[k].toNat : Int) = false → wordB s = false) := hno
      clear hsn hno
      cases hL : btw (s[k].toNat : Int) 97 122
      · by_cases hd1 : (s[k].toNat : Int) < 48
        · by_cases hu : (s[k].toNat : Int) = 95
          · omega
          · have hub : ((s[k].toNat : Int) == 95) = false := beq_eq_false_iff_ne.2 hu
            have HI : Hid (wordB s = false) := HN.out (by simp [innerI, hub, btw]; omega)
            go_wp2_with (go_at_call 136; refine (letter_any _ _).mono ?_; rintro e w' ⟨rfl, rfl⟩)
            go_ret
            exact ⟨by rw [HI.out]; rfl, rfl⟩
        · by_cases hd2 : (s[k].toNat : Int) > 57
          · by_cases hu : (s[k].toNat : Int) = 95
            · have hub : ((s[k].toNat : Int) == 95) = true := beq_iff_eq.2 hu
              have HI : Hid (innerI (s[k].toNat : Int) = true) := by simp [Hid, innerI, hub]
              clear hu
              go_wp2_with (go_at_call 136; refine (letter_any _ _).mono ?_; rintro e w' ⟨rfl, rfl⟩)
              go_round
              case rel => exact ⟨k + 1, by omega, by go_num, by rw [HS.out, HI.out]⟩
              case measure => simp [intOf]; omega
            · have hub : ((s[k].toNat : Int) == 95) = false := beq_eq_false_iff_ne.2 hu
              have HI : Hid (wordB s = false) := HN.out (by rw [innerI, hL, hub]; simp [btw]; omega)
              go_wp2_with (go_at_call 136; refine (letter_any _ _).mono ?_; rintro e w' ⟨rfl, rfl⟩)
              go_ret
              exact ⟨by rw [HI.out]; rfl, rfl⟩
          · have HI : Hid (innerI (s[k].toNat : Int) = true) := by simp [Hid, innerI, btw]; omega
            go_wp2_with (go_at_call 136; refine (letter_any _ _).mono ?_; rintro e w' ⟨rfl, rfl⟩)
            go_round
            case rel => exact ⟨k + 1, by omega, by go_num, by rw [HS.out, HI.out]⟩
            case measure => simp [intOf]; omega
      · have HI : Hid (innerI (s[k].toNat : Int) = true) := by simp [Hid, innerI, hL]
        go_wp2_with (go_at_call 136; refine (letter_any _ _).mono ?_; rintro e w' ⟨rfl, rfl⟩)
        go_round
        case rel => exact ⟨k + 1, by omega, by go_num, by rw [HS.out, HI.out]⟩
        case measure => simp [intOf]; omega
    · have hke : k = s.size := by omega
      have HY : Hid (wordB s = true) := wordB_yes s h1 h8 h0 HF.out (by rw [← hke]; exact HA.out)
      clear hke
      go_wp2_with fail
      go_ret
      exact ⟨by rw [HY.out]; rfl, rfl⟩

end Go.Proofs.Ytmggaclaoefdaaa
