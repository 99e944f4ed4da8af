/- Leaves: contracts of the small functions over numbers and names. Names: what word and IsName answer. Names: what IsName answers. Parts of a term: what variable, part, means and IsBuiltin answer. -/
import Derived.Test.YtmggaclaoefdaaaProg
import Derived.WalkKit
import Derived.WalkSpells
import Derived.WalkLawsBesides
namespace Go.Proofs.Ytmggaclaoefdaaa
open Go.RowKit

def btw (n l m : Int) : Bool := decide (l ≤ n) && decide (n ≤ m)

set_option maxHeartbeats 400000 in
theorem between_any (n l m : Int) (w : World) :
    Calls Try.prog 56 #[.int .i64 n, .int .i64 l, .int .i64 m] w fun e w' => e = .returned (.bool (btw n l m)) ∧ w' = w := by
  by_cases h1 : l ≤ n <;> by_cases h2 : n ≤ m
  all_goals
    have H : Hid (btw n l m = (decide (l ≤ n) && decide (n ≤ m))) := rfl
    go_enter Try.func56, Try.ntmps56
    go_wp2
    go_ret
    exact ⟨by rw [H.out]; simp [*], rfl⟩

set_option maxHeartbeats 400000 in
theorem letter_any (n : Int) (w : World) :
    Calls Try.prog 136 #[.int .u8 n] w fun e w' => e = .returned (.bool (btw n 97 122)) ∧ w' = w := by
  by_cases h1 : 97 ≤ n <;> by_cases h2 : n ≤ 122
  all_goals
    have H : Hid (btw n 97 122 = (decide (97 ≤ n) && decide (n ≤ 122))) := rfl
    go_enter Try.func136, Try.ntmps136
    go_wp2
    go_ret
    exact ⟨by rw [H.out]; simp [*], rfl⟩

end Go.Proofs.Ytmggaclaoefdaaa

namespace Go.Proofs.Ytmggaclaoefdaaa
open Go.RowKit

def innerI (c : Int) : Bool := btw c 97 122 || btw c 48 57 || (c == 95)
def allIn (l : List UInt8) : Bool := l.all fun c => innerI (c.toNat : Int)
def firstOk (l : List UInt8) : Bool := match l with | [] => false | c :: _ => btw (c.toNat : Int) 97 122
def wordB (s : ByteArray) : Bool := decide (1 ≤ s.size) && decide (s.size ≤ 8) && firstOk s.data.toList && allIn s.data.toList

def nameB (s : ByteArray) : Bool := (s.toList == [33]) || wordB s

theorem take_snoc (s : ByteArray) (k : Nat) (h : k < s.size) : s.data.toList.take (k + 1) = s.data.toList.take k ++ [s[k]] := by
  rw [List.take_succ_eq_append_getElem (by simpa using h)]; rfl
theorem allIn_snoc (s : ByteArray) (k : Nat) (h : k < s.size) : allIn (s.data.toList.take (k + 1)) = (allIn (s.data.toList.take k) && innerI (s[k].toNat : Int)) := by
  rw [take_snoc s k h]; simp [allIn]
theorem allIn_no (s : ByteArray) (k : Nat) (h : k < s.size) (hi : innerI (s[k].toNat : Int) = false) : wordB s = false := by
  have h1 : allIn s.data.toList = false := by
    rw [← List.take_append_drop (k + 1) s.data.toList, take_snoc s k h]
    simp [allIn, hi]
  simp [wordB, h1]
theorem firstOk_eq (s : ByteArray) (h : 0 < s.size) : firstOk s.data.toList = btw (s[0].toNat : Int) 97 122 := by
  have : s.data.toList = s[0] :: s.data.toList.drop 1 := by
    rw [← List.drop_zero (l := s.data.toList), List.drop_eq_getElem_cons (by simpa using h)]; rfl
  rw [this]; rfl
theorem wordB_yes (s : ByteArray) (h1 : 1 ≤ s.size) (h8 : s.size ≤ 8) (h : 0 < s.size) (hf : btw (s[0].toNat : Int) 97 122 = true) (ha : allIn (s.data.toList.take s.size) = true) : wordB s = true := by
  have e : s.data.toList.take s.size = s.data.toList := List.take_of_length_le (by simp)
  rw [e] at ha
  simp [wordB, h1, h8, firstOk_eq s h, hf, ha]
theorem wordB_short (s : ByteArray) (h : ¬ 1 ≤ s.size) : wordB s = false := by simp [wordB, h]
theorem wordB_long (s : ByteArray) (h : ¬ s.size ≤ 8) : wordB s = false := by simp [wordB, h]
theorem wordB_first (s : ByteArray) (h : 0 < s.size) (hf : btw (s[0].toNat : Int) 97 122 = false) : wordB s = false := by simp [wordB, firstOk_eq s h, hf]
set_option maxHeartbeats 800000 in
theorem word_any (s : ByteArray) (w : World) (hs : s.size ≤ maxLen) :
    Calls Try.prog 118 #[.string s] w fun e w' => e = .returned (.bool (wordB s)) ∧ w' = w := by
  unfold maxLen at hs
  by_cases h1 : 1 ≤ s.size
  case neg =>
    have H : Hid (wordB s = false) := wordB_short s h1
    go_enter Try.func118, Try.ntmps118
    go_wp2_with fail
    go_ret
    exact ⟨by rw [H.out]; rfl, rfl⟩
  by_cases h8 : s.size ≤ 8
  case neg =>
    have H : Hid (wordB s = false) := wordB_long s h8
    go_enter Try.func118, Try.ntmps118
    go_wp2_with fail
    go_ret
    exact ⟨by rw [H.out]; rfl, rfl⟩
  have h0 : 0 < s.size := by omega
  have hf0 : btw (s[0].toNat : Int) 97 122 = true ∨ btw (s[0].toNat : Int) 97 122 = false := by cases btw (s[0].toNat : Int) 97 122 <;> simp
  rcases hf0 with hf | hf
  case inr =>
    have H : Hid (wordB s = false) := wordB_first s h0 hf
    go_enter Try.func118, Try.ntmps118
    go_wp2_with (go_at_call 136; refine (letter_any _ _).mono ?_; rintro e w' ⟨rfl, rfl⟩)
    go_ret
    exact ⟨by rw [H.out]; rfl, rfl⟩
  have HF : Hid (btw (s[0].toNat : Int) 97 122 = true) := hf
  go_enter Try.func118, Try.ntmps118
  go_wp2_with (go_at_call 136; refine (letter_any _ _).mono ?_; rintro e w' ⟨rfl, rfl⟩)
  go_loop [20] (fun i => ∃ k : Nat, k ≤ s.size ∧ i = .int .i64 k ∧ allIn (s.data.toList.take k) = true) (fun i => s.size - (intOf i).toNat)
  case atStart => exact ⟨0, Nat.zero_le _, rfl, rfl⟩
  case round =>
    obtain ⟨k, hk, rfl, hal⟩ := hrel
    have HA : Hid (allIn (s.data.toList.take k) = true) := hal
    clear hal hf
    by_cases hlt : k < s.size
    · have hsn := allIn_snoc s k hlt
      rw [HA.out, Bool.true_and] at hsn
      have HS : Hid (allIn (s.data.toList.take (k + 1)) = innerI (s[k].toNat : Int)) := hsn
      have hno := allIn_no s k hlt
      have HN : Hid (innerI (s[k].toNat : Int) = false → wordB s = false) := hno
      clear hsn hno
      cases hL : btw (s[k].toNat : Int) 97 122
      · by_cases hd1 : (s[k].toNat : Int) < 48
        · by_cases hu : (s[k].toNat : Int) = 95
          · omega
          · have hub : ((s[k].toNat : Int) == 95) = false := beq_eq_false_iff_ne.2 hu
            have HI : Hid (wordB s = false) := HN.out (by simp [innerI, hub, btw]; omega)
            go_wp2_with (go_at_call 136; refine (letter_any _ _).mono ?_; rintro e w' ⟨rfl, rfl⟩)
            go_ret
            exact ⟨by rw [HI.out]; rfl, rfl⟩
        · by_cases hd2 : (s[k].toNat : Int) > 57
          · by_cases hu : (s[k].toNat : Int) = 95
            · have hub : ((s[k].toNat : Int) == 95) = true := beq_iff_eq.2 hu
              have HI : Hid (innerI (s[k].toNat : Int) = true) := by simp [Hid, innerI, hub]
              clear hu
              go_wp2_with (go_at_call 136; refine (letter_any _ _).mono ?_; rintro e w' ⟨rfl, rfl⟩)
              go_round
              case rel => exact ⟨k + 1, by omega, by go_num, by rw [HS.out, HI.out]⟩
              case measure => simp [intOf]; omega
            · have hub : ((s[k].toNat : Int) == 95) = false := beq_eq_false_iff_ne.2 hu
              have HI : Hid (wordB s = false) := HN.out (by rw [innerI, hL, hub]; simp [btw]; omega)
              go_wp2_with (go_at_call 136; refine (letter_any _ _).mono ?_; rintro e w' ⟨rfl, rfl⟩)
              go_ret
              exact ⟨by rw [HI.out]; rfl, rfl⟩
          · have HI : Hid (innerI (s[k].toNat : Int) = true) := by simp [Hid, innerI, btw]; omega
            go_wp2_with (go_at_call 136; refine (letter_any _ _).mono ?_; rintro e w' ⟨rfl, rfl⟩)
            go_round
            case rel => exact ⟨k + 1, by omega, by go_num, by rw [HS.out, HI.out]⟩
            case measure => simp [intOf]; omega
      · have HI : Hid (innerI (s[k].toNat : Int) = true) := by simp [Hid, innerI, hL]
        go_wp2_with (go_at_call 136; refine (letter_any _ _).mono ?_; rintro e w' ⟨rfl, rfl⟩)
        go_round
        case rel => exact ⟨k + 1, by omega, by go_num, by rw [HS.out, HI.out]⟩
        case measure => simp [intOf]; omega
    · have hke : k = s.size := by omega
      have HY : Hid (wordB s = true) := wordB_yes s h1 h8 h0 HF.out (by rw [← hke]; exact HA.out)
      clear hke
      go_wp2_with fail
      go_ret
      exact ⟨by rw [HY.out]; rfl, rfl⟩

end Go.Proofs.Ytmggaclaoefdaaa

namespace Go.Proofs.Ytmggaclaoefdaaa
open Go.RowKit

theorem nameB_word (s : ByteArray) (h : (s.toList == [33]) = false) : nameB s = wordB s := by rw [nameB, h, Bool.false_or]

set_option maxHeartbeats 800000 in
theorem isName_any (s : ByteArray) (w : World) (hs : s.size ≤ maxLen) :
    Calls Try.prog 57 #[.string s] w fun e w' => e = .returned (.bool (nameB s)) ∧ w' = w := by
  unfold maxLen at hs
  cases hc : (s.toList == [33])
  case true =>
    have H : Hid (nameB s = true) := by rw [Hid, nameB, hc, Bool.true_or]
    go_enter Try.func57, Try.ntmps57
    go_wp2_with fail
    go_ret
    exact ⟨by rw [H.out]; rfl, rfl⟩
  have HW : Hid (nameB s = wordB s) := nameB_word s hc
  by_cases h1 : 1 ≤ s.size
  case neg =>
    have H : Hid (nameB s = false) := by rw [Hid, HW.out]; exact wordB_short s h1
    have hb : btw (s.size : Int) 1 8 = false := by simp [btw]; omega
    go_enter Try.func57, Try.ntmps57
    go_wp2_with (go_at_call 56; refine (between_any _ _ _ _).mono ?_; rintro e w' ⟨rfl, rfl⟩)
    go_ret
    exact ⟨by rw [H.out]; rfl, rfl⟩
  by_cases h8 : s.size ≤ 8
  case neg =>
    have H : Hid (nameB s = false) := by rw [Hid, HW.out]; exact wordB_long s h8
    have hb : btw (s.size : Int) 1 8 = false := by simp [btw]; omega
    go_enter Try.func57, Try.ntmps57
    go_wp2_with (go_at_call 56; refine (between_any _ _ _ _).mono ?_; rintro e w' ⟨rfl, rfl⟩)
    go_ret
    exact ⟨by rw [H.out]; rfl, rfl⟩
  have hb : btw (s.size : Int) 1 8 = true := by simp [btw]; omega
  have h0 : 0 < s.size := by omega
  have hf0 : btw (s[0].toNat : Int) 97 122 = true ∨ btw (s[0].toNat : Int) 97 122 = false := by cases btw (s[0].toNat : Int) 97 122 <;> simp
  have hlt0 : s[0].toNat < 256 := s[0].toNat_lt
  rcases hf0 with hf | hf
  case inr =>
    have H : Hid (nameB s = false) := by rw [Hid, HW.out]; exact wordB_first s h0 hf
    go_enter Try.func57, Try.ntmps57
    go_wp2_with (go_at_call 56; refine (between_any _ _ _ _).mono ?_; rintro e w' ⟨rfl, rfl⟩)
    go_ret
    exact ⟨by rw [H.out]; rfl, rfl⟩
  have HF : Hid (btw (s[0].toNat : Int) 97 122 = true) := hf
  have HA0 : Hid (allIn (s.data.toList.take 1) = true) := by
    rw [Hid, allIn_snoc s 0 h0]; simp [allIn, innerI, hf]
  go_enter Try.func57, Try.ntmps57
  go_wp2_with (go_at_call 56; refine (between_any _ _ _ _).mono ?_; rintro e w' ⟨rfl, rfl⟩)
  go_loop [3] (fun i => ∃ k : Nat, k ≤ s.size ∧ i = .int .i64 k ∧ allIn (s.data.toList.take k) = true) (fun i => s.size - (intOf i).toNat)
  case atStart => exact ⟨1, h1, rfl, HA0.out⟩
  case round =>
    obtain ⟨k, hk, rfl, hal⟩ := hrel
    have HA : Hid (allIn (s.data.toList.take k) = true) := hal
    clear hal hf hb
    by_cases hlt : k < s.size
    · have hsn := allIn_snoc s k hlt
      rw [HA.out, Bool.true_and] at hsn
      have HS : Hid (allIn (s.data.toList.take (k + 1)) = innerI (s[k].toNat : Int)) := hsn
      have hno := allIn_no s k hlt
      have HN : Hid (innerI (s[k].toNat : Int) = false → nameB s = false) := fun h => HW.out.trans (hno h)
      clear hsn hno
      have hltk : s[k].toNat < 256 := s[k].toNat_lt
      cases hL : btw (s[k].toNat : Int) 97 122
      · cases hD : btw (s[k].toNat : Int) 48 57
        · by_cases hu : (s[k].toNat : Int) = 95
          · have hub : ((s[k].toNat : Int) == 95) = true := beq_iff_eq.2 hu
            have HI : Hid (innerI (s[k].toNat : Int) = true) := by simp [Hid, innerI, hub]
            clear hu
            go_wp2_with (go_at_call 56; refine (between_any _ _ _ _).mono ?_; rintro e w' ⟨rfl, rfl⟩)
            go_round
            case rel => exact ⟨k + 1, by omega, by go_num, by rw [HS.out, HI.out]⟩
            case measure => simp [intOf]; omega
          · have hub : ((s[k].toNat : Int) == 95) = false := beq_eq_false_iff_ne.2 hu
            have HI : Hid (nameB s = false) := HN.out (by rw [innerI, hL, hD, hub]; rfl)
            go_wp2_with (go_at_call 56; refine (between_any _ _ _ _).mono ?_; rintro e w' ⟨rfl, rfl⟩)
            go_ret
            exact ⟨by rw [HI.out]; rfl, rfl⟩
        · have HI : Hid (innerI (s[k].toNat : Int) = true) := by simp [Hid, innerI, hD]
          go_wp2_with (go_at_call 56; refine (between_any _ _ _ _).mono ?_; rintro e w' ⟨rfl, rfl⟩)
          go_round
          case rel => exact ⟨k + 1, by omega, by go_num, by rw [HS.out, HI.out]⟩
          case measure => simp [intOf]; omega
      · have HI : Hid (innerI (s[k].toNat : Int) = true) := by simp [Hid, innerI, hL]
        go_wp2_with (go_at_call 56; refine (between_any _ _ _ _).mono ?_; rintro e w' ⟨rfl, rfl⟩)
        go_round
        case rel => exact ⟨k + 1, by omega, by go_num, by rw [HS.out, HI.out]⟩
        case measure => simp [intOf]; omega
    · have hke : k = s.size := by omega
      have HY : Hid (nameB s = true) := HW.out.trans (wordB_yes s h1 h8 h0 HF.out (by rw [← hke]; exact HA.out))
      clear hke
      go_wp2_with fail
      go_ret
      exact ⟨by rw [HY.out]; rfl, rfl⟩

end Go.Proofs.Ytmggaclaoefdaaa

namespace Go.Proofs.Ytmggaclaoefdaaa
open Go.RowKit

theorem ret_int {k : IntKind} {a b : Int} (h : a = b) : Ending.returned (.int k a) = .returned (.int k b) := by rw [h]

def varE (v : Int) (nm : ByteArray) (len : Nat) : Int := if v < 1 then 3 else if 12 < v then 3 else if nm.toList = [] then (if 0 < len then 1 else 0) else 1

def partE (v : Int) (nm : ByteArray) (len : Nat) : Int := if ¬ v = 0 then varE v nm len else if nameB nm = false then 1 else if 4 < len then 2 else if nm.toList = [33] ∧ 0 < len then 1 else 0

set_option maxHeartbeats 400000 in
theorem variable_any (v : Int) (nm : ByteArray) (a : Option Addr) (len cap : Nat) (w : World) :
    Calls Try.prog 117 #[.agg #[.int .i64 v, .string nm, .slice a len cap]] w fun e w' => e = .returned (.int .i64 (varE v nm len)) ∧ Below w.heap.size w w' := by
  go_enter Try.func117, Try.ntmps117
  go_wp2
  all_goals
    go_ret
    refine ⟨ret_int ?_, (Below.refl _ _).alloc (Nat.le_refl _) _⟩
    rw [varE]
    repeat (first | rw [if_pos (by first | assumption | omega)] | rw [if_neg (by first | assumption | omega)])

set_option maxHeartbeats 400000 in
theorem part_any (v : Int) (nm : ByteArray) (a : Option Addr) (len cap : Nat) (w : World) (hs : nm.size ≤ maxLen) :
    Calls Try.prog 91 #[.agg #[.int .i64 v, .string nm, .slice a len cap]] w fun e w' => e = .returned (.int .i64 (partE v nm len)) ∧ Below w.heap.size w w' := by
  by_cases hv : v = 0
  case neg =>
    have hvb : (v == 0) = false := beq_eq_false_iff_ne.2 hv
    have H : Hid (partE v nm len = varE v nm len) := by rw [Hid, partE, if_pos hv]
    clear hv
    go_enter Try.func91, Try.ntmps91
    go_wp2_with (go_at_call 117; refine (variable_any _ _ _ _ _ _).mono ?_; rintro e w' ⟨rfl, hb⟩)
    go_ret
    exact ⟨by rw [H.out]; rfl, ((Below.refl _ _).alloc (Nat.le_refl _) _).trans (hb.mono (by simp))⟩
  subst hv
  cases hc : (nm.toList == [33])
  case true =>
    have hc' : nm.toList = [33] := beq_iff_eq.1 hc
    have HN : Hid (nameB nm = true) := by rw [Hid, nameB, hc, Bool.true_or]
    have HC : Hid (nm.toList = [33]) := hc'
    clear hc'
    go_enter Try.func91, Try.ntmps91
    go_wp2_with fail
    all_goals
      go_ret
      refine ⟨ret_int ?_, (Below.refl _ _).alloc (Nat.le_refl _) _⟩
      rw [partE, if_neg (by simp), if_neg (by rw [HN.out]; simp)]
      repeat (first | rw [if_pos (by first | omega | exact ⟨HC.out, by omega⟩)] | rw [if_neg (by first | omega | (intro h; omega))])
  case false =>
    have hc' : ¬ nm.toList = [33] := beq_eq_false_iff_ne.1 hc
    have HC : Hid (¬ nm.toList = [33]) := hc'
    clear hc'
    cases hw : wordB nm
    · have H : Hid (partE 0 nm len = 1) := by rw [Hid, partE, if_neg (by simp), if_pos (by rw [nameB, hc, hw]; rfl)]
      go_enter Try.func91, Try.ntmps91
      go_wp2_with (go_at_call 118; refine (word_any _ _ hs).mono ?_; rintro e w' ⟨rfl, rfl⟩)
      go_ret
      exact ⟨by rw [H.out]; rfl, (Below.refl _ _).alloc (Nat.le_refl _) _⟩
    · have HN : Hid (nameB nm = true) := by rw [Hid, nameB, hw, Bool.or_true]
      go_enter Try.func91, Try.ntmps91
      go_wp2_with (go_at_call 118; refine (word_any _ _ hs).mono ?_; rintro e w' ⟨rfl, rfl⟩)
      all_goals
        go_ret
        refine ⟨ret_int ?_, (Below.refl _ _).alloc (Nat.le_refl _) _⟩
        rw [partE, if_neg (by simp), if_neg (by rw [HN.out]; simp)]
        repeat (first | rw [if_pos (by omega)] | rw [if_neg (by first | omega | exact fun h => HC.out h.1)])

theorem three (n : Nat) : (((n : Int) == 0) = true ∧ ((n : Int) == 2) = false ∧ Hid (n = 0)) ∨ (((n : Int) == 0) = false ∧ ((n : Int) == 2) = true ∧ Hid (n = 2)) ∨ (((n : Int) == 0) = false ∧ ((n : Int) == 2) = false ∧ Hid (n ≠ 0 ∧ n ≠ 2)) := by
  by_cases h0 : n = 0
  · subst h0; exact Or.inl ⟨rfl, rfl, rfl⟩
  by_cases h2 : n = 2
  · subst h2; exact Or.inr (Or.inl ⟨rfl, rfl, rfl⟩)
  · exact Or.inr (Or.inr ⟨beq_eq_false_iff_ne.2 (by omega), beq_eq_false_iff_ne.2 (by omega), ⟨h0, h2⟩⟩)

end Go.Proofs.Ytmggaclaoefdaaa
