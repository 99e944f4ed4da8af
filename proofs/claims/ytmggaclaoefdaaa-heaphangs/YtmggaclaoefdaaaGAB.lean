/- Leaves: contracts of the small functions over numbers and names. Names: what word and IsName answer. Parts of a term: what variable, part, means and IsBuiltin answer. Terms as they lie in memory, and what is counted of them. -/
import Derived.Test.YtmggaclaoefdaaaProg
import Derived.WalkKit
import Derived.WalkSpells
import Derived.WalkLawsBesides
namespace Go.Proofs.Ytmggaclaoefdaaa
open Go.RowKit

def btw (n l m : Int) : Bool := decide (l ≤ n) && decide (n ≤ m)

set_option maxHeartbeats 400000 in
theorem between_any (n l m : Int) (w : World) :
    Calls Try.prog 56 #[.int .i64 n, .int .i64 l, .int .i64 m] w fun e w' => e = .returned (.bool (btw n l m)) ∧ w' = w := by
  by_cases h1 : l ≤ n <;> by_cases h2 : n ≤ m
  all_goals
    have H : Hid (btw n l m = (decide (l ≤ n) && decide (n ≤ m))) := rfl
    go_enter Try.func56, Try.ntmps56
    go_wp2
    go_ret
    exact ⟨by rw [H.out]; simp [*], rfl⟩

set_option maxHeartbeats 400000 in
theorem letter_any (n : Int) (w : World) :
    Calls Try.prog 136 #[.int .u8 n] w fun e w' => e = .returned (.bool (btw n 97 122)) ∧ w' = w := by
  by_cases h1 : 97 ≤ n <;> by_cases h2 : n ≤ 122
  all_goals
    have H : Hid (btw n 97 122 = (decide (97 ≤ n) && decide (n ≤ 122))) := rfl
    go_enter Try.func136, Try.ntmps136
    go_wp2
    go_ret
    exact ⟨by rw [H.out]; simp [*], rfl⟩

end Go.Proofs.Ytmggaclaoefdaaa

namespace Go.Proofs.Ytmggaclaoefdaaa
open Go.RowKit

def innerI (c : Int) : Bool := btw c 97 122 || btw c 48 57 || (c == 95)
def allIn (l : List UInt8) : Bool := l.all fun c => innerI (c.toNat : Int)
def firstOk (l : List UInt8) : Bool := match l with | [] => false | c :: _ => btw (c.toNat : Int) 97 122
def wordB (s : ByteArray) : Bool := decide (1 ≤ s.size) && decide (s.size ≤ 8) && firstOk s.data.toList && allIn s.data.toList

def nameB (s : ByteArray) : Bool := (s.toList == [33]) || wordB s

theorem take_snoc (s : ByteArray) (k : Nat) (h : k < s.size) : s.data.toList.take (k + 1) = s.data.toList.take k ++ [s[k]] := by
  rw [List.take_succ_eq_append_getElem (by simpa using h)]; rfl
theorem allIn_snoc (s : ByteArray) (k : Nat) (h : k < s.size) : allIn (s.data.toList.take (k + 1)) = (allIn (s.data.toList.take k) && innerI (s[k].toNat : Int)) := by
  rw [take_snoc s k h]; simp [allIn]
theorem allIn_no (s : ByteArray) (k : Nat) (h : k < s.size) (hi : innerI (s[k].toNat : Int) = false) : wordB s = false := by
  have h1 : allIn s.data.toList = false := by
    rw [← List.take_append_drop (k + 1) s.data.toList, take_snoc s k h]
    simp [allIn, hi]
  simp [wordB, h1]
theorem firstOk_eq (s : ByteArray) (h : 0 < s.size) : firstOk s.data.toList = btw (s[0].toNat : Int) 97 122 := by
  have : s.data.toList = s[0] :: s.data.toList.drop 1 := by
    rw [← List.drop_zero (l := s.data.toList), List.drop_eq_getElem_cons (by simpa using h)]; rfl
  rw [this]; rfl
theorem wordB_yes (s : ByteArray) (h1 : 1 ≤ s.size) (h8 : s.size ≤ 8) (h : 0 < s.size) (hf : btw (s[0].toNat : Int) 97 122 = true) (ha : allIn (s.data.toList.take s.size) = true) : wordB s = true := by
  have e : s.data.toList.take s.size = s.data.toList := List.take_of_length_le (by simp)
  rw [e] at ha
  simp [wordB, h1, h8, firstOk_eq s h, hf, ha]
theorem wordB_short (s : ByteArray) (h : ¬ 1 ≤ s.size) : wordB s = false := by simp [wordB, h]
theorem wordB_long (s : ByteArray) (h : ¬ s.size ≤ 8) : wordB s = false := by simp [wordB, h]
theorem wordB_first (s : ByteArray) (h : 0 < s.size) (hf : btw (s[0].toNat : Int) 97 122 = false) : wordB s = false := by simp [wordB, firstOk_eq s h, hf]
set_option maxHeartbeats 800000 in
theorem word_any (s : ByteArray) (w : World) (hs : s.size ≤ maxLen) :
    Calls Try.prog 118 #[.string s] w fun e w' => e = .returned (.bool (wordB s)) ∧ w' = w := by
  unfold maxLen at hs
  by_cases h1 : 1 ≤ s.size
  case neg =>
    have H : Hid (wordB s = false) := wordB_short s h1
    go_enter Try.func118, Try.ntmps118
    go_wp2_with fail
    go_ret
    exact ⟨by rw [H.out]; rfl, rfl⟩
  by_cases h8 : s.size ≤ 8
  case neg =>
    have H : Hid (wordB s = false) := wordB_long s h8
    go_enter Try.func118, Try.ntmps118
    go_wp2_with fail
    go_ret
    exact ⟨by rw [H.out]; rfl, rfl⟩
  have h0 : 0 < s.size := by omega
  have hf0 : btw (s[0].toNat : Int) 97 122 = true ∨ btw (s[0].toNat : Int) 97 122 = false := by cases btw (s[0].toNat : Int) 97 122 <;> simp
  rcases hf0 with hf | hf
  case inr =>
    have H : Hid (wordB s = false) := wordB_first s h0 hf
    go_enter Try.func118, Try.ntmps118
    go_wp2_with (go_at_call 136; refine (letter_any _ _).mono ?_; rintro e w' ⟨rfl, rfl⟩)
    go_ret
    exact ⟨by rw [H.out]; rfl, rfl⟩
  have HF : Hid (btw (s[0].toNat : Int) 97 122 = true) := hf
  go_enter Try.func118, Try.ntmps118
  go_wp2_with (go_at_call 136; refine (letter_any _ _).mono ?_; rintro e w' ⟨rfl, rfl⟩)
  go_loop [20] (fun i => ∃ k : Nat, k ≤ s.size ∧ i = .int .i64 k ∧ allIn (s.data.toList.take k) = true) (fun i => s.size - (intOf i).toNat)
  case atStart => exact ⟨0, Nat.zero_le _, rfl, rfl⟩
  case round =>
    obtain ⟨k, hk, rfl, hal⟩ := hrel
    have HA : Hid (allIn (s.data.toList.take k) = true) := hal
    clear hal hf
    by_cases hlt : k < s.size
    · have hsn := allIn_snoc s k hlt
      rw [HA.out, Bool.true_and] at hsn
      have HS : Hid (allIn (s.data.toList.take (k + 1)) = innerI (s[k].toNat : Int)) := hsn
      have hno := allIn_no s k hlt
      have HN : Hid (innerI (s[k].toNat : Int) = false → wordB s = false) := hno
      clear hsn hno
      cases hL : btw (s[k].toNat : Int) 97 122
      · by_cases hd1 : (s[k].toNat : Int) < 48
        · by_cases hu : (s[k].toNat : Int) = 95
          · omega
          · have hub : ((s[k].toNat : Int) == 95) = false := beq_eq_false_iff_ne.2 hu
            have HI : Hid (wordB s = false) := HN.out (by simp [innerI, hub, btw]; omega)
            go_wp2_with (go_at_call 136; refine (letter_any _ _).mono ?_; rintro e w' ⟨rfl, rfl⟩)
            go_ret
            exact ⟨by rw [HI.out]; rfl, rfl⟩
        · by_cases hd2 : (s[k].toNat : Int) > 57
          · by_cases hu : (s[k].toNat : Int) = 95
            · have hub : ((s[k].toNat : Int) == 95) = true := beq_iff_eq.2 hu
              have HI : Hid (innerI (s[k].toNat : Int) = true) := by simp [Hid, innerI, hub]
              clear hu
              go_wp2_with (go_at_call 136; refine (letter_any _ _).mono ?_; rintro e w' ⟨rfl, rfl⟩)
              go_round
              case rel => exact ⟨k + 1, by omega, by go_num, by rw [HS.out, HI.out]⟩
              case measure => simp [intOf]; omega
            · have hub : ((s[k].toNat : Int) == 95) = false := beq_eq_false_iff_ne.2 hu
              have HI : Hid (wordB s = false) := HN.out (by rw [innerI, hL, hub]; simp [btw]; omega)
              go_wp2_with (go_at_call 136; refine (letter_any _ _).mono ?_; rintro e w' ⟨rfl, rfl⟩)
              go_ret
              exact ⟨by rw [HI.out]; rfl, rfl⟩
          · have HI : Hid (innerI (s[k].toNat : Int) = true) := by simp [Hid, innerI, btw]; omega
            go_wp2_with (go_at_call 136; refine (letter_any _ _).mono ?_; rintro e w' ⟨rfl, rfl⟩)
            go_round
            case rel => exact ⟨k + 1, by omega, by go_num, by rw [HS.out, HI.out]⟩
            case measure => simp [intOf]; omega
      · have HI : Hid (innerI (s[k].toNat : Int) = true) := by simp [Hid, innerI, hL]
        go_wp2_with (go_at_call 136; refine (letter_any _ _).mono ?_; rintro e w' ⟨rfl, rfl⟩)
        go_round
        case rel => exact ⟨k + 1, by omega, by go_num, by rw [HS.out, HI.out]⟩
        case measure => simp [intOf]; omega
    · have hke : k = s.size := by omega
      have HY : Hid (wordB s = true) := wordB_yes s h1 h8 h0 HF.out (by rw [← hke]; exact HA.out)
      clear hke
      go_wp2_with fail
      go_ret
      exact ⟨by rw [HY.out]; rfl, rfl⟩

end Go.Proofs.Ytmggaclaoefdaaa

namespace Go.Proofs.Ytmggaclaoefdaaa
open Go.RowKit

theorem ret_int {k : IntKind} {a b : Int} (h : a = b) : Ending.returned (.int k a) = .returned (.int k b) := by rw [h]

def varE (v : Int) (nm : ByteArray) (len : Nat) : Int := if v < 1 then 3 else if 12 < v then 3 else if nm.toList = [] then (if 0 < len then 1 else 0) else 1

def partE (v : Int) (nm : ByteArray) (len : Nat) : Int := if ¬ v = 0 then varE v nm len else if nameB nm = false then 1 else if 4 < len then 2 else if nm.toList = [33] ∧ 0 < len then 1 else 0

set_option maxHeartbeats 400000 in
theorem variable_any (v : Int) (nm : ByteArray) (a : Option Addr) (len cap : Nat) (w : World) :
    Calls Try.prog 117 #[.agg #[.int .i64 v, .string nm, .slice a len cap]] w fun e w' => e = .returned (.int .i64 (varE v nm len)) ∧ Below w.heap.size w w' := by
  go_enter Try.func117, Try.ntmps117
  go_wp2
  all_goals
    go_ret
    refine ⟨ret_int ?_, (Below.refl _ _).alloc (Nat.le_refl _) _⟩
    rw [varE]
    repeat (first | rw [if_pos (by first | assumption | omega)] | rw [if_neg (by first | assumption | omega)])

set_option maxHeartbeats 400000 in
theorem part_any (v : Int) (nm : ByteArray) (a : Option Addr) (len cap : Nat) (w : World) (hs : nm.size ≤ maxLen) :
    Calls Try.prog 91 #[.agg #[.int .i64 v, .string nm, .slice a len cap]] w fun e w' => e = .returned (.int .i64 (partE v nm len)) ∧ Below w.heap.size w w' := by
  by_cases hv : v = 0
  case neg =>
    have hvb : (v == 0) = false := beq_eq_false_iff_ne.2 hv
    have H : Hid (partE v nm len = varE v nm len) := by rw [Hid, partE, if_pos hv]
    clear hv
    go_enter Try.func91, Try.ntmps91
    go_wp2_with (go_at_call 117; refine (variable_any _ _ _ _ _ _).mono ?_; rintro e w' ⟨rfl, hb⟩)
    go_ret
    exact ⟨by rw [H.out]; rfl, ((Below.refl _ _).alloc (Nat.le_refl _) _).trans (hb.mono (by simp))⟩
  subst hv
  cases hc : (nm.toList == [33])
  case true =>
    have hc' : nm.toList = [33] := beq_iff_eq.1 hc
    have HN : Hid (nameB nm = true) := by rw [Hid, nameB, hc, Bool.true_or]
    have HC : Hid (nm.toList = [33]) := hc'
    clear hc'
    go_enter Try.func91, Try.ntmps91
    go_wp2_with fail
    all_goals
      go_ret
      refine ⟨ret_int ?_, (Below.refl _ _).alloc (Nat.le_refl _) _⟩
      rw [partE, if_neg (by simp), if_neg (by rw [HN.out]; simp)]
      repeat (first | rw [if_pos (by first | omega | exact ⟨HC.out, by omega⟩)] | rw [if_neg (by first | omega | (intro h; omega))])
  case false =>
    have hc' : ¬ nm.toList = [33] := beq_eq_false_iff_ne.1 hc
    have HC : Hid (¬ nm.toList = [33]) := hc'
    clear hc'
    cases hw : wordB nm
    · have H : Hid (partE 0 nm len = 1) := by rw [Hid, partE, if_neg (by simp), if_pos (by rw [nameB, hc, hw]; rfl)]
      go_enter Try.func91, Try.ntmps91
      go_wp2_with (go_at_call 118; refine (word_any _ _ hs).mono ?_; rintro e w' ⟨rfl, rfl⟩)
      go_ret
      exact ⟨by rw [H.out]; rfl, (Below.refl _ _).alloc (Nat.le_refl _) _⟩
    · have HN : Hid (nameB nm = true) := by rw [Hid, nameB, hw, Bool.or_true]
      go_enter Try.func91, Try.ntmps91
      go_wp2_with (go_at_call 118; refine (word_any _ _ hs).mono ?_; rintro e w' ⟨rfl, rfl⟩)
      all_goals
        go_ret
        refine ⟨ret_int ?_, (Below.refl _ _).alloc (Nat.le_refl _) _⟩
        rw [partE, if_neg (by simp), if_neg (by rw [HN.out]; simp)]
        repeat (first | rw [if_pos (by omega)] | rw [if_neg (by first | omega | exact fun h => HC.out h.1)])

theorem three (n : Nat) : (((n : Int) == 0) = true ∧ ((n : Int) == 2) = false ∧ Hid (n = 0)) ∨ (((n : Int) == 0) = false ∧ ((n : Int) == 2) = true ∧ Hid (n = 2)) ∨ (((n : Int) == 0) = false ∧ ((n : Int) == 2) = false ∧ Hid (n ≠ 0 ∧ n ≠ 2)) := by
  by_cases h0 : n = 0
  · subst h0; exact Or.inl ⟨rfl, rfl, rfl⟩
  by_cases h2 : n = 2
  · subst h2; exact Or.inr (Or.inl ⟨rfl, rfl, rfl⟩)
  · exact Or.inr (Or.inr ⟨beq_eq_false_iff_ne.2 (by omega), beq_eq_false_iff_ne.2 (by omega), ⟨h0, h2⟩⟩)

end Go.Proofs.Ytmggaclaoefdaaa

namespace Go.Proofs.Ytmggaclaoefdaaa
open Go.RowKit

inductive Tm where
  | nil
  | mk (v : Int) (nm : ByteArray) (a : Option Addr) (len cap : Nat) (f : Nat → Tm)
namespace Tm
def v : Tm → Int | .nil => 0 | .mk v _ _ _ _ _ => v
def nm : Tm → ByteArray | .nil => ⟨#[]⟩ | .mk _ nm _ _ _ _ => nm
def a : Tm → Option Addr | .nil => none | .mk _ _ a _ _ _ => a
def len : Tm → Nat | .nil => 0 | .mk _ _ _ len _ _ => len
def cap : Tm → Nat | .nil => 0 | .mk _ _ _ _ cap _ => cap
def f : Tm → Nat → Tm | .nil => fun _ => .nil | .mk _ _ _ _ _ f => f
def val (T : Tm) : Value := .agg #[.int .i64 T.v, .string T.nm, .slice T.a T.len T.cap]
end Tm

/-- The cells of element i of a slice of terms. -/
def RowAt (w : World) (a : Option Addr) (i : Nat) (T : Tm) : Prop :=
  ∃ b o, a = some ⟨b, o, none⟩ ∧ w.cell? ⟨b, o + i * 3, none⟩ = some (.int .i64 T.v) ∧ w.cell? ⟨b, o + i * 3 + 1, none⟩ = some (.string T.nm) ∧ w.cell? ⟨b, o + i * 3 + 2, none⟩ = some (.slice T.a T.len T.cap)

/-- A term lies in memory, with all its arguments. -/
def TIn (w : World) : Tm → Prop
  | .nil => False
  | .mk _ nm a len _ f => nm.size ≤ maxLen ∧ len ≤ maxLen ∧ ∀ i, i < len → RowAt w a i (f i) ∧ TIn w (f i)

theorem TIn.name {w : World} {T : Tm} (h : TIn w T) : T.nm.size ≤ maxLen := by
  cases T with
  | nil => exact False.elim h
  | mk => exact h.1
theorem TIn.len {w : World} {T : Tm} (h : TIn w T) : T.len ≤ maxLen := by
  cases T with
  | nil => exact False.elim h
  | mk => exact h.2.1
theorem TIn.row {w : World} {T : Tm} (h : TIn w T) {i : Nat} (hi : i < T.len) : RowAt w T.a i (T.f i) := by
  cases T with
  | nil => exact False.elim h
  | mk => exact (h.2.2 i hi).1
theorem TIn.kid {w : World} {T : Tm} (h : TIn w T) {i : Nat} (hi : i < T.len) : TIn w (T.f i) := by
  cases T with
  | nil => exact False.elim h
  | mk => exact (h.2.2 i hi).2

theorem lt_of_cell {w : World} {p : Addr} {x : Value} (h : w.cell? p = some x) : p.block < w.heap.size := by
  unfold World.cell? at h
  cases hb : w.heap[p.block]? with
  | none => rw [hb] at h; simp at h
  | some o => exact (Array.getElem?_eq_some_iff.1 hb).1

theorem RowAt.below {w w' : World} {a : Option Addr} {i : Nat} {T : Tm} (h : RowAt w a i T) (hb : Below w.heap.size w w') : RowAt w' a i T := by
  obtain ⟨b, o, rfl, h0, h1, h2⟩ := h
  exact ⟨b, o, rfl, (hb.cell (lt_of_cell h0)).trans h0, (hb.cell (lt_of_cell h1)).trans h1, (hb.cell (lt_of_cell h2)).trans h2⟩

theorem TIn.below {w w' : World} {T : Tm} (h : TIn w T) (hb : Below w.heap.size w w') : TIn w' T := by
  induction T with
  | nil => exact False.elim h
  | mk v nm a len cap f ih => exact ⟨h.1, h.2.1, fun i hi => ⟨(h.2.2 i hi).1.below hb, ih i (h.2.2 i hi).2⟩⟩

def sumTo (g : Nat → Nat) : Nat → Nat
  | 0 => 0
  | k + 1 => sumTo g k + g k
theorem sumTo_le (g : Nat → Nat) {j k : Nat} (h : j ≤ k) : sumTo g j ≤ sumTo g k := by
  induction k with
  | zero => rw [Nat.le_zero.1 h]; exact Nat.le_refl _
  | succ k ih =>
    by_cases hj : j = k + 1
    · rw [hj]; exact Nat.le_refl _
    · have := ih (by omega); show _ ≤ sumTo g k + g k; omega

/-- How many parts a term has. -/
def cnt : Tm → Nat
  | .nil => 1
  | .mk _ _ _ len _ f => 1 + sumTo (fun i => cnt (f i)) len
/-- .. and all its arguments together. -/
def kids (T : Tm) : Nat := sumTo (fun i => cnt (T.f i)) T.len
theorem cnt_eq (T : Tm) : cnt T = 1 + kids T := by cases T <;> rfl

def roomV (n : Int) (t : Nat) : Int := if (t : Int) ≤ n then n - t else -1

set_option maxHeartbeats 400000 in
theorem room_any (T : Tm) : ∀ (n : Int) (w : World), TIn w T → 0 ≤ n → n ≤ 60 →
    Calls Try.prog 53 #[.int .i64 n, .slice T.a T.len T.cap] w fun e w' => e = .returned (.int .i64 (roomV n (kids T))) ∧ Below w.heap.size w w' := by
  induction T with
  | nil => intro n w hin; exact False.elim hin
  | mk v nm a len cap f ih =>
    intro n w hin hn0 hn60
    have IH : Hid (∀ i (n : Int) (w : World), TIn w (f i) → 0 ≤ n → n ≤ 60 → Calls Try.prog 53 #[.int .i64 n, .slice (f i).a (f i).len (f i).cap] w fun e w' => e = .returned (.int .i64 (roomV n (kids (f i)))) ∧ Below w.heap.size w w') := ih
    have HIn : Hid (TIn w (.mk v nm a len cap f)) := hin
    have hlen : len ≤ 2 ^ 63 - 1 := TIn.len (T := .mk v nm a len cap f) hin
    clear ih hin
    show Calls Try.prog 53 #[.int .i64 n, .slice a len cap] w _
    go_enter Try.func53, Try.ntmps53
    go_wp2_with fail
    go_loopw [0, 9] (fun n' i wr => ∃ k : Nat, k ≤ len ∧ i = .int .i64 k ∧ (sumTo (fun i => cnt (f i)) k : Int) ≤ n ∧ n' = .int .i64 (n - (sumTo (fun i => cnt (f i)) k : Nat)) ∧ Below w.heap.size w wr) (fun _ i _ => len - (intOf i).toNat)
    case atStart => exact ⟨0, Nat.zero_le _, rfl, by simp [sumTo]; omega, by simp [sumTo], Below.refl _ _⟩
    case round =>
      obtain ⟨k, hk, rfl, hs, rfl, hb⟩ := hrel
      have HS : Hid (kids (.mk v nm a len cap f) = sumTo (fun i => cnt (f i)) len) := rfl
      generalize hsk : sumTo (fun i => cnt (f i)) k = sk at *
      have HK : Hid (sumTo (fun i => cnt (f i)) k = sk) := hsk
      clear hsk
      by_cases hlt : k < len
      · have hr : RowAt wr a k (f k) := (TIn.row (T := .mk v nm a len cap f) HIn.out hlt).below hb
        obtain ⟨b, o, ha, c0, c1, c2⟩ := hr
        have HT : Hid (TIn wr (f k)) := (TIn.kid (T := .mk v nm a len cap f) HIn.out hlt).below hb
        have HM : Hid (sumTo (fun i => cnt (f i)) (k + 1) ≤ sumTo (fun i => cnt (f i)) len) := sumTo_le _ hlt
        have HE : Hid (sumTo (fun i => cnt (f i)) (k + 1) = sk + (1 + kids (f k))) := by rw [Hid, sumTo, HK.out, cnt_eq]
        subst ha
        by_cases hz : n - (sk : Int) = 0
        · have hzb : (n - (sk : Int) == 0) = true := beq_iff_eq.2 hz
          have HR : Hid (roomV n (kids (.mk v nm (some ⟨b, o, none⟩) len cap f)) = -1) := by
            rw [Hid, roomV, if_neg]; rw [HS.out]; have := HM.out; have := HE.out; omega
          clear hz
          go_wp2_with fail
          go_ret
          exact ⟨by rw [HR.out]; rfl, hb.trans (((Below.refl _ _).alloc (Nat.le_refl _) _).mono hb.size)⟩
        · have hzb : (n - (sk : Int) == 0) = false := beq_eq_false_iff_ne.2 hz
          have hpos : sk + 1 ≤ n := by omega
          clear hz
          generalize hkk : kids (f k) = kk at *
          have hsz := hb.size
          by_cases hle : (kk : Int) ≤ n - sk - 1
          · have HV : Hid (roomV (n - sk - 1) kk = n - sk - 1 - kk) := by rw [Hid, roomV, if_pos hle]
            go_wp2_with fail
            refine (IH.out k (n - sk - 1) _ (HT.out.below ((Below.refl _ _).alloc (Nat.le_refl _) _)) (by omega) (by omega)).mono ?_
            rintro e w1 ⟨rfl, hb1⟩
            rw [hkk, HV.out]
            clear hkk
            go_wp2_with fail
            go_roundw
            case rel => exact ⟨k + 1, by omega, by go_num, by rw [HE.out]; omega, by rw [HE.out]; go_num, (hb.trans (((Below.refl _ _).alloc (Nat.le_refl _) _).mono hsz)).trans (hb1.mono (by simp; omega))⟩
            case measure => simp [intOf]; omega
          · have HV : Hid (roomV (n - sk - 1) kk = -1) := by rw [Hid, roomV, if_neg hle]
            have HR : Hid (roomV n (kids (.mk v nm (some ⟨b, o, none⟩) len cap f)) = -1) := by
              rw [Hid, roomV, if_neg]; rw [HS.out]; have := HM.out; have := HE.out; omega
            go_wp2_with fail
            refine (IH.out k (n - sk - 1) _ (HT.out.below ((Below.refl _ _).alloc (Nat.le_refl _) _)) (by omega) (by omega)).mono ?_
            rintro e w1 ⟨rfl, hb1⟩
            rw [hkk, HV.out]
            clear hkk
            go_wp2_with fail
            go_ret
            exact ⟨by rw [HR.out]; rfl, (hb.trans (((Below.refl _ _).alloc (Nat.le_refl _) _).mono hsz)).trans (hb1.mono (by simp; omega))⟩
      · have hke : k = len := by omega
        have HR : Hid (roomV n (kids (.mk v nm a len cap f)) = n - sk) := by
          rw [Hid, HS.out, ← hke, HK.out, roomV, if_pos hs]
        clear hke
        go_wp2_with fail
        go_ret
        exact ⟨by rw [HR.out]; rfl, hb⟩
end Go.Proofs.Ytmggaclaoefdaaa
