/- Parts of a term: what variable, part, means and IsBuiltin answer. -/
import Derived.Test.YtmggaclaoefdaaaNames
namespace Go.Proofs.Ytmggaclaoefdaaa
open Go.RowKit

theorem ret_int {k : IntKind} {a b : Int} (h : a = b) : Ending.returned (.int k a) = .returned (.int k b) := by rw [h]

def varE (v : Int) (nm : ByteArray) (len : Nat) : Int := if v < 1 then 3 else if 12 < v then 3 else if nm.toList = [] then (if 0 < len then 1 else 0) else 1

def partE (v : Int) (nm : ByteArray) (len : Nat) : Int := if ¬ v = 0 then varE v nm len else if nameB nm = false then 1 else if 4 < len then 2 else if nm.toList = [33] ∧ 0 < len then 1 else 0

set_option maxHeartbeats 400000 in
theorem variable_any (v : Int) (nm : ByteArray) (a : Option Addr) (len cap : Nat) (w : World) :
    Calls Try.prog 117 #[.agg #[.int .i64 v, .string nm, .slice a len cap]] w fun e w' => e = .returned (.int .i64 (varE v nm len)) ∧ Below w.heap.size w w' := by
  go_enter Try.func117, Try.ntmps117
  go_wp2
  all_goals
    go_ret
    refine ⟨ret_int ?_, (Below.refl _ _).alloc (Nat.le_refl _) _⟩
    rw [varE]
    repeat (first | rw [if_pos (by first | assumption | omega)] | rw [if_neg (by first | assumption | omega)])

set_option maxHeartbeats 400000 in
theorem part_any (v : Int) (nm : ByteArray) (a : Option Addr) (len cap : Nat) (w : World) (hs : nm.size ≤ maxLen) :
    Calls Try.prog 91 #[.agg #[.int .i64 v, .string nm, .slice a len cap]] w fun e w' => e = .returned (.int .i64 (partE v nm len)) ∧ Below w.heap.size w w' := by
  by_cases hv : v = 0
  case neg =>
    have hvb : (v == 0) = false := beq_eq_false_iff_ne.2 hv
    have H : Hid (partE v nm len = varE v nm len) := by rw [Hid, partE, if_pos hv]
    clear hv
    go_enter Try.func91, Try.ntmps91
    go_wp2_with (go_at_call 117; refine (variable_any _ _ _ _ _ _).mono ?_; rintro e w' ⟨rfl, hb⟩)
    go_ret
    exact ⟨by rw [H.out]; rfl, ((Below.refl _ _).alloc (Nat.le_refl _) _).trans (hb.mono (by simp))⟩
  subst hv
  cases hc : (nm.toList == [33])
  case true =>
    have hc' : nm.toList = [33] := beq_iff_eq.1 hc
    have HN : Hid (nameB nm = true) := by rw [Hid, nameB, hc, Bool.true_or]
    have HC : Hid (nm.toList = [33]) := hc'
    clear hc'
    go_enter Try.func91, Try.ntmps91
    go_wp2_with fail
    all_goals
      go_ret
      refine ⟨ret_int ?_, (Below.refl _ _).alloc (Nat.le_refl _) _⟩
      rw [partE, if_neg (by simp), if_neg (by rw [HN.out]; simp)]
      repeat (first | rw [if_pos (by first | omega | exact ⟨HC.out, by omega⟩)] | rw [if_neg (by first | omega | (intro h; omega))])
  case false =>
    have hc' : ¬ nm.toList = [33] := beq_eq_false_iff_ne.1 hc
    have HC : Hid (¬ nm.toList = [33]) := hc'
    clear hc'
    cases hw : wordB nm
    · have H : Hid (partE 0 nm len = 1) := by rw [Hid, partE, if_neg (by simp), if_pos (by rw [nameB, hc, hw]; rfl)]
      go_enter Try.func91, Try.ntmps91
      go_wp2_with (go_at_call 118; refine (word_any _ _ hs).mono ?_; rintro e w' ⟨rfl, rfl⟩)
      go_ret
      exact ⟨by rw [H.out]; rfl, (Below.refl _ _).alloc (Nat.le_refl _) _⟩
    · have HN : Hid (nameB nm = true) := by rw [Hid, nameB, hw, Bool.or_true]
      go_enter Try.func91, Try.ntmps91
      go_wp2_with (go_at_call 118; refine (word_any _ _ hs).mono ?_; rintro e w' ⟨rfl, rfl⟩)
      all_goals
        go_ret
        refine ⟨ret_int ?_, (Below.refl _ _).alloc (Nat.le_refl _) _⟩
        rw [partE, if_neg (by simp), if_neg (by rw [HN.out]; simp)]
        repeat (first | rw [if_pos (by omega)] | rw [if_neg (by first | omega | exact fun h => HC.out h.1)])

/-- Does a name with so many arguments mean something as a goal? -/
def meansB (nm : ByteArray) (len : Nat) : Bool := (decide (len = 0) && (nm.toList == [33] || nm.toList == [116, 114, 117, 101] || nm.toList == [102, 97, 105, 108])) || (decide (len = 2) && nm.toList == [101, 113])

theorem five (l : List UInt8) :
    ((l == [33]) = true ∧ (l == [116, 114, 117, 101]) = false ∧ (l == [102, 97, 105, 108]) = false ∧ (l == [101, 113]) = false) ∨
    ((l == [33]) = false ∧ (l == [116, 114, 117, 101]) = true ∧ (l == [102, 97, 105, 108]) = false ∧ (l == [101, 113]) = false) ∨
    ((l == [33]) = false ∧ (l == [116, 114, 117, 101]) = false ∧ (l == [102, 97, 105, 108]) = true ∧ (l == [101, 113]) = false) ∨
    ((l == [33]) = false ∧ (l == [116, 114, 117, 101]) = false ∧ (l == [102, 97, 105, 108]) = false ∧ (l == [101, 113]) = true) ∨
    ((l == [33]) = false ∧ (l == [116, 114, 117, 101]) = false ∧ (l == [102, 97, 105, 108]) = false ∧ (l == [101, 113]) = false) := by
  by_cases h1 : l = [33]
  · subst h1; decide
  by_cases h2 : l = [116, 114, 117, 101]
  · subst h2; decide
  by_cases h3 : l = [102, 97, 105, 108]
  · subst h3; decide
  by_cases h4 : l = [101, 113]
  · subst h4; decide
  simp [h1, h2, h3, h4]

theorem three (n : Nat) : (((n : Int) == 0) = true ∧ ((n : Int) == 2) = false ∧ Hid (n = 0)) ∨ (((n : Int) == 0) = false ∧ ((n : Int) == 2) = true ∧ Hid (n = 2)) ∨ (((n : Int) == 0) = false ∧ ((n : Int) == 2) = false ∧ Hid (n ≠ 0 ∧ n ≠ 2)) := by
  by_cases h0 : n = 0
  · subst h0; exact Or.inl ⟨rfl, rfl, rfl⟩
  by_cases h2 : n = 2
  · subst h2; exact Or.inr (Or.inl ⟨rfl, rfl, rfl⟩)
  · exact Or.inr (Or.inr ⟨beq_eq_false_iff_ne.2 (by omega), beq_eq_false_iff_ne.2 (by omega), ⟨h0, h2⟩⟩)

set_option maxHeartbeats 400000 in
theorem means_any (v : Int) (nm : ByteArray) (a : Option Addr) (len cap : Nat) (w : World) :
    Calls Try.prog 92 #[.agg #[.int .i64 v, .string nm, .slice a len cap]] w fun e w' => e = .returned (.bool (meansB nm len)) ∧ Below w.heap.size w w' := by
  rcases five nm.toList with ⟨h1, h2, h3, h4⟩ | ⟨h1, h2, h3, h4⟩ | ⟨h1, h2, h3, h4⟩ | ⟨h1, h2, h3, h4⟩ | ⟨h1, h2, h3, h4⟩ <;>
  rcases three len with ⟨g1, g2, G⟩ | ⟨g1, g2, G⟩ | ⟨g1, g2, G⟩
  all_goals
    go_enter Try.func92, Try.ntmps92
    go_wp2
    go_ret
    refine ⟨ret_bool ?_, (Below.refl _ _).alloc (Nat.le_refl _) _⟩
    simp [meansB, h1, h2, h3, h4, Hid.out G]

set_option maxHeartbeats 400000 in
theorem isBuiltin_any (nm : ByteArray) (len : Nat) (w : World) :
    Calls Try.prog 59 #[.string nm, .int .i64 len] w fun e w' => e = .returned (.bool (meansB nm len)) ∧ w' = w := by
  rcases five nm.toList with ⟨h1, h2, h3, h4⟩ | ⟨h1, h2, h3, h4⟩ | ⟨h1, h2, h3, h4⟩ | ⟨h1, h2, h3, h4⟩ | ⟨h1, h2, h3, h4⟩ <;>
  rcases three len with ⟨g1, g2, G⟩ | ⟨g1, g2, G⟩ | ⟨g1, g2, G⟩
  all_goals
    go_enter Try.func59, Try.ntmps59
    go_wp2
    go_ret
    refine ⟨ret_bool ?_, rfl⟩
    simp [meansB, h1, h2, h3, h4, Hid.out G]
end Go.Proofs.Ytmggaclaoefdaaa
