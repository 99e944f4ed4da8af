/- Parse and ParseGoals: what they answer. -/
import Derived.Test.YtmggaclaoefdaaaDoorRdC
import Derived.OwnWalk
namespace Go.Proofs.YtmggaclaoefdaaaDoor
open Go.RowKit

def ans28 (n : Nat) (s : ByteArray) (w : World) (e : Ending) (w' : World) : Prop :=
  Below w.heap.size w w' ∧ ((6000 < s.size ∧ e = .returned (.tuple #[.slice none 0 0, .int .i64 0, .int .i64 2])) ∨ (s.size ≤ 6000 ∧ ∃ q, pProg s.data.toList n (s.size + 1) 0 = .no q ∧ e = .returned (.tuple #[.slice none 0 0, .int .i64 q, .int .i64 1])) ∨ (s.size ≤ 6000 ∧ ∃ P ds q, pProg s.data.toList n (s.size + 1) 0 = .ok ds q ∧ PSim P ds ∧ PIn w' P ∧ PAbove w.heap.size P ∧ ((progV P = 0 ∧ e = .returned (.tuple #[.slice P.a P.len P.cap, .int .i64 0, .int .i64 0])) ∨ (progV P ≠ 0 ∧ e = .returned (.tuple #[.slice none 0 0, .int .i64 0, .int .i64 (progV P)])))))

set_option maxRecDepth 100000 in
set_option maxHeartbeats 2000000 in
theorem parse28 (n : Nat) (s : ByteArray) (w : World) (hs : s.size ≤ maxLen) (hn : s.size ≤ n) :
    Calls Tryd.prog 28 #[.string s, .func (.func 29) #[] #[], .func (.func 19) #[] #[]] w (ans28 n s w) := by
  have hs2 : s.size ≤ 2 ^ 63 - 1 := hs
  by_cases hz : 6000 < s.size
  · have hd : decide ((s.size : Int) > 6000) = true := decide_eq_true (by omega)
    have HZ : Hid (6000 < s.size) := hz
    clear hz hs hn
    go_enter Tryd.func28, Tryd.ntmps28
    go_wp2_with fail
    go_ret3
    exact ⟨Below.refl _ _, .inl ⟨HZ.out, rfl⟩⟩
  have hd : decide ((s.size : Int) > 6000) = false := decide_eq_false (by omega)
  have HZ : Hid (s.size ≤ 6000) := Nat.le_of_not_lt hz
  have HN : Hid (s.size ≤ n) := hn
  clear hz hs hn
  go_enter Tryd.func28, Tryd.ntmps28
  go_wp2_with fail
  refine (read48 n s _ HZ.out HN.out).mono ?_
  rintro e w1 (⟨P, ds, q, hpt, hS, rfl, hP, hA, hB⟩ | ⟨q, hpt, rfl, hB⟩)
  · have HP : Hid (pProg s.data.toList n (s.size + 1) 0 = .ok ds q ∧ PSim P ds) := ⟨hpt, hS⟩
    have HB : Hid (Below w.heap.size w w1) := hB
    have HPI : Hid (PIn w1 P) := hP
    have HA : Hid (PAbove w.heap.size P) := hA
    clear hpt hS hP hA hB
    go_wp2_with fail
    refine (clauses_any P _ HPI.out).mono ?_
    rintro e w2 ⟨rfl, hb2⟩
    have HB2 : Hid (Below w.heap.size w w2) := HB.out.trans (hb2.mono HB.out.size)
    have HPI2 : Hid (PIn w2 P) := HPI.out.below hb2
    clear hb2
    by_cases hv : progV P = 0
    · have HV : Hid (progV P = 0) := hv
      rw [hv]
      clear hv
      go_wp2_with fail
      go_ret3
      exact ⟨HB2.out, .inr (.inr ⟨HZ.out, P, ds, q, HP.out.1, HP.out.2, HPI2.out, HA.out, .inl ⟨HV.out, rfl⟩⟩)⟩
    · have HV : Hid (progV P ≠ 0) := hv
      have hvb : (progV P == 0) = false := beq_eq_false_iff_ne.2 hv
      clear hv
      go_wp2_with fail
      go_ret3
      exact ⟨HB2.out, .inr (.inr ⟨HZ.out, P, ds, q, HP.out.1, HP.out.2, HPI2.out, HA.out, .inr ⟨HV.out, rfl⟩⟩)⟩
  · have HP : Hid (pProg s.data.toList n (s.size + 1) 0 = .no q) := hpt
    have HB : Hid (Below w.heap.size w w1) := hB
    clear hpt hB
    go_wp2_with fail
    go_ret3
    exact ⟨HB.out, .inr (.inl ⟨HZ.out, q, HP.out, rfl⟩)⟩

set_option maxRecDepth 100000 in
set_option maxHeartbeats 2000000 in
theorem door13 (n : Nat) (s : ByteArray) (w : World) (hs : s.size ≤ maxLen) (hn : s.size ≤ n) :
    Calls Tryd.prog 13 #[.string s] w (ans28 n s w) := by
  have HN : Hid (s.size ≤ maxLen ∧ s.size ≤ n) := ⟨hs, hn⟩
  clear hs hn
  go_enter Tryd.func13, Tryd.ntmps13
  go_wp2_with fail
  refine (parse28 n s _ HN.out.1 HN.out.2).mono ?_
  rintro e w1 ⟨hB, (⟨h1, rfl⟩ | ⟨h1, q, hpt, rfl⟩ | ⟨h1, P, ds, q, hpt, hS, hP, hA, (⟨hv, rfl⟩ | ⟨hv, rfl⟩)⟩)⟩
  · have HB : Hid (Below w.heap.size w w1 ∧ 6000 < s.size) := ⟨hB, h1⟩
    clear hB h1
    go_wp2_with fail
    go_ret3
    exact ⟨HB.out.1, .inl ⟨HB.out.2, rfl⟩⟩
  · have HB : Hid (Below w.heap.size w w1 ∧ s.size ≤ 6000 ∧ pProg s.data.toList n (s.size + 1) 0 = .no q) := ⟨hB, h1, hpt⟩
    clear hB h1 hpt
    go_wp2_with fail
    go_ret3
    exact ⟨HB.out.1, .inr (.inl ⟨HB.out.2.1, q, HB.out.2.2, rfl⟩)⟩
  · have HB : Hid (Below w.heap.size w w1 ∧ s.size ≤ 6000 ∧ pProg s.data.toList n (s.size + 1) 0 = .ok ds q ∧ PSim P ds ∧ PIn w1 P ∧ PAbove w.heap.size P ∧ progV P = 0) := ⟨hB, h1, hpt, hS, hP, hA, hv⟩
    clear hB h1 hpt hS hP hA hv
    go_wp2_with fail
    go_ret3
    obtain ⟨hB, h1, hpt, hS, hP, hA, hv⟩ := HB.out
    exact ⟨hB, .inr (.inr ⟨h1, P, ds, q, hpt, hS, hP, hA, .inl ⟨hv, rfl⟩⟩)⟩
  · have HB : Hid (Below w.heap.size w w1 ∧ s.size ≤ 6000 ∧ pProg s.data.toList n (s.size + 1) 0 = .ok ds q ∧ PSim P ds ∧ PIn w1 P ∧ PAbove w.heap.size P ∧ progV P ≠ 0) := ⟨hB, h1, hpt, hS, hP, hA, hv⟩
    clear hB h1 hpt hS hP hA hv
    go_wp2_with fail
    go_ret3
    obtain ⟨hB, h1, hpt, hS, hP, hA, hv⟩ := HB.out
    exact ⟨hB, .inr (.inr ⟨h1, P, ds, q, hpt, hS, hP, hA, .inr ⟨hv, rfl⟩⟩)⟩

def ans30 (n : Nat) (s : ByteArray) (w : World) (e : Ending) (w' : World) : Prop :=
  Below w.heap.size w w' ∧ ((6000 < s.size ∧ e = .returned (.tuple #[.slice none 0 0, .int .i64 0, .int .i64 2])) ∨ (s.size ≤ 6000 ∧ ∃ q, pGoals s.data.toList n = .no q ∧ e = .returned (.tuple #[.slice none 0 0, .int .i64 q, .int .i64 1])) ∨ (s.size ≤ 6000 ∧ ∃ T us q, pGoals s.data.toList n = .ok us q ∧ BSim T us ∧ TIn w' T ∧ Above w.heap.size T ∧ ((queryV T = 0 ∧ e = .returned (.tuple #[.slice T.a T.len T.cap, .int .i64 0, .int .i64 0])) ∨ (queryV T ≠ 0 ∧ e = .returned (.tuple #[.slice none 0 0, .int .i64 0, .int .i64 (queryV T)])))))

set_option maxRecDepth 100000 in
set_option maxHeartbeats 2000000 in
theorem parse30 (n : Nat) (s : ByteArray) (w : World) (hs : s.size ≤ maxLen) (hn : s.size < n) :
    Calls Tryd.prog 30 #[.string s, .func (.func 31) #[] #[], .func (.func 23) #[] #[]] w (ans30 n s w) := by
  have hs2 : s.size ≤ 2 ^ 63 - 1 := hs
  by_cases hz : 6000 < s.size
  · have hd : decide ((s.size : Int) > 6000) = true := decide_eq_true (by omega)
    have HZ : Hid (6000 < s.size) := hz
    clear hz hs hn
    go_enter Tryd.func30, Tryd.ntmps30
    go_wp2_with fail
    go_ret3
    exact ⟨Below.refl _ _, .inl ⟨HZ.out, rfl⟩⟩
  have hd : decide ((s.size : Int) > 6000) = false := decide_eq_false (by omega)
  have HZ : Hid (s.size ≤ 6000) := Nat.le_of_not_lt hz
  have HN : Hid (s.size < n) := hn
  clear hz hs hn
  go_enter Tryd.func30, Tryd.ntmps30
  go_wp2_with fail
  refine (read50 n s _ HZ.out HN.out).mono ?_
  rintro e w1 (⟨T, us, q, hpt, hS, rfl, hP, hA, hB⟩ | ⟨q, hpt, rfl, hB⟩)
  · have HP : Hid (pGoals s.data.toList n = .ok us q ∧ BSim T us) := ⟨hpt, hS⟩
    have HB : Hid (Below w.heap.size w w1) := hB
    have HPI : Hid (TIn w1 T) := hP
    have HA : Hid (Above w.heap.size T) := hA
    clear hpt hS hP hA hB
    go_wp2_with fail
    refine (query_any T _ HPI.out).mono ?_
    rintro e w2 ⟨rfl, hb2⟩
    have HB2 : Hid (Below w.heap.size w w2) := HB.out.trans (hb2.mono HB.out.size)
    have HPI2 : Hid (TIn w2 T) := HPI.out.below hb2
    clear hb2
    by_cases hv : queryV T = 0
    · have HV : Hid (queryV T = 0) := hv
      rw [hv]
      clear hv
      go_wp2_with fail
      go_ret3
      exact ⟨HB2.out, .inr (.inr ⟨HZ.out, T, us, q, HP.out.1, HP.out.2, HPI2.out, HA.out, .inl ⟨HV.out, rfl⟩⟩)⟩
    · have HV : Hid (queryV T ≠ 0) := hv
      have hvb : (queryV T == 0) = false := beq_eq_false_iff_ne.2 hv
      clear hv
      go_wp2_with fail
      go_ret3
      exact ⟨HB2.out, .inr (.inr ⟨HZ.out, T, us, q, HP.out.1, HP.out.2, HPI2.out, HA.out, .inr ⟨HV.out, rfl⟩⟩)⟩
  · have HP : Hid (pGoals s.data.toList n = .no q) := hpt
    have HB : Hid (Below w.heap.size w w1) := hB
    clear hpt hB
    go_wp2_with fail
    go_ret3
    exact ⟨HB.out, .inr (.inl ⟨HZ.out, q, HP.out, rfl⟩)⟩

set_option maxRecDepth 100000 in
set_option maxHeartbeats 2000000 in
theorem door14 (n : Nat) (s : ByteArray) (w : World) (hs : s.size ≤ maxLen) (hn : s.size < n) :
    Calls Tryd.prog 14 #[.string s] w (ans30 n s w) := by
  have HN : Hid (s.size ≤ maxLen ∧ s.size < n) := ⟨hs, hn⟩
  clear hs hn
  go_enter Tryd.func14, Tryd.ntmps14
  go_wp2_with fail
  refine (parse30 n s _ HN.out.1 HN.out.2).mono ?_
  rintro e w1 ⟨hB, (⟨h1, rfl⟩ | ⟨h1, q, hpt, rfl⟩ | ⟨h1, T, us, q, hpt, hS, hP, hA, (⟨hv, rfl⟩ | ⟨hv, rfl⟩)⟩)⟩
  · have HB : Hid (Below w.heap.size w w1 ∧ 6000 < s.size) := ⟨hB, h1⟩
    clear hB h1
    go_wp2_with fail
    go_ret3
    exact ⟨HB.out.1, .inl ⟨HB.out.2, rfl⟩⟩
  · have HB : Hid (Below w.heap.size w w1 ∧ s.size ≤ 6000 ∧ pGoals s.data.toList n = .no q) := ⟨hB, h1, hpt⟩
    clear hB h1 hpt
    go_wp2_with fail
    go_ret3
    exact ⟨HB.out.1, .inr (.inl ⟨HB.out.2.1, q, HB.out.2.2, rfl⟩)⟩
  · have HB : Hid (Below w.heap.size w w1 ∧ s.size ≤ 6000 ∧ pGoals s.data.toList n = .ok us q ∧ BSim T us ∧ TIn w1 T ∧ Above w.heap.size T ∧ queryV T = 0) := ⟨hB, h1, hpt, hS, hP, hA, hv⟩
    clear hB h1 hpt hS hP hA hv
    go_wp2_with fail
    go_ret3
    obtain ⟨hB, h1, hpt, hS, hP, hA, hv⟩ := HB.out
    exact ⟨hB, .inr (.inr ⟨h1, T, us, q, hpt, hS, hP, hA, .inl ⟨hv, rfl⟩⟩)⟩
  · have HB : Hid (Below w.heap.size w w1 ∧ s.size ≤ 6000 ∧ pGoals s.data.toList n = .ok us q ∧ BSim T us ∧ TIn w1 T ∧ Above w.heap.size T ∧ queryV T ≠ 0) := ⟨hB, h1, hpt, hS, hP, hA, hv⟩
    clear hB h1 hpt hS hP hA hv
    go_wp2_with fail
    go_ret3
    obtain ⟨hB, h1, hpt, hS, hP, hA, hv⟩ := HB.out
    exact ⟨hB, .inr (.inr ⟨h1, T, us, q, hpt, hS, hP, hA, .inr ⟨hv, rfl⟩⟩)⟩
end Go.Proofs.YtmggaclaoefdaaaDoor
