/- The law TextParses, walked. -/
import Derived.Test.YtmggaclaoefdaaaDoorRef8
import Derived.Test.YtmggaclaoefdaaaDoorBegun2
namespace Go.Proofs.YtmggaclaoefdaaaDoor
open Go.RowKit

def nilP : Pg := { a := none, len := 0, cap := 0, hd := fun _ => .nil, bd := fun _ => .nil }
def nilL : Tm := .mk 0 ⟨#[]⟩ none 0 0 (fun _ => .nil)
theorem nilP_in (w : World) : PIn w nilP := ⟨Nat.zero_le _, fun i hi => absurd hi (Nat.not_lt_zero i)⟩
theorem nilL_in (w : World) : TIn w nilL := ⟨Nat.zero_le _, Nat.zero_le _, fun i hi => absurd hi (Nat.not_lt_zero i)⟩
/-- What is answered of a program's text: a program, a place, an errno. -/
def KP (n : Nat) (s : ByteArray) (P : Pg) (a k : Int) : Prop :=
  (6000 < s.size ∧ P = nilP ∧ a = 0 ∧ k = 2) ∨ (s.size ≤ 6000 ∧ ∃ q : Nat, pProg s.data.toList n (s.size + 1) 0 = .no q ∧ P = nilP ∧ a = q ∧ k = 1) ∨
    (s.size ≤ 6000 ∧ ∃ ds q, pProg s.data.toList n (s.size + 1) 0 = .ok ds q ∧ ((progV (pgOf ds) = 0 ∧ PSim P ds ∧ a = 0 ∧ k = 0) ∨ (progV (pgOf ds) ≠ 0 ∧ P = nilP ∧ a = 0 ∧ k = progV (pgOf ds))))
def KG (n : Nat) (s : ByteArray) (T : Tm) (a k : Int) : Prop :=
  (6000 < s.size ∧ T = nilL ∧ a = 0 ∧ k = 2) ∨ (s.size ≤ 6000 ∧ ∃ q : Nat, pGoals s.data.toList n = .no q ∧ T = nilL ∧ a = q ∧ k = 1) ∨
    (s.size ≤ 6000 ∧ ∃ us q, pGoals s.data.toList n = .ok us q ∧ ((queryV (lstT us) = 0 ∧ BSim T us ∧ a = 0 ∧ k = 0) ∨ (queryV (lstT us) ≠ 0 ∧ T = nilL ∧ a = 0 ∧ k = queryV (lstT us))))
theorem KP.same {n : Nat} {s : ByteArray} {P P' : Pg} {a a' k k' : Int} (h : KP n s P a k) (h' : KP n s P' a' k') : a = a' ∧ k = k' ∧ samePg P P' = true := by
  rcases h with ⟨h1, rfl, rfl, rfl⟩ | ⟨h1, q, hp, rfl, rfl, rfl⟩ | ⟨h1, ds, q, hp, hv⟩
  · rcases h' with ⟨_, rfl, rfl, rfl⟩ | ⟨h2, _⟩ | ⟨h2, _⟩
    · exact ⟨rfl, rfl, rfl⟩
    · omega
    · omega
  · rcases h' with ⟨h2, _⟩ | ⟨_, q', hp', rfl, rfl, rfl⟩ | ⟨_, ds', q', hp', _⟩
    · omega
    · rw [hp] at hp'
      obtain rfl := R.no.inj hp'
      exact ⟨rfl, rfl, rfl⟩
    · rw [hp] at hp'; exact absurd hp' (by simp)
  · rcases h' with ⟨h2, _⟩ | ⟨_, q', hp', _⟩ | ⟨_, ds', q', hp', hv'⟩
    · omega
    · rw [hp] at hp'; exact absurd hp' (by simp)
    · rw [hp] at hp'
      obtain ⟨rfl, rfl⟩ := R.ok.inj hp'
      rcases hv with ⟨hv, hS, rfl, rfl⟩ | ⟨hv, rfl, rfl, rfl⟩
      · rcases hv' with ⟨_, hS', rfl, rfl⟩ | ⟨hv2, _⟩
        · exact ⟨rfl, rfl, hS.same hS'⟩
        · exact absurd hv hv2
      · rcases hv' with ⟨hv2, _⟩ | ⟨_, rfl, rfl, rfl⟩
        · exact absurd hv2 hv
        · exact ⟨rfl, rfl, rfl⟩
theorem KG.same {n : Nat} {s : ByteArray} {P P' : Tm} {a a' k k' : Int} (h : KG n s P a k) (h' : KG n s P' a' k') : a = a' ∧ k = k' ∧ sameTs P P' = true := by
  rcases h with ⟨h1, rfl, rfl, rfl⟩ | ⟨h1, q, hp, rfl, rfl, rfl⟩ | ⟨h1, ds, q, hp, hv⟩
  · rcases h' with ⟨_, rfl, rfl, rfl⟩ | ⟨h2, _⟩ | ⟨h2, _⟩
    · exact ⟨rfl, rfl, rfl⟩
    · omega
    · omega
  · rcases h' with ⟨h2, _⟩ | ⟨_, q', hp', rfl, rfl, rfl⟩ | ⟨_, ds', q', hp', _⟩
    · omega
    · rw [hp] at hp'
      obtain rfl := R.no.inj hp'
      exact ⟨rfl, rfl, rfl⟩
    · rw [hp] at hp'; exact absurd hp' (by simp)
  · rcases h' with ⟨h2, _⟩ | ⟨_, q', hp', _⟩ | ⟨_, ds', q', hp', hv'⟩
    · omega
    · rw [hp] at hp'; exact absurd hp' (by simp)
    · rw [hp] at hp'
      obtain ⟨rfl, rfl⟩ := R.ok.inj hp'
      rcases hv with ⟨hv, hS, rfl, rfl⟩ | ⟨hv, rfl, rfl, rfl⟩
      · rcases hv' with ⟨_, hS', rfl, rfl⟩ | ⟨hv2, _⟩
        · exact ⟨rfl, rfl, hS.same hS'⟩
        · exact absurd hv hv2
      · rcases hv' with ⟨hv2, _⟩ | ⟨_, rfl, rfl, rfl⟩
        · exact absurd hv2 hv
        · exact ⟨rfl, rfl, rfl⟩
theorem parse_k (n : Nat) (s : ByteArray) (w : World) (hs : s.size ≤ maxLen) (hn : s.size ≤ n) :
    Calls Tryd.prog 13 #[.string s] w fun e w' => ∃ (P : Pg) (a k : Int), e = .returned (.tuple #[.slice P.a P.len P.cap, .int .i64 a, .int .i64 k]) ∧ KP n s P a k ∧ PIn w' P ∧ Below w.heap.size w w' := by
  refine (door13 n s w hs hn).mono ?_
  rintro e w1 ⟨hB, (⟨h1, rfl⟩ | ⟨h1, q, hp, rfl⟩ | ⟨h1, P, ds, q, hp, hS, hP, _, (⟨hv, rfl⟩ | ⟨hv, rfl⟩)⟩)⟩
  · exact ⟨nilP, 0, 2, rfl, .inl ⟨h1, rfl, rfl, rfl⟩, nilP_in _, hB⟩
  · exact ⟨nilP, q, 1, rfl, .inr (.inl ⟨h1, q, hp, rfl, rfl, rfl⟩), nilP_in _, hB⟩
  · exact ⟨P, 0, 0, rfl, .inr (.inr ⟨h1, ds, q, hp, .inl ⟨by rw [← hS.prog.1]; exact hv, hS, rfl, rfl⟩⟩), hP, hB⟩
  · exact ⟨nilP, 0, progV P, rfl, .inr (.inr ⟨h1, ds, q, hp, .inr ⟨by rw [← hS.prog.1]; exact hv, rfl, rfl, hS.prog.1⟩⟩), nilP_in _, hB⟩
theorem read_k (n : Nat) (s : ByteArray) (w : World) (hs : s.size ≤ maxLen) (hn : s.size < n) :
    Calls Tryd.prog 15 #[.string s] w fun e w' => ∃ (P : Pg) (a k : Int), e = .returned (.tuple #[.slice P.a P.len P.cap, .int .i64 a, .int .i64 k]) ∧ KP n s P a k ∧ PIn w' P ∧ Below w.heap.size w w' := by
  refine (readProgram_any n s w hs hn).mono ?_
  rintro e w1 ⟨hB, (⟨h1, rfl⟩ | ⟨h1, q, hp, rfl⟩ | ⟨h1, P, ds, q, hp, hS, hP, (⟨hv, rfl⟩ | ⟨hv, rfl⟩)⟩)⟩
  · exact ⟨nilP, 0, 2, rfl, .inl ⟨h1, rfl, rfl, rfl⟩, nilP_in _, hB⟩
  · exact ⟨nilP, q, 1, rfl, .inr (.inl ⟨h1, q, hp, rfl, rfl, rfl⟩), nilP_in _, hB⟩
  · exact ⟨P, 0, 0, rfl, .inr (.inr ⟨h1, ds, q, hp, .inl ⟨by rw [← hS.prog.1]; exact hv, hS, rfl, rfl⟩⟩), hP, hB⟩
  · exact ⟨nilP, 0, progV P, rfl, .inr (.inr ⟨h1, ds, q, hp, .inr ⟨by rw [← hS.prog.1]; exact hv, rfl, rfl, hS.prog.1⟩⟩), nilP_in _, hB⟩
theorem parseGoals_k (n : Nat) (s : ByteArray) (w : World) (hs : s.size ≤ maxLen) (hn : s.size < n) :
    Calls Tryd.prog 14 #[.string s] w fun e w' => ∃ (T : Tm) (a k : Int), e = .returned (.tuple #[.slice T.a T.len T.cap, .int .i64 a, .int .i64 k]) ∧ KG n s T a k ∧ TIn w' T ∧ Below w.heap.size w w' := by
  refine (door14 n s w hs hn).mono ?_
  rintro e w1 ⟨hB, (⟨h1, rfl⟩ | ⟨h1, q, hp, rfl⟩ | ⟨h1, P, ds, q, hp, hS, hP, _, (⟨hv, rfl⟩ | ⟨hv, rfl⟩)⟩)⟩
  · exact ⟨nilL, 0, 2, rfl, .inl ⟨h1, rfl, rfl, rfl⟩, nilL_in _, hB⟩
  · exact ⟨nilL, q, 1, rfl, .inr (.inl ⟨h1, q, hp, rfl, rfl, rfl⟩), nilL_in _, hB⟩
  · exact ⟨P, 0, 0, rfl, .inr (.inr ⟨h1, ds, q, hp, .inl ⟨by rw [← hS.query.1]; exact hv, hS, rfl, rfl⟩⟩), hP, hB⟩
  · exact ⟨nilL, 0, queryV P, rfl, .inr (.inr ⟨h1, ds, q, hp, .inr ⟨by rw [← hS.query.1]; exact hv, rfl, rfl, hS.query.1⟩⟩), nilL_in _, hB⟩
theorem readGoals_k (n : Nat) (s : ByteArray) (w : World) (hs : s.size ≤ maxLen) (hn : s.size < n) :
    Calls Tryd.prog 16 #[.string s] w fun e w' => ∃ (T : Tm) (a k : Int), e = .returned (.tuple #[.slice T.a T.len T.cap, .int .i64 a, .int .i64 k]) ∧ KG n s T a k ∧ TIn w' T ∧ Below w.heap.size w w' := by
  refine (readGoals_any n s w hs hn).mono ?_
  rintro e w1 ⟨hB, (⟨h1, rfl⟩ | ⟨h1, q, hp, rfl⟩ | ⟨h1, P, ds, q, hp, hS, hP, (⟨hv, rfl⟩ | ⟨hv, rfl⟩)⟩)⟩
  · exact ⟨nilL, 0, 2, rfl, .inl ⟨h1, rfl, rfl, rfl⟩, nilL_in _, hB⟩
  · exact ⟨nilL, q, 1, rfl, .inr (.inl ⟨h1, q, hp, rfl, rfl, rfl⟩), nilL_in _, hB⟩
  · exact ⟨P, 0, 0, rfl, .inr (.inr ⟨h1, ds, q, hp, .inl ⟨by rw [← hS.query.1]; exact hv, hS, rfl, rfl⟩⟩), hP, hB⟩
  · exact ⟨nilL, 0, queryV P, rfl, .inr (.inr ⟨h1, ds, q, hp, .inr ⟨by rw [← hS.query.1]; exact hv, rfl, rfl, hS.query.1⟩⟩), nilL_in _, hB⟩

set_option maxRecDepth 100000 in
set_option maxHeartbeats 4000000 in
theorem law4 (s : ByteArray) (w : World) (hs : s.size ≤ maxLen) :
    Calls Tryd.prog 4 #[.string s] w fun e w' => e = .returned (.bool true) ∧ Below w.heap.size w w' := by
  have HS : Hid (s.size ≤ maxLen) := hs
  clear hs
  go_enter Tryd.func4, Tryd.ntmps4
  go_wp2_with fail
  refine (parse_k (s.size + 1) s _ HS.out (by omega)).mono ?_
  rintro e1 w1 ⟨P, a1, k1, rfl, hK1, hP1, hb1⟩
  have HK1 : Hid (KP (s.size + 1) s P a1 k1) := hK1
  have HP : Hid (PIn w1 P) := hP1
  have HB1 : Hid (Below w.heap.size w w1) := hb1
  clear hK1 hP1 hb1
  go_wp2_with fail
  refine (parseGoals_k (s.size + 1) s _ HS.out (by omega)).mono ?_
  rintro e2 w2 ⟨Q, a2, k2, rfl, hK2, hQ2, hb2⟩
  have HK2 : Hid (KG (s.size + 1) s Q a2 k2) := hK2
  have HQ : Hid (TIn w2 Q) := hQ2
  replace HP : Hid (PIn w2 P) := HP.out.below hb2
  have HB2 : Hid (Below w.heap.size w w2) := HB1.out.trans (hb2.mono HB1.out.size)
  clear hK2 hQ2 hb2
  go_wp2_with fail
  refine (read_k (s.size + 1) s _ HS.out (by omega)).mono ?_
  rintro e3 w3 ⟨X, a3, k3, rfl, hK3, hX3, hb3⟩
  obtain ⟨rfl, rfl, hs1⟩ := HK1.out.same hK3
  have HS1 : Hid (samePg P X = true) := hs1
  have HX : Hid (PIn w3 X) := hX3
  replace HP : Hid (PIn w3 P) := HP.out.below hb3
  replace HQ : Hid (TIn w3 Q) := HQ.out.below hb3
  have HB3 : Hid (Below w.heap.size w w3) := HB2.out.trans (hb3.mono HB2.out.size)
  clear hK3 hX3 hb3 hs1
  go_wp2_with fail
  refine (readGoals_k (s.size + 1) s _ HS.out (by omega)).mono ?_
  rintro e4 w4 ⟨Y, a4, k4, rfl, hK4, hY4, hb4⟩
  obtain ⟨rfl, rfl, hs2⟩ := HK2.out.same hK4
  have HS2 : Hid (sameTs Q Y = true) := hs2
  have HY : Hid (TIn w4 Y) := hY4
  replace HX : Hid (PIn w4 X) := HX.out.below hb4
  replace HP : Hid (PIn w4 P) := HP.out.below hb4
  replace HQ : Hid (TIn w4 Q) := HQ.out.below hb4
  have HB4 : Hid (Below w.heap.size w w4) := HB3.out.trans (hb4.mono HB3.out.size)
  clear hK4 hY4 hb4 hs2
  go_wp2_with fail
  refine (begun12 _).mono ?_
  rintro e w5 ⟨rfl, hb⟩
  replace HX : Hid (PIn w5 X) := HX.out.below hb
  replace HP : Hid (PIn w5 P) := HP.out.below hb
  replace HQ : Hid (TIn w5 Q) := HQ.out.below hb
  replace HY : Hid (TIn w5 Y) := HY.out.below hb
  replace HB4 : Hid (Below w.heap.size w w5) := HB4.out.trans (hb.mono HB4.out.size)
  clear hb
  go_wp2_with fail
  refine (same17 P X _ HP.out HX.out HS1.out).mono ?_
  rintro e w6 ⟨rfl, hb⟩
  replace HQ : Hid (TIn w6 Q) := HQ.out.below hb
  replace HY : Hid (TIn w6 Y) := HY.out.below hb
  replace HB4 : Hid (Below w.heap.size w w6) := HB4.out.trans (hb.mono HB4.out.size)
  clear hb
  go_wp2_with fail
  refine (same18 Q Y _ HQ.out HY.out).mono ?_
  rintro e w7 ⟨rfl, hb⟩
  replace HB4 : Hid (Below w.heap.size w w7) := HB4.out.trans (hb.mono HB4.out.size)
  clear hb
  rw [HS2.out]
  go_wp2_with fail
  go_ret
  exact ⟨rfl, HB4.out⟩
end Go.Proofs.YtmggaclaoefdaaaDoor
