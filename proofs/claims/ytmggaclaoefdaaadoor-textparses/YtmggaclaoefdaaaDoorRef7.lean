/- The reference's reader: ReadGoals. -/
import Derived.Test.YtmggaclaoefdaaaDoorRef6
import Derived.Test.YtmggaclaoefdaaaDoorForth
namespace Go.Proofs.YtmggaclaoefdaaaDoor
open Go.RowKit

def trueT : Tm := .mk 0 ⟨#[]⟩ none 1 0 (fun _ => .mk 0 ⟨#[116, 114, 117, 101]⟩ none 0 0 (fun _ => .nil))
theorem true_query : queryV trueT = 0 := by decide +kernel
theorem true_txts : txts trueT = [116, 114, 117, 101] := by decide +kernel
theorem true_parse {n : Nat} (hn : 4 < n) : ∃ us q, pTerms [116, 114, 117, 101] n 0 = .ok us q ∧ 4 ≤ q ∧ ∀ T, BSim T us → queryV T = 0 := by
  obtain ⟨us, q, h1, h2, h3, _, _⟩ := list_back (Q := trueT) (fun i hi => by
    obtain rfl : i = 0 := by have : i < 1 := hi; omega
    decide +kernel) (show 1 ≤ 1 by omega) (l := [116, 114, 117, 101]) (p := 0) (n := n) (r := []) (by rw [true_txts]; rfl) stop_nil (by show 4 < n + 0; omega)
  refine ⟨us, q, h1, ?_, fun T hT => by rw [hT.query.1, ← h2.query.1]; exact true_query⟩
  have := congrArg List.length h3
  simp at this
  omega
def ansG (n : Nat) (s : ByteArray) (w : World) (e : Ending) (w' : World) : Prop :=
  Below w.heap.size w w' ∧ ((6000 < s.size ∧ e = .returned (.tuple #[.slice none 0 0, .int .i64 0, .int .i64 2])) ∨ (s.size ≤ 6000 ∧ ∃ q : Nat, pGoals s.data.toList n = .no q ∧ e = .returned (.tuple #[.slice none 0 0, .int .i64 q, .int .i64 1])) ∨ (s.size ≤ 6000 ∧ ∃ T us q, pGoals s.data.toList n = .ok us q ∧ BSim T us ∧ TIn w' T ∧ ((queryV T = 0 ∧ e = .returned (.tuple #[.slice T.a T.len T.cap, .int .i64 0, .int .i64 0])) ∨ (queryV T ≠ 0 ∧ e = .returned (.tuple #[.slice none 0 0, .int .i64 0, .int .i64 (queryV T)])))))

set_option maxRecDepth 100000 in
set_option maxHeartbeats 4000000 in
theorem readGoals_any (n : Nat) (s : ByteArray) (w : World) (hs : s.size ≤ maxLen) (hn : s.size < n) :
    Calls Tryd.prog 16 #[.string s] w (ansG n s w) := by
  have hs2 : s.size ≤ 2 ^ 63 - 1 := hs
  by_cases hz : 6000 < s.size
  · have hd : decide ((s.size : Int) > 6000) = true := decide_eq_true (by omega)
    have HZ : Hid (6000 < s.size) := hz
    clear hz hs hn
    go_enter Tryd.func16, Tryd.ntmps16
    go_wp2_with fail
    go_ret3
    exact ⟨Below.refl _ _, .inl ⟨HZ.out, rfl⟩⟩
  have hd : decide ((s.size : Int) > 6000) = false := decide_eq_false (by omega)
  have HZ : Hid (s.size ≤ 6000) := Nat.le_of_not_lt hz
  have HC : Hid (Calls Tryd.prog 35 #[.string s, .int .i64 0] w fun e w' => Below w.heap.size w w' ∧ ((∃ T us q, pTerms s.data.toList n 0 = .ok us q ∧ BSim T us ∧ e = .returned (.tuple #[.slice T.a T.len T.cap, .int .i64 (q : Nat), .bool true]) ∧ TIn w' T ∧ Above w.heap.size T ∧ q ≤ s.size ∧ 0 < q) ∨ (∃ q, pTerms s.data.toList n 0 = .no q ∧ e = .returned (.tuple #[.slice none 0 0, .int .i64 (q : Nat), .bool false])))) := listAt_all n s 0 w HZ.out (Nat.zero_le _) (by omega)
  have HL : Hid (s.toList = s.data.toList) := ByteArray.toList_eq s
  have HLL : Hid (s.data.toList.length = s.size) := (size_list s).symm
  have HG : Hid (pGoals s.data.toList n = if s.data.toList = [116, 114, 117, 101] then .ok [] 4 else match pTerms s.data.toList n 0 with
    | .no q => .no q
    | .ok us q => if q < s.size then .no q else .ok us q) := by rw [Hid, pGoals, HLL.out] <;> rfl
  have HT : Hid (s.data.toList = [116, 114, 117, 101] → ∃ us q, pTerms s.data.toList n 0 = .ok us q ∧ s.size ≤ q ∧ ∀ T, BSim T us → queryV T = 0) := fun e => by
    have h4 : s.size = 4 := by rw [← HLL.out, e]; rfl
    obtain ⟨us, q, h1, h2, h3⟩ := true_parse (n := n) (by omega)
    exact ⟨us, q, by rw [e]; exact h1, by omega, h3⟩
  clear hz hs hn
  go_enter Tryd.func16, Tryd.ntmps16
  go_wp2_with fail
  refine HC.out.mono ?_
  rintro e w1 ⟨hb1, (⟨T, us, q, hpt, hsim, rfl, hT1, _, hq1, _⟩ | ⟨q, hpt, rfl⟩)⟩
  case inr =>
    have HP : Hid (pGoals s.data.toList n = .no q) := by
      rw [Hid, HG.out, if_neg, hpt]
      intro e
      obtain ⟨us, q', h1, _⟩ := HT.out e
      rw [h1] at hpt; exact absurd hpt (by simp)
    have HB1 : Hid (Below w.heap.size w w1) := hb1
    clear hpt hb1
    go_wp2_with fail
    go_ret3
    exact ⟨HB1.out, .inr (.inl ⟨HZ.out, q, HP.out, rfl⟩)⟩
  have HB1 : Hid (Below w.heap.size w w1) := hb1
  have HS : Hid (BSim T us) := hsim
  have HT1 : Hid (TIn w1 T) := hT1
  by_cases hlt : q < s.size
  · have HP : Hid (pGoals s.data.toList n = .no q) := by
      rw [Hid, HG.out, if_neg, hpt]
      · simp only; rw [if_pos hlt]
      · intro e
        obtain ⟨us', q', h1, h2, _⟩ := HT.out e
        rw [h1] at hpt
        obtain ⟨rfl, rfl⟩ := R.ok.inj hpt
        omega
    have hdl : decide ((q : Int) < (s.size : Int)) = true := decide_eq_true (by omega)
    clear hpt hb1 hsim hT1
    go_wp2_with fail
    go_ret3
    exact ⟨HB1.out, .inr (.inl ⟨HZ.out, q, HP.out, rfl⟩)⟩
  have hdl : decide ((q : Int) < (s.size : Int)) = false := decide_eq_false (by omega)
  have HP : Hid (¬ s.data.toList = [116, 114, 117, 101] → pGoals s.data.toList n = .ok us q) := fun e => by
    rw [HG.out, if_neg e, hpt]
    simp only; rw [if_neg hlt]
  have HQ : Hid (s.data.toList = [116, 114, 117, 101] → queryV T = 0) := fun e => by
    obtain ⟨us', q', h1, _, h3⟩ := HT.out e
    rw [h1] at hpt
    obtain ⟨rfl, rfl⟩ := R.ok.inj hpt
    exact h3 T HS.out
  clear hpt hb1 hsim hT1
  go_wp2_with fail
  refine (checkQuery_any T _ HT1.out).mono ?_
  rintro e w2 ⟨rfl, hb2⟩
  have HB2 : Hid (Below w.heap.size w w2) := HB1.out.trans (hb2.mono HB1.out.size)
  have HT2 : Hid (TIn w2 T) := HT1.out.below hb2
  clear hb2
  by_cases hv : queryV T = 0
  · have HV : Hid (queryV T = 0) := hv
    rw [hv]
    clear hv
    cases ht : (s.toList == [116, 114, 117, 101])
    · have HP2 : Hid (pGoals s.data.toList n = .ok us q) := HP.out (by rw [← HL.out]; exact beq_eq_false_iff_ne.1 ht)
      go_wp2_with fail
      go_ret3
      exact ⟨HB2.out, .inr (.inr ⟨HZ.out, T, us, q, HP2.out, HS.out, HT2.out, .inl ⟨HV.out, rfl⟩⟩)⟩
    · have HP2 : Hid (pGoals s.data.toList n = .ok [] 4) := by rw [Hid, HG.out, if_pos (by rw [← HL.out]; exact beq_iff_eq.1 ht)]
      go_wp2_with fail
      go_ret3
      exact ⟨HB2.out, .inr (.inr ⟨HZ.out, leafT 0 ⟨#[]⟩, [], 4, HP2.out, ⟨rfl, fun i hi => absurd hi (Nat.not_lt_zero i)⟩, leaf_in _ _ _ (size2 _ (by decide)), .inl ⟨by decide +kernel, rfl⟩⟩)⟩
  · have HV : Hid (queryV T ≠ 0) := hv
    have hvb : (queryV T != 0) = true := bne_iff_ne.2 hv
    have HP2 : Hid (pGoals s.data.toList n = .ok us q) := HP.out (fun e => hv (HQ.out e))
    clear hv
    go_wp2_with fail
    go_ret3
    exact ⟨HB2.out, .inr (.inr ⟨HZ.out, T, us, q, HP2.out, HS.out, HT2.out, .inr ⟨HV.out, rfl⟩⟩)⟩
end Go.Proofs.YtmggaclaoefdaaaDoor
