/- What Parse and ParseGoals answer, as values; there and back. -/
import Derived.Test.YtmggaclaoefdaaaDoorForth
import Derived.Test.YtmggaclaoefdaaaDoorBegun2
namespace Go.Proofs.YtmggaclaoefdaaaDoor
open Go.RowKit

def nilP : Pg := { a := none, len := 0, cap := 0, hd := fun _ => .nil, bd := fun _ => .nil }
def nilL : Tm := .mk 0 ⟨#[]⟩ none 0 0 (fun _ => .nil)
theorem nilP_in (w : World) : PIn w nilP := ⟨Nat.zero_le _, fun i hi => absurd hi (Nat.not_lt_zero i)⟩
theorem nilL_in (w : World) : TIn w nilL := ⟨Nat.zero_le _, Nat.zero_le _, fun i hi => absurd hi (Nat.not_lt_zero i)⟩
/-- What is answered of a program's text: a program, a place, an errno. -/
def KP (n : Nat) (s : ByteArray) (P : Pg) (a k : Int) : Prop :=
  (6000 < s.size ∧ P = nilP ∧ a = 0 ∧ k = 2) ∨ (s.size ≤ 6000 ∧ ∃ q : Nat, pProg s.data.toList n (s.size + 1) 0 = .no q ∧ P = nilP ∧ a = q ∧ k = 1) ∨
    (s.size ≤ 6000 ∧ ∃ ds q, pProg s.data.toList n (s.size + 1) 0 = .ok ds q ∧ ((progV (pgOf ds) = 0 ∧ PSim P ds ∧ a = 0 ∧ k = 0) ∨ (progV (pgOf ds) ≠ 0 ∧ P = nilP ∧ a = 0 ∧ k = progV (pgOf ds))))
def KG (n : Nat) (s : ByteArray) (T : Tm) (a k : Int) : Prop :=
  (6000 < s.size ∧ T = nilL ∧ a = 0 ∧ k = 2) ∨ (s.size ≤ 6000 ∧ ∃ q : Nat, pGoals s.data.toList n = .no q ∧ T = nilL ∧ a = q ∧ k = 1) ∨
    (s.size ≤ 6000 ∧ ∃ us q, pGoals s.data.toList n = .ok us q ∧ ((queryV (lstT us) = 0 ∧ BSim T us ∧ a = 0 ∧ k = 0) ∨ (queryV (lstT us) ≠ 0 ∧ T = nilL ∧ a = 0 ∧ k = queryV (lstT us))))
theorem KP.same {n : Nat} {s : ByteArray} {P P' : Pg} {a a' k k' : Int} (h : KP n s P a k) (h' : KP n s P' a' k') : a = a' ∧ k = k' ∧ samePg P P' = true := by
  rcases h with ⟨h1, rfl, rfl, rfl⟩ | ⟨h1, q, hp, rfl, rfl, rfl⟩ | ⟨h1, ds, q, hp, hv⟩
  · rcases h' with ⟨_, rfl, rfl, rfl⟩ | ⟨h2, _⟩ | ⟨h2, _⟩
    · exact ⟨rfl, rfl, rfl⟩
    · omega
    · omega
  · rcases h' with ⟨h2, _⟩ | ⟨_, q', hp', rfl, rfl, rfl⟩ | ⟨_, ds', q', hp', _⟩
    · omega
    · rw [hp] at hp'
      obtain rfl := R.no.inj hp'
      exact ⟨rfl, rfl, rfl⟩
    · rw [hp] at hp'; exact absurd hp' (by simp)
  · rcases h' with ⟨h2, _⟩ | ⟨_, q', hp', _⟩ | ⟨_, ds', q', hp', hv'⟩
    · omega
    · rw [hp] at hp'; exact absurd hp' (by simp)
    · rw [hp] at hp'
      obtain ⟨rfl, rfl⟩ := R.ok.inj hp'
      rcases hv with ⟨hv, hS, rfl, rfl⟩ | ⟨hv, rfl, rfl, rfl⟩
      · rcases hv' with ⟨_, hS', rfl, rfl⟩ | ⟨hv2, _⟩
        · exact ⟨rfl, rfl, hS.same hS'⟩
        · exact absurd hv hv2
      · rcases hv' with ⟨hv2, _⟩ | ⟨_, rfl, rfl, rfl⟩
        · exact absurd hv2 hv
        · exact ⟨rfl, rfl, rfl⟩
theorem KG.same {n : Nat} {s : ByteArray} {P P' : Tm} {a a' k k' : Int} (h : KG n s P a k) (h' : KG n s P' a' k') : a = a' ∧ k = k' ∧ sameTs P P' = true := by
  rcases h with ⟨h1, rfl, rfl, rfl⟩ | ⟨h1, q, hp, rfl, rfl, rfl⟩ | ⟨h1, ds, q, hp, hv⟩
  · rcases h' with ⟨_, rfl, rfl, rfl⟩ | ⟨h2, _⟩ | ⟨h2, _⟩
    · exact ⟨rfl, rfl, rfl⟩
    · omega
    · omega
  · rcases h' with ⟨h2, _⟩ | ⟨_, q', hp', rfl, rfl, rfl⟩ | ⟨_, ds', q', hp', _⟩
    · omega
    · rw [hp] at hp'
      obtain rfl := R.no.inj hp'
      exact ⟨rfl, rfl, rfl⟩
    · rw [hp] at hp'; exact absurd hp' (by simp)
  · rcases h' with ⟨h2, _⟩ | ⟨_, q', hp', _⟩ | ⟨_, ds', q', hp', hv'⟩
    · omega
    · rw [hp] at hp'; exact absurd hp' (by simp)
    · rw [hp] at hp'
      obtain ⟨rfl, rfl⟩ := R.ok.inj hp'
      rcases hv with ⟨hv, hS, rfl, rfl⟩ | ⟨hv, rfl, rfl, rfl⟩
      · rcases hv' with ⟨_, hS', rfl, rfl⟩ | ⟨hv2, _⟩
        · exact ⟨rfl, rfl, hS.same hS'⟩
        · exact absurd hv hv2
      · rcases hv' with ⟨hv2, _⟩ | ⟨_, rfl, rfl, rfl⟩
        · exact absurd hv2 hv
        · exact ⟨rfl, rfl, rfl⟩
theorem parse_k (n : Nat) (s : ByteArray) (w : World) (hs : s.size ≤ maxLen) (hn : s.size ≤ n) :
    Calls Tryd.prog 13 #[.string s] w fun e w' => ∃ (P : Pg) (a k : Int), e = .returned (.tuple #[.slice P.a P.len P.cap, .int .i64 a, .int .i64 k]) ∧ KP n s P a k ∧ PIn w' P ∧ Below w.heap.size w w' := by
  refine (door13 n s w hs hn).mono ?_
  rintro e w1 ⟨hB, (⟨h1, rfl⟩ | ⟨h1, q, hp, rfl⟩ | ⟨h1, P, ds, q, hp, hS, hP, _, (⟨hv, rfl⟩ | ⟨hv, rfl⟩)⟩)⟩
  · exact ⟨nilP, 0, 2, rfl, .inl ⟨h1, rfl, rfl, rfl⟩, nilP_in _, hB⟩
  · exact ⟨nilP, q, 1, rfl, .inr (.inl ⟨h1, q, hp, rfl, rfl, rfl⟩), nilP_in _, hB⟩
  · exact ⟨P, 0, 0, rfl, .inr (.inr ⟨h1, ds, q, hp, .inl ⟨by rw [← hS.prog.1]; exact hv, hS, rfl, rfl⟩⟩), hP, hB⟩
  · exact ⟨nilP, 0, progV P, rfl, .inr (.inr ⟨h1, ds, q, hp, .inr ⟨by rw [← hS.prog.1]; exact hv, rfl, rfl, hS.prog.1⟩⟩), nilP_in _, hB⟩
theorem parseGoals_k (n : Nat) (s : ByteArray) (w : World) (hs : s.size ≤ maxLen) (hn : s.size < n) :
    Calls Tryd.prog 14 #[.string s] w fun e w' => ∃ (T : Tm) (a k : Int), e = .returned (.tuple #[.slice T.a T.len T.cap, .int .i64 a, .int .i64 k]) ∧ KG n s T a k ∧ TIn w' T ∧ Below w.heap.size w w' := by
  refine (door14 n s w hs hn).mono ?_
  rintro e w1 ⟨hB, (⟨h1, rfl⟩ | ⟨h1, q, hp, rfl⟩ | ⟨h1, P, ds, q, hp, hS, hP, _, (⟨hv, rfl⟩ | ⟨hv, rfl⟩)⟩)⟩
  · exact ⟨nilL, 0, 2, rfl, .inl ⟨h1, rfl, rfl, rfl⟩, nilL_in _, hB⟩
  · exact ⟨nilL, q, 1, rfl, .inr (.inl ⟨h1, q, hp, rfl, rfl, rfl⟩), nilL_in _, hB⟩
  · exact ⟨P, 0, 0, rfl, .inr (.inr ⟨h1, ds, q, hp, .inl ⟨by rw [← hS.query.1]; exact hv, hS, rfl, rfl⟩⟩), hP, hB⟩
  · exact ⟨nilL, 0, queryV P, rfl, .inr (.inr ⟨h1, ds, q, hp, .inr ⟨by rw [← hS.query.1]; exact hv, rfl, rfl, hS.query.1⟩⟩), nilL_in _, hB⟩
theorem KP.back {n : Nat} {t : ByteArray} {P X : Pg} {a k : Int} (h : KP n t X a k) (ht : t.data.toList = progT P) (hv : progV P = 0) (h6 : t.size ≤ 6000) (hn : t.size < n) : k = 0 ∧ samePg X P = true := by
  have hl : (progT P).length = t.size := by rw [← ht]; exact (size_list t).symm
  obtain ⟨ds, q, hp, hS⟩ := prog_back (okP_prog hv) (n := n) (fu := t.size + 1) (by omega) (by omega)
  rw [← ht] at hp
  have hv' : progV (pgOf ds) = 0 := by rw [← hS.prog.1]; exact hv
  rcases h with ⟨h1, _⟩ | ⟨_, q', hp', _⟩ | ⟨_, ds', q', hp', hw⟩
  · omega
  · rw [hp] at hp'; exact absurd hp' (by simp)
  · rw [hp] at hp'
    obtain ⟨rfl, rfl⟩ := R.ok.inj hp'
    rcases hw with ⟨_, hS', _, rfl⟩ | ⟨hw, _⟩
    · exact ⟨rfl, hS'.same hS⟩
    · exact absurd hv' hw
theorem KG.back {n : Nat} {t : ByteArray} {Q X : Tm} {a k : Int} (h : KG n t X a k) (ht : t.data.toList = goalsT Q) (hv : queryV Q = 0) (hn : t.size < n) : k = 0 ∧ ((t.data.toList = [116, 114, 117, 101] ∧ X.len = 0) ∨ (t.data.toList ≠ [116, 114, 117, 101] ∧ sameTs X Q = true)) := by
  have hl : (goalsT Q).length = t.size := by rw [← ht]; exact (size_list t).symm
  have h6 := goalsT_le (okQ_query hv)
  obtain ⟨us, q, hp, hS⟩ := goals_back (okQ_query hv) (n := n) (by omega)
  have hv' : queryV (lstT us) = 0 := by
    rcases hS with ⟨_, rfl⟩ | ⟨_, hS⟩
    · decide +kernel
    · rw [← hS.query.1]; exact hv
  rw [← ht] at hp hS
  rcases h with ⟨h1, _⟩ | ⟨_, q', hp', _⟩ | ⟨_, ds', q', hp', hw⟩
  · omega
  · rw [hp] at hp'; exact absurd hp' (by simp)
  · rw [hp] at hp'
    obtain ⟨rfl, rfl⟩ := R.ok.inj hp'
    rcases hw with ⟨_, hS', _, rfl⟩ | ⟨hw, _⟩
    · refine ⟨rfl, ?_⟩
      rcases hS with ⟨h1, rfl⟩ | ⟨h1, hS⟩
      · exact .inl ⟨h1, hS'.1⟩
      · exact .inr ⟨h1, hS'.same hS⟩
    · exact absurd hv' hw
theorem KP.forth {n : Nat} {s : ByteArray} {X : Pg} {a : Int} (h : KP n s X a 0) : progV X = 0 ∧ (⟨(printV X).toArray⟩ : ByteArray) = s := by
  rcases h with ⟨_, _, _, h⟩ | ⟨_, q', _, _, _, h⟩ | ⟨_, ds', q', hp', hw⟩
  · exact absurd h (by decide)
  · exact absurd h (by decide)
  · rcases hw with ⟨h0, hS', _, _⟩ | ⟨hw, _, _, e⟩
    · refine ⟨by rw [hS'.prog.1]; exact h0, ?_⟩
      rw [hS'.prog.2.2, printV, if_pos h0, prog_forth hp']
    · exact absurd e.symm hw
theorem KG.forth {n : Nat} {s : ByteArray} {X : Tm} {a : Int} (h : KG n s X a 0) : queryV X = 0 ∧ (⟨(goalsV X).toArray⟩ : ByteArray) = s := by
  rcases h with ⟨_, _, _, h⟩ | ⟨_, q', _, _, _, h⟩ | ⟨_, ds', q', hp', hw⟩
  · exact absurd h (by decide)
  · exact absurd h (by decide)
  · rcases hw with ⟨h0, hS', _, _⟩ | ⟨hw, _, _, e⟩
    · refine ⟨by rw [hS'.query.1]; exact h0, ?_⟩
      rw [hS'.query.2.2.2, goalsV, if_pos h0, goals_forth hp']
    · exact absurd e.symm hw
theorem KG.none {n : Nat} {s : ByteArray} {X : Tm} {a k : Int} (h : KG n s X a k) (hk : k ≠ 0) : X = nilL := by
  rcases h with ⟨_, h, _, _⟩ | ⟨_, q', _, h, _, _⟩ | ⟨_, ds', q', hp', hw⟩
  · exact h
  · exact h
  · rcases hw with ⟨_, _, _, e⟩ | ⟨_, h, _, _⟩
    · exact absurd e hk
    · exact h
end Go.Proofs.YtmggaclaoefdaaaDoor
