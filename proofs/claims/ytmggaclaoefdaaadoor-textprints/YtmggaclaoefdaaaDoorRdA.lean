/- The reader: a program; goals. -/
import Derived.Test.YtmggaclaoefdaaaDoorRd9
namespace Go.Proofs.YtmggaclaoefdaaaDoor
open Go.RowKit

theorem Tryd.info50 : (Tryd.prog.info? 50).map (fun i => (i.zero, i.size, i.bytes)) = some (some (.agg #[.int .i64 0, .string ByteArray.empty, .slice none 0 0, .slice none 0 0]), 4, 72) := by kernel_rfl

abbrev Cl := Tm × List Tm
def prepC (ts : List Cl) : R (List Cl) → R (List Cl)
  | .ok us r => .ok (ts ++ us) r
  | .no r => .no r
theorem prepC_prep (a b : List Cl) (r : R (List Cl)) : prepC a (prepC b r) = prepC (a ++ b) r := by cases r <;> simp [prepC]
def pProg (l : List UInt8) (n : Nat) : Nat → Nat → R (List Cl)
  | 0, p => .no p
  | k + 1, p =>
    if p < l.length then
      match pClause l n p with
      | .no r => .no r
      | .ok c q => prepC [c] (pProg l n k q)
    else .ok [] p

def cells4 (c : Tm × Tm) : List Value := [.int .i64 c.1.v, .string c.1.nm, .slice c.1.a c.1.len c.1.cap, .slice c.2.a c.2.len c.2.cap]
def flat4 (l : List (Tm × Tm)) : List Value := l.flatMap cells4
theorem flat4_append (l r : List (Tm × Tm)) : flat4 (l ++ r) = flat4 l ++ flat4 r := by simp [flat4]
theorem flat4_one (l : List (Tm × Tm)) : ∀ u ∈ flat4 l, u.oneCell' = true := by
  intro u hu
  obtain ⟨T, _, hT⟩ := List.mem_flatMap.1 hu
  simp only [cells4, List.mem_cons, List.not_mem_nil, or_false] at hT
  rcases hT with rfl | rfl | rfl | rfl <;> rfl
theorem flat4_get (l : List (Tm × Tm)) : ∀ (k : Nat) (h : k < l.length), (flat4 l)[k * 4]? = some (.int .i64 l[k].1.v) ∧ (flat4 l)[k * 4 + 1]? = some (.string l[k].1.nm) ∧ (flat4 l)[k * 4 + 2]? = some (.slice l[k].1.a l[k].1.len l[k].1.cap) ∧ (flat4 l)[k * 4 + 3]? = some (.slice l[k].2.a l[k].2.len l[k].2.cap) := by
  induction l with
  | nil => intro k h; simp at h
  | cons x r ih =>
    have e : flat4 (x :: r) = cells4 x ++ flat4 r := by simp [flat4]
    intro k h
    cases k with
    | zero => rw [e]; exact ⟨rfl, rfl, rfl, rfl⟩
    | succ k =>
      have hk : k < r.length := by simpa using h
      obtain ⟨h0, h1, h2, h3⟩ := ih k hk
      have hl : (cells4 x).length = 4 := rfl
      rw [e]
      refine ⟨?_, ?_, ?_, ?_⟩
      · rw [List.getElem?_append_right (by rw [hl]; omega), hl, show (k + 1) * 4 - 4 = k * 4 by omega]; exact h0
      · rw [List.getElem?_append_right (by rw [hl]; omega), hl, show (k + 1) * 4 + 1 - 4 = k * 4 + 1 by omega]; exact h1
      · rw [List.getElem?_append_right (by rw [hl]; omega), hl, show (k + 1) * 4 + 2 - 4 = k * 4 + 2 by omega]; exact h2
      · rw [List.getElem?_append_right (by rw [hl]; omega), hl, show (k + 1) * 4 + 3 - 4 = k * 4 + 3 by omega]; exact h3

def CSim (c : Tm × Tm) (d : Cl) : Prop := Sim c.1 d.1 ∧ BSim c.2 d.2
def nilC : Tm × Tm := (.nil, .nil)
def nilD : Cl := (.nil, [])
/-- A list of clauses that is being built. -/
structure LstC (lo : Nat) (w : World) (v : Value) (cs : List (Tm × Tm)) (ds : List Cl) : Prop where
  own : w.ownsRow lo 50 4 v cs.length (flat4 cs)
  all : ∀ c ∈ cs, TIn w c.1 ∧ TIn w c.2 ∧ Above lo c.1 ∧ Above lo c.2 ∧ ∀ g, v.ownBlock = some g → NB g c.1 ∧ NB g c.2
  len : cs.length = ds.length
  sim : ∀ i, i < cs.length → CSim (cs.getD i nilC) (ds.getD i nilD)
theorem LstC.keep {lo : Nat} {w w' : World} {v : Value} {b : Nat} {cs : List (Tm × Tm)} {ds : List Cl} (h : LstC lo w v cs ds) (hG : G b w w') (hb : b < lo) : LstC lo w' v cs ds := by
  refine ⟨h.own.kept hG ?_, fun c hc => ?_, h.len, h.sim⟩
  · cases hv : v.ownBlock with
    | none => exact .inl rfl
    | some g => have := (h.own.lt g hv).1; exact .inr (by simp; omega)
  · obtain ⟨h1, h2, h3, h4, h5⟩ := h.all c hc
    exact ⟨h1.grown hG (fun k hk => by obtain rfl := Option.some.inj hk; exact h3.nb hb), h2.grown hG (fun k hk => by obtain rfl := Option.some.inj hk; exact h4.nb hb), h3, h4, h5⟩
theorem LstC.more {lo : Nat} {w4 w5 : World} {v v' : Value} {cs : List (Tm × Tm)} {ds : List Cl} {c : Tm × Tm} {d : Cl} (h : LstC lo w4 v cs ds) (hT : TIn w4 c.1) (hB : TIn w4 c.2) (hA : Above lo c.1) (hAB : Above lo c.2)
    (hN : ∀ g, v.ownBlock = some g → NB g c.1 ∧ NB g c.2) (hS : CSim c d)
    (hown : w5.ownsRow lo 50 4 v' (cs.length + 1) (flat4 cs ++ flat4 [c])) (hg : w4.grownBy w5 v.ownBlock) (hat : v'.ownBlock = v.ownBlock ∨ v'.ownBlock = some w4.heap.size) : LstC lo w5 v' (cs ++ [c]) (ds ++ [d]) := by
  have hnb : ∀ X : Tm, TIn w4 X → (∀ g, v.ownBlock = some g → NB g X) → ∀ g, v'.ownBlock = some g → NB g X := fun X h1 h2 g hg => by
    rcases hat with e | e
    · exact h2 g (by rw [← e]; exact hg)
    · have : g = w4.heap.size := by rw [e] at hg; exact (Option.some.inj hg).symm
      exact h1.nb (by omega)
  refine ⟨?_, ?_, ?_, ?_⟩
  · rw [flat4_append, List.length_append]; exact hown
  · intro X hX
    rcases List.mem_append.1 hX with hX | hX
    · obtain ⟨h1, h2, h3, h4, h5⟩ := h.all X hX
      exact ⟨h1.grown hg (fun k hk => (h5 k hk).1), h2.grown hg (fun k hk => (h5 k hk).2), h3, h4, fun g hg' => ⟨hnb _ h1 (fun k hk => (h5 k hk).1) g hg', hnb _ h2 (fun k hk => (h5 k hk).2) g hg'⟩⟩
    · rw [List.mem_singleton] at hX
      subst hX
      exact ⟨hT.grown hg (fun k hk => (hN k hk).1), hB.grown hg (fun k hk => (hN k hk).2), hA, hAB, fun g hg' => ⟨hnb _ hT (fun k hk => (hN k hk).1) g hg', hnb _ hB (fun k hk => (hN k hk).2) g hg'⟩⟩
  · rw [List.length_append, List.length_append, h.len]; rfl
  · intro i hi
    rw [List.length_append] at hi
    by_cases hl : i < cs.length
    · have h1 := h.sim i hl
      simpa [List.getD, List.getElem?_append_left hl, List.getElem?_append_left (show i < ds.length by rw [← h.len]; exact hl)] using h1
    · have hi' : i = cs.length := by simp at hi; omega
      subst hi'
      have e : ds.length = cs.length := h.len.symm
      simpa [List.getD, List.getElem?_append_right, e] using hS
/-- A program, as it lies, and as it was read. -/
def PSim (P : Pg) (ds : List Cl) : Prop := P.len = ds.length ∧ ∀ i, i < P.len → CSim (P.hd i, P.bd i) (ds.getD i nilD)
def PAbove (lo : Nat) (P : Pg) : Prop := (0 < P.len → ∃ b o, P.a = some ⟨b, o, none⟩ ∧ lo ≤ b) ∧ ∀ i, i < P.len → Above lo (P.hd i) ∧ Above lo (P.bd i)
theorem LstC.prog {lo : Nat} {w : World} {v : Value} {cs : List (Tm × Tm)} {ds : List Cl} (h : LstC lo w v cs ds) :
    ∃ P : Pg, v = .slice P.a P.len P.cap ∧ PIn w P ∧ PAbove lo P ∧ PSim P ds := by
  have hget : ∀ i (hi : i < cs.length), cs.getD i nilC = cs[i] := fun i hi => by simp [List.getD, List.getElem?_eq_getElem hi]
  rcases h.own.2 with ⟨rfl, h0⟩ | ⟨g, cap, cur, rfl, hlo, hgg, hnc, hcm, hsz, htk⟩
  · refine ⟨{ a := none, len := 0, cap := 0, hd := fun _ => .nil, bd := fun _ => .nil }, rfl, ⟨Nat.zero_le _, fun i hi => absurd hi (Nat.not_lt_zero i)⟩, ⟨fun h => absurd h (Nat.lt_irrefl 0), fun i hi => absurd hi (Nat.not_lt_zero i)⟩, ?_, fun i hi => absurd hi (Nat.not_lt_zero i)⟩
    show 0 = ds.length
    rw [← h.len, h0]
  · refine ⟨{ a := some ⟨g, 0, none⟩, len := cs.length, cap := cap, hd := fun i => (cs.getD i nilC).1, bd := fun i => (cs.getD i nilC).2 }, rfl, ⟨(show cs.length ≤ maxLen from Nat.le_trans hnc hcm), fun i hi => ?_⟩, ⟨fun _ => ⟨g, 0, rfl, hlo⟩, fun i hi => ?_⟩, h.len, fun i hi => h.sim i hi⟩
    · have hi' : i < cs.length := hi
      obtain ⟨f0, f1, f2, f3⟩ := flat4_get cs i hi'
      have hm := h.all _ (List.getElem_mem hi')
      show ClAt w _ i (cs.getD i nilC).1 (cs.getD i nilC).2 ∧ TIn w (cs.getD i nilC).1 ∧ TIn w (cs.getD i nilC).2
      rw [hget i hi']
      refine ⟨⟨g, 0, rfl, ?_, ?_, ?_, ?_⟩, hm.1, hm.2.1⟩
      · rw [Nat.zero_add]; exact (h.own.cellAt (i * 4) (by omega)).trans f0
      · rw [Nat.zero_add]; exact (h.own.cellAt (i * 4 + 1) (by omega)).trans f1
      · rw [Nat.zero_add]; exact (h.own.cellAt (i * 4 + 2) (by omega)).trans f2
      · rw [Nat.zero_add]; exact (h.own.cellAt (i * 4 + 3) (by omega)).trans f3
    · have hi' : i < cs.length := hi
      have hm := h.all _ (List.getElem_mem hi')
      show Above lo (cs.getD i nilC).1 ∧ Above lo (cs.getD i nilC).2
      rw [hget i hi']
      exact ⟨hm.2.2.1, hm.2.2.2.1⟩
end Go.Proofs.YtmggaclaoefdaaaDoor
