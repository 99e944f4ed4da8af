/- What is printed is parsed as it was: over the texts alone. -/
import Derived.Test.YtmggaclaoefdaaaDoorSim
namespace Go.Proofs.YtmggaclaoefdaaaDoor
open Go.RowKit

/-- Nothing that could belong to a word, nor a bracket, begins there. -/
def Stop (r : List UInt8) : Prop := ∀ c, r.head? = some c → inn c = false ∧ c ≠ 40

theorem get_drop {l : List UInt8} {p : Nat} {r : List UInt8} (h : l.drop p = r) (j : Nat) : l[p + j]? = r[j]? := by
  rw [← h, List.getElem?_drop]
theorem get_drop0 {l : List UInt8} {p : Nat} {r : List UInt8} (h : l.drop p = r) : l[p]? = r.head? := by
  have := get_drop h 0
  rw [Nat.add_zero] at this
  rw [this, List.head?_eq_getElem?]
theorem drop_on {l : List UInt8} {p : Nat} {a r : List UInt8} (h : l.drop p = a ++ r) : l.drop (p + a.length) = r := by
  rw [← List.drop_drop, h, List.drop_left]
theorem drop_le {l : List UInt8} {p : Nat} {a r : List UInt8} (h : l.drop p = a ++ r) (ha : 1 ≤ a.length) : p + a.length ≤ l.length := by
  have := congrArg List.length h
  simp at this
  omega
theorem mAt_yes {l : List UInt8} {x : List UInt8} : ∀ {p : Nat} {r : List UInt8}, l.drop p = x ++ r → mAt l p x = none := by
  induction x with
  | nil => intro p r _; rfl
  | cons c x ih =>
    intro p r h
    rw [mAt, if_pos (by rw [get_drop0 h]; rfl)]
    exact ih (r := r) (by have := drop_on (a := [c]) (r := x ++ r) (by simpa using h); simpa using this)
theorem mAt_no {l : List UInt8} {x : List UInt8} : ∀ {p : Nat}, mAt l p x = none → l.drop p = x ++ l.drop (p + x.length) := by
  induction x with
  | nil => intro p _; simp
  | cons c x ih =>
    intro p h
    rw [mAt] at h
    split at h
    · rename_i hc
      have := ih h
      have hp : p < l.length := by
        by_cases hp : p < l.length
        · exact hp
        · rw [List.getElem?_eq_none (by omega)] at hc; simp at hc
      rw [List.drop_eq_getElem_cons hp, this]
      rw [List.getElem?_eq_getElem hp] at hc
      simp at hc
      simp [hc, Nat.add_assoc, Nat.add_comm 1]
    · simp at h
theorem tw_app {a r : List UInt8} (ha : a.all inn = true) (hr : ∀ c, r.head? = some c → inn c = false) : (a ++ r).takeWhile inn = a := by
  induction a with
  | nil =>
    cases r with
    | nil => rfl
    | cons c r => have := hr c rfl; simp [this]
  | cons c a ih =>
    simp at ha
    rw [List.cons_append, List.takeWhile_cons, if_pos ha.1, ih (by simpa using ha.2)]
theorem dig1_nat (v : Nat) (h : v < 10) : (dig1 v).toNat = 48 + v := by
  unfold dig1
  simp
  omega
theorem btw_yes {n l m : Int} (h1 : l ≤ n) (h2 : n ≤ m) : btw n l m = true := by simp [btw, h1, h2]
theorem inn_dig {c : UInt8} (h : inn c = false) : btw (c.toNat : Int) 48 57 = false := by
  simp [inn, innerI] at h
  exact h.1.2
theorem pVar_back {l : List UInt8} {p v : Nat} {r : List UInt8} (h : l.drop p = 86 :: digs v ++ r) (hv : 1 ≤ v) (hv2 : v ≤ 99) (hr : Stop r) : pVar l p = .ok v (p + 1 + (digs v).length) := by
  unfold digs at h ⊢
  by_cases hlt : v < 10
  · rw [if_pos hlt] at h ⊢
    have g1 : l[p + 1]? = some (dig1 v) := by rw [get_drop h 1]; rfl
    have g2 : l[p + 2]? = r.head? := by rw [get_drop h 2, List.head?_eq_getElem?]; rfl
    have hd : dig0 ((dig1 v).toNat : Int) = true := by
      rw [dig1_nat v hlt, dig0, btw_yes (by omega) (by omega)]
      simp; omega
    unfold pVar
    rw [g1]
    simp only [hd, if_true]
    rw [g2]
    cases hh : r.head? with
    | none => simp only [dig1_nat v hlt]; congr 1; omega
    | some d =>
      simp only [inn_dig (hr d hh).1]
      simp [dig1_nat v hlt]
  · rw [if_neg hlt] at h ⊢
    have h1 : v / 10 < 10 := by omega
    have h2 : v % 10 < 10 := by omega
    have g1 : l[p + 1]? = some (dig1 (v / 10)) := by rw [get_drop h 1]; rfl
    have g2 : l[p + 2]? = some (dig1 (v % 10)) := by rw [get_drop h 2]; rfl
    have hd : dig0 ((dig1 (v / 10)).toNat : Int) = true := by
      rw [dig1_nat _ h1, dig0, btw_yes (by omega) (by omega)]
      simp; omega
    have hd2 : btw ((dig1 (v % 10)).toNat : Int) 48 57 = true := by rw [dig1_nat _ h2]; exact btw_yes (by omega) (by omega)
    unfold pVar
    rw [g1]
    simp only [hd, if_true]
    rw [g2]
    show (if btw ((dig1 (v % 10)).toNat : Int) 48 57 = true then R.ok (10 * ((dig1 (v / 10)).toNat - 48) + ((dig1 (v % 10)).toNat - 48)) (p + 3) else R.ok ((dig1 (v / 10)).toNat - 48) (p + 2)) = _
    rw [if_pos hd2, dig1_nat _ h1, dig1_nat _ h2]
    congr 1
    omega
theorem pName_back {l : List UInt8} {p : Nat} {nm : ByteArray} {r : List UInt8} (h : l.drop p = nm.data.toList ++ r) (hn : nameB nm = true) (hr : ∀ c, r.head? = some c → inn c = false) : l[p]? ≠ some 86 ∧ pName l p = .ok nm.data.toList (p + nm.data.toList.length) ∧ 1 ≤ nm.data.toList.length := by
  rw [nameB, Bool.or_eq_true] at hn
  rcases hn with hn | hn
  · have e : nm.data.toList = [33] := by rw [← ByteArray.toList_eq]; exact beq_iff_eq.1 hn
    rw [e] at h ⊢
    have g : l[p]? = some 33 := by rw [get_drop0 h]; rfl
    refine ⟨by rw [g]; decide, ?_, by decide⟩
    rw [pName, if_pos g]; rfl
  · simp only [wordB, Bool.and_eq_true, decide_eq_true_eq] at hn
    obtain ⟨⟨⟨h1, h8⟩, hf⟩, ha⟩ := hn
    rw [size_list] at h1
    cases e : nm.data.toList with
    | nil => rw [e] at h1; simp at h1
    | cons c t =>
      rw [e] at h hf ha
      have g : l[p]? = some c := by rw [get_drop0 h]; rfl
      have hb : btw (c.toNat : Int) 97 122 = true := hf
      have hw : wl l p = (c :: t).length := by rw [wl, h, tw_app ha hr]
      have hc : 97 ≤ c.toNat := by simp [btw] at hb; omega
      refine ⟨by rw [g]; intro e2; simp at e2; subst e2; simp at hc, ?_, by simp⟩
      rw [pName, if_neg (by rw [g]; intro e2; simp at e2; subst e2; simp at hc), g]
      simp only [hb, if_true]
      rw [hw, h, List.take_left]

/-- What stands behind the first of a list of texts. -/
def tl (g : Nat → List UInt8) : Nat → Nat → List UInt8
  | _, 0 => []
  | i, m + 1 => [44, 32] ++ g i ++ tl g (i + 1) m
theorem tl_snoc (g : Nat → List UInt8) : ∀ m i, tl g i (m + 1) = tl g i m ++ [44, 32] ++ g (i + m) := by
  intro m
  induction m with
  | zero => intro i; simp [tl]
  | succ m ih =>
    intro i
    rw [tl, ih (i + 1), tl]
    simp [Nat.add_assoc, Nat.add_comm 1]
theorem txtTo_tl (g : Nat → List UInt8) : ∀ k, txtTo g (k + 1) = g 0 ++ tl g 1 k := by
  intro k
  induction k with
  | zero => simp [txtTo, tl]
  | succ k ih =>
    rw [txtTo, ih, tl_snoc, if_neg (by omega)]
    simp [Nat.add_comm 1]
theorem tl_shift (g : Nat → List UInt8) : ∀ m i, tl g (i + 1) m = tl (fun j => g (j + 1)) i m := by
  intro m
  induction m with
  | zero => intro i; rfl
  | succ m ih => intro i; rw [tl, tl, ih]
theorem txtTo_cons (g : Nat → List UInt8) (k : Nat) : txtTo g (k + 2) = g 0 ++ [44, 32] ++ txtTo (fun j => g (j + 1)) (k + 1) := by
  rw [txtTo_tl, txtTo_tl, tl, tl_shift]; simp

def Stop2 (r : List UInt8) : Prop := Stop r ∧ r.head? ≠ some 44
theorem stop_comma (r : List UInt8) : Stop (44 :: r) := by
  intro c h
  simp at h
  subst h
  exact ⟨by decide, by decide⟩
theorem stop_close (r : List UInt8) : Stop2 (41 :: r) := ⟨fun c h => by simp at h; subst h; exact ⟨by decide, by decide⟩, by simp⟩
theorem stop_dot (r : List UInt8) : Stop2 (46 :: r) := ⟨fun c h => by simp at h; subst h; exact ⟨by decide, by decide⟩, by simp⟩
theorem stop_blank (r : List UInt8) : Stop2 (32 :: r) := ⟨fun c h => by simp at h; subst h; exact ⟨by decide, by decide⟩, by simp⟩
theorem stop_nil : Stop2 [] := ⟨fun c h => by simp at h, by simp⟩

/-- One term is parsed back. -/
def TB (T : Tm) : Prop := ∀ (l : List UInt8) (p n : Nat) (r : List UInt8), l.drop p = txt T ++ r → Stop r → l.length ≤ n + p → ∃ U q, pTermW (pTerms l n) l p = .ok U q ∧ Sim T U ∧ l.drop q = r ∧ p < q ∧ q ≤ l.length

theorem terms_back (f : Nat → Tm) : ∀ (m i : Nat), (∀ j, j ≤ m → TB (f (i + j))) → ∀ (l : List UInt8) (p n : Nat) (r : List UInt8), l.drop p = txt (f i) ++ tl (fun j => txt (f j)) (i + 1) m ++ r → Stop2 r → l.length < n + p →
    ∃ us q, pTerms l n p = .ok us q ∧ us.length = m + 1 ∧ (∀ j, j ≤ m → Sim (f (i + j)) (us.getD j .nil)) ∧ l.drop q = r ∧ p < q ∧ q ≤ l.length := by
  intro m
  induction m with
  | zero =>
    intro i hT l p n r h hr hn
    rw [tl, List.append_nil] at h
    by_cases hn0 : n = 0
    · subst hn0
      have : l.drop p = [] := List.drop_eq_nil_iff.2 (by omega)
      obtain ⟨U, q, h1, h2, h3, h4, h5⟩ := hT 0 (Nat.le_refl _) l p 0 r h hr.1 (by omega)
      omega
    obtain ⟨k, rfl⟩ : ∃ k, n = k + 1 := ⟨n - 1, by omega⟩
    obtain ⟨U, q, h1, h2, h3, h4, h5⟩ := hT 0 (Nat.le_refl _) l p k r h hr.1 (by omega)
    refine ⟨[U], q, ?_, rfl, fun j hj => ?_, h3, h4, h5⟩
    · rw [pTerms, h1]
      simp only
      rw [pTailW, if_neg (by rw [get_drop0 h3]; exact hr.2)]
      rfl
    · obtain rfl := Nat.le_zero.1 hj
      exact h2
  | succ m ih =>
    intro i hT l p n r h hr hn
    by_cases hn0 : n = 0
    · subst hn0
      obtain ⟨U, q, h1, h2, h3, h4, h5⟩ := hT 0 (Nat.zero_le _) l p 0 (tl (fun j => txt (f j)) (i + 1) (m + 1) ++ r) (by rw [h]; simp) (by rw [tl]; exact stop_comma _) (by omega)
      omega
    obtain ⟨k, rfl⟩ : ∃ k, n = k + 1 := ⟨n - 1, by omega⟩
    obtain ⟨U, q, h1, h2, h3, h4, h5⟩ := hT 0 (Nat.zero_le _) l p k (tl (fun j => txt (f j)) (i + 1) (m + 1) ++ r) (by rw [h]; simp) (by rw [tl]; exact stop_comma _) (by omega)
    rw [tl] at h3
    have h3' : l.drop q = [44, 32] ++ (txt (f (i + 1)) ++ tl (fun j => txt (f j)) (i + 1 + 1) m ++ r) := by rw [h3]; simp
    have h6 := drop_on h3'
    have h7 := drop_le h3' (by decide)
    obtain ⟨us, q2, e1, e2, e3, e4, e5, e6⟩ := ih (i + 1) (fun j hj => by have := hT (j + 1) (by omega); rwa [show i + (j + 1) = i + 1 + j from by omega] at this) l (q + 2) k r h6 hr (by omega)
    refine ⟨U :: us, q2, ?_, by simp [e2], fun j hj => ?_, e4, by omega, e6⟩
    · rw [pTerms, h1]
      simp only
      rw [pTailW, if_pos (by rw [get_drop0 h3]; rfl), mAt_yes h3']
      simp only
      rw [e1]
      rfl
    · cases j with
      | zero => exact h2
      | succ j =>
        have := e3 j (by omega)
        rw [show i + (j + 1) = i + 1 + j from by omega]
        simpa using this

theorem ok_nameB {T : Tm} (h : err T = 0) (hv : T.v = 0) : nameB T.nm = true := by
  have hp := ok_part h
  rw [partE, if_neg (by simp [hv])] at hp
  cases hn : nameB T.nm with
  | true => rfl
  | false => rw [hn] at hp; simp at hp
theorem ok_noname {T : Tm} (h : err T = 0) (hv : T.v ≠ 0) : T.nm.data.toList = [] := by
  have hp := ok_part h
  rw [partE, if_pos hv, varE] at hp
  rw [← ByteArray.toList_eq]
  split at hp
  · omega
  · split at hp
    · omega
    · split at hp
      · assumption
      · omega
theorem term_back (T : Tm) : err T = 0 → TB T := by
  induction T with
  | nil => intro h; exact absurd h (by decide +kernel)
  | mk v nm a len cap f ih =>
    intro herr l p n r h hr hn
    by_cases hv : v = 0
    · have hname := ok_nameB herr hv
      have hname : nameB nm = true := hname
      have hkid : ∀ i, i < len → err (f i) = 0 := fun i hi => ok_kid (T := .mk v nm a len cap f) herr hi
      rw [txt, if_pos hv] at h
      by_cases hl : len = 0
      · rw [if_pos hl, List.append_nil] at h
        obtain ⟨h1, h2, h3⟩ := pName_back h hname (fun c hc => (hr c hc).1)
        have h4 := drop_on h
        have h5 := drop_le h h3
        refine ⟨.mk 0 nm none 0 0 (fun _ => .nil), p + nm.data.toList.length, ?_, ⟨hv, rfl, hl, fun i hi => by omega⟩, h4, by omega, h5⟩
        rw [pTermW, if_neg h1, h2]
        simp only
        rw [if_neg (by rw [get_drop0 h4]; intro e; exact (hr _ e).2 rfl)]
      · rw [if_neg hl] at h
        have h : l.drop p = nm.data.toList ++ (40 :: (txtTo (fun i => txt (f i)) len ++ (41 :: r))) := by rw [h]; simp
        obtain ⟨h1, h2, h3⟩ := pName_back h hname (fun c hc => by simp at hc; subst hc; decide)
        have h4 := drop_on h
        have h5 := drop_le h h3
        have h6 : l.drop (p + nm.data.toList.length + 1) = txtTo (fun i => txt (f i)) len ++ (41 :: r) := drop_on (a := [40]) (by simpa using h4)
        obtain ⟨k, hk⟩ : ∃ k, len = k + 1 := ⟨len - 1, by omega⟩
        rw [hk, txtTo_tl] at h6
        obtain ⟨us, q, e1, e2, e3, e4, e5, e6⟩ := terms_back f k 0 (fun j hj => by rw [Nat.zero_add]; exact ih j (hkid j (by omega))) l (p + nm.data.toList.length + 1) n (41 :: r) h6 (stop_close r) (by omega)
        have e4' : l.drop q = [41] ++ r := e4
        have e7 := drop_le e4' (by decide)
        refine ⟨.mk 0 nm none us.length 0 (fun i => us.getD i .nil), q + 1, ?_, ⟨hv, rfl, by rw [hk]; exact e2.symm, fun i hi => ?_⟩, drop_on e4', by omega, e7⟩
        · rw [pTermW, if_neg h1, h2]
          simp only
          rw [if_pos (by rw [get_drop0 h4]; rfl), e1]
          simp only
          rw [mAt_yes e4']
        · have := e3 i (by omega)
          rw [Nat.zero_add] at this
          exact this
    · obtain ⟨h1, h2, h3⟩ := ok_var herr hv
      have h0 := ok_noname herr hv
      have h1 : 1 ≤ v := h1
      have h2 : v ≤ 12 := h2
      have h3 : len = 0 := h3
      rw [txt, if_neg hv] at h
      have hp := pVar_back (v := v.toNat) h (by omega) (by omega) hr
      have h4 := drop_on h
      have h5 := drop_le h (by simp)
      have e : nm = ⟨#[]⟩ := bytes_of h0
      refine ⟨.mk v.toNat ⟨#[]⟩ none 0 0 (fun _ => .nil), p + 1 + (digs v.toNat).length, ?_, ⟨by show v = (v.toNat : Int); omega, e, h3, fun i hi => by omega⟩, ?_, by omega, ?_⟩
      · rw [pTermW, if_pos (by rw [get_drop0 h]; rfl), hp]
      · rw [← h4]; congr 1; simp; omega
      · simp at h5; omega
theorem list_back {Q : Tm} (hk : ∀ i, i < Q.len → err (Q.f i) = 0) (h1 : 1 ≤ Q.len) {l : List UInt8} {p n : Nat} {r : List UInt8} (h : l.drop p = txts Q ++ r) (hr : Stop2 r) (hn : l.length < n + p) :
    ∃ us q, pTerms l n p = .ok us q ∧ BSim Q us ∧ l.drop q = r ∧ p < q ∧ q ≤ l.length := by
  obtain ⟨k, hk'⟩ : ∃ k, Q.len = k + 1 := ⟨Q.len - 1, by omega⟩
  rw [txts, hk', txtTo_tl] at h
  obtain ⟨us, q, e1, e2, e3, e4, e5, e6⟩ := terms_back Q.f k 0 (fun j hj => by rw [Nat.zero_add]; exact term_back _ (hk j (by omega))) l p n r h hr hn
  refine ⟨us, q, e1, ⟨by rw [hk', e2], fun i hi => ?_⟩, e4, e5, e6⟩
  have := e3 i (by omega)
  rwa [Nat.zero_add] at this
/-- What is printed of goals is parsed. -/
theorem goals_back {Q : Tm} (hok : okQ Q) {n : Nat} (hn : (goalsT Q).length < n) : ∃ us q, pGoals (goalsT Q) n = .ok us q ∧ ((goalsT Q = [116, 114, 117, 101] ∧ us = []) ∨ (goalsT Q ≠ [116, 114, 117, 101] ∧ BSim Q us)) := by
  by_cases ht : goalsT Q = [116, 114, 117, 101]
  · exact ⟨[], 4, by rw [pGoals, if_pos ht], .inl ⟨ht, rfl⟩⟩
  · have hl : Q.len ≠ 0 := fun e => ht (by rw [goalsT, if_pos e])
    have e : goalsT Q = txts Q := by rw [goalsT, if_neg hl]
    obtain ⟨us, q, e1, e2, e3, e4, e5⟩ := list_back (Q := Q) (fun i hi => (hok.2 i hi).2) (by omega) (l := goalsT Q) (p := 0) (n := n) (r := []) (by rw [e]; simp) stop_nil (by omega)
    have e6 : ¬ q < (goalsT Q).length := by
      have := congrArg List.length e3
      simp at this
      omega
    exact ⟨us, q, by rw [pGoals, if_neg ht, e1]; simp only; rw [if_neg e6], .inr ⟨ht, e2⟩⟩
theorem clause_back {H B : Tm} (hH : okT H) (hB : okQ B) {l : List UInt8} {p n : Nat} {r : List UInt8} (h : l.drop p = clT H B ++ r) (hn : l.length < n + p) :
    ∃ d q, pClause l n p = .ok d q ∧ CSim (H, B) d ∧ l.drop q = r ∧ p < q ∧ q ≤ l.length := by
  by_cases hb : B.len = 0
  · rw [clT, if_pos hb, List.append_nil] at h
    have h : l.drop p = txt H ++ ([46, 10] ++ r) := by rw [h]; simp
    obtain ⟨U, q, e1, e2, e3, e4, e5⟩ := term_back H hH.2 l p n ([46, 10] ++ r) h (stop_dot _).1 (by omega)
    have e6 := drop_le e3 (by decide)
    refine ⟨(U, []), q + 2, ?_, ⟨e2, hb, fun i hi => absurd hi (by show ¬ i < B.len; omega)⟩, drop_on e3, by omega, e6⟩
    rw [pClause, e1]
    simp only
    rw [if_neg (by rw [get_drop0 e3]; simp), pFin, mAt_yes e3]
  · have eg : goalsT B = txts B := by rw [goalsT, if_neg hb]
    rw [clT, if_neg hb, eg] at h
    have h : l.drop p = txt H ++ ([32, 58, 45, 32] ++ (txts B ++ ([46, 10] ++ r))) := by rw [h]; simp
    obtain ⟨U, q, e1, e2, e3, e4, e5⟩ := term_back H hH.2 l p n _ h (stop_blank _).1 (by omega)
    have e6 := drop_on e3
    obtain ⟨us, q2, g1, g2, g3, g4, g5⟩ := list_back (Q := B) (fun i hi => (hB.2 i hi).2) (by omega) e6 (stop_dot _) (show l.length < n + (q + 4) by omega)
    have g6 := drop_le g3 (by decide)
    refine ⟨(U, us), q2 + 2, ?_, ⟨e2, g2⟩, drop_on g3, by simp at g4; omega, g6⟩
    rw [pClause, e1]
    simp only
    rw [if_pos (by rw [get_drop0 e3]; rfl), mAt_yes e3]
    simp only
    have g1 : pTerms l n (q + 4) = .ok us q2 := g1
    rw [g1]
    simp only
    rw [pFin, mAt_yes g3]
def clsFrom (h b : Nat → Tm) : Nat → Nat → List UInt8
  | _, 0 => []
  | i, m + 1 => clT (h i) (b i) ++ clsFrom h b (i + 1) m
theorem clsFrom_snoc (h b : Nat → Tm) : ∀ m i, clsFrom h b i (m + 1) = clsFrom h b i m ++ clT (h (i + m)) (b (i + m)) := by
  intro m
  induction m with
  | zero => intro i; simp [clsFrom]
  | succ m ih => intro i; rw [clsFrom, ih (i + 1), clsFrom]; simp [Nat.add_assoc, Nat.add_comm 1]
theorem pgTo_from (h b : Nat → Tm) : ∀ k, pgTo h b k = clsFrom h b 0 k := by
  intro k
  induction k with
  | zero => rfl
  | succ k ih => rw [pgTo, ih, clsFrom_snoc, Nat.zero_add]
theorem prog_from (h b : Nat → Tm) : ∀ (m i : Nat), (∀ j, j < m → okT (h (i + j)) ∧ okQ (b (i + j))) → ∀ (l : List UInt8) (p n fu : Nat), l.drop p = clsFrom h b i m → l.length < n + p → l.length < fu + p → p ≤ l.length →
    ∃ ds q, pProg l n fu p = .ok ds q ∧ ds.length = m ∧ ∀ j, j < m → CSim (h (i + j), b (i + j)) (ds.getD j nilD) := by
  intro m
  induction m with
  | zero =>
    intro i _ l p n fu hd hn hf hp
    obtain ⟨k, rfl⟩ : ∃ k, fu = k + 1 := ⟨fu - 1, by omega⟩
    have : ¬ p < l.length := by
      have := congrArg List.length hd
      simp [clsFrom] at this
      omega
    exact ⟨[], p, by rw [pProg, if_neg this], rfl, fun j hj => absurd hj (Nat.not_lt_zero _)⟩
  | succ m ih =>
    intro i hok l p n fu hd hn hf hp
    obtain ⟨k, rfl⟩ : ∃ k, fu = k + 1 := ⟨fu - 1, by omega⟩
    rw [clsFrom] at hd
    obtain ⟨d, q, e1, e2, e3, e4, e5⟩ := clause_back (hok 0 (by omega)).1 (hok 0 (by omega)).2 hd hn
    obtain ⟨ds, q2, g1, g2, g3⟩ := ih (i + 1) (fun j hj => by have := hok (j + 1) (by omega); rwa [show i + (j + 1) = i + 1 + j from by omega] at this) l q n k e3 (by omega) (by omega) e5
    refine ⟨d :: ds, q2, ?_, by simp [g2], fun j hj => ?_⟩
    · rw [pProg, if_pos (by omega), e1]
      simp only
      rw [g1]
      rfl
    · cases j with
      | zero => exact e2
      | succ j =>
        have := g3 j (by omega)
        rw [show i + (j + 1) = i + 1 + j from by omega]
        simpa using this
/-- What is printed of a program is parsed. -/
theorem prog_back {P : Pg} (hok : okP P) {n fu : Nat} (hn : (progT P).length < n) (hf : (progT P).length < fu) : ∃ ds q, pProg (progT P) n fu 0 = .ok ds q ∧ PSim P ds := by
  obtain ⟨ds, q, e1, e2, e3⟩ := prog_from P.hd P.bd P.len 0 (fun j hj => by rw [Nat.zero_add]; exact hok.2 j hj) (progT P) 0 n fu (by rw [List.drop_zero, progT, pgTo_from]) (by omega) (by omega) (Nat.zero_le _)
  refine ⟨ds, q, e1, e2.symm, fun i hi => ?_⟩
  have := e3 i hi
  rwa [Nat.zero_add] at this
end Go.Proofs.YtmggaclaoefdaaaDoor
