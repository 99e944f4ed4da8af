/- The document's search, over terms alone: as the reference does it; and the program's is the same but for numbers of variables. -/
import Derived.Test.YtmggaclaoefdaaaGK
import Derived.Test.YtmggaclaoefdaaaSvF
namespace Go.Proofs.Ytmggaclaoefdaaa
open Go.RowKit

structure QC where
  gl : List Gl
  k : Nat
  σ : Sg
  N : Int
structure QS where
  gl : List Gl
  ch : List QC
  σ : Sg
  N : Int
  ans : List (List Tm)
  fin : Nat
  st : Nat
def tryQ (P : Cls) (gs : List Gl) (t : Tm) : Nat → Nat → QS → Nat → QS × Bool
  | 0, _, X, _ => (X, false)
  | f + 1, i, X, L => match fitP P t i with
    | none => (X, false)
    | some j => match meetF (L + 1) X.σ L [(ap (ownV X.N) (P.getD j (.nil, [])).1, t)] with
      | .over => ({ X with fin := 3 }, false)
      | .no L' => tryQ P gs t f (j + 1) X L'
      | .yes _ σ' => ({ X with N := X.N + 12, σ := σ', gl := ((P.getD j (.nil, [])).2.map fun b => (ap (ownV X.N) b, X.ch.length)) ++ gs.tail, ch := match fitP P t (j + 1) with
          | none => X.ch
          | some k => X.ch ++ [⟨gs, k, X.σ, X.N⟩] }, true)
def backQ (P : Cls) : Nat → QS → QS
  | 0, X => X
  | f + 1, X => if X.fin ≠ 0 then X else match X.ch.getLast? with
    | none => { X with fin := 1 }
    | some c => match tryQ P c.gl (hdT c.σ c.gl) (P.length + 1) c.k { X with ch := X.ch.dropLast, σ := c.σ, N := c.N, gl := c.gl } 4000 with
      | (Y, true) => Y
      | (Y, false) => backQ P f Y
def bkQ (P : Cls) (X : QS) : QS := backQ P (X.ch.length + 1) X
def stepQ (P : Cls) (X : QS) : QS :=
  let t := hdT X.σ X.gl
  let Y : QS := { X with gl := X.gl.tail }
  if t.v ≠ 0 then { X with fin := 4 }
  else if isT t nCut 0 then { Y with ch := X.ch.take (X.gl.headD (.nil, 0)).2 }
  else if isT t nTrue 0 then Y
  else if isT t nFail 0 then bkQ P Y
  else if isT t nEq 2 then match meetF 4001 X.σ 4000 [(t.f 0, t.f 1)] with
    | .over => { Y with fin := 3 }
    | .no _ => bkQ P Y
    | .yes _ σ' => { Y with σ := σ' }
  else match tryQ P X.gl t (P.length + 1) 0 X 4000 with
    | (Z, true) => Z
    | (Z, false) => bkQ P Z
def answerQ (P : Cls) (n : Nat) (X : QS) : QS := match roomF X.σ 200 (varsN n) with
  | none => { X with fin := 3 }
  | some _ => if X.ans.length + 1 = 40 then { X with ans := X.ans ++ [foundP X.σ n], fin := 1 } else bkQ P { X with ans := X.ans ++ [foundP X.σ n] }
def runQ (P : Cls) (n limit : Nat) : Nat → QS → QS
  | 0, X => X
  | f + 1, X => if X.fin ≠ 0 then X else match X.gl with
    | [] => runQ P n limit f (answerQ P n X)
    | _ :: _ => if X.st = limit then { X with fin := 2 } else runQ P n limit f (stepQ P { X with st := X.st + 1 })

/-- The variables that the reference may have: the query's, and those of clauses. -/
def Ua (a : Nat) (N : Int) : Int → Prop := fun v => (1 ≤ v ∧ v ≤ a) ∨ (13 ≤ v ∧ v ≤ N)
/-- Terms of clauses. -/
def U12 : Int → Prop := fun v => 1 ≤ v ∧ v ≤ 12
def renG (ι : Int → Int) (g : Gl) : Gl := (ren ι g.1, g.2)
structure StI (a : Nat) (N last : Int) (ι : Int → Int) (gl gl' : List Gl) (σ σ' : Sg) : Prop where
  mo : Mo (Ua a N) ι
  le : ∀ v, Ua a N v → ι v ≤ last
  id : ∀ v : Int, 1 ≤ v → v ≤ a → ι v = v
  sg : SgR (Ua a N) ι σ σ'
  ov : ∀ g ∈ gl, OvU (Ua a N) g.1
  gl : gl' = gl.map (renG ι)
def StR (a : Nat) (N last : Int) (gl gl' : List Gl) (σ σ' : Sg) : Prop := 12 ≤ N ∧ ∃ ι, StI a N last ι gl gl' σ σ'
theorem StI.last {a : Nat} {N last last' : Int} {ι : Int → Int} {gl gl' : List Gl} {σ σ' : Sg} (h : StI a N last ι gl gl' σ σ') (hl : last ≤ last') : StI a N last' ι gl gl' σ σ' := ⟨h.mo, fun v hv => Int.le_trans (h.le v hv) hl, h.id, h.sg, h.ov, h.gl⟩
theorem StR.last {a : Nat} {N last last' : Int} {gl gl' : List Gl} {σ σ' : Sg} (h : StR a N last gl gl' σ σ') (hl : last ≤ last') : StR a N last' gl gl' σ σ' := by
  obtain ⟨h0, ι, h⟩ := h
  exact ⟨h0, ι, h.last hl⟩
/-- Numbers with twelve more variables. -/
def grI (ι : Int → Int) (N last : Int) : Int → Int := fun v => if v ≤ N then ι v else last + (v - N)
theorem ren_congr {U : Int → Prop} {ι κ : Int → Int} (h : ∀ v, U v → ι v = κ v) {T : Tm} (hT : OvU U T) : ren ι T = ren κ T := by
  induction T with
  | nil => exact hT.elim
  | mk v nm a len cap f ih =>
    by_cases hv : v = 0
    · rw [ren_fn ι (T := .mk v nm a len cap f) hv, ren_fn κ (T := .mk v nm a len cap f) hv]
      show Tm.mk 0 nm none len 0 (fun i => if i < len then ren ι (f i) else .nil) = Tm.mk 0 nm none len 0 (fun i => if i < len then ren κ (f i) else .nil)
      congr 1
      funext i
      by_cases hi : i < len
      · rw [if_pos hi, if_pos hi]; exact ih i (hT.2 i hi)
      · rw [if_neg hi, if_neg hi]
    · rw [ren_var ι (T := .mk v nm a len cap f) hv, ren_var κ (T := .mk v nm a len cap f) hv]
      show vT (ι v) = vT (κ v)
      rw [h v (hT.1 hv).1]
theorem ua_le {a : Nat} {N v : Int} (h12 : 12 ≤ N) (ha : a ≤ 12) (hv : Ua a N v) : v ≤ N := by
  rcases hv with h | h <;> omega
theorem ua_mono {a : Nat} {N N' : Int} (h : N ≤ N') : ∀ v, Ua a N v → Ua a N' v := fun v hv => by
  rcases hv with h1 | h1
  · exact .inl h1
  · exact .inr (by omega)
theorem StI.grow {a : Nat} {N last : Int} {ι : Int → Int} {gl gl' : List Gl} {σ σ' : Sg} (h : StI a N last ι gl gl' σ σ') (h12 : 12 ≤ N) (ha : a ≤ 12) (hl0 : 0 ≤ last) : StI a (N + 12) (last + 12) (grI ι N last) gl gl' σ σ' := by
  have old : ∀ v, Ua a N v → grI ι N last v = ι v := fun v hv => by unfold grI; rw [if_pos (ua_le h12 ha hv)]
  have cs : ∀ v, Ua a (N + 12) v → Ua a N v ∨ (N < v ∧ v ≤ N + 12) := fun v hv => by
    by_cases hN : v ≤ N
    · rcases hv with h1 | h1
      · exact .inl (.inl h1)
      · exact .inl (.inr (by omega))
    · rcases hv with h1 | h1
      · omega
      · exact .inr (by omega)
  have new : ∀ v, N < v → grI ι N last v = last + (v - N) := fun v hv => by unfold grI; rw [if_neg (by omega)]
  refine ⟨⟨fun v hv => ?_, fun v w hv hw hlt => ?_⟩, fun v hv => ?_, fun v h1 h2 => ?_, ⟨fun v hv => ?_, fun w hw => ?_, fun v hv => ?_, fun v T hv => ?_⟩, fun g hg => (h.ov g hg).mono (ua_mono (by omega)), ?_⟩
  · rcases cs v hv with h1 | h1
    · rw [old v h1]; exact h.mo.pos v h1
    · rw [new v h1.1]; omega
  · rcases cs v hv with h1 | h1
    · rcases cs w hw with h2 | h2
      · rw [old v h1, old w h2]; exact h.mo.mono v w h1 h2 hlt
      · rw [old v h1, new w h2.1]
        have := h.le v h1
        omega
    · rcases cs w hw with h2 | h2
      · have := ua_le h12 ha h2; omega
      · rw [new v h1.1, new w h2.1]; omega
  · rcases cs v hv with h1 | h1
    · rw [old v h1]; have := h.le v h1; omega
    · rw [new v h1.1]; omega
  · rw [old v (.inl ⟨h1, h2⟩)]; exact h.id v h1 h2
  · rcases cs v hv with h1 | h1
    · rw [old v h1, h.sg.at_ v h1]
      cases hs : σ v with
      | none => rfl
      | some T =>
        show some (ren ι T) = some (ren (grI ι N last) T)
        rw [ren_congr (U := Ua a N) (fun u hu => (old u hu).symm) (h.sg.trm v T hs).1]
    · rw [new v h1.1, h.sg.non v (fun e => by have := ua_le h12 ha e; omega)]
      exact h.sg.out _ (fun u hu e => by have := h.le u hu; omega)
  · refine h.sg.out w (fun v hv e => hw v (ua_mono (by omega) v hv) ?_)
    rw [old v hv]; exact e
  · exact h.sg.non v (fun e => hv (ua_mono (by omega) v e))
  · exact ⟨(h.sg.trm v T hv).1.mono (ua_mono (by omega)), (h.sg.trm v T hv).2⟩
  · rw [h.gl]
    apply List.map_congr_left
    intro g hg
    show (ren ι g.1, g.2) = (ren (grI ι N last) g.1, g.2)
    rw [ren_congr (U := Ua a N) (fun u hu => (old u hu).symm) (h.ov g hg)]
/-- A term of a clause, with variables of its own. -/
theorem own_ren {a : Nat} {N last : Int} {ι : Int → Int} (h12 : 12 ≤ N) {T : Tm} (hT : OvU U12 T) : OvU (Ua a (N + 12)) (ap (ownV N) T) ∧ ren (grI ι N last) (ap (ownV N) T) = ap (ownV last) T := by
  induction T with
  | nil => exact hT.elim
  | mk v nm a' len cap f ih =>
    by_cases hv : v = 0
    · have e1 := ap_fn (ownV N) (T := .mk v nm a' len cap f) hv
      have e2 := ap_fn (ownV last) (T := .mk v nm a' len cap f) hv
      rw [e1, e2]
      refine ⟨⟨fun h => absurd rfl h, fun i hi => ?_⟩, ?_⟩
      · have hi : i < len := hi
        show OvU _ (if i < len then ap (ownV N) (f i) else .nil)
        rw [if_pos hi]; exact (ih i (hT.2 i hi)).1
      · rw [ren_fn _ (T := Tm.mk 0 (Tm.mk v nm a' len cap f).nm none (Tm.mk v nm a' len cap f).len 0 _) rfl]
        show Tm.mk 0 nm none len 0 (fun i => if i < len then ren (grI ι N last) (if i < len then ap (ownV N) (f i) else .nil) else .nil) = Tm.mk 0 nm none len 0 (fun i => if i < len then ap (ownV last) (f i) else .nil)
        congr 1
        funext i
        by_cases hi : i < len
        · rw [if_pos hi, if_pos hi, if_pos hi]; exact (ih i (hT.2 i hi)).2
        · rw [if_neg hi, if_neg hi]
    · have hu := (hT.1 hv).1
      have hu : 1 ≤ v ∧ v ≤ 12 := hu
      rw [ap_var (ownV N) (T := .mk v nm a' len cap f) hv, ap_var (ownV last) (T := .mk v nm a' len cap f) hv]
      show OvU _ (vT (N + v)) ∧ ren _ (vT (N + v)) = vT (last + v)
      refine ⟨ovu_vT (.inr (by omega)), ?_⟩
      rw [ren_var _ (T := vT (N + v)) (by show N + v ≠ 0; omega)]
      show vT (grI ι N last (N + v)) = _
      unfold grI
      rw [if_neg (by omega)]
      congr 1
      omega
/-- Clauses are right. -/
def PU (P : Cls) : Prop := ∀ j, j < P.length → OvU U12 (P.getD j (.nil, [])).1 ∧ ∀ b ∈ (P.getD j (.nil, [])).2, OvU U12 b
theorem fit_ren {U : Int → Prop} (P : Cls) {t : Tm} (ht : OvU U t) (ι : Int → Int) (i : Nat) : fitP P (ren ι t) i = fitP P t i := by unfold fitP; rw [ren_nm ι ht, ren_len ι ht]
theorem fitP_lt {P : Cls} {t : Tm} {i j : Nat} (h : fitP P t i = some j) : j < P.length := by
  unfold fitP at h
  rw [List.find?_range_eq_some] at h
  exact List.mem_range.1 h.2.1
/-- Choices are the same, but for numbers. -/
inductive ChR (a : Nat) (last : Int) : List QC → List Chc → Prop
  | nil : ChR a last [] []
  | snoc {l : List QC} {l' : List Chc} {c : QC} {c' : Chc} : ChR a last l l' → c.k = c'.k → StR a c.N last c.gl c'.gl c.σ c'.σ → c.gl ≠ [] → ChR a last (l ++ [c]) (l' ++ [c'])
theorem ChR.len {a : Nat} {last : Int} {l : List QC} {l' : List Chc} (h : ChR a last l l') : l.length = l'.length := by
  induction h with
  | nil => rfl
  | snoc _ _ _ _ ih => simp [ih]
theorem ChR.last {a : Nat} {last last' : Int} {l : List QC} {l' : List Chc} (h : ChR a last l l') (hl : last ≤ last') : ChR a last' l l' := by
  induction h with
  | nil => exact .nil
  | snoc _ h1 h2 h3 ih => exact .snoc ih h1 (h2.last hl) h3
theorem ChR.take {a : Nat} {last : Int} {l : List QC} {l' : List Chc} (h : ChR a last l l') (k : Nat) : ChR a last (l.take k) (l'.take k) := by
  induction h with
  | nil => simp; exact .nil
  | snoc h0 h1 h2 h3 ih =>
    rename_i l l' c c'
    have hl := h0.len
    by_cases hk : k ≤ l.length
    · rw [List.take_append_of_le_length hk, List.take_append_of_le_length (by omega)]; exact ih
    · rw [List.take_of_length_le (by simp; omega), List.take_of_length_le (by simp; omega)]
      exact .snoc h0 h1 h2 h3
theorem ChR.inv {a : Nat} {last : Int} {l : List QC} {l' : List Chc} (h : ChR a last l l') : (l = [] ∧ l' = []) ∨ ∃ m c m' c', l = m ++ [c] ∧ l' = m' ++ [c'] ∧ ChR a last m m' ∧ c.k = c'.k ∧ StR a c.N last c.gl c'.gl c.σ c'.σ ∧ c.gl ≠ [] := by
  cases h with
  | nil => exact .inl ⟨rfl, rfl⟩
  | snoc h0 h1 h2 h3 => exact .inr ⟨_, _, _, _, rfl, rfl, h0, h1, h2, h3⟩
/-- The reference's search, and the program's. -/
structure SimR (a : Nat) (X : QS) (Y : PS) : Prop where
  ans : X.ans = Y.ans
  fin : X.fin = Y.fin
  st : X.st = Y.st
  al : (a : Int) ≤ Y.last
  ch : ChR a Y.last X.ch Y.ch
  go : X.fin = 0 → StR a X.N Y.last X.gl Y.gl X.σ Y.σ
theorem try_sim {P : Cls} (hP : PU P) {a : Nat} (ha : a ≤ 12) {gs gs' : List Gl} {t : Tm} {ι : Int → Int} (hgs : gs ≠ []) : ∀ (f i : Nat) (X : QS) (Y : PS) (L : Nat), StI a X.N Y.last ι gs gs' X.σ Y.σ → 12 ≤ X.N → OvU (Ua a X.N) t → (a : Int) ≤ Y.last → ChR a Y.last X.ch Y.ch → X.ans = Y.ans → X.fin = Y.fin → X.fin = 0 → X.st = Y.st →
    (tryQ P gs t f i X L).2 = (tryP P gs' (ren ι t) f i Y L).2 ∧ ((tryQ P gs t f i X L).2 = true → SimR a (tryQ P gs t f i X L).1 (tryP P gs' (ren ι t) f i Y L).1) ∧
    ((tryQ P gs t f i X L).2 = false → (tryQ P gs t f i X L).1.ans = (tryP P gs' (ren ι t) f i Y L).1.ans ∧ (tryQ P gs t f i X L).1.fin = (tryP P gs' (ren ι t) f i Y L).1.fin ∧ (tryQ P gs t f i X L).1.st = (tryP P gs' (ren ι t) f i Y L).1.st ∧ (a : Int) ≤ (tryP P gs' (ren ι t) f i Y L).1.last ∧ ChR a (tryP P gs' (ren ι t) f i Y L).1.last (tryQ P gs t f i X L).1.ch (tryP P gs' (ren ι t) f i Y L).1.ch) := by
  intro f
  induction f with
  | zero => intro i X Y L _ _ _ hal hch h1 h2 _ h3; exact ⟨rfl, fun h => (by cases h), fun _ => ⟨h1, h2, h3, hal, hch⟩⟩
  | succ f ih =>
    intro i X Y L hS h12 ht hal hch h1 h2 h0 h3
    rw [tryQ, tryP, fit_ren P ht]
    cases hf : fitP P t i with
    | none => exact ⟨rfl, fun h => (by cases h), fun _ => ⟨h1, h2, h3, hal, hch⟩⟩
    | some j =>
      simp only
      have hj := fitP_lt hf
      obtain ⟨hO, hE⟩ := own_ren (a := a) (N := X.N) (last := Y.last) (ι := ι) h12 (hP j hj).1
      have hG := hS.grow h12 ha (by omega)
      have ht' : OvU (Ua a (X.N + 12)) t := ht.mono (ua_mono (by omega))
      have et : ren (grI ι X.N Y.last) t = ren ι t := ren_congr (U := Ua a X.N) (fun u hu => by unfold grI; rw [if_pos (ua_le h12 ha hu)]) ht
      have hm := meet_ren hG.mo (L + 1) X.σ Y.σ L [(ap (ownV X.N) (P.getD j (.nil, [])).1, t)] hG.sg (fun p hp => by
        rw [List.mem_singleton] at hp; subst hp; exact ⟨hO, ht'⟩)
      have e1 : [(ap (ownV X.N) (P.getD j (.nil, [])).1, t)].map (ren2 (grI ι X.N Y.last)) = [(ap (ownV Y.last) (P.getD j (.nil, [])).1, ren ι t)] := by
        show [(ren _ (ap (ownV X.N) (P.getD j (.nil, [])).1), ren _ t)] = _
        rw [hE, et]
      rw [e1] at hm
      cases hq : meetF (L + 1) X.σ L [(ap (ownV X.N) (P.getD j (.nil, [])).1, t)] with
      | over =>
        cases hp : meetF (L + 1) Y.σ L [(ap (ownV Y.last) (P.getD j (.nil, [])).1, ren ι t)] with
        | over => exact ⟨rfl, fun h => (by cases h), fun _ => ⟨h1, rfl, h3, by show (a : Int) ≤ Y.last + 12; omega, hch.last (by show Y.last ≤ Y.last + 12; omega)⟩⟩
        | no k => rw [hq, hp] at hm; exact hm.elim
        | yes k τ => rw [hq, hp] at hm; exact hm.elim
      | no k =>
        cases hp : meetF (L + 1) Y.σ L [(ap (ownV Y.last) (P.getD j (.nil, [])).1, ren ι t)] with
        | over => rw [hq, hp] at hm; exact hm.elim
        | no k' =>
          rw [hq, hp] at hm
          obtain rfl : k = k' := hm
          exact ih (j + 1) X { Y with last := Y.last + 12 } k (hS.last (by show Y.last ≤ Y.last + 12; omega)) h12 ht (by show (a : Int) ≤ Y.last + 12; omega) (hch.last (by show Y.last ≤ Y.last + 12; omega)) h1 h2 h0 h3
        | yes k τ => rw [hq, hp] at hm; exact hm.elim
      | yes k τ =>
        cases hp : meetF (L + 1) Y.σ L [(ap (ownV Y.last) (P.getD j (.nil, [])).1, ren ι t)] with
        | over => rw [hq, hp] at hm; exact hm.elim
        | no k => rw [hq, hp] at hm; exact hm.elim
        | yes k' τ' =>
          rw [hq, hp] at hm
          have hst : StI a (X.N + 12) (Y.last + 12) (grI ι X.N Y.last) (((P.getD j (.nil, [])).2.map fun b => (ap (ownV X.N) b, X.ch.length)) ++ gs.tail) (((P.getD j (.nil, [])).2.map fun b => (ap (ownV Y.last) b, Y.ch.length)) ++ gs'.tail) τ τ' := by
            refine ⟨hG.mo, hG.le, hG.id, hm.2, fun g hg => ?_, ?_⟩
            · rcases List.mem_append.1 hg with hg | hg
              · obtain ⟨b, hb, rfl⟩ := List.mem_map.1 hg
                exact (own_ren (a := a) (N := X.N) (last := Y.last) (ι := ι) h12 ((hP j hj).2 b hb)).1
              · exact hG.ov g (List.mem_of_mem_tail hg)
            · rw [List.map_append, List.map_map, hG.gl, ← List.map_tail, hch.len]
              congr 1
              apply List.map_congr_left
              intro b hb
              show (ap (ownV Y.last) b, _) = (ren (grI ι X.N Y.last) (ap (ownV X.N) b), _)
              rw [(own_ren (a := a) (N := X.N) (last := Y.last) (ι := ι) h12 ((hP j hj).2 b hb)).2]
          refine ⟨rfl, fun _ => ⟨h1, h2, h3, by show (a : Int) ≤ Y.last + 12; omega, ?_, fun _ => ⟨by show 12 ≤ X.N + 12; omega, _, hst⟩⟩, fun h => (by cases h)⟩
          show ChR a (Y.last + 12) (match fitP P t (j + 1) with | none => X.ch | some k => X.ch ++ [⟨gs, k, X.σ, X.N⟩]) (match fitP P (ren ι t) (j + 1) with | none => Y.ch | some k => Y.ch ++ [⟨gs', k, Y.σ⟩])
          rw [fit_ren P ht]
          cases fitP P t (j + 1) with
          | none => exact hch.last (by omega)
          | some q => exact .snoc (hch.last (by omega)) rfl ⟨h12, ι, hS.last (by omega)⟩ hgs
/-- The first goal. -/
theorem hd_ren {a : Nat} {N last : Int} {ι : Int → Int} {gl gl' : List Gl} {σ σ' : Sg} (h : StI a N last ι gl gl' σ σ') (hg : gl ≠ []) : hdT σ' gl' = ren ι (hdT σ gl) ∧ OvU (Ua a N) (hdT σ gl) ∧ (gl'.headD (.nil, 0)).2 = (gl.headD (.nil, 0)).2 := by
  cases gl with
  | nil => exact absurd rfl hg
  | cons g r =>
    have hO := h.ov g (by simp)
    rw [h.gl]
    exact ⟨h.sg.wh1 h.mo hO, h.sg.wh2 h.mo hO, rfl⟩
theorem back_sim {P : Cls} (hP : PU P) {a : Nat} (ha : a ≤ 12) : ∀ (f : Nat) (X : QS) (Y : PS), X.ans = Y.ans → X.fin = Y.fin → X.st = Y.st → (a : Int) ≤ Y.last → ChR a Y.last X.ch Y.ch → (X.fin ≠ 0 ∨ X.ch.length < f) → SimR a (backQ P f X) (backP P f Y) := by
  intro f
  induction f with
  | zero => intro X Y h1 h2 h3 hal hch h; exact ⟨h1, h2, h3, hal, hch, fun h0 => by rcases h with h | h; (· exact absurd h0 h); (· omega)⟩
  | succ f ih =>
    intro X Y h1 h2 h3 hal hch hlt
    by_cases h0 : X.fin = 0
    case neg =>
      rw [backQ, backP, if_pos h0, if_pos (by rw [← h2]; exact h0)]
      exact ⟨h1, h2, h3, hal, hch, fun h => absurd h h0⟩
    have h0' : Y.fin = 0 := by rw [← h2]; exact h0
    rcases hch.inv with ⟨e1, e2⟩ | ⟨m, c, m', c', e1, e2, hm, hk, hst, hne⟩
    · have hb : backQ P (f + 1) X = { X with fin := 1 } := by
        rw [backQ, if_neg (by simpa using h0)]
        simp only [e1, List.getLast?_nil]
      rw [hb, back_none h0' e2]
      exact ⟨h1, rfl, h3, hal, hch, fun h => (by cases h)⟩
    · obtain ⟨h12, ι, hS⟩ := hst
      have hb : backQ P (f + 1) X = match tryQ P c.gl (hdT c.σ c.gl) (P.length + 1) c.k { X with ch := m, σ := c.σ, N := c.N, gl := c.gl } 4000 with
        | (Y, true) => Y
        | (Y, false) => backQ P f Y := by
        rw [backQ, if_neg (by simpa using h0)]
        simp only [e1, List.getLast?_append, List.getLast?_singleton, List.dropLast_concat]
        rfl
      rw [hb, back_some h0' e2]
      obtain ⟨ehd, hO, _⟩ := hd_ren hS hne
      rw [ehd, ← hk]
      have hts := try_sim hP ha hne (t := hdT c.σ c.gl) (P.length + 1) c.k { X with ch := m, σ := c.σ, N := c.N, gl := c.gl } { Y with ch := m', σ := c'.σ } 4000 hS h12 hO hal hm h1 h2 h0 h3
      cases hq : tryQ P c.gl (hdT c.σ c.gl) (P.length + 1) c.k { X with ch := m, σ := c.σ, N := c.N, gl := c.gl } 4000 with
      | mk X2 ok =>
        cases hp : tryP P c'.gl (ren ι (hdT c.σ c.gl)) (P.length + 1) c.k { Y with ch := m', σ := c'.σ } 4000 with
        | mk Y2 ok' =>
          rw [hq, hp] at hts
          obtain ⟨e, t1, t2⟩ := hts
          have e : ok = ok' := e
          subst e
          cases ok with
          | true => exact t1 rfl
          | false =>
            obtain ⟨u1, u2, u3, u4, u5⟩ := t2 rfl
            refine ih X2 Y2 u1 u2 u3 u4 u5 ?_
            have hl : X2.ch.length = m.length := by
              have := (try_false hp).1
              have h5 := u5.len
              rw [h5, this]; exact hm.len.symm
            rcases hlt with h | h
            · exact absurd h0 h
            · right
              rw [e1] at h
              simp at h
              omega
theorem bk_sim {P : Cls} (hP : PU P) {a : Nat} (ha : a ≤ 12) {X : QS} {Y : PS} (h1 : X.ans = Y.ans) (h2 : X.fin = Y.fin) (h3 : X.st = Y.st) (hal : (a : Int) ≤ Y.last) (hch : ChR a Y.last X.ch Y.ch) : SimR a (bkQ P X) (bk P Y) := by
  unfold bkQ bk
  rw [← hch.len]
  exact back_sim hP ha _ X Y h1 h2 h3 hal hch (.inr (Nat.lt_succ_self _))
theorem StI.tail {a : Nat} {N last : Int} {ι : Int → Int} {gl gl' : List Gl} {σ σ' : Sg} (h : StI a N last ι gl gl' σ σ') : StI a N last ι gl.tail gl'.tail σ σ' := ⟨h.mo, h.le, h.id, h.sg, fun g hg => h.ov g (List.mem_of_mem_tail hg), by rw [h.gl, List.map_tail]⟩
theorem isT_ren {U : Int → Prop} (ι : Int → Int) {t : Tm} (ht : OvU U t) (nm : ByteArray) (n : Nat) : isT (ren ι t) nm n = isT t nm n := by unfold isT; rw [ren_nm ι ht, ren_len ι ht]
theorem step_sim {P : Cls} (hP : PU P) {a : Nat} (ha : a ≤ 12) {X : QS} {Y : PS} (h : SimR a X Y) (h0 : X.fin = 0) (hg : X.gl ≠ []) : SimR a (stepQ P X) (stepP P Y) := by
  obtain ⟨h12, ι, hS⟩ := h.go h0
  obtain ⟨ehd, hO, ecut⟩ := hd_ren hS hg
  unfold stepQ stepP
  simp only
  rw [ehd, isT_ren ι hO, isT_ren ι hO, isT_ren ι hO, isT_ren ι hO, ecut]
  by_cases hv : (hdT X.σ X.gl).v ≠ 0
  · have hp := hS.mo.pos _ (hO.top hv).1
    have c : (ren ι (hdT X.σ X.gl)).v ≠ 0 := by rw [ren_v1 ι hv]; omega
    rw [if_pos hv, if_pos c]
    exact ⟨h.ans, rfl, h.st, h.al, h.ch, fun h => (by cases h)⟩
  have hv' : (hdT X.σ X.gl).v = 0 := by simpa using hv
  have c : ¬ (ren ι (hdT X.σ X.gl)).v ≠ 0 := by rw [ren_v0 ι hv']; simp
  rw [if_neg hv, if_neg c]
  by_cases h1 : isT (hdT X.σ X.gl) nCut 0 = true
  · rw [if_pos h1, if_pos h1]
    exact ⟨h.ans, h.fin, h.st, h.al, h.ch.take _, fun _ => ⟨h12, ι, hS.tail⟩⟩
  rw [if_neg h1, if_neg h1]
  by_cases h2 : isT (hdT X.σ X.gl) nTrue 0 = true
  · rw [if_pos h2, if_pos h2]
    exact ⟨h.ans, h.fin, h.st, h.al, h.ch, fun _ => ⟨h12, ι, hS.tail⟩⟩
  rw [if_neg h2, if_neg h2]
  by_cases h3 : isT (hdT X.σ X.gl) nFail 0 = true
  · rw [if_pos h3, if_pos h3]
    exact bk_sim hP ha (X := { X with gl := X.gl.tail }) (Y := { Y with gl := Y.gl.tail }) h.ans h.fin h.st h.al h.ch
  rw [if_neg h3, if_neg h3]
  by_cases h4 : isT (hdT X.σ X.gl) nEq 2 = true
  · rw [if_pos h4, if_pos h4]
    have hl : (hdT X.σ X.gl).len = 2 := by
      unfold isT at h4
      simp at h4
      exact h4.2
    have hm := meet_ren hS.mo 4001 X.σ Y.σ 4000 [((hdT X.σ X.gl).f 0, (hdT X.σ X.gl).f 1)] hS.sg (fun p hp => by
      rw [List.mem_singleton] at hp; subst hp; exact ⟨hO.kid (by omega), hO.kid (by omega)⟩)
    have e1 : [((hdT X.σ X.gl).f 0, (hdT X.σ X.gl).f 1)].map (ren2 ι) = [((ren ι (hdT X.σ X.gl)).f 0, (ren ι (hdT X.σ X.gl)).f 1)] := by
      show [(ren ι ((hdT X.σ X.gl).f 0), ren ι ((hdT X.σ X.gl).f 1))] = _
      rw [ren_f ι hO (by omega), ren_f ι hO (by omega)]
    rw [e1] at hm
    cases hq : meetF 4001 X.σ 4000 [((hdT X.σ X.gl).f 0, (hdT X.σ X.gl).f 1)] with
    | over =>
      cases hp : meetF 4001 Y.σ 4000 [((ren ι (hdT X.σ X.gl)).f 0, (ren ι (hdT X.σ X.gl)).f 1)] with
      | over => exact ⟨h.ans, rfl, h.st, h.al, h.ch, fun h => (by cases h)⟩
      | no k => rw [hq, hp] at hm; exact hm.elim
      | yes k τ => rw [hq, hp] at hm; exact hm.elim
    | no k =>
      cases hp : meetF 4001 Y.σ 4000 [((ren ι (hdT X.σ X.gl)).f 0, (ren ι (hdT X.σ X.gl)).f 1)] with
      | over => rw [hq, hp] at hm; exact hm.elim
      | no k' => exact bk_sim hP ha (X := { X with gl := X.gl.tail }) (Y := { Y with gl := Y.gl.tail }) h.ans h.fin h.st h.al h.ch
      | yes k τ => rw [hq, hp] at hm; exact hm.elim
    | yes k τ =>
      cases hp : meetF 4001 Y.σ 4000 [((ren ι (hdT X.σ X.gl)).f 0, (ren ι (hdT X.σ X.gl)).f 1)] with
      | over => rw [hq, hp] at hm; exact hm.elim
      | no k => rw [hq, hp] at hm; exact hm.elim
      | yes k' τ' =>
        rw [hq, hp] at hm
        have ht := hS.tail
        exact ⟨h.ans, h.fin, h.st, h.al, h.ch, fun _ => ⟨h12, ι, ht.mo, ht.le, ht.id, hm.2, ht.ov, ht.gl⟩⟩
  rw [if_neg h4, if_neg h4]
  have hts := try_sim hP ha hg (t := hdT X.σ X.gl) (P.length + 1) 0 X { Y with gl := Y.gl.tail } 4000 hS h12 hO h.al h.ch h.ans h.fin h0 h.st
  cases hq : tryQ P X.gl (hdT X.σ X.gl) (P.length + 1) 0 X 4000 with
  | mk X2 ok =>
    cases hp : tryP P Y.gl (ren ι (hdT X.σ X.gl)) (P.length + 1) 0 { Y with gl := Y.gl.tail } 4000 with
    | mk Y2 ok' =>
      rw [hq, hp] at hts
      obtain ⟨e, t1, t2⟩ := hts
      have e : ok = ok' := e
      subst e
      cases ok with
      | true => exact t1 rfl
      | false =>
        obtain ⟨u1, u2, u3, u4, u5⟩ := t2 rfl
        exact bk_sim hP ha u1 u2 u3 u4 u5
theorem answer_sim {P : Cls} (hP : PU P) {a : Nat} (ha : a ≤ 12) {X : QS} {Y : PS} (h : SimR a X Y) (h0 : X.fin = 0) : SimR a (answerQ P a X) (answerP P a Y) := by
  obtain ⟨h12, ι, hS⟩ := h.go h0
  have hvU : ∀ i : Nat, i < a → Ua a X.N ((i : Int) + 1) ∧ ι ((i : Int) + 1) = (i : Int) + 1 := fun i hi => ⟨.inl (by omega), hS.id _ (by omega) (by omega)⟩
  have hvs : (varsN a).map (ren ι) = varsN a := by
    unfold varsN
    rw [List.map_map]
    apply List.map_congr_left
    intro i hi
    have hi := List.mem_range.1 hi
    show ren ι (vT ((i : Int) + 1)) = vT ((i : Int) + 1)
    rw [ren_var ι (T := vT ((i : Int) + 1)) (by show (i : Int) + 1 ≠ 0; omega)]
    show vT (ι ((i : Int) + 1)) = _
    rw [(hvU i hi).2]
  have hr := hS.sg.room hS.mo 200 (varsN a) (fun t ht => by
    obtain ⟨i, hi, rfl⟩ := List.mem_map.1 ht
    exact ovu_vT (hvU i (List.mem_range.1 hi)).1)
  rw [hvs] at hr
  unfold answerQ answerP
  rw [hr]
  cases hq : roomF X.σ 200 (varsN a) with
  | none => exact ⟨h.ans, rfl, h.st, h.al, h.ch, fun h => (by cases h)⟩
  | some k =>
    have hF := found_ren hS.sg hS.mo (n := a) hvU (fun i hi => room_fin 200 _ _ hq _ (List.mem_map.2 ⟨i, List.mem_range.2 hi, rfl⟩))
    simp only
    rw [hF, ← h.ans]
    by_cases hl : X.ans.length + 1 = 40
    · rw [if_pos hl, if_pos hl]
      exact ⟨rfl, rfl, h.st, h.al, h.ch, fun h => (by cases h)⟩
    · rw [if_neg hl, if_neg hl]
      exact bk_sim hP ha (X := { X with ans := X.ans ++ [foundP X.σ a] }) (Y := { Y with ans := X.ans ++ [foundP X.σ a] }) rfl h.fin h.st h.al h.ch
theorem rq_nil {P : Cls} {n limit f : Nat} {X : QS} (h : X.fin = 0) (hg : X.gl = []) : runQ P n limit (f + 1) X = runQ P n limit f (answerQ P n X) := by
  rw [runQ, if_neg (by simpa using h), hg]
theorem rq_over {P : Cls} {n limit f : Nat} {X : QS} {g : Gl} {r : List Gl} (h : X.fin = 0) (hg : X.gl = g :: r) (hl : X.st = limit) : runQ P n limit (f + 1) X = { X with fin := 2 } := by
  rw [runQ, if_neg (by simpa using h), hg]
  simp only
  rw [if_pos hl]
theorem rq_step {P : Cls} {n limit f : Nat} {X : QS} {g : Gl} {r : List Gl} (h : X.fin = 0) (hg : X.gl = g :: r) (hl : X.st ≠ limit) : runQ P n limit (f + 1) X = runQ P n limit f (stepQ P { X with st := X.st + 1 }) := by
  rw [runQ, if_neg (by simpa using h), hg]
  simp only
  rw [if_neg hl]
theorem rp_nil {P : Cls} {n limit f : Nat} {X : PS} (h : X.fin = 0) (hg : X.gl = []) : runP P n limit (f + 1) X = runP P n limit f (answerP P n X) := by
  rw [runP, if_neg (by simpa using h), hg]
theorem rp_over {P : Cls} {n limit f : Nat} {X : PS} {g : Gl} {r : List Gl} (h : X.fin = 0) (hg : X.gl = g :: r) (hl : X.st = limit) : runP P n limit (f + 1) X = { X with fin := 2 } := by
  rw [runP, if_neg (by simpa using h), hg]
  simp only
  rw [if_pos hl]
theorem rp_step {P : Cls} {n limit f : Nat} {X : PS} {g : Gl} {r : List Gl} (h : X.fin = 0) (hg : X.gl = g :: r) (hl : X.st ≠ limit) : runP P n limit (f + 1) X = runP P n limit f (stepP P { X with st := X.st + 1 }) := by
  rw [runP, if_neg (by simpa using h), hg]
  simp only
  rw [if_neg hl]
theorem run_sim {P : Cls} (hP : PU P) {a : Nat} (ha : a ≤ 12) (limit : Nat) : ∀ (f : Nat) (X : QS) (Y : PS), SimR a X Y → SimR a (runQ P a limit f X) (runP P a limit f Y) := by
  intro f
  induction f with
  | zero => intro X Y h; exact h
  | succ f ih =>
    intro X Y h
    by_cases h0 : X.fin = 0
    case neg =>
      have h0' : Y.fin ≠ 0 := by rw [← h.fin]; exact h0
      rw [runQ, runP, if_pos h0, if_pos h0']
      exact h
    have h0' : Y.fin = 0 := by rw [← h.fin]; exact h0
    obtain ⟨h12, ι, hS⟩ := h.go h0
    cases hg : X.gl with
    | nil =>
      have hg' : Y.gl = [] := by rw [hS.gl, hg]; rfl
      rw [rq_nil h0 hg, rp_nil h0' hg']
      exact ih _ _ (answer_sim hP ha h h0)
    | cons g r =>
      have hg' : Y.gl = renG ι g :: r.map (renG ι) := by rw [hS.gl, hg]; rfl
      by_cases hl : X.st = limit
      · rw [rq_over h0 hg hl, rp_over h0' hg' (by rw [← h.st]; exact hl)]
        exact ⟨h.ans, rfl, h.st, h.al, h.ch, fun h => (by cases h)⟩
      · rw [rq_step h0 hg hl, rp_step h0' hg' (by rw [← h.st]; exact hl)]
        have h2 : SimR a { X with st := X.st + 1 } { Y with st := Y.st + 1 } := ⟨h.ans, h.fin, by show X.st + 1 = Y.st + 1; rw [h.st], h.al, h.ch, h.go⟩
        exact ih _ _ (step_sim hP ha h2 h0 (by show X.gl ≠ []; rw [hg]; simp))
end Go.Proofs.Ytmggaclaoefdaaa
