/- A search in memory: choices and answers are laid, and go; same. A search: same. A search: a clause is entered. Trying clauses: over terms alone, and as a search in memory means it. -/
import Derived.Test.YtmggaclaoefdaaaGC
namespace Go.Proofs.Ytmggaclaoefdaaa
open Go.RowKit

theorem flatR_append (l k : List Cr) : flatR (l ++ k) = flatR l ++ flatR k := by unfold flatR; rw [List.map_append, List.flatten_append]
theorem flatR_len (l : List Cr) : (flatR l).length = l.length * 3 := by
  induction l with
  | nil => rfl
  | cons c l ih => rw [show flatR (c :: l) = cellsR c ++ flatR l from rfl, List.length_append, ih, List.length_cons]; simp [cellsR]; omega
theorem flatR_take (l : List Cr) : ∀ k, flatR (l.take k) = (flatR l).take (k * 3) := by
  induction l with
  | nil => intro k; simp [flatR]
  | cons c l ih =>
    intro k
    cases k with
    | zero => simp [flatR]
    | succ k =>
      rw [List.take_succ_cons, show flatR (c :: l) = cellsR c ++ flatR l from rfl, show flatR (c :: l.take k) = cellsR c ++ flatR (l.take k) from rfl, ih, List.take_append]
      rw [show (cellsR c).length = 3 from rfl, List.take_of_length_le (l := cellsR c) (by show 3 ≤ (k + 1) * 3; omega), show (k + 1) * 3 - 3 = k * 3 from by omega]
section
variable {w0 w : World} {s m : Nat} {r : Sr} {tv : Value} {n : Nat} {σ : Sg} {L : Int} {tr : List Int} {gl : List Gl} {ch : List Cr} {an : List Tm}
/-- A choice is laid behind the others. -/
theorem SS.push (h : SS w0 w s m r tv n σ L tr gl ch an) {w' : World} {cv' : Value} {c : Cr} (ho : w'.ownsRow w0.heap.size 183 3 cv' (ch.length + 1) (flatR ch ++ flatR [c])) (hg : w.grownBy w' r.cv.ownBlock) (hat : cv'.ownBlock = r.cv.ownBlock ∨ cv'.ownBlock = some w.heap.size)
    (hcg : GL w (Mu s r.b m tv r.cv r.av) 1000000 c.p c.gl) (hcs : c.mark ≤ tr.length ∧ c.σ = rst σ (tr.take c.mark)) (hcm : ∀ d ∈ ch, d.mark ≤ c.mark) :
    SS w0 (w'.setCell ⟨s, 9, none⟩ cv') s m { r with cv := cv' } tv n σ L tr gl (ch ++ [c]) an := by
  have hs := h.blk.lt
  have hns : r.cv.ownBlock ≠ some s := fun e => (h.dcv s e).1 rfl
  have hst : w'.heap[s]? = w.heap[s]? := hg.block s hs (fun e => hns e.symm)
  have hw1 : Bw (Mu s r.b m tv r.cv r.av) w.heap.size w w' := (Bw.refl _ _ _).grown hg (Nat.le_refl _) (fun k hk => .inr (.inr (.inr (.inl hk))))
  have hset := G.set s w' 9 cv'
  have hw : Bw (Mu s r.b m tv r.cv r.av) w.heap.size w (w'.setCell ⟨s, 9, none⟩ cv') := hw1.grown hset hw1.size (fun k hk => .inr (.inr (.inl (Option.some.inj hk).symm)))
  have hmu : ∀ k, k < w.heap.size → Mu s r.b m tv cv' r.av k → Mu s r.b m tv r.cv r.av k := fun k hk e => by
    rcases e with e | e | e | e
    · exact .inl e
    · exact .inr (.inl e)
    · rcases hat with h1 | h1
      · exact .inr (.inr (.inl (h1 ▸ e)))
      · rw [h1] at e; have := Option.some.inj e; omega
    · exact .inr (.inr (.inr e))
  have hcvd : ∀ g, cv'.ownBlock = some g → g ≠ s ∧ g ≠ r.b ∧ g ≠ m ∧ tv.ownBlock ≠ some g ∧ r.av.ownBlock ≠ some g := fun g hg' => by
    rcases hat with e | e
    · rw [e] at hg'
      obtain ⟨d1, d2, d3, d4⟩ := h.dcv g hg'
      exact ⟨d1, d2, d3, d4, fun ea => (h.dav g ea).2.2.2.2 hg'⟩
    · rw [e] at hg'
      have he := Option.some.inj hg'
      have h1 := h.vs.lt
      have h2 := h.vs.map.lt
      refine ⟨by omega, by omega, by omega, fun e => ?_, fun e => ?_⟩
      · have := (h.trk.1.lt g e).2; omega
      · have := (h.anr.lt g e).2; omega
  have hms : ∀ v T, σ v = some T → NM (Ms s cv' r.av) T := fun v T hv => (h.sg v T hv).anti (h.vs.trm v T hv).1 (fun k hk e => by
    rcases e with e | e | e
    · exact .inl e
    · rcases hat with h1 | h1
      · exact .inr (.inl (h1 ▸ e))
      · rw [h1] at e; have := Option.some.inj e; omega
    · exact .inr (.inr e))
  have hvs1 : VS w' r.b m tv 1000000 w0.heap.size n σ L := by
    cases hcb : r.cv.ownBlock with
    | none => rw [hcb] at hg; exact h.vs.below ⟨hg.os, hg.tape, hg.output, hg.size, fun k hk => hg.block k hk (by simp)⟩
    | some g =>
      rw [hcb] at hg
      obtain ⟨d1, d2, d3, d4⟩ := h.dcv g hcb
      exact h.vs.atK hg d2 d3 (fun g' e e' => d4 (e' ▸ e)) (fun v T hv => (h.sg v T hv).nb (.inr (.inl hcb)))
  have hvs2 := hvs1.atK hset h.dsb.1 h.dsb.2.1 h.dsb.2.2 (fun v T hv => (h.sg v T hv).nb (.inl rfl))
  have hrw : ∀ {lo sz : Nat} {t : TypeId} {v : Value} {n : Nat} {xs : List Value}, w.ownsRow lo t sz v n xs → (∀ g, v.ownBlock = some g → g ≠ s ∧ r.cv.ownBlock ≠ some g) → (w'.setCell ⟨s, 9, none⟩ cv').ownsRow lo t sz v n xs := fun h1 h2 => rowk h1 (fun g hg' => by
    have hl := (h1.lt g hg').2
    exact (hset.block g (Nat.lt_of_lt_of_le hl hg.size) (by simpa using (h2 g hg').1)).trans (hg.block g hl (fun e => (h2 g hg').2 e.symm)))
  refine ⟨(h.blk.kept hst).set 9 cv' rfl, hvs2, ⟨hrw h.trk.1 (fun g hg' => ⟨h.dsb.2.2 g hg', fun e => (h.dcv g e).2.2.2 hg'⟩), h.trk.2⟩, hms, h.gls.next hw hmu, ?_, fun d hd => ?_, fun d hd => ?_, ?_, hrw h.anr (fun g hg' => ⟨(h.dav g hg').1, (h.dav g hg').2.2.2.2⟩), fun A hA => ⟨(h.ant A hA).1.bw hw (Nat.le_refl _) (h.ant A hA).2, (h.ant A hA).2.anti (h.ant A hA).1 hmu⟩, h.lows hw, h.los, h.dsb, fun g hg' => ?_, fun g hg' => ?_⟩
  · rw [List.length_append, flatR_append]
    exact ho.kept hset (row_ne (fun g hg' => (hcvd g hg').1))
  · rcases List.mem_append.1 hd with hd | hd
    · exact (h.chg d hd).next hw hmu
    · rw [List.mem_singleton] at hd; subst hd; exact hcg.next hw hmu
  · rcases List.mem_append.1 hd with hd | hd
    · exact h.chs d hd
    · rw [List.mem_singleton] at hd; subst hd; exact hcs
  · rw [List.pairwise_append]
    exact ⟨h.chm, by simp, fun a ha b hb => by rw [List.mem_singleton] at hb; subst hb; exact hcm a ha⟩
  · obtain ⟨d1, d2, d3, d4, _⟩ := hcvd g hg'
    exact ⟨d1, d2, d3, d4⟩
  · obtain ⟨d1, d2, d3, d4, _⟩ := h.dav g hg'
    exact ⟨d1, d2, d3, d4, fun e => (hcvd g e).2.2.2.2 hg'⟩
/-- Only the first choices stay. -/
theorem SS.cut (h : SS w0 w s m r tv n σ L tr gl ch an) {k cp : Nat} {a : Option Addr} (hk : k ≤ ch.length) (hcv : r.cv = .slice a ch.length cp) :
    SS w0 (w.setCell ⟨s, 9, none⟩ (.slice a k cp)) s m { r with cv := .slice a k cp } tv n σ L tr gl (ch.take k) an := by
  have hob : (Value.slice a k cp).ownBlock = r.cv.ownBlock := by rw [hcv]; cases a <;> rfl
  have hset := G.set s w 9 (.slice a k cp)
  have hw : Bw (Mu s r.b m tv r.cv r.av) w.heap.size w (w.setCell ⟨s, 9, none⟩ (.slice a k cp)) := (Bw.refl _ _ _).grown hset (Nat.le_refl _) (fun j hj => .inr (.inr (.inl (Option.some.inj hj).symm)))
  have hmu : ∀ j, j < w.heap.size → Mu s r.b m tv (.slice a k cp) r.av j → Mu s r.b m tv r.cv r.av j := fun j _ e => by
    rcases e with e | e | e | e
    · exact .inl e
    · exact .inr (.inl e)
    · exact .inr (.inr (.inl (hob ▸ e)))
    · exact .inr (.inr (.inr e))
  have hvs := h.vs.atK hset h.dsb.1 h.dsb.2.1 h.dsb.2.2 (fun v T hv => (h.sg v T hv).nb (.inl rfl))
  refine ⟨h.blk.set 9 _ rfl, hvs, ⟨h.trk.1.kept hset (row_ne h.dsb.2.2), h.trk.2⟩, fun v T hv => (h.sg v T hv).anti (h.vs.trm v T hv).1 (fun j _ e => ?_), h.gls.next hw hmu, ?_, fun d hd => (h.chg d (List.mem_of_mem_take hd)).next hw hmu, fun d hd => h.chs d (List.mem_of_mem_take hd), h.chm.sublist (List.take_sublist k ch), h.anr.kept hset (row_ne (fun g hg' => (h.dav g hg').1)), fun A hA => ⟨(h.ant A hA).1.bw hw (Nat.le_refl _) (h.ant A hA).2, (h.ant A hA).2.anti (h.ant A hA).1 hmu⟩, h.lows hw, h.los, h.dsb, fun g hg' => h.dcv g (hob ▸ hg'), fun g hg' => ?_⟩
  · rcases e with e | e | e
    · exact .inl e
    · exact .inr (.inl (hob ▸ e))
    · exact .inr (.inr e)
  · have h1 := h.chr.kept hset (row_ne (fun g hg' => (h.dcv g hg').1))
    have hl : (ch.take k).length = k := by rw [List.length_take]; omega
    rw [hl, flatR_take]
    refine ⟨by rw [List.length_take, flatR_len]; omega, ?_⟩
    rcases h1.2 with ⟨e, h0⟩ | ⟨g, cap, cur, e, hlo, hgg, hnc, hcm, hsz, htk⟩
    · rw [hcv] at e
      simp at e
      exact .inl ⟨by rw [e.1, e.2.2]; simp; omega, by omega⟩
    · rw [hcv] at e
      simp only [Value.slice.injEq] at e
      obtain ⟨rfl, _, rfl⟩ := e
      exact .inr ⟨g, cp, cur, rfl, hlo, hgg, by omega, hcm, hsz, by rw [← htk, List.take_take]; congr 1; omega⟩
  · obtain ⟨d1, d2, d3, d4, d5⟩ := h.dav g hg'
    exact ⟨d1, d2, d3, d4, hob ▸ d5⟩
/-- Variables are what they were. -/
theorem SS.undo (h : SS w0 w s m r tv n σ L tr gl ch an) {w' : World} {tv' : Value} {k : Nat} (hk : k ≤ tr.length) (hkc : ∀ c ∈ ch, c.mark ≤ k) (ht : tv'.ownBlock = tv.ownBlock) (hv : VS w' r.b m tv' 1000000 w0.heap.size n (rst σ (tr.take k)) L) (htr : TrOk w' w0.heap.size tv' (tr.take k) (rst σ (tr.take k))) (hg : GF r.b m tv w w') :
    SS w0 w' s m r tv' n (rst σ (tr.take k)) L (tr.take k) gl ch an := by
  have hb := SS.ofGF (s := s) hg
  have hs := h.blk.lt
  have hst : w'.heap[s]? = w.heap[s]? := hg.block s hs h.dsb.1 h.dsb.2.1 (fun g hg' e => h.dsb.2.2 g hg' e)
  have hmu : ∀ j, j < w.heap.size → Mu s r.b m tv' r.cv r.av j → Mu s r.b m tv r.cv r.av j := fun j _ e => by
    rcases e with (e | e | e) | e
    · exact .inl (.inl e)
    · exact .inl (.inr (.inl e))
    · exact .inl (.inr (.inr (ht ▸ e)))
    · exact .inr e
  refine ⟨h.blk.kept hst, hv, htr, fun v T hv => ?_, h.gls.next hb hmu, rowk h.chr (fun g hg' => ?_), fun c hc => (h.chg c hc).next hb hmu, fun c hc => ⟨by rw [List.length_take]; have := hkc c hc; omega, ?_⟩, h.chm, rowk h.anr (fun g hg' => ?_), fun A hA => ⟨(h.ant A hA).1.bw hb (Nat.le_refl _) (h.ant A hA).2, (h.ant A hA).2.anti (h.ant A hA).1 hmu⟩, h.lows hb, h.los, by rw [ht]; exact h.dsb, by rw [ht]; exact h.dcv, by rw [ht]; exact h.dav⟩
  · unfold rst at hv
    split at hv
    · exact h.sg v T hv
    · simp at hv
  · obtain ⟨d1, d2, d3, d4⟩ := h.dcv g hg'
    exact hg.block g (h.chr.lt g hg').2 d2 d3 (fun g' h' e => d4 (e ▸ h'))
  · rw [(h.chs c hc).2, List.take_take]
    have hck := hkc c hc
    rw [show min c.mark k = c.mark from by omega]
    funext v
    unfold rst
    by_cases hv : v ∈ tr.take c.mark
    · have : v ∈ tr.take k := by
        have e : tr.take c.mark = (tr.take k).take c.mark := by rw [List.take_take, show min c.mark k = c.mark from by omega]
        rw [e] at hv
        exact List.mem_of_mem_take hv
      rw [if_pos hv, if_pos hv, if_pos this]
    · rw [if_neg hv, if_neg hv]
  · obtain ⟨d1, d2, d3, d4, d5⟩ := h.dav g hg'
    exact hg.block g (h.anr.lt g hg').2 d2 d3 (fun g' h' e => d4 (e ▸ h'))
end
end Go.Proofs.Ytmggaclaoefdaaa

namespace Go.Proofs.Ytmggaclaoefdaaa
open Go.RowKit

/-- What same of a search says. -/
def SM (w0 w : World) (s m : Nat) (r : Sr) (tv : Value) (n : Nat) (σ : Sg) (L : Nat) (tr : List Int) (gl : List Gl) (ch : List Cr) (an : List Tm) (A B : Tm) (e : Ending) (w' : World) : Prop :=
  ∃ (ok : Bool) (r' : Sr) (tv' : Value) (n' : Nat) (σ' : Sg) (L' : Int) (tr' : List Int), e = .returned (.bool ok) ∧ SS w0 w' s m r' tv' n' σ' L' tr' gl ch an ∧ (tr.length ≤ tr'.length ∧ tr'.take tr.length = tr) ∧ rst σ' (tr'.take tr.length) = σ ∧ n' ≤ n + L ∧ (Bw (Mu s r.b m tv r.cv r.av) w.heap.size w w' ∧ ∀ k, k < w.heap.size → Mu s r.b m tv' r.cv r.av k → Mu s r.b m tv r.cv r.av k) ∧
    ((ok = true ∧ r' = r ∧ ∃ k : Nat, k ≤ L ∧ L' = k ∧ n' + k ≤ n + L ∧ meetF (L + 1) σ L [(A, B)] = .yes k σ') ∨ (ok = false ∧ r' = r ∧ ∃ k : Nat, k ≤ L ∧ L' = k ∧ meetF (L + 1) σ L [(A, B)] = .no k) ∨ (ok = false ∧ r' = { r with fin := 3 } ∧ L' = -1 ∧ meetF (L + 1) σ L [(A, B)] = .over))
theorem SS.same {w0 w wx w' : World} {s m : Nat} {r : Sr} {tv : Value} {n : Nat} {σ : Sg} {L : Nat} {tr : List Int} {gl : List Gl} {ch : List Cr} {an : List Tm} {A B : Tm} {e : Ending} (h : SS w0 w s m r tv n σ L tr gl ch an) (hb : Below w.heap.size w wx) (hA : NM (Mu s r.b m tv r.cv r.av) A) (hB : NM (Mu s r.b m tv r.cv r.av) B) (hS : SP wx r.b m tv 1000000 w0.heap.size n σ L A B e w') :
    ∃ (ok : Bool) (tv' : Value) (n' : Nat) (σ' : Sg) (L' : Int) (tr' : List Int), e = .returned (.bool ok) ∧ SS w0 w' s m r tv' n' σ' L' tr' gl ch an ∧ (tr.length ≤ tr'.length ∧ tr'.take tr.length = tr) ∧ rst σ' (tr'.take tr.length) = σ ∧ n' ≤ n + L ∧ (Bw (Mu s r.b m tv r.cv r.av) w.heap.size w w' ∧ ∀ k, k < w.heap.size → Mu s r.b m tv' r.cv r.av k → Mu s r.b m tv r.cv r.av k) ∧ ((ok = true ∧ ∃ k : Nat, k ≤ L ∧ L' = k ∧ n' + k ≤ n + L ∧ meetF (L + 1) σ L [(A, B)] = .yes k σ') ∨ (ok = false ∧ ∃ k : Nat, k ≤ L ∧ L' = k ∧ meetF (L + 1) σ L [(A, B)] = .no k) ∨ (ok = false ∧ L' = -1 ∧ meetF (L + 1) σ L [(A, B)] = .over)) := by
  have hx := h.below hb
  have hanti : ∀ T : Tm, NM (Mu s r.b m tv r.cv r.av) T → NM (Ms s r.cv r.av) T := fun T hT => by
    induction T with
    | nil => trivial
    | mk v nm a len cap f ih => exact ⟨fun h0 => let ⟨b, o, e, hb⟩ := hT.1 h0; ⟨b, o, e, fun e' => hb (.inr e')⟩, fun i hi => ih i (hT.2 i hi)⟩
  have hK : KidC (NM (Ms s r.cv r.av)) := fun T hT i hi => hT.kid hi
  rcases hS with ⟨rfl, k, σ', tv', n', h1, h2, h3, h4, ⟨h5, h6⟩, h7⟩ | ⟨rfl, L', σ', tv', n', h1, h2, h3, ⟨h4, h5⟩, h6⟩
  · obtain ⟨tr', g1, g2, g3, g4⟩ := hx.vars h2 h4 h5 (h6 _ hK h.sg (hanti A hA) (hanti B hB))
    have g5 : Bw (Mu s r.b m tv r.cv r.av) w.heap.size w w' := (Bw.ofBelow hb).trans ((SS.ofGF h4).mono hb.size)
    obtain ⟨F', hF1, hF2⟩ := h7 (L + 1) [] (Nat.lt_succ_self L)
    refine ⟨true, tv', n', σ', k, tr', rfl, g1, g2, g3, by omega, ⟨g5, fun k hk => g4 k (Nat.lt_of_lt_of_le hk hb.size)⟩, .inl ⟨rfl, k, by omega, rfl, h3, ?_⟩⟩
    rw [hF2]
    obtain ⟨F, rfl⟩ : ∃ F, F' = F + 1 := ⟨F' - 1, by omega⟩
    cases k <;> rfl
  · obtain ⟨tr', g1, g2, g3, g4⟩ := hx.vars h1 h3 h4 (h5 _ hK h.sg (hanti A hA) (hanti B hB))
    have g5 : Bw (Mu s r.b m tv r.cv r.av) w.heap.size w w' := (Bw.ofBelow hb).trans ((SS.ofGF h3).mono hb.size)
    refine ⟨false, tv', n', σ', L', tr', rfl, g1, g2, g3, h2, ⟨g5, fun k hk => g4 k (Nat.lt_of_lt_of_le hk hb.size)⟩, ?_⟩
    rcases h6 with ⟨e1, e2⟩ | ⟨k, e1, e2, e3⟩
    · exact .inr (.inr ⟨rfl, e1, e2 _ _ (Nat.lt_succ_self L)⟩)
    · exact .inr (.inl ⟨rfl, k, by omega, e1, e3 _ _ (Nat.lt_succ_self L)⟩)
set_option maxRecDepth 100000 in
set_option maxHeartbeats 4000000 in
theorem ssame_any {w0 : World} {s m : Nat} {r : Sr} {tv : Value} {n : Nat} {σ : Sg} {L : Nat} {tr : List Int} {gl : List Gl} {ch : List Cr} {an : List Tm} (A B : Tm) (w : World) (h : SS w0 w s m r tv n σ L tr gl ch an) (hL : L ≤ 4000) (hn : n + L ≤ 1000000000) (hA : TIn w A ∧ Okv 1000000 A ∧ NM (Mu s r.b m tv r.cv r.av) A) (hB : TIn w B ∧ Okv 1000000 B ∧ NM (Mu s r.b m tv r.cv r.av) B) :
    Calls Try.prog 126 #[.pointer (some ⟨s, 0, none⟩), A.val, B.val] w (SM w0 w s m r tv n σ L tr gl ch an A B) := by
  have H : Hid (SS w0 w s m r tv n σ L tr gl ch an) := h
  have HA : Hid (TIn w A ∧ Okv 1000000 A ∧ NM (Mu s r.b m tv r.cv r.av) A) := hA
  have HB : Hid (TIn w B ∧ Okv 1000000 B ∧ NM (Mu s r.b m tv r.cv r.av) B) := hB
  have hs := h.blk.lt
  clear h hA hB
  show Calls Try.prog 126 #[.pointer (some ⟨s, 0, none⟩), .agg #[.int .i64 A.v, .string A.nm, .slice A.a A.len A.cap], .agg #[.int .i64 B.v, .string B.nm, .slice B.a B.len B.cap]] w _
  go_enter Try.func126, Try.ntmps126
  go_wp2_with fail
  have HBx : Hid (Below w.heap.size w ((w.alloc (.cells #[.int .i64 A.v, .string A.nm, .slice A.a A.len A.cap] 24)).alloc (.cells #[.int .i64 B.v, .string B.nm, .slice B.a B.len B.cap] 24))) := ((Below.refl _ _).alloc (Nat.le_refl _) _).alloc (by simp) _
  have HX0 : Hid (((w.alloc (.cells #[.int .i64 A.v, .string A.nm, .slice A.a A.len A.cap] 24)).alloc (.cells #[.int .i64 B.v, .string B.nm, .slice B.a B.len B.cap] 24)).heap[w.heap.size]? = some (.cells #[.int .i64 A.v, .string A.nm, .slice A.a A.len A.cap] 24)) := by
    rw [Hid, heap_alloc_old _ _ (by simp)]; exact heap_alloc_new w _
  have HT0 : Hid (((w.alloc (.cells #[.int .i64 A.v, .string A.nm, .slice A.a A.len A.cap] 24)).alloc (.cells #[.int .i64 B.v, .string B.nm, .slice B.a B.len B.cap] 24)).heap[w.heap.size + 1]? = some (.cells #[.int .i64 B.v, .string B.nm, .slice B.a B.len B.cap] 24)) := by
    have := heap_alloc_new (w.alloc (.cells #[.int .i64 A.v, .string A.nm, .slice A.a A.len A.cap] 24)) (.cells #[.int .i64 B.v, .string B.nm, .slice B.a B.len B.cap] 24)
    rwa [show (w.alloc (.cells #[.int .i64 A.v, .string A.nm, .slice A.a A.len A.cap] 24)).heap.size = w.heap.size + 1 from by simp] at this
  generalize (w.alloc (.cells #[.int .i64 A.v, .string A.nm, .slice A.a A.len A.cap] 24)).alloc (.cells #[.int .i64 B.v, .string B.nm, .slice B.a B.len B.cap] 24) = wa at *
  have HSa : Hid (SS w0 wa s m r tv n σ L tr gl ch an) := H.out.below HBx.out
  obtain ⟨x0, x1, x2, _, _, _⟩ := block_cells HX0.out
  obtain ⟨t0, t1, t2, _, _, _⟩ := block_cells HT0.out
  obtain ⟨_, _, _, _, _, _, _, c7, _, _, _⟩ := HSa.out.blk.get
  have HKp : Hid (∀ W, Below wa.heap.size wa W → W.cell? ⟨s, 7, none⟩ = some (.pointer (some ⟨r.b, 0, none⟩)) ∧ W.cell? ⟨w.heap.size, 0, none⟩ = some (.int .i64 A.v) ∧ W.cell? ⟨w.heap.size, 1, none⟩ = some (.string A.nm) ∧ W.cell? ⟨w.heap.size, 2, none⟩ = some (.slice A.a A.len A.cap) ∧ W.cell? ⟨w.heap.size + 1, 0, none⟩ = some (.int .i64 B.v) ∧ W.cell? ⟨w.heap.size + 1, 1, none⟩ = some (.string B.nm) ∧ W.cell? ⟨w.heap.size + 1, 2, none⟩ = some (.slice B.a B.len B.cap)) := fun W hW => ⟨(hW.cell (lt_of_cell c7)).trans c7, (hW.cell (lt_of_cell x0)).trans x0, (hW.cell (lt_of_cell x1)).trans x1, (hW.cell (lt_of_cell x2)).trans x2, (hW.cell (lt_of_cell t0)).trans t0, (hW.cell (lt_of_cell t1)).trans t1, (hW.cell (lt_of_cell t2)).trans t2⟩
  have HC : Hid (∀ W, Below wa.heap.size wa W → Calls Try.prog 61 #[.pointer (some ⟨r.b, 0, none⟩), .agg #[.int .i64 A.v, .string A.nm, .slice A.a A.len A.cap], .agg #[.int .i64 B.v, .string B.nm, .slice B.a B.len B.cap]] W fun e w' => (w'.cell? ⟨s, 7, none⟩ = some (.pointer (some ⟨r.b, 0, none⟩)) ∧ w'.cell? ⟨w.heap.size, 0, none⟩ = some (.int .i64 A.v) ∧ w'.cell? ⟨w.heap.size, 1, none⟩ = some (.string A.nm) ∧ w'.cell? ⟨w.heap.size, 2, none⟩ = some (.slice A.a A.len A.cap) ∧ w'.cell? ⟨w.heap.size + 1, 0, none⟩ = some (.int .i64 B.v) ∧ w'.cell? ⟨w.heap.size + 1, 1, none⟩ = some (.string B.nm) ∧ w'.cell? ⟨w.heap.size + 1, 2, none⟩ = some (.slice B.a B.len B.cap)) ∧ ∃ (ok : Bool) (tv' : Value) (n' : Nat) (σ' : Sg) (L' : Int) (tr' : List Int), e = .returned (.bool ok) ∧ SS w0 w' s m r tv' n' σ' L' tr' gl ch an ∧ (tr.length ≤ tr'.length ∧ tr'.take tr.length = tr) ∧ rst σ' (tr'.take tr.length) = σ ∧ n' ≤ n + L ∧ (Bw (Mu s r.b m tv r.cv r.av) w.heap.size w w' ∧ ∀ k, k < w.heap.size → Mu s r.b m tv' r.cv r.av k → Mu s r.b m tv r.cv r.av k) ∧ ((ok = true ∧ ∃ k : Nat, k ≤ L ∧ L' = k ∧ n' + k ≤ n + L ∧ meetF (L + 1) σ L [(A, B)] = .yes k σ') ∨ (ok = false ∧ ∃ k : Nat, k ≤ L ∧ L' = k ∧ meetF (L + 1) σ L [(A, B)] = .no k) ∨ (ok = false ∧ L' = -1 ∧ meetF (L + 1) σ L [(A, B)] = .over))) := fun W hW => by
    have hwW : Below w.heap.size w W := HBx.out.trans (hW.mono HBx.out.size)
    have hx := H.out.below hwW
    exact (same_all L r.b m tv 1000000 w0.heap.size n σ A B W hx.vs hL hn (hx.good (HA.out.1.below hwW) HA.out.2.1 HA.out.2.2) (hx.good (HB.out.1.below hwW) HB.out.2.1 HB.out.2.2)).mono fun e w' hS => by
      have hcw := HKp.out W hW
      have hf : ∀ {p : Addr} {v : Value}, W.cell? p = some v → w.heap.size ≤ p.block → w'.cell? p = some v := fun hc hp => hS.gf.cell hc (by have := H.out.vs.lt; omega) (by have := H.out.vs.map.lt; omega) (fun g hg => by have := H.out.vs.trail_lt g hg; omega)
      have h2 := H.out.same hwW HA.out.2.2 HB.out.2.2 hS
      refine ⟨⟨?_, hf hcw.2.1 (Nat.le_refl _), hf hcw.2.2.1 (Nat.le_refl _), hf hcw.2.2.2.1 (Nat.le_refl _), hf hcw.2.2.2.2.1 (Nat.le_succ _), hf hcw.2.2.2.2.2.1 (Nat.le_succ _), hf hcw.2.2.2.2.2.2 (Nat.le_succ _)⟩, h2⟩
      obtain ⟨_, _, _, _, _, _, _, h3, _⟩ := h2
      exact h3.blk.get.2.2.2.2.2.2.2.1
  go_region_held3 (fun w' => w'.cell? ⟨s, 7, none⟩ = some (.pointer (some ⟨r.b, 0, none⟩)) ∧ w'.cell? ⟨w.heap.size, 0, none⟩ = some (.int .i64 A.v) ∧ w'.cell? ⟨w.heap.size, 1, none⟩ = some (.string A.nm) ∧ w'.cell? ⟨w.heap.size, 2, none⟩ = some (.slice A.a A.len A.cap) ∧ w'.cell? ⟨w.heap.size + 1, 0, none⟩ = some (.int .i64 B.v) ∧ w'.cell? ⟨w.heap.size + 1, 1, none⟩ = some (.string B.nm) ∧ w'.cell? ⟨w.heap.size + 1, 2, none⟩ = some (.slice B.a B.len B.cap)) (first | exact HK5.out | ((refine HKp.out _ ?_; repeat (first | exact Below.refl _ _ | refine Below.drew ?_)))) (first
    | (go_at_call 61
       refine (HC.out _ (by repeat (first | exact Below.refl _ _ | refine Below.drew ?_))).mono ?_
       rintro e w5 ⟨hk5, ok, tv', n', σ', L', tr', rfl, h5, h6⟩
       have HK5 : Hid (w5.cell? ⟨s, 7, none⟩ = some (.pointer (some ⟨r.b, 0, none⟩)) ∧ w5.cell? ⟨w.heap.size, 0, none⟩ = some (.int .i64 A.v) ∧ w5.cell? ⟨w.heap.size, 1, none⟩ = some (.string A.nm) ∧ w5.cell? ⟨w.heap.size, 2, none⟩ = some (.slice A.a A.len A.cap) ∧ w5.cell? ⟨w.heap.size + 1, 0, none⟩ = some (.int .i64 B.v) ∧ w5.cell? ⟨w.heap.size + 1, 1, none⟩ = some (.string B.nm) ∧ w5.cell? ⟨w.heap.size + 1, 2, none⟩ = some (.slice B.a B.len B.cap)) := hk5
       have H5 : Hid (SS w0 w5 s m r tv' n' σ' L' tr' gl ch an) := h5
       have H6 : Hid ((tr.length ≤ tr'.length ∧ tr'.take tr.length = tr) ∧ rst σ' (tr'.take tr.length) = σ ∧ n' ≤ n + L ∧ (Bw (Mu s r.b m tv r.cv r.av) w.heap.size w w5 ∧ ∀ k, k < w.heap.size → Mu s r.b m tv' r.cv r.av k → Mu s r.b m tv r.cv r.av k) ∧ ((ok = true ∧ ∃ k : Nat, k ≤ L ∧ L' = k ∧ n' + k ≤ n + L ∧ meetF (L + 1) σ L [(A, B)] = .yes k σ') ∨ (ok = false ∧ ∃ k : Nat, k ≤ L ∧ L' = k ∧ meetF (L + 1) σ L [(A, B)] = .no k) ∨ (ok = false ∧ L' = -1 ∧ meetF (L + 1) σ L [(A, B)] = .over))) := h6
       clear h5 h6 hk5))
  all_goals
    obtain ⟨_, y1, _, _, _, _, _, y7, _, _, yf⟩ := H5.out.blk.get
    have yf1 := yf 1
    clear x0 x1 x2 t0 t1 t2 c7 HK5 yf
    have HOv : Hid (Calls Try.prog 62 #[.pointer (some ⟨r.b, 0, none⟩)] w5 fun e w' => e = .returned (.bool (decide (L' < 0))) ∧ w' = w5) := over_any w5 H5.out.vs
    go_wp2_with fail
    refine HOv.out.mono ?_
    rintro e w6 ⟨rfl, rfl⟩
    rcases H6.out.2.2.2.2 with ⟨rfl, k, hk, rfl, hnk, hm⟩ | ⟨rfl, k, hk, rfl, hm⟩ | ⟨rfl, rfl, hm⟩
    · have hd : decide ((k : Int) < 0) = false := decide_eq_false (by omega)
      have HM : Hid (meetF (L + 1) σ L [(A, B)] = .yes k σ') := hm
      clear hm
      rw [hd]
      go_wp2_with fail
      go_ret
      exact ⟨true, r, tv', n', σ', k, tr', rfl, H5.out, H6.out.1, H6.out.2.1, H6.out.2.2.1, H6.out.2.2.2.1, .inl ⟨rfl, rfl, k, hk, rfl, hnk, HM.out⟩⟩
    · have hd : decide ((k : Int) < 0) = false := decide_eq_false (by omega)
      have HM : Hid (meetF (L + 1) σ L [(A, B)] = .no k) := hm
      clear hm
      rw [hd]
      go_wp2_with fail
      go_ret
      exact ⟨false, r, tv', n', σ', k, tr', rfl, H5.out, H6.out.1, H6.out.2.1, H6.out.2.2.1, H6.out.2.2.2.1, .inr (.inl ⟨rfl, rfl, k, hk, rfl, HM.out⟩)⟩
    · have HM : Hid (meetF (L + 1) σ L [(A, B)] = .over) := hm
      clear hm
      rw [show decide ((-1 : Int) < 0) = true from rfl]
      go_wp2_with fail
      go_ret
      exact ⟨false, { r with fin := 3 }, tv', n', σ', -1, tr', rfl, H5.out.put 1 _ rfl rfl rfl rfl H5.out.gls, H6.out.1, H6.out.2.1, H6.out.2.2.1, ⟨H6.out.2.2.2.1.1.grown (grown_set s 1 _) H6.out.2.2.2.1.1.size (fun k hk => .inr (.inr (.inl (Option.some.inj hk).symm))), H6.out.2.2.2.1.2⟩, .inr (.inr ⟨rfl, rfl, rfl, HM.out⟩)⟩
end Go.Proofs.Ytmggaclaoefdaaa

namespace Go.Proofs.Ytmggaclaoefdaaa
open Go.RowKit

def cgl (gl : List Gl) : List Gl := gl.map fun g => (can g.1, g.2)
theorem cgl_append (a b : List Gl) : cgl (a ++ b) = cgl a ++ cgl b := by unfold cgl; rw [List.map_append]
theorem okv_own {N last : Int} (h0 : 0 ≤ last) (h1 : last + 12 ≤ N) {T : Tm} (h : Okv 12 T) : Okv N (ap (ownV last) T) := by
  induction T with
  | nil => exact h.elim
  | mk v nm a len cap f ih =>
    obtain ⟨g0, g1, g2, g3, g4⟩ := h
    rw [ap]
    split
    · refine ⟨by omega, by omega, fun h => absurd rfl h, g3, fun i hi => ?_⟩
      show Okv N (if i < len then ap (ownV last) (f i) else .nil)
      rw [if_pos hi]; exact ih i (g4 i hi)
    · exact vT_ok (by omega) (by omega)
theorem okv_of_can {N : Int} {w : World} {X : Tm} (hX : TIn w X) (h : Okv N (can X)) : Okv N X := by
  induction X with
  | nil => exact hX.elim
  | mk v nm a len cap f ih =>
    obtain ⟨g0, g1, g2, g3, g4⟩ := h
    refine ⟨g0, g1, g2, g3, fun i hi => ih i (hX.2.2 i hi).2 ?_⟩
    have := g4 i hi
    simp only [if_pos hi] at this
    exact this
theorem GL.ptr {w : World} {M : Nat → Prop} {N : Int} {p : Value} {gl : List Gl} (h : GL w M N p gl) : ∃ ad, p = .pointer ad := by
  cases gl with
  | nil => exact ⟨none, h⟩
  | cons g r =>
    obtain ⟨T, c⟩ := g
    obtain ⟨k, q, h1, _⟩ := h
    exact ⟨_, h1⟩
theorem ch_form {w : World} {lo : Nat} {v : Value} {ch : List Cr} (h : w.ownsRow lo 183 3 v ch.length (flatR ch)) : ∃ a cp, v = .slice a ch.length cp ∧ ch.length ≤ cp ∧ cp ≤ maxLen ∧ ∀ k (hk : k < ch.length), ∃ g, a = some ⟨g, 0, none⟩ ∧ w.cell? ⟨g, k * 3, none⟩ = some ch[k].p ∧ w.cell? ⟨g, k * 3 + 1, none⟩ = some (.int .i64 ch[k].k) ∧ w.cell? ⟨g, k * 3 + 2, none⟩ = some (.int .i64 ch[k].mark) := by
  rcases h.2 with ⟨rfl, h0⟩ | ⟨g, cap, cur, rfl, hlo, hg, hnc, hcm, hsz, htk⟩
  · exact ⟨none, 0, by rw [h0], by omega, by unfold maxLen; omega, fun k hk => by omega⟩
  · refine ⟨some ⟨g, 0, none⟩, cap, rfl, hnc, hcm, fun k hk => ⟨g, rfl, ?_⟩⟩
    have key : ∀ (l : List Cr) (k : Nat) (hk : k < l.length), (flatR l)[k * 3]? = some l[k].p ∧ (flatR l)[k * 3 + 1]? = some (.int .i64 l[k].k) ∧ (flatR l)[k * 3 + 2]? = some (.int .i64 l[k].mark) := by
      intro l
      induction l with
      | nil => intro k hk; simp at hk
      | cons c l ih =>
        intro k hk
        rw [show flatR (c :: l) = cellsR c ++ flatR l from rfl]
        cases k with
        | zero => exact ⟨rfl, rfl, rfl⟩
        | succ k =>
          have := ih k (by simpa using hk)
          have hl : (cellsR c).length = 3 := rfl
          refine ⟨?_, ?_, ?_⟩
          · rw [List.getElem?_append_right (by rw [hl]; omega), hl, show (k + 1) * 3 - 3 = k * 3 from by omega]; exact this.1
          · rw [List.getElem?_append_right (by rw [hl]; omega), hl, show (k + 1) * 3 + 1 - 3 = k * 3 + 1 from by omega]; exact this.2.1
          · rw [List.getElem?_append_right (by rw [hl]; omega), hl, show (k + 1) * 3 + 2 - 3 = k * 3 + 2 from by omega]; exact this.2.2
    obtain ⟨h1, h2, h3⟩ := key ch k hk
    exact ⟨(h.cellAt (k * 3) (by omega)).trans h1, (h.cellAt (k * 3 + 1) (by omega)).trans h2, (h.cellAt (k * 3 + 2) (by omega)).trans h3⟩
theorem block5 {w : World} {k : Nat} {x0 x1 x2 x3 x4 : Value} {t : TypeId} (h : w.heap[k]? = some (.cells #[x0, x1, x2, x3, x4] t)) : w.cell? ⟨k, 0, none⟩ = some x0 ∧ w.cell? ⟨k, 1, none⟩ = some x1 ∧ w.cell? ⟨k, 2, none⟩ = some x2 ∧ w.cell? ⟨k, 3, none⟩ = some x3 ∧ w.cell? ⟨k, 4, none⟩ = some x4 := by
  refine ⟨?_, ?_, ?_, ?_, ?_⟩ <;> simp [World.cell?, h]

set_option maxRecDepth 100000 in
set_option maxHeartbeats 4000000 in
theorem enter_any {w0 : World} {s m : Nat} {r : Sr} {tv : Value} {n : Nat} {σ : Sg} {L : Int} {tr : List Int} {gl : List Gl} {ch : List Cr} {an : List Tm} {o : Nat} {last : Int} {p : Value} {g : Gl} {rest : List Gl} (B : Tm) (w : World) (h : SS w0 w s m r tv n σ L tr gl ch an) (hp : GL w (Mu s r.b m tv r.cv r.av) 1000000 p (g :: rest)) (hB : TIn w B) (hB6 : B.len ≤ 6) (hO : ∀ i, i < B.len → Okv 12 (B.f i)) (hI : w.heap[o]? = some (.cells #[.int .i64 last] 3)) (hl : 0 ≤ last ∧ last + 12 ≤ 1000000) :
    Calls Try.prog 142 #[.pointer (some ⟨s, 0, none⟩), p, .slice B.a B.len B.cap, .func (.func 145) #[] #[.pointer (some ⟨o, 0, none⟩)]] w fun e w' => e = .returned (.tuple #[]) ∧ ∃ (q : Value) (gl' : List Gl), SS w0 w' s m { r with first := q } tv n σ L tr gl' ch an ∧ cgl gl' = ((kidsL B).map fun b => (ap (ownV last) b, ch.length)) ++ cgl rest ∧ w.heap.size ≤ w'.heap.size ∧ (∀ k, w0.heap.size ≤ k → k < w.heap.size → k ≠ s → w'.heap[k]? = w.heap[k]?) := by
  have H : Hid (SS w0 w s m r tv n σ L tr gl ch an) := h
  have HP : Hid (GL w (Mu s r.b m tv r.cv r.av) 1000000 p (g :: rest)) := hp
  obtain ⟨T, cut⟩ := g
  obtain ⟨kp, qn, rfl, hpM, hpb, hpT, _, _, hpr⟩ := hp
  have HRest : Hid (GL w (Mu s r.b m tv r.cv r.av) 1000000 qn rest) := hpr
  have HO : Hid (∀ i, i < B.len → Okv 12 (B.f i)) := hO
  have HB : Hid (TIn w B) := hB
  have hlen : B.len ≤ 2 ^ 63 - 1 := by omega
  have HRow : Hid (∀ i, i < B.len → ∀ W, Below w.heap.size w W → RowAt W B.a i (B.f i) ∧ TIn W (B.f i)) := fun i hi W hW => ⟨(hB.row hi).below hW, (hB.kid hi).below hW⟩
  have HI : Hid (∀ W, Below w.heap.size w W → W.heap[o]? = some (.cells #[.int .i64 last] 3)) := fun W hW => (hW.block o (Array.getElem?_eq_some_iff.1 hI).1).trans hI
  have HPb : Hid (∀ W, Below w.heap.size w W → W.heap[kp]? = some (.cells #[.int .i64 T.v, .string T.nm, .slice T.a T.len T.cap, .int .i64 cut, qn] 149)) := fun W hW => (hW.block kp (Array.getElem?_eq_some_iff.1 hpb).1).trans hpb
  obtain ⟨i0, hi, hz0, hz1, hz2⟩ := info_parts Try.info24
  have hs := h.blk.lt
  clear h hpM hpb hpT hpr hO hB hI
  generalize hua : B.a = ua at *
  go_enter Try.func142, Try.ntmps142
  go_wp2_with fail
  go_loopw [8, 13] (fun v x wr => ∃ (j : Nat) (ts : List Tm), j ≤ B.len ∧ x = .int .i64 j ∧ LstR w.heap.size wr v ts ts ∧ ts.length = j ∧ Below w.heap.size w wr ∧ ∀ i, i < j → can (ts.getD i .nil) = ap (ownV last) (B.f i)) (fun _ x _ => B.len - (intOf x).toNat)
  case atStart => exact ⟨0, [], Nat.zero_le _, rfl, ⟨World.ownsRow_nil _ _ _ _, fun c hc => absurd hc (by simp), rfl, fun i hi => absurd hi (Nat.not_lt_zero i)⟩, rfl, Below.refl _ _, fun i hi => absurd hi (Nat.not_lt_zero i)⟩
  case round =>
    obtain ⟨j, ts, hj, rfl, hL, hTL, hBr, hV⟩ := hrel
    have HL : Hid (LstR w.heap.size wr u8 ts ts) := hL
    have HTL : Hid (ts.length = j) := hTL
    have HBr : Hid (Below w.heap.size w wr) := hBr
    have HV : Hid (∀ i, i < j → can (ts.getD i .nil) = ap (ownV last) (B.f i)) := hV
    have hts : ts.length ≤ 6 := by omega
    clear hL hTL hBr hV
    by_cases hlt : j < B.len
    case pos =>
      obtain ⟨hr, hTj⟩ := HRow.out j hlt wr HBr.out
      have HTj : Hid (TIn wr (B.f j)) := hTj
      obtain ⟨bb, oo, ha, c0, c1, c2⟩ := hr
      clear hTj
      subst ha
      have HBe : Hid (Below wr.heap.size wr (wr.alloc (.cells #[.int .i64 (B.f j).v, .string (B.f j).nm, .slice (B.f j).a (B.f j).len (B.f j).cap] 24))) := (Below.refl _ _).alloc (Nat.le_refl _) _
      have HA : Hid ((wr.alloc (.cells #[.int .i64 (B.f j).v, .string (B.f j).nm, .slice (B.f j).a (B.f j).len (B.f j).cap] 24)).heap[wr.heap.size]? = some (.cells #[.int .i64 (B.f j).v, .string (B.f j).nm, .slice (B.f j).a (B.f j).len (B.f j).cap] 24)) := heap_alloc_new wr _
      go_wp2_with fail
      generalize wr.alloc (.cells #[.int .i64 (B.f j).v, .string (B.f j).nm, .slice (B.f j).a (B.f j).len (B.f j).cap] 24) = wa at *
      have HBa : Hid (Below w.heap.size w wa) := HBr.out.trans (HBe.out.mono HBr.out.size)
      have HC : Hid (Calls Try.prog 120 #[.agg #[.int .i64 (B.f j).v, .string (B.f j).nm, .slice (B.f j).a (B.f j).len (B.f j).cap], .func (.func 145) #[] #[.pointer (some ⟨o, 0, none⟩)]] wa fun e w' => ∃ X : Tm, e = .returned X.val ∧ Below wa.heap.size wa w' ∧ TIn w' X ∧ Above wa.heap.size X ∧ can X = ap (ownV last) (B.f j)) := each_own wa (HI.out _ HBa.out) (by omega) (HTj.out.below HBe.out) (HO.out j hlt)
      obtain ⟨e0, e1, e2, _, _, _⟩ := block_cells HA.out
      clear c0 c1 c2
      go_wp2_with fail
      refine HC.out.mono ?_
      rintro e w2 ⟨X, rfl, hb2, hX2, hA2, hS2⟩
      rw [show X.val = .agg #[.int .i64 X.v, .string X.nm, .slice X.a X.len X.cap] from rfl]
      have HB2 : Hid (Below wr.heap.size wr w2) := HBe.out.trans (hb2.mono HBe.out.size)
      have HBx : Hid (Below w2.heap.size w2 (w2.alloc (.cells #[.int .i64 X.v, .string X.nm, .slice X.a X.len X.cap] 24))) := (Below.refl _ _).alloc (Nat.le_refl _) _
      have HL3 : Hid (LstR w.heap.size (w2.alloc (.cells #[.int .i64 X.v, .string X.nm, .slice X.a X.len X.cap] 24)) u8 ts ts) := (HL.out.keep HB2.out).keep HBx.out
      have HX3 : Hid (TIn (w2.alloc (.cells #[.int .i64 X.v, .string X.nm, .slice X.a X.len X.cap] 24)) X ∧ Above w.heap.size X ∧ (∀ g, u8.ownBlock = some g → NB g X) ∧ can X = ap (ownV last) (B.f j)) := ⟨hX2.below HBx.out, hA2.mono (Nat.le_trans HBr.out.size HBe.out.size), fun g hg => hA2.nb (Nat.lt_of_lt_of_le (HL.out.own.lt g hg).2 HBe.out.size), hS2⟩
      have HB3 : Hid (Below w.heap.size w (w2.alloc (.cells #[.int .i64 X.v, .string X.nm, .slice X.a X.len X.cap] 24))) := (HBr.out.trans (HB2.out.mono HBr.out.size)).alloc (Nat.le_trans HBr.out.size HB2.out.size) _
      have hsz3 : w.heap.size ≤ (w2.alloc (.cells #[.int .i64 X.v, .string X.nm, .slice X.a X.len X.cap] 24)).heap.size := HB3.out.size
      have HN3 : Hid (∀ j u, (flat [X])[j]? = some u → (w2.alloc (.cells #[.int .i64 X.v, .string X.nm, .slice X.a X.len X.cap] 24)).cell? ((⟨w2.heap.size, 0, none⟩ : Addr).add j) = some u) := news1 w2 X
      clear hb2 hX2 hA2 hS2 e0 e1 e2
      go_wp2_with (at_builtin; refine wpList_append_own_at _ rfl (.tmp 17) (.tmp 21) 22 rfl w.heap.size 24 i0 (.agg #[.int .i64 0, .string ByteArray.empty, .slice none 0 0]) 3 48 Try.underlying22 hi hz0 hz1 hz2 rfl (by decide) u8 ts.length (flat ts) rfl HL3.out.own ⟨w2.heap.size, 0, none⟩ 1 1 (flat [X]) rfl rfl HN3.out (flat_one _) (by unfold maxLen; omega) (by omega) hsz3 ?_; intro v' w6 hown' hgrow hnil hat)
      have HB6 : Hid (Below w.heap.size w w6) := HB3.out.grown hgrow hsz3 (fun k hk => (HL3.out.own.lt k hk).1)
      have HL6 : Hid (LstR w.heap.size w6 v' (ts ++ [X]) (ts ++ [X])) := HL3.out.more HX3.out.1 HX3.out.2.1 HX3.out.2.2.1 (Sim.refl X) hown' hgrow hat
      have HV6 : Hid (∀ i, i < j + 1 → can ((ts ++ [X]).getD i .nil) = ap (ownV last) (B.f i)) := fun i hi => by
        have hj' := HTL.out
        by_cases h2 : i < j
        · have e : (ts ++ [X]).getD i .nil = ts.getD i .nil := by simp [List.getD, List.getElem?_append_left (show i < ts.length by omega)]
          rw [e]; exact HV.out i h2
        · obtain rfl : i = j := by omega
          have e : (ts ++ [X]).getD i .nil = X := by rw [← hj']; simp [List.getD]
          rw [e]; exact HX3.out.2.2.2
      have hlF : (ts ++ [X]).length = j + 1 := by rw [List.length_append, HTL.out]; rfl
      clear hown' hgrow hnil hat
      go_roundw
      case rel => exact ⟨j + 1, ts ++ [X], by omega, by go_num, HL6.out, hlF, HB6.out, HV6.out⟩
      case measure => simp [intOf]; omega
    have hje : j = B.len := by omega
    obtain ⟨Q, hvQ, hQ, hQA, hQS⟩ := HL.out.terms
    have hQl : Q.len = B.len := by rw [hQS.1, HTL.out, hje]
    have hQc : ∀ i, i < Q.len → can (Q.f i) = ap (ownV last) (B.f i) := fun i hi => by rw [sim_can (hQS.2 i hi)]; exact HV.out i (by omega)
    have HQ : Hid (TIn wr Q ∧ Above w.heap.size Q ∧ Q.len = B.len ∧ ∀ i, i < Q.len → can (Q.f i) = ap (ownV last) (B.f i)) := ⟨hQ, hQA, hQl, hQc⟩
    subst hvQ
    have HSr : Hid (SS w0 wr s m r tv n σ L tr gl ch an) := H.out.below HBr.out
    have HMl : Hid (∀ k, Mu s r.b m tv r.cv r.av k → k < w.heap.size) := fun k hk => (H.out.mu hk).2
    have HRr : Hid (GL wr (Mu s r.b m tv r.cv r.av) 1000000 qn rest) := HRest.out.next (Bw.ofBelow HBr.out) (fun _ _ e => e)
    obtain ⟨_, _, _, _, _, _, _, _, _, c9, cf⟩ := HSr.out.blk.get
    have cf8 := cf 8
    obtain ⟨ca, cp, hcv, hc1, hc2, _⟩ := ch_form HSr.out.chr
    obtain ⟨_, _, _, _, p4⟩ := block5 (HPb.out wr HBr.out)
    obtain ⟨qa, hqn⟩ := HRest.out.ptr
    have HKp : Hid (∀ W, Below wr.heap.size wr W → W.cell? ⟨s, 9, none⟩ = some (.slice ca ch.length cp) ∧ W.cell? ⟨kp, 4, none⟩ = some qn ∧ W.frozen? ⟨s, 8, none⟩ = false ∧ ∃ x, W.cell? ⟨s, 8, none⟩ = some x) := fun W hW => ⟨by rw [hW.cell (lt_of_cell c9), c9, hcv], (hW.cell (lt_of_cell p4)).trans p4, (hW.frozen (p := ⟨s, 8, none⟩) HSr.out.blk.lt).trans cf8, r.first, ((HSr.out.below hW).blk.get).2.2.2.2.2.2.2.2.1⟩
    have HC : Hid (∀ W, Below wr.heap.size wr W → Calls Try.prog 70 #[.slice Q.a Q.len Q.cap, .int .i64 ch.length, qn] W fun e w' => ∃ q, e = .returned (.pointer q) ∧ GL w' (Mu s r.b m tv r.cv r.av) 1000000 (.pointer q) (((kidsL Q).map fun t => (t, ch.length)) ++ rest) ∧ Below wr.heap.size wr w') := fun W hW =>
      (ahead_any Q ch.length qn rest W (HQ.out.1.below hW) (HQ.out.2.1.nm (fun k hk => HMl.out k hk)) (fun i hi => okv_of_can (HQ.out.1.kid hi) (by rw [HQ.out.2.2.2 i hi]; exact okv_own (by omega) (by omega) (HO.out i (by rw [← HQ.out.2.2.1]; exact hi)))) (HRr.out.next (Bw.ofBelow hW) (fun _ _ e => e)) (fun k hk => Nat.lt_of_lt_of_le (HMl.out k hk) (Nat.le_trans HBr.out.size hW.size)) ⟨qa, hqn⟩).mono fun e w' ⟨q, h1, ⟨ad, h2⟩, h3, h4⟩ => ⟨ad, by rw [h1, h2], by rw [← h2]; exact h3, hW.trans (h4.mono hW.size)⟩
    clear hQ hQA hQS hje hQl hQc c9 cf cf8 p4
    obtain ⟨k9, k4, _, _⟩ := HKp.out wr (Below.refl _ _)
    subst hqn
    have HF8 : Hid (∀ W, Below wr.heap.size wr W → W.frozen? ⟨s, 8, none⟩ = false) := fun W hW => (HKp.out W hW).2.2.1
    go_wp2_with fail
    go_region_with (first
      | (go_at_call 70
         refine (HC.out _ (by repeat (first | exact Below.refl _ _ | refine Below.drew ?_))).mono ?_
         rintro e w5 ⟨q, rfl, h5, h6⟩
         have H5 : Hid (GL w5 (Mu s r.b m tv r.cv r.av) 1000000 (.pointer q) (((kidsL Q).map fun t => (t, ch.length)) ++ rest)) := h5
         have HB5 : Hid (Below wr.heap.size wr w5) := h6
         have z8 := HF8.out w5 h6
         obtain ⟨z9, z4, _, x8, y8⟩ := HKp.out w5 h6
         clear h5 h6))
    all_goals
      go_wp2_with fail
      go_end0
      have hS5 := HSr.out.below HB5.out
      refine ⟨rfl, .pointer q, _, hS5.put 8 (.pointer q) (r' := { r with first := .pointer q }) rfl rfl rfl rfl H5.out, ?_, ?_, ?_⟩
      · rw [cgl_append]
        congr 1
        unfold cgl kidsL
        rw [List.map_map, List.map_map, List.map_map, HQ.out.2.2.1]
        apply List.map_congr_left
        intro i hi
        show (can (Q.f i), ch.length) = (ap (ownV last) (B.f i), ch.length)
        rw [HQ.out.2.2.2 i (by rw [HQ.out.2.2.1]; exact List.mem_range.1 hi)]
      · have := HBr.out.size
        have := HB5.out.size
        simp [World.setCell]; omega
      · intro k _ hk hne
        rw [Below.heap_setCell _ _ _ _ hne]
        exact (HB5.out.block k (Nat.lt_of_lt_of_le hk HBr.out.size)).trans (HBr.out.block k hk)
end Go.Proofs.Ytmggaclaoefdaaa

namespace Go.Proofs.Ytmggaclaoefdaaa
open Go.RowKit

def cch (c : Cr) : Chc := ⟨cgl c.gl, c.k, cs c.σ⟩
def ansC (A : Tm) : List Tm := (kidsL A).map can
/-- What a search in memory means. -/
def absP (r : Sr) (σ : Sg) (gl : List Gl) (ch : List Cr) (an : List Tm) : PS := ⟨cgl gl, ch.map cch, cs σ, r.last, an.map ansC, r.fin.toNat, r.st.toNat⟩
theorem fitP_can (P : Cls) (t : Tm) (i : Nat) : fitP P (can t) i = fitP P t i := by unfold fitP; rw [can_nm, can_len]
theorem fit_lt {P : Pg} {t : Tm} {i k : Nat} (h : fitP (cls P) t i = some k) : i ≤ k ∧ k < P.len := by
  unfold fitP at h
  rw [List.find?_range_eq_some, cls_len] at h
  have h1 := h.1
  simp at h1
  exact ⟨h1.1, List.mem_range.1 h.2.1⟩
theorem hd_can (σ : Sg) (T : Tm) (c : Nat) (rest : List Gl) : hdT (cs σ) (cgl ((T, c) :: rest)) = can (wha σ T) := by
  show wha (cs σ) (can T) = _
  exact wha_cs σ T
theorem try_none {P : Pg} {gs : List Gl} {t : Tm} {f j : Nat} {X : PS} {L : Nat} (h : fitP (cls P) t j = none) : tryP (cls P) gs (can t) (f + 1) j X L = (X, false) := by
  rw [tryP, fitP_can, h]
theorem try_some {P : Pg} {gs : List Gl} {t A : Tm} {f j k : Nat} {X : PS} {L : Nat} {σ : Sg} (hX : X.σ = cs σ) (h : fitP (cls P) t j = some k) (hA : can A = ap (ownV X.last) (P.hd k)) : tryP (cls P) gs (can t) (f + 1) j X L = match meetF (L + 1) σ L [(A, t)] with
    | .over => ({ X with last := X.last + 12, fin := 3 }, false)
    | .no L' => tryP (cls P) gs (can t) f (k + 1) { X with last := X.last + 12 } L'
    | .yes _ σ' => ({ X with last := X.last + 12, σ := cs σ', gl := ((kidsL (P.bd k)).map fun b => (ap (ownV X.last) b, X.ch.length)) ++ gs.tail, ch := match fitP (cls P) t (k + 1) with
          | none => X.ch
          | some q => X.ch ++ [⟨gs, q, X.σ⟩] }, true) := by
  have hk := (fit_lt h).2
  rw [tryP, fitP_can, h]
  simp only
  rw [cls_get P hk, fitP_can, hX]
  have e1 : [(ap (ownV X.last) (can (P.hd k)), can t)] = [(A, t)].map can2 := by
    rw [ap_can, ← hA]; rfl
  simp only
  rw [e1, meetF_cs]
  cases meetF (L + 1) σ L [(A, t)] with
  | over => rfl
  | no L' => rfl
  | yes k' σ' =>
    have e2 : ((kidsL (P.bd k)).map can).map (fun b => (ap (ownV X.last) b, X.ch.length)) = (kidsL (P.bd k)).map fun b => (ap (ownV X.last) b, X.ch.length) := by
      rw [List.map_map]
      apply List.map_congr_left
      intro b _
      show (ap (ownV X.last) (can b), X.ch.length) = _
      rw [ap_can]
    show ({ X with last := X.last + 12, σ := cs σ', gl := ((kidsL (P.bd k)).map can).map (fun b => (ap (ownV X.last) b, X.ch.length)) ++ gs.tail, ch := _ }, true) = _
    rw [e2]
    rfl
/-- The program that is searched. -/
structure Prg (w0 : World) (P : Pg) : Prop where
  pin : PIn w0 P
  cap : P.len ≤ P.cap
  few : P.len ≤ 30
  hd : ∀ i, i < P.len → Okv 12 (P.hd i)
  bd : ∀ i, i < P.len → (P.bd i).len ≤ 6 ∧ ∀ j, j < (P.bd i).len → Okv 12 ((P.bd i).f j)
/-- What try says. -/
def TRes (w0 w : World) (s m : Nat) (r : Sr) (n : Nat) (σ : Sg) (L : Nat) (gl : List Gl) (ch : List Cr) (an : List Tm) (gs : List Gl) (i : Nat) (e : Ending) (w' : World) : Prop :=
  ∃ (ok : Bool) (r' : Sr) (tv' : Value) (n' : Nat) (σ' : Sg) (L' : Int) (tr' : List Int) (gl' : List Gl) (ch' : List Cr), e = .returned (.bool ok) ∧ SS w0 w' s m r' tv' n' σ' L' tr' gl' ch' an ∧
    tryP (cls r.P) (cgl gs) (hdT (cs σ) (cgl gs)) (r.P.len + 1) i (absP r σ gl ch an) L = (absP r' σ' gl' ch' an, ok) ∧
    (r'.P = r.P ∧ r'.limit = r.limit ∧ r'.asked = r.asked ∧ r'.st = r.st) ∧ 0 ≤ r'.fin ∧ n' ≤ n + 130000 ∧ r.last ≤ r'.last ∧ r'.last ≤ r.last + 12 * (r.P.len - i : Nat) ∧ ch'.length ≤ ch.length + 1 ∧ w.heap.size ≤ w'.heap.size
end Go.Proofs.Ytmggaclaoefdaaa
