/- With more steps a search goes on where it stopped: over terms alone. A search goes on till there is an end. -/
import Derived.Test.YtmggaclaoefdaaaGU
import Derived.Test.YtmggaclaoefdaaaSvT
namespace Go.Proofs.Ytmggaclaoefdaaa
open Go.RowKit

/-- Steps and answers are as they were; and steps are not why it ended. -/
def Kp (X Y : PS) : Prop := Y.st = X.st ∧ Y.ans = X.ans ∧ (X.fin ≠ 2 → Y.fin ≠ 2)
theorem Kp.refl (X : PS) : Kp X X := ⟨rfl, rfl, fun h => h⟩
theorem Kp.trans {X Y Z : PS} (h : Kp X Y) (k : Kp Y Z) : Kp X Z := ⟨k.1.trans h.1, k.2.1.trans h.2.1, fun e => k.2.2 (h.2.2 e)⟩
theorem try_kp {P : Cls} {gs : List Gl} {t : Tm} : ∀ {f i : Nat} {X : PS} {L : Nat}, Kp X (tryP P gs t f i X L).1 := by
  intro f
  induction f with
  | zero => intro i X L; exact Kp.refl X
  | succ f ih =>
    intro i X L
    rw [tryP]
    split
    · exact Kp.refl X
    · split
      · exact ⟨rfl, rfl, fun _ => by simp⟩
      · exact Kp.trans ⟨rfl, rfl, fun h => h⟩ (ih (X := { X with last := X.last + 12 }))
      · exact ⟨rfl, rfl, fun h => h⟩
theorem back_kp {P : Cls} : ∀ {f : Nat} {X : PS}, Kp X (backP P f X) := by
  intro f
  induction f with
  | zero => intro X; exact Kp.refl X
  | succ f ih =>
    intro X
    by_cases h0 : X.fin = 0
    case neg => rw [back_fin h0]; exact Kp.refl X
    rcases List.eq_nil_or_concat X.ch with hc | ⟨l, c, hc⟩
    · rw [back_none h0 hc]; exact ⟨rfl, rfl, fun _ => by simp⟩
    · rw [List.concat_eq_append] at hc
      rw [back_some h0 hc]
      have hk := try_kp (P := P) (gs := c.gl) (t := hdT c.σ c.gl) (f := P.length + 1) (i := c.k) (X := { X with ch := l, σ := c.σ }) (L := 4000)
      cases ht : tryP P c.gl (hdT c.σ c.gl) (P.length + 1) c.k { X with ch := l, σ := c.σ } 4000 with
      | mk Y ok =>
        rw [ht] at hk
        have hk : Kp X Y := Kp.trans (Y := { X with ch := l, σ := c.σ }) ⟨rfl, rfl, fun h => h⟩ hk
        cases ok with
        | true => exact hk
        | false => exact hk.trans ih
theorem step_kp {P : Cls} {X : PS} : Kp X (stepP P X) := by
  unfold stepP
  simp only
  split
  · exact ⟨rfl, rfl, fun _ => by simp⟩
  · split
    · exact ⟨rfl, rfl, fun h => h⟩
    · split
      · exact ⟨rfl, rfl, fun h => h⟩
      · split
        · exact Kp.trans (Y := { X with gl := X.gl.tail }) ⟨rfl, rfl, fun h => h⟩ back_kp
        · split
          · split
            · exact ⟨rfl, rfl, fun _ => by simp⟩
            · exact Kp.trans (Y := { X with gl := X.gl.tail }) ⟨rfl, rfl, fun h => h⟩ back_kp
            · exact ⟨rfl, rfl, fun h => h⟩
          · have hk := try_kp (P := P) (gs := X.gl) (t := hdT X.σ X.gl) (f := P.length + 1) (i := 0) (X := { X with gl := X.gl.tail }) (L := 4000)
            cases ht : tryP P X.gl (hdT X.σ X.gl) (P.length + 1) 0 { X with gl := X.gl.tail } 4000 with
            | mk Z ok =>
              rw [ht] at hk
              have hk : Kp X Z := Kp.trans (Y := { X with gl := X.gl.tail }) ⟨rfl, rfl, fun h => h⟩ hk
              cases ok with
              | true => exact hk
              | false => exact hk.trans back_kp
theorem answer_kp {P : Cls} {n : Nat} {X : PS} : (answerP P n X).st = X.st ∧ X.ans <+: (answerP P n X).ans ∧ (X.fin ≠ 2 → (answerP P n X).fin ≠ 2) := by
  unfold answerP
  split
  · exact ⟨rfl, List.prefix_refl _, fun _ => by simp⟩
  · split
    · exact ⟨rfl, List.prefix_append _ _, fun _ => by simp⟩
    · obtain ⟨h1, h2, h3⟩ := back_kp (P := P) (f := ({ X with ans := X.ans ++ [foundP X.σ n] } : PS).ch.length + 1) (X := { X with ans := X.ans ++ [foundP X.σ n] })
      refine ⟨h1, ?_, h3⟩
      show X.ans <+: (backP P _ _).ans
      rw [h2]
      exact List.prefix_append _ _
/-- What was found stays found. -/
theorem run_pre {P : Cls} {n b : Nat} : ∀ {f : Nat} {X : PS}, X.ans <+: (runP P n b f X).ans := by
  intro f
  induction f with
  | zero => intro X; exact List.prefix_refl _
  | succ f ih =>
    intro X
    rw [runP]
    split
    · exact List.prefix_refl _
    · split
      · exact answer_kp.2.1.trans ih
      · split
        · exact List.prefix_refl _
        · have h := (step_kp (P := P) (X := { X with st := X.st + 1 })).2.1
          have h2 : X.ans <+: (stepP P { X with st := X.st + 1 }).ans := by rw [h]; exact List.prefix_refl _
          exact h2.trans ih
theorem run_more {P : Cls} {n a b : Nat} (hab : a ≤ b) : ∀ {f g : Nat} {X : PS}, f ≤ g → X.st ≤ a → X.fin ≠ 2 → (runP P n a f X).fin ≠ 0 →
    ((runP P n a f X).fin ≠ 2 → runP P n b g X = runP P n a f X) ∧ ((runP P n a f X).fin = 2 → (runP P n a f X).st = a ∧ (runP P n a f X).ans <+: (runP P n b g X).ans) := by
  intro f
  induction f with
  | zero =>
    intro g X _ _ h2 h0
    refine ⟨fun _ => ?_, fun h => absurd h h2⟩
    show runP P n b g X = X
    cases g with
    | zero => rfl
    | succ g => rw [runP, if_pos (show X.fin ≠ 0 from h0)]
  | succ f ih =>
    intro g X hfg hst h2 h0
    obtain ⟨g, rfl⟩ : ∃ g', g = g' + 1 := ⟨g - 1, by omega⟩
    by_cases hx : X.fin ≠ 0
    · rw [runP, if_pos hx] at h0 ⊢
      rw [runP, if_pos hx]
      exact ⟨fun _ => rfl, fun h => absurd h h2⟩
    · rw [runP, if_neg hx] at h0 ⊢
      have hpb := run_pre (P := P) (n := n) (b := b) (f := g + 1) (X := X)
      rw [runP, if_neg hx] at hpb ⊢
      cases hg : X.gl with
      | nil =>
        rw [hg] at h0
        obtain ⟨k1, k2, k3⟩ := answer_kp (P := P) (n := n) (X := X)
        exact ih (g := g) (X := answerP P n X) (by omega) (by omega) (k3 h2) h0
      | cons y ys =>
        rw [hg] at h0 hpb
        simp only at h0 hpb ⊢
        by_cases ha : X.st = a
        · rw [if_pos ha]
          exact ⟨fun h => absurd rfl h, fun _ => ⟨ha, hpb⟩⟩
        · rw [if_neg ha] at h0 ⊢
          rw [if_neg (by omega)]
          obtain ⟨k1, _, k3⟩ := step_kp (P := P) (X := { X with gl := y :: ys, st := X.st + 1 })
          exact ih (g := g) (X := stepP P { X with gl := y :: ys, st := X.st + 1 }) (by omega) (by rw [k1]; show X.st + 1 ≤ a; omega) (k3 h2) h0
end Go.Proofs.Ytmggaclaoefdaaa

namespace Go.Proofs.Ytmggaclaoefdaaa
open Go.RowKit

theorem run_fin {P : Cls} {n limit : Nat} {X : PS} (h : X.fin ≠ 0) (f : Nat) : runP P n limit f X = X := by
  cases f with
  | zero => rfl
  | succ f => rw [runP, if_pos h]
theorem run_nil {P : Cls} {n limit f : Nat} {X : PS} (h : X.fin = 0) (hg : X.gl = []) : runP P n limit (f + 1) X = runP P n limit f (answerP P n X) := by
  rw [runP, if_neg (by simpa using h), hg]
theorem run_over {P : Cls} {n limit f : Nat} {X : PS} {g : Gl} {r : List Gl} (h : X.fin = 0) (hg : X.gl = g :: r) (hl : X.st = limit) : runP P n limit (f + 1) X = { X with fin := 2 } := by
  rw [runP, if_neg (by simpa using h), hg]
  simp only
  rw [if_pos hl]
theorem run_step {P : Cls} {n limit f : Nat} {X : PS} {g : Gl} {r : List Gl} (h : X.fin = 0) (hg : X.gl = g :: r) (hl : X.st ≠ limit) : runP P n limit (f + 1) X = runP P n limit f (stepP P { X with st := X.st + 1 }) := by
  rw [runP, if_neg (by simpa using h), hg]
  simp only
  rw [if_neg hl]
theorem below_drewN (B : Nat) (w : World) (n : Nat) : Below B w (w.drewN n) := by
  induction n with
  | zero => exact Below.refl _ _
  | succ n ih => exact ih.drew
/-- While a search goes on: answers, choices, cuts, and how much was taken. -/
structure RI (P : Cls) (X : PS) (last : Int) (n : Nat) : Prop where
  an : X.ans.length < 40
  cw : CW P.length X.ch
  cu : Cu X.gl X.ch.length
  l0 : 0 ≤ last
  lb : last + 360 * X.ch.length ≤ ((12 + 1080 * X.st + 400 * X.ans.length : Nat) : Int)
  nb : n + 130000 * X.ch.length ≤ 400000 * X.st + 130000 * X.ans.length
/-- How many rounds are left at most. -/
def mu (limit : Nat) (X : PS) : Nat := if X.fin = 0 then 1 + (limit - X.st) + (40 - X.ans.length) else 0
theorem mu_zero {limit : Nat} {X : PS} (h : X.fin = 0) : mu limit X = 1 + (limit - X.st) + (40 - X.ans.length) := if_pos h
theorem mu_fin {limit : Nat} {X : PS} (h : X.fin ≠ 0) : mu limit X = 0 := if_neg h
/-- What run says. -/
def RRes (w0 w : World) (s m : Nat) (r : Sr) (X : PS) (a limit : Nat) (e : Ending) (w' : World) : Prop :=
  ∃ (r' : Sr) (tv' : Value) (n' : Nat) (σ' σx : Sg) (L' : Int) (tr' : List Int) (gl' : List Gl) (ch' : List Cr) (an' : List Tm), e = .returned (.tuple #[]) ∧ SS w0 w' s m r' tv' n' σ' L' tr' gl' ch' an' ∧
    (∀ F, 442 ≤ F → runP (cls r.P) a limit F X = absP r' σx gl' ch' an') ∧ 0 < r'.fin ∧ 0 ≤ r'.st ∧ an'.length ≤ 40 ∧ w.heap.size ≤ w'.heap.size
set_option maxRecDepth 100000 in
set_option maxHeartbeats 8000000 in
theorem run_any {w0 : World} {s m : Nat} {r : Sr} {tv : Value} {n : Nat} {σ : Sg} {L : Int} {tr : List Int} {gl : List Gl} {ch : List Cr} {an : List Tm} (a limit : Nat) (w : World) (hPr : Prg w0 r.P) (h : SS w0 w s m r tv n σ L tr gl ch an) (ha : r.asked = a) (ha12 : a ≤ 12) (hli : r.limit = limit) (hl4 : limit ≤ 400) (hf : r.fin = 0) (hst : r.st = 0) (hI : RI (cls r.P) (absP r σ gl ch an) r.last n) :
    Calls Try.prog 71 #[.pointer (some ⟨s, 0, none⟩)] w (RRes w0 w s m r (absP r σ gl ch an) a limit) := by
  have H : Hid (SS w0 w s m r tv n σ L tr gl ch an) := h
  have HPr : Hid (Prg w0 r.P) := hPr
  have HI : Hid (RI (cls r.P) (absP r σ gl ch an) r.last n) := hI
  have HE0 : Hid (r.asked = a ∧ r.limit = limit ∧ r.fin = 0 ∧ r.st = 0) := ⟨ha, hli, hf, hst⟩
  clear h hPr hI ha hli hf hst
  go_enter Try.func71, Try.ntmps71
  go_wp2_with fail
  go_loopg [] 441 (fun fu wr => ∃ (r1 : Sr) (tv1 : Value) (n1 : Nat) (σ1 σy : Sg) (L1 : Int) (tr1 : List Int) (gl1 : List Gl) (ch1 : List Cr) (an1 : List Tm) (st1 : Nat), SS w0 wr s m r1 tv1 n1 σ1 L1 tr1 gl1 ch1 an1 ∧ (∀ F, 442 ≤ F → ∃ F', fu < F' ∧ runP (cls r.P) a limit F (absP r σ gl ch an) = runP (cls r.P) a limit F' (absP r1 σy gl1 ch1 an1)) ∧ mu limit (absP r1 σy gl1 ch1 an1) ≤ fu ∧ (r1.P = r.P ∧ r1.limit = limit ∧ r1.asked = a) ∧ r1.st = st1 ∧ st1 ≤ limit ∧ 0 ≤ r1.fin ∧ an1.length ≤ 40 ∧ w.heap.size ≤ wr.heap.size ∧ (r1.fin = 0 → σy = σ1 ∧ RI (cls r.P) (absP r1 σy gl1 ch1 an1) r1.last n1))
  case atStart =>
    refine ⟨r, tv, n, σ, σ, L, tr, gl, ch, an, 0, H.out, fun F hF => ⟨F, by omega, rfl⟩, ?_, ⟨rfl, HE0.out.2.1, HE0.out.1⟩, HE0.out.2.2.2, Nat.zero_le _, by rw [HE0.out.2.2.1]; exact Int.le_refl _, ?_, Nat.le_refl _, fun _ => ⟨rfl, HI.out⟩⟩
    · rw [mu_zero (by show r.fin.toNat = 0; rw [HE0.out.2.2.1]; rfl)]
      omega
    · have := HI.out.an
      simp [absP] at this
      omega
  case round =>
    obtain ⟨r1, tv1, n1, σ1, σy, L1, tr1, gl1, ch1, an1, st1, hS, hF, hmu, hEq, hst1, hstl, hf0, han, hsz, hgo⟩ := hrel
    have HS : Hid (SS w0 wr s m r1 tv1 n1 σ1 L1 tr1 gl1 ch1 an1) := hS
    have HF : Hid (∀ F, 442 ≤ F → ∃ F', gk < F' ∧ runP (cls r.P) a limit F (absP r σ gl ch an) = runP (cls r.P) a limit F' (absP r1 σy gl1 ch1 an1)) := hF
    have HMu : Hid (mu limit (absP r1 σy gl1 ch1 an1) ≤ gk) := hmu
    have HEq : Hid (r1.P = r.P ∧ r1.limit = limit ∧ r1.asked = a) := hEq
    have HSt : Hid (r1.st = st1) := hst1
    have y1 : wr.cell? ⟨s, 1, none⟩ = some (.int .i64 r1.fin) := hS.blk.get.2.1
    by_cases hfin : r1.fin = 0
    case neg =>
      have hfb : (r1.fin == 0) = false := beq_eq_false_iff_ne.2 hfin
      have HR : Hid (∀ F, 442 ≤ F → runP (cls r.P) a limit F (absP r σ gl ch an) = absP r1 σy gl1 ch1 an1) := fun F h => by
        obtain ⟨F', _, e⟩ := HF.out F h
        rw [e]; exact run_fin (by show r1.fin.toNat ≠ 0; omega) F'
      have hpos : 0 < r1.fin := by omega
      have h0s : 0 ≤ r1.st := by omega
      clear hfin hgo hS hF hmu hEq hst1
      go_wp2_with fail
      go_end0
      exact ⟨r1, tv1, n1, σ1, σy, L1, tr1, gl1, ch1, an1, rfl, HS.out, HR.out, hpos, h0s, han, hsz⟩
    obtain ⟨hσ, hRI⟩ := hgo hfin
    subst hσ
    have HRI : Hid (RI (cls r.P) (absP r1 σy gl1 ch1 an1) r1.last n1) := hRI
    have HFin : Hid (r1.fin = 0) := hfin
    have HX0 : Hid ((absP r1 σy gl1 ch1 an1).fin = 0) := by show r1.fin.toNat = 0; rw [hfin]; rfl
    have hXl : (absP r1 σy gl1 ch1 an1).ans.length = an1.length := by simp [absP]
    have hXc : (absP r1 σy gl1 ch1 an1).ch.length = ch1.length := by simp [absP]
    have hXs : (absP r1 σy gl1 ch1 an1).st = st1 := by show r1.st.toNat = st1; omega
    have HXs : Hid ((absP r1 σy gl1 ch1 an1).st = st1 ∧ (absP r1 σy gl1 ch1 an1).ans.length = an1.length) := ⟨hXs, hXl⟩
    have han1 : an1.length < 40 := by have := hRI.an; omega
    have hlb := hRI.lb
    have hnb := hRI.nb
    have hl0 := hRI.l0
    rw [hXc, hXs, hXl] at hlb hnb
    have HMu2 : Hid (1 + (limit - st1) + (40 - an1.length) ≤ gk) := by
      have := hmu
      rw [mu_zero HX0.out, hXs, hXl] at this
      exact this
    have HW : Hid (∀ c ∈ ch1, c.gl ≠ [] ∧ c.k ≤ r1.P.len) := fun c hc => by
      have := hRI.cw.1 (cch c) (List.mem_map.2 ⟨c, hc, rfl⟩)
      rw [cls_len] at this
      refine ⟨fun h0 => this.1 ?_, by rw [hEq.1]; exact this.2⟩
      show cgl c.gl = []
      rw [h0]; rfl
    have HPr1 : Hid (Prg w0 r1.P) := by rw [Hid, hEq.1]; exact HPr.out
    have y8 : wr.cell? ⟨s, 8, none⟩ = some r1.first := hS.blk.get.2.2.2.2.2.2.2.2.1
    have y2 : wr.cell? ⟨s, 2, none⟩ = some (.int .i64 (st1 : Int)) := by have := hS.blk.get.2.2.1; rwa [hst1] at this
    have y4 : wr.cell? ⟨s, 4, none⟩ = some (.int .i64 (limit : Int)) := by have := hS.blk.get.2.2.2.2.1; rwa [hEq.2.1] at this
    have hyf := hS.blk.get.2.2.2.2.2.2.2.2.2.2
    have yf1 := hyf 1
    have yf2 := hyf 2
    have hcl : ch1.length ≤ 4000 := by omega
    have hlb2 : 12 + 1080 * st1 + 400 * an1.length ≤ 980000 := by omega
    have hnb2 : 400000 * st1 + 130000 * an1.length ≤ 800000000 := by omega
    rw [hfin] at y1
    clear hgo hF hmu hEq hRI hXl hXc hXs hyf hfin
    cases hgl : gl1 with
    | nil =>
      subst hgl
      have hfst : r1.first = .pointer none := HS.out.gls
      rw [hfst] at y8
      have HAn : Hid (Calls Try.prog 101 #[.pointer (some ⟨s, 0, none⟩)] wr (ARes w0 wr s m r1 (absP r1 σy [] ch1 an1) an1 a (12 + 1080 * st1 + 400 * an1.length) (400000 * st1 + 130000 * an1.length))) := answer_any a _ _ wr HPr1.out HS.out HW.out ⟨hl0, hlb⟩ hlb2 hnb hnb2 HFin.out hcl HEq.out.2.2 ha12 han1
      clear hfst hS hst1
      go_wp2_with fail
      refine HAn.out.mono ?_
      rintro e w2 ⟨r2, tv2, n2, σ2, σz, L2, tr2, gl2, ch2, an2, rfl, hS2, hE2, hσ2, hQ2, hf2, hl2, hb2, hm2, hz2, ha2, hg2⟩
      have HS2 : Hid (SS w0 w2 s m r2 tv2 n2 σ2 L2 tr2 gl2 ch2 an2) := hS2
      have hst2 : r2.st = st1 := hQ2.2.2.2.trans HSt.out
      have HR2 : Hid (∀ F, 442 ≤ F → ∃ F', gk - 1 < F' ∧ runP (cls r.P) a limit F (absP r σ gl ch an) = runP (cls r.P) a limit F' (absP r2 σz gl2 ch2 an2)) := fun F h => by
        obtain ⟨F', h1, e⟩ := HF.out F h
        obtain ⟨F2, rfl⟩ : ∃ F2, F' = F2 + 1 := ⟨F' - 1, by omega⟩
        have := HMu2.out
        refine ⟨F2, by omega, ?_⟩
        rw [e, run_nil HX0.out rfl, ← HEq.out.1, hE2]
      have hXs2 : (absP r2 σz gl2 ch2 an2).st = st1 := by show r2.st.toNat = st1; omega
      have hXl2 : (absP r2 σz gl2 ch2 an2).ans.length = an2.length := by simp [absP]
      have hXc2 : (absP r2 σz gl2 ch2 an2).ch.length = ch2.length := by simp [absP]
      have HMn : Hid (mu limit (absP r2 σz gl2 ch2 an2) ≤ gk - 1) := by
        have hk := HMu2.out
        by_cases h0 : r2.fin = 0
        · have := (hg2 h0).1
          rw [Hid, mu_zero (by show r2.fin.toNat = 0; omega), hXs2, hXl2]
          omega
        · rw [Hid, mu_fin (by show r2.fin.toNat ≠ 0; omega)]; exact Nat.zero_le _
      have HRI2 : Hid (r2.fin = 0 → σz = σ2 ∧ RI (cls r.P) (absP r2 σz gl2 ch2 an2) r2.last n2) := fun h0 => by
        have hcw := answer_cw (P := cls r.P) (n := a) (X := absP r1 σy [] ch1 an1) HRI.out.cw (by rw [← HEq.out.1, hE2]; show r2.fin.toNat = 0; omega)
        rw [← HEq.out.1, hE2] at hcw
        have h1 := (hg2 h0).1
        refine ⟨hσ2 h0, ⟨by rw [hXl2]; exact (hg2 h0).2, by rw [← HEq.out.1]; exact hcw.1, hcw.2, hl2, ?_, ?_⟩⟩
        · rw [hXc2, hXs2, hXl2, h1]; omega
        · rw [hXc2, hXs2, hXl2, h1]
          exact Nat.le_trans hm2 (by rw [Nat.mul_add 130000, Nat.mul_one, ← Nat.add_assoc]; exact Nat.le_refl _)
      have HQ2 : Hid (r2.P = r.P ∧ r2.limit = limit ∧ r2.asked = a) := ⟨hQ2.1.trans HEq.out.1, hQ2.2.1.trans HEq.out.2.1, hQ2.2.2.1.trans HEq.out.2.2⟩
      have hgk : gk - 1 < gk := by have := HMu2.out; omega
      have HSt2 : Hid (r2.st = st1) := hst2
      clear hS2 hE2 hσ2 hQ2 hl2 hb2 hm2 hg2 hst2 hXs2 hXl2 hXc2
      go_wp2_with fail
      go_roundg (gk - 1)
      case measure => exact hgk
      case rel => exact ⟨r2, tv2, n2, σ2, σz, L2, tr2, gl2, ch2, an2, st1, HS2.out, HR2.out, HMn.out, HQ2.out, HSt2.out, hstl, hf2, ha2, by omega, HRI2.out⟩
    | cons g0 rest =>
      subst hgl
      obtain ⟨T0, c0⟩ := g0
      obtain ⟨kp, qn, hfst, _⟩ := HS.out.gls
      have HGl : Hid ((absP r1 σy ((T0, c0) :: rest) ch1 an1).gl = (can T0, c0) :: cgl rest) := rfl
      have HFst : Hid (r1.first = .pointer (some ⟨kp, 0, none⟩)) := hfst
      rw [hfst] at y8
      clear hfst hS hst1
      by_cases hsl : st1 = limit
      case pos =>
        subst hsl
        have HR2 : Hid (∀ F, 442 ≤ F → ∃ F', gk - 1 < F' ∧ runP (cls r.P) a st1 F (absP r σ gl ch an) = runP (cls r.P) a st1 F' (absP { r1 with fin := 2 } σy ((T0, c0) :: rest) ch1 an1)) := fun F h => by
          obtain ⟨F', h1, e⟩ := HF.out F h
          obtain ⟨F2, rfl⟩ : ∃ F2, F' = F2 + 1 := ⟨F' - 1, by omega⟩
          have := HMu2.out
          refine ⟨F2, by omega, ?_⟩
          rw [e, run_over HX0.out HGl.out HXs.out.1, run_fin (by show (2 : Int).toNat ≠ 0; decide)]
          rfl
        have hgk : gk - 1 < gk := by have := HMu2.out; omega
        have HSn : Hid (∀ W, Below wr.heap.size wr W → SS w0 (W.setCell ⟨s, 1, none⟩ (.int .i64 2)) s m { r1 with fin := 2 } tv1 n1 σy L1 tr1 ((T0, c0) :: rest) ch1 an1 ∧ w.heap.size ≤ (W.setCell ⟨s, 1, none⟩ (.int .i64 2)).heap.size) := fun W hW => ⟨(HS.out.below hW).put 1 _ rfl rfl rfl rfl (HS.out.below hW).gls, by have := hW.size; simp [World.setCell]; omega⟩
        go_wp2_with fail
        go_quiet (fail)
        go_wp2_with fail
        go_roundg (gk - 1)
        case measure => exact hgk
        case rel => exact ⟨{ r1 with fin := 2 }, tv1, n1, σy, σy, L1, tr1, (T0, c0) :: rest, ch1, an1, st1, (HSn.out _ (below_drewN _ _ _)).1, HR2.out, by rw [mu_fin (by show (2 : Int).toNat ≠ 0; decide)]; exact Nat.zero_le _, HEq.out, HSt.out, Nat.le_refl _, by show (0 : Int) ≤ 2; omega, han, (HSn.out _ (below_drewN _ _ _)).2, fun h => absurd (show (2 : Int) = 0 from h) (by omega)⟩
      have hsb : ((st1 : Int) == (limit : Int)) = false := beq_eq_false_iff_ne.2 (by omega)
      have HSl : Hid (st1 ≠ limit) := hsl
      have HSn : Hid (∀ W, Below wr.heap.size wr W → SS w0 (W.setCell ⟨s, 2, none⟩ (.int .i64 ((st1 : Int) + 1))) s m { r1 with st := (st1 : Int) + 1 } tv1 n1 σy L1 tr1 ((T0, c0) :: rest) ch1 an1 ∧ w.heap.size ≤ (W.setCell ⟨s, 2, none⟩ (.int .i64 ((st1 : Int) + 1))).heap.size) := fun W hW => ⟨(HS.out.below hW).put 2 _ rfl rfl rfl rfl (HS.out.below hW).gls, by have := hW.size; simp [World.setCell]; omega⟩
      have hc0 : c0 ≤ ch1.length := by
        have := HRI.out.cu.1 (can T0, c0) (by show (can T0, c0) ∈ (can T0, c0) :: cgl rest; simp)
        simpa [absP] using this
      have HStp : Hid (∀ W, Below wr.heap.size wr W → Calls Try.prog 102 #[.pointer (some ⟨s, 0, none⟩), .pointer (some ⟨kp, 0, none⟩)] (W.setCell ⟨s, 2, none⟩ (.int .i64 ((st1 : Int) + 1))) (StRes w0 (W.setCell ⟨s, 2, none⟩ (.int .i64 ((st1 : Int) + 1))) s m { r1 with st := (st1 : Int) + 1 } (absP { r1 with st := (st1 : Int) + 1 } σy ((T0, c0) :: rest) ch1 an1) an1 (12 + 1080 * st1 + 400 * an1.length) (400000 * st1 + 130000 * an1.length))) := fun W hW => by
        have := step_any (r := { r1 with st := (st1 : Int) + 1 }) (12 + 1080 * st1 + 400 * an1.length) (400000 * st1 + 130000 * an1.length) _ HPr1.out (HSn.out W hW).1 HW.out hc0 ⟨hl0, hlb⟩ hlb2 hnb hnb2 HFin.out hcl
        rw [show ({ r1 with st := (st1 : Int) + 1 } : Sr).first = .pointer (some ⟨kp, 0, none⟩) from HFst.out] at this
        exact this
      clear hsl
      go_wp2_with fail
      go_quiet (fail)
      go_wp2_with fail
      refine (HStp.out _ (below_drewN _ _ _)).mono ?_
      rintro e w2 ⟨r2, tv2, n2, σ2, σz, L2, tr2, gl2, ch2, rfl, hS2, hE2, hσ2, hQ2, hf2, hl2, hb2, hm2, hz2⟩
      have HS2 : Hid (SS w0 w2 s m r2 tv2 n2 σ2 L2 tr2 gl2 ch2 an1) := hS2
      have hst2 : r2.st = ((st1 + 1 : Nat) : Int) := hQ2.2.2.2
      have HE2 : Hid (stepP (cls r.P) { absP r1 σy ((T0, c0) :: rest) ch1 an1 with st := (absP r1 σy ((T0, c0) :: rest) ch1 an1).st + 1 } = absP r2 σz gl2 ch2 an1) := by
        rw [Hid, ← HEq.out.1, ← hE2, HXs.out.1]
        rfl
      have HR2 : Hid (∀ F, 442 ≤ F → ∃ F', gk - 1 < F' ∧ runP (cls r.P) a limit F (absP r σ gl ch an) = runP (cls r.P) a limit F' (absP r2 σz gl2 ch2 an1)) := fun F h => by
        obtain ⟨F', h1, e⟩ := HF.out F h
        obtain ⟨F2, rfl⟩ : ∃ F2, F' = F2 + 1 := ⟨F' - 1, by omega⟩
        have := HMu2.out
        refine ⟨F2, by omega, ?_⟩
        rw [e, run_step HX0.out HGl.out (by rw [HXs.out.1]; exact HSl.out), HE2.out]
      have hXs2 : (absP r2 σz gl2 ch2 an1).st = st1 + 1 := by show r2.st.toNat = st1 + 1; omega
      have hXl2 : (absP r2 σz gl2 ch2 an1).ans.length = an1.length := by simp [absP]
      have hXc2 : (absP r2 σz gl2 ch2 an1).ch.length = ch2.length := by simp [absP]
      have HMn : Hid (mu limit (absP r2 σz gl2 ch2 an1) ≤ gk - 1) := by
        have hk := HMu2.out
        have hne := HSl.out
        by_cases h0 : r2.fin = 0
        · rw [Hid, mu_zero (by show r2.fin.toNat = 0; omega), hXs2, hXl2]
          omega
        · rw [Hid, mu_fin (by show r2.fin.toNat ≠ 0; omega)]; exact Nat.zero_le _
      have HRI2 : Hid (r2.fin = 0 → σz = σ2 ∧ RI (cls r.P) (absP r2 σz gl2 ch2 an1) r2.last n2) := fun h0 => by
        have hcw := step_cw (P := cls r.P) (X := { absP r1 σy ((T0, c0) :: rest) ch1 an1 with st := (absP r1 σy ((T0, c0) :: rest) ch1 an1).st + 1 }) (by show (can T0, c0) :: cgl rest ≠ []; simp) HRI.out.cw HRI.out.cu (by rw [HE2.out]; show r2.fin.toNat = 0; omega)
        rw [HE2.out] at hcw
        refine ⟨hσ2 h0, ⟨by rw [hXl2]; exact han1, hcw.1, hcw.2, hl2, ?_, ?_⟩⟩
        · rw [hXc2, hXs2, hXl2]; omega
        · rw [hXc2, hXs2, hXl2]
          exact Nat.le_trans hm2 (by rw [Nat.mul_add 400000, Nat.mul_one, Nat.add_right_comm]; exact Nat.le_refl _)
      have HQ2 : Hid (r2.P = r.P ∧ r2.limit = limit ∧ r2.asked = a) := ⟨hQ2.1.trans HEq.out.1, hQ2.2.1.trans HEq.out.2.1, hQ2.2.2.1.trans HEq.out.2.2⟩
      have hgk : gk - 1 < gk := by have := HMu2.out; omega
      have HSt2 : Hid (r2.st = ((st1 + 1 : Nat) : Int)) := hst2
      have hstl2 : st1 + 1 ≤ limit := by have := HSl.out; omega
      have hzf : w.heap.size ≤ w2.heap.size := Nat.le_trans (HSn.out _ (below_drewN _ _ _)).2 hz2
      clear hS2 hE2 hσ2 hQ2 hl2 hb2 hm2 hst2 hXs2 hXl2 hXc2
      go_wp2_with fail
      go_roundg (gk - 1)
      case measure => exact hgk
      case rel => exact ⟨r2, tv2, n2, σ2, σz, L2, tr2, gl2, ch2, an1, st1 + 1, HS2.out, HR2.out, HMn.out, HQ2.out, HSt2.out, hstl2, hf2, han, hzf, HRI2.out⟩
end Go.Proofs.Ytmggaclaoefdaaa
