/- The reference's Back, walked. What holds of a search over terms alone: cuts are among the choices. -/
import Derived.Test.YtmggaclaoefdaaaSr9
import Derived.Test.YtmggaclaoefdaaaSvF
namespace Go.Proofs.Ytmggaclaoefdaaa
open Go.RowKit

theorem tryQ_false {P : Cls} {gs : List Gl} {t : Tm} : ∀ {f i : Nat} {X Y : QS} {L : Nat}, tryQ P gs t f i X L = (Y, false) → Y.ch = X.ch ∧ Y.gl = X.gl ∧ Y.σ = X.σ ∧ Y.N = X.N := by
  intro f
  induction f with
  | zero => intro i X Y L h; rw [tryQ] at h; cases h; exact ⟨rfl, rfl, rfl, rfl⟩
  | succ f ih =>
    intro i X Y L h
    rw [tryQ] at h
    split at h
    · cases h; exact ⟨rfl, rfl, rfl, rfl⟩
    · split at h
      · cases h; exact ⟨rfl, rfl, rfl, rfl⟩
      · exact ih h
      · simp at h
theorem backQ_fin {P : Cls} {f : Nat} {X : QS} (h : X.fin ≠ 0) : backQ P (f + 1) X = X := by rw [backQ, if_pos h]
theorem backQ_none {P : Cls} {f : Nat} {X : QS} (h : X.fin = 0) (hc : X.ch = []) : backQ P (f + 1) X = { X with fin := 1 } := by
  rw [backQ, if_neg (by simpa using h), hc]; rfl
theorem backQ_some {P : Cls} {f : Nat} {X : QS} {l : List QC} {c : QC} (h : X.fin = 0) (hc : X.ch = l ++ [c]) : backQ P (f + 1) X = match tryQ P c.gl (hdT c.σ c.gl) (P.length + 1) c.k { X with ch := l, σ := c.σ, N := c.N, gl := c.gl } 4000 with
    | (Y, true) => Y
    | (Y, false) => backQ P f Y := by
  rw [backQ, if_neg (by simpa using h)]
  simp only [hc, List.getLast?_append, List.getLast?_singleton, List.dropLast_concat]
  rfl
theorem to_runK (g ln cp k : Nat) (h : k ≤ ln) (hc : ln ≤ cp) (W : World) : (Instr.slice 106 (.slice (some ⟨g, 0, none⟩) ln cp) none (some (.int .i64 k)) none).run Try.prog W = .ok (.slice (some ⟨g, 0, none⟩) k cp) W := by
  obtain ⟨i0, hi, hz0, hz1, hz2⟩ := info_parts Try.info176
  have h' : (k : Int) ≤ (cp : Int) := by omega
  simp [Instr.slice, run_underlying Try.underlying106, Instr.sliceBounds, run_sliceBound, sizeOf, typeInfo, hi, h', Addr.add]
theorem bxR_get {w : World} {s : Nat} {r : Rr} {x y : Value} (hb : w.heap[s]? = some (bxR r x y)) : w.cell? ⟨s, 0, none⟩ = some (.slice r.P.a r.P.len r.P.cap) ∧ w.cell? ⟨s, 1, none⟩ = some x ∧ w.cell? ⟨s, 2, none⟩ = some y ∧ w.cell? ⟨s, 3, none⟩ = some r.todo ∧ w.cell? ⟨s, 4, none⟩ = some r.kept ∧ w.cell? ⟨s, 5, none⟩ = some (.int .i64 r.query) ∧ w.cell? ⟨s, 6, none⟩ = some r.av ∧ w.cell? ⟨s, 7, none⟩ = some (.int .i64 r.fin) ∧ w.cell? ⟨s, 8, none⟩ = some (.int .i64 r.st) ∧ ∀ i, w.frozen? ⟨s, i, none⟩ = false := by
  unfold bxR at hb
  refine ⟨?_, ?_, ?_, ?_, ?_, ?_, ?_, ?_, ?_, fun i => ?_⟩ <;> simp [World.cell?, World.frozen?, hb]
section
variable {w0 w : World} {s : Nat} {r : Rr} {g cap len : Nat} {N : Int} {τ ρ : Int → Tm} {rk : Int → Nat} {σ : Sg} {wk : Int} {gl : List Gl} {ch : List Kr} {an : List Tm}
/-- Choices are cut off. -/
theorem RS.cut (h : RS w0 w s r g cap len N τ ρ rk σ wk gl ch an) {k cp : Nat} {a : Option Addr} (hk : k ≤ ch.length) (hcv : r.kept = .slice a ch.length cp) :
    RS w0 (w.setCell ⟨s, 4, none⟩ (.slice a k cp)) s { r with kept := .slice a k cp } g cap len N τ ρ rk σ wk gl (ch.take k) an := by
  have hob : (Value.slice a k cp).ownBlock = r.kept.ownBlock := by rw [hcv]; cases a <;> rfl
  refine h.keptTo (w' := w) ⟨rfl, rfl, rfl, Nat.le_refl _, fun _ _ _ => rfl⟩ (fun q hq => .inl (hob ▸ hq)) ?_ (fun c hc => h.hd c (List.mem_of_mem_take hc)) (fun c hc => h.kt c (List.mem_of_mem_take hc))
  have h1 := h.kr
  have hl : (ch.take k).length = k := by rw [List.length_take]; omega
  rw [hl, flatK_take]
  refine ⟨by rw [List.length_take, flatK_len]; omega, ?_⟩
  rcases h1.2 with ⟨e, h0⟩ | ⟨g, cap, cur, e, hlo, hgg, hnc, hcm, hsz, htk⟩
  · rw [hcv] at e
    simp at e
    exact .inl ⟨by rw [e.1, e.2.2]; simp; omega, by omega⟩
  · rw [hcv] at e
    simp only [Value.slice.injEq] at e
    obtain ⟨rfl, _, rfl⟩ := e
    exact .inr ⟨g, cp, cur, rfl, hlo, hgg, by omega, hcm, hsz, by rw [← htk, List.take_take]; congr 1; omega⟩
/-- What variables were, and the goals, are laid anew. -/
theorem RS.anewT (h : RS w0 w s r g cap len N τ ρ rk σ wk gl ch an) {bv tv' : Value} {N' : Int} {len' : Nat} {τ' ρ' : Int → Tm} {rk' : Int → Nat} {σ' : Sg} (hB : BR w (Mq s g r.kept r.av) bv N' len' τ' ρ' rk' σ') {w1 : World} {g' cap' : Nat} {wk' : Int} (hw1 : Below w.heap.size w w1) (ho : w1.ownsRow w0.heap.size 24 3 (.slice (some ⟨g', 0, none⟩) len' cap') len' (flat (tsOf τ' len'))) (hg' : w.heap.size ≤ g') {w2 : World} (hb2 : w2.heap[s]? = some (bxR { r with todo := tv' } (.slice (some ⟨g', 0, none⟩) len' cap') (.int .i64 wk'))) (hG2 : G s w1 w2) {gl' : List Gl} (ht : TD w (Mq s g r.kept r.av) N' tv' gl') :
    RS w0 w2 s { r with todo := tv' } g' cap' len' N' τ' ρ' rk' σ' wk' gl' ch an := by
  have hs := h.rf.lt.1
  have hgl := h.rf.lt.2.1
  have hw : Bw (Mq s g r.kept r.av) w.heap.size w w2 := (Bw.ofBelow hw1).grown hG2 hw1.size (fun k hk => .inr (.inl (Option.some.inj hk).symm))
  have hm : ∀ k, k < w.heap.size → Mq s g' r.kept r.av k → Mq s g r.kept r.av k := fun k hk e => by
    rcases e with e | e | e
    · exact .inl e
    · omega
    · exact .inr (.inr e)
  have hg1 : g' < w1.heap.size := (ho.lt g' rfl).2
  have ho2 : w2.ownsRow w0.heap.size 24 3 (.slice (some ⟨g', 0, none⟩) len' cap') len' (flat (tsOf τ' len')) := ho.kept hG2 (row_ne (fun q hq => by
    have : g' = q := by simpa [Value.ownBlock] using hq
    omega))
  have hF : RF (Kq r.kept r.av) w2 s 1 (bxR { r with todo := tv' }) w0.heap.size g' cap' N' len' τ' ρ' rk' σ' wk' := by
    refine ⟨⟨bxR_bx _, hb2, by rw [show ((List.range len').map fun i : Nat => τ' (i : Int)).length = len' from by simp]; exact ho2, fun q hq => by
      have : g' = q := by simpa [Value.ownBlock] using hq
      omega, h.los⟩, hB.ln, by have := hB.big; omega, hB.ch, hB.rel, hB.dec, hB.ok, fun v h0 h1 => ?_⟩
    obtain ⟨t1, t2, t3⟩ := hB.trm v h0 h1
    exact nm_gd ⟨t1.bw hw (Nat.le_refl _) t3, t2, t3.anti t1 hm⟩
  have hrow : ∀ {lo sz : Nat} {t : TypeId} {x : Value} {n : Nat} {xs : List Value}, w.ownsRow lo t sz x n xs → (∀ q, x.ownBlock = some q → q ≠ s) → w2.ownsRow lo t sz x n xs := fun h1 h2 => rowk h1 (fun q hq => (hG2.block q (Nat.lt_of_lt_of_le (h1.lt q hq).2 hw1.size) (fun e => h2 q hq (Option.some.inj e))).trans (hw1.block q (h1.lt q hq).2))
  refine ⟨hF, hB.n12, ht.next hw hm, hrow h.kr (fun q hq => (h.dk q hq).1), h.hd, fun c hc => ⟨(h.kt c hc).1.next hw hm, (h.kt c hc).2.next hw hm⟩, hrow h.anr (fun q hq => (h.da q hq).1), fun A hA => ⟨(h.ant A hA).1.bw hw (Nat.le_refl _) (h.ant A hA).2, (h.ant A hA).2.anti (h.ant A hA).1 hm⟩, h.lows hw, fun q hq => ⟨(h.dk q hq).1, ?_⟩, fun q hq => ⟨(h.da q hq).1, ?_, (h.da q hq).2.2⟩⟩
  · have := (h.kr.lt q hq).2; omega
  · have := (h.anr.lt q hq).2; omega
end
/-- What the reference's Back says. -/
def BQR (w0 w : World) (s : Nat) (r : Rr) (X : QS) (an : List Tm) (nB : Int) (gB cB : Nat) (e : Ending) (w' : World) : Prop :=
  ∃ (r' : Rr) (g' cap' len' : Nat) (N' Nx : Int) (τ' ρ' : Int → Tm) (rk' : Int → Nat) (σ' σx : Sg) (wk' : Int) (gl' glx : List Gl) (ch' : List Kr), e = .returned (.tuple #[]) ∧ RS w0 w' s r' g' cap' len' N' τ' ρ' rk' σ' wk' gl' ch' an ∧
    bkQ (cls r.P) X = absQ r' Nx σx glx ch' an ∧ (r'.fin = 0 → Nx = N' ∧ σx = σ' ∧ glx = gl' ∧ ∀ v U, σ' v = some U → 0 < v ∧ v ≤ N') ∧ (r'.P = r.P ∧ r'.query = r.query ∧ r'.st = r.st) ∧ 0 ≤ r'.fin ∧ N' ≤ nB + 12 ∧ gl'.length ≤ gB + 6 ∧ (∀ c ∈ ch', c.N ≤ nB ∧ c.gl.length ≤ gB) ∧ ch'.length ≤ cB ∧ w.heap.size ≤ w'.heap.size
theorem boxK {W : World} {k : Nat} {x y z a b c : Value} {t : TypeId} (h : W.heap[k]? = some (.cells #[x, y, z] t)) : (((W.setCell ⟨k, 0, none⟩ a).setCell ⟨k, 1, none⟩ b).setCell ⟨k, 2, none⟩ c).heap[k]? = some (.cells #[a, b, c] t) := by
  simp only [World.setCell, Array.getElem?_modify]
  simp [h]
set_option maxRecDepth 100000 in
set_option maxHeartbeats 8000000 in
theorem backR_any {w0 : World} {s : Nat} {r : Rr} {g cap len : Nat} {N Nx : Int} {τ ρ : Int → Tm} {rk : Int → Nat} {σ σx : Sg} {wk : Int} {gl glx : List Gl} {ch : List Kr} {an : List Tm} (nB : Int) (gB : Nat) (w : World) (hPr : Prg w0 r.P) (h : RS w0 w s r g cap len N τ ρ rk σ wk gl ch an) (hf : r.fin = 0) (hB : N ≤ nB + 12 ∧ gl.length ≤ gB + 6) (hcB : ∀ c ∈ ch, c.N ≤ nB ∧ c.gl.length ≤ gB) (hn : nB ≤ 800000) (hg : gB ≤ 100000) (hc : ch.length ≤ 100000) :
    Calls Try.prog 103 #[.pointer (some ⟨s, 0, none⟩)] w (BQR w0 w s r (absQ r Nx σx glx ch an) an nB gB ch.length) := by
  have H : Hid (RS w0 w s r g cap len N τ ρ rk σ wk gl ch an) := h
  have HPr : Hid (Prg w0 r.P) := hPr
  have HF0 : Hid (r.fin = 0) := hf
  have HcB : Hid (∀ c ∈ ch, c.N ≤ nB ∧ c.gl.length ≤ gB) := hcB
  clear h hPr hf hcB
  go_enter Try.func103, Try.ntmps103
  go_wp2_with fail
  go_loopg [] ch.length (fun fu wr => ∃ (r1 : Rr) (g1 cap1 len1 : Nat) (N1 Ny : Int) (τ1 ρ1 : Int → Tm) (rk1 : Int → Nat) (σ1 σy : Sg) (wk1 : Int) (gl1 gly : List Gl) (ch1 : List Kr), RS w0 wr s r1 g1 cap1 len1 N1 τ1 ρ1 rk1 σ1 wk1 gl1 ch1 an ∧ bkQ (cls r.P) (absQ r Nx σx glx ch an) = backQ (cls r.P) (fu + 1) (absQ r1 Ny σy gly ch1 an) ∧ ch1.length ≤ fu ∧ (r1.P = r.P ∧ r1.query = r.query ∧ r1.st = r.st ∧ r1.fin = 0) ∧ N1 ≤ nB + 12 ∧ gl1.length ≤ gB + 6 ∧ (∀ c ∈ ch1, c.N ≤ nB ∧ c.gl.length ≤ gB) ∧ ch1.length ≤ ch.length ∧ w.heap.size ≤ wr.heap.size)
  case atStart =>
    exact ⟨r, g, cap, len, N, Nx, τ, ρ, rk, σ, σx, wk, gl, glx, ch, H.out, by unfold bkQ; rw [show (absQ r Nx σx glx ch an).ch.length = ch.length from by simp [absQ]], Nat.le_refl _, ⟨rfl, rfl, rfl, HF0.out⟩, hB.1, hB.2, HcB.out, Nat.le_refl _, Nat.le_refl _⟩
  case round =>
    obtain ⟨r1, g1, cap1, len1, N1, Ny, τ1, ρ1, rk1, σ1, σy, wk1, gl1, gly, ch1, hS, hE, hle, hEq, hN1, hg1, hcb1, hc1, hsz⟩ := hrel
    have HS : Hid (RS w0 wr s r1 g1 cap1 len1 N1 τ1 ρ1 rk1 σ1 wk1 gl1 ch1 an) := hS
    have HE : Hid (bkQ (cls r.P) (absQ r Nx σx glx ch an) = backQ (cls r.P) (gk + 1) (absQ r1 Ny σy gly ch1 an)) := hE
    have HEq : Hid (r1.P = r.P ∧ r1.query = r.query ∧ r1.st = r.st ∧ r1.fin = 0) := hEq
    have HCb : Hid (∀ c ∈ ch1, c.N ≤ nB ∧ c.gl.length ≤ gB) := hcb1
    obtain ⟨_, _, _, _, y4, _, _, y7, _, yf⟩ := hS.get
    obtain ⟨ca, cp, hcv, hcp1, hcp2, hcell⟩ := kept_form hS.kr
    have yf4 := yf 4
    have yf7 := yf 7
    have hslt := hS.rf.lt.1
    rw [hcv] at y4
    clear hS hE hEq yf hcb1
    by_cases hch : ch1 = []
    case pos =>
      have HF : Hid (bkQ (cls r.P) (absQ r Nx σx glx ch an) = absQ { r1 with fin := 1 } Ny σy gly ch1 an) := by
        rw [Hid, HE.out, backQ_none (by show r1.fin.toNat = 0; rw [HEq.out.2.2.2]; rfl) (by rw [hch]; rfl)]; rfl
      have hz : ch1.length = 0 := by rw [hch]; rfl
      rw [hz] at y4
      clear hch hcell hcv
      go_wp2_with fail
      go_end0
      exact ⟨{ r1 with fin := 1 }, g1, cap1, len1, N1, Ny, τ1, ρ1, rk1, σ1, σy, wk1, gl1, gly, ch1, rfl, HS.out.put 7 _ rfl rfl rfl rfl HS.out.td, HF.out, fun h => absurd (show (1 : Int) = 0 from h) (by omega), ⟨HEq.out.1, HEq.out.2.1, HEq.out.2.2.1⟩, by show (0 : Int) ≤ 1; omega, hN1, hg1, HCb.out, hc1, by simpa [World.setCell] using hsz⟩
    obtain ⟨l, c, hlc⟩ : ∃ l c, ch1 = l ++ [c] := by
      rcases List.eq_nil_or_concat ch1 with h | ⟨l, c, h⟩
      · exact absurd h hch
      · exact ⟨l, c, by rw [h, List.concat_eq_append]⟩
    subst hlc
    have hln : (l ++ [c]).length = l.length + 1 := by simp
    have HcW := HS.out.hd c (by simp)
    obtain ⟨⟨T0, c0⟩, rest, hgl⟩ : ∃ g rest, c.gl = g :: rest := by
      cases hg : c.gl with
      | nil => exact absurd hg HcW.1
      | cons g rest => exact ⟨g, rest, rfl⟩
    obtain ⟨g, rfl, d0, d1, d2⟩ := hcell l.length (by omega)
    rw [show (l ++ [c])[l.length]'(by omega) = c from by simp] at d0 d1 d2
    have HCk : Hid (c.k ≤ r.P.len) := by rw [Hid, ← HEq.out.1]; exact HcW.2.2
    have HCv : Hid ((wha c.σ T0).v = 0) := by have := HcW.2.1; rw [hgl] at this; exact this
    have hkt := HS.out.kt c (by simp)
    rw [hgl] at hkt
    obtain ⟨gb, cb, hbv, hbc, hbM, hbr⟩ := hkt.2.form
    obtain ⟨bt, ot, ct, htv, htc, htm, htM, _, _, _⟩ := hkt.1.first
    rw [hbv] at d0
    rw [htv] at d1
    have hcN := HCb.out c (by simp)
    have hrl : rest.length ≤ 100000 := by have := hcN.2; rw [hgl] at this; simp at this; omega
    have hcl : (c.len : Int) = c.N + 1 := hkt.2.ln
    have hlc2 : c.len ≤ 900000 := by omega
    have hlc3 : 0 < c.len := by have := hkt.2.n12; omega
    have HTb : Hid (TD wr (Mq s g1 r1.kept r1.av) c.N (.slice (some ⟨bt, ot, none⟩) (rest.length + 1) ct) ((T0, c0) :: rest)) := by have := hkt.1; rwa [htv] at this
    have HBb : Hid (BR wr (Mq s g1 r1.kept r1.av) (.slice (some ⟨gb, 0, none⟩) c.len cb) c.N c.len c.τ c.ρ c.rk c.σ) := by have := hkt.2; rwa [hbv] at this
    have HDb : Hid (∀ v U, c.σ v = some U → 0 < v ∧ v ≤ c.N) := hkt.2.dm
    have HEb : Hid (bkQ (cls r.P) (absQ r Nx σx glx ch an) = match tryQ (cls r.P) (cgl ((T0, c0) :: rest)) (hdT (cs c.σ) (cgl ((T0, c0) :: rest))) (r.P.len + 1) c.k (absQ { r1 with kept := .slice (some ⟨g, 0, none⟩) l.length cp, todo := .slice (some ⟨bt, ot, none⟩) (rest.length + 1) ct } c.N c.σ ((T0, c0) :: rest) l an) 4000 with
      | (Y, true) => Y
      | (Y, false) => backQ (cls r.P) gk Y) := by
      rw [Hid, HE.out, backQ_some (l := l.map kq) (c := kq c) (by show r1.fin.toNat = 0; rw [HEq.out.2.2.2]; rfl) (by simp [absQ])]
      rw [cls_len, show (kq c).gl = cgl ((T0, c0) :: rest) from by rw [← hgl]; rfl]
      rfl
    have HCl : Hid (∀ d ∈ l, d.N ≤ nB ∧ d.gl.length ≤ gB) := fun d hd => HCb.out d (by simp [hd])
    have HCv2 : Hid (r1.kept = .slice (some ⟨g, 0, none⟩) (l ++ [c]).length cp) := hcv
    rw [hln] at hle hc1 hcp1 y4
    have hcN1 : c.N ≤ nB := hcN.1
    have hcG1 : rest.length + 1 ≤ gB := by have := hcN.2; rwa [hgl] at this
    clear hcv hcell HcW hgl hch HE HCb hkt hbv htv htM hbM hbr hcN
    have hto := to_runK g (l.length + 1) cp l.length (by omega) hcp1
    have hkk : ((l.length + 1 : Nat) : Int) - 1 = (l.length : Int) := by omega
    have hw1 : IntKind.i64.wrap (((l.length + 1 : Nat) : Int) - 1) = (l.length : Int) := by rw [hkk]; simp [IntKind.wrap, IntKind.bits, IntKind.signed]; omega
    have hd : decide ((l.length : Int) < 0) = false := decide_eq_false (by omega)
    have hKI : (l.length : Int) < ((l.length + 1 : Nat) : Int) := by omega
    have hBz : Below wr.heap.size wr (wr.alloc (.cells #[.slice none 0 0, .slice none 0 0, .int .i64 0] 176)) := (Below.refl _ _).alloc (Nat.le_refl _) _
    have HBz : Hid (Below wr.heap.size wr (wr.alloc (.cells #[.slice none 0 0, .slice none 0 0, .int .i64 0] 176))) := hBz
    have z4 := (hBz.cell (lt_of_cell y4)).trans y4
    have z0 := (hBz.cell (lt_of_cell d0)).trans d0
    have z1 := (hBz.cell (lt_of_cell d1)).trans d1
    have z2 := (hBz.cell (lt_of_cell d2)).trans d2
    clear hBz
    go_wp2_with fail
    go_cut [2] from 9 to 20 (fun x wx => ∃ kb, x = .pointer (some ⟨kb, 0, none⟩) ∧ wr.heap.size ≤ kb ∧ wx.heap[kb]? = some (.cells #[.slice (some ⟨gb, 0, none⟩) c.len cb, .slice (some ⟨bt, ot, none⟩) (rest.length + 1) ct, .int .i64 c.k] 176) ∧ Below wr.heap.size wr wx)
    case first =>
      go_region
      all_goals
        go_wp2_with fail
        go_meet
        case rel => exact ⟨wr.heap.size, rfl, Nat.le_refl _, heap_alloc_new wr _, ((Below.refl _ _).alloc (Nat.le_refl _) _).drew⟩
    case rest =>
      obtain ⟨kb, rfl, hkb, hbx, hBc⟩ := hcut
      have hkl : kb < wc.heap.size := (Array.getElem?_eq_some_iff.1 hbx).1
      have HBx : Hid (wc.heap[kb]? = some (.cells #[.slice (some ⟨gb, 0, none⟩) c.len cb, .slice (some ⟨bt, ot, none⟩) (rest.length + 1) ct, .int .i64 c.k] 176)) := hbx
      have hSc := HS.out.below hBc
      have HSc : Hid (RS w0 wc s r1 g1 cap1 len1 N1 τ1 ρ1 rk1 σ1 wk1 gl1 (l ++ [c]) an) := hSc
      have HTc : Hid (TD wc (Mq s g1 r1.kept r1.av) c.N (.slice (some ⟨bt, ot, none⟩) (rest.length + 1) ct) ((T0, c0) :: rest)) := HTb.out.next (Bw.ofBelow hBc) (fun _ _ e => e)
      have HBc : Hid (BR wc (Mq s g1 r1.kept r1.av) (.slice (some ⟨gb, 0, none⟩) c.len cb) c.N c.len c.τ c.ρ c.rk c.σ) := HBb.out.next (Bw.ofBelow hBc) (fun _ _ e => e)
      have hzc : w.heap.size ≤ wc.heap.size := Nat.le_trans hsz hBc.size
      have hkm : ¬ Mq s g1 r1.kept r1.av kb := fun e => by have := (HS.out.mu e).2; omega
      have hks : kb ≠ s := by omega
      have y4c : wc.cell? ⟨s, 4, none⟩ = some (.slice (some ⟨g, 0, none⟩) (l.length + 1) cp) := (hBc.cell (lt_of_cell y4)).trans y4
      have yf4c := hSc.get.2.2.2.2.2.2.2.2.2 4
      clear y4 yf4 yf7 y7 d0 d1 d2 z4 z0 z1 z2 HBz hbx hSc hBc HS HTb HBb
      go_wp2_with fail
      go_cut [] from 21 to 34 (fun wx => RS w0 wx s { r1 with kept := .slice (some ⟨g, 0, none⟩) l.length cp } g1 cap1 len1 N1 τ1 ρ1 rk1 σ1 wk1 gl1 l an ∧ TD wx (Mq s g1 (.slice (some ⟨g, 0, none⟩) l.length cp) r1.av) c.N (.slice (some ⟨bt, ot, none⟩) (rest.length + 1) ct) ((T0, c0) :: rest) ∧ BR wx (Mq s g1 (.slice (some ⟨g, 0, none⟩) l.length cp) r1.av) (.slice (some ⟨gb, 0, none⟩) c.len cb) c.N c.len c.τ c.ρ c.rk c.σ ∧ wx.heap[kb]? = some (.cells #[.slice (some ⟨gb, 0, none⟩) c.len cb, .slice (some ⟨bt, ot, none⟩) (rest.length + 1) ct, .int .i64 c.k] 176) ∧ w.heap.size ≤ wx.heap.size)
      case first =>
        go_region
        all_goals
          go_wp2_with fail
          go_meet
          case rel =>
            have hR := HSc.out.cut (k := l.length) (by simp) HCv2.out
            rw [List.take_left] at hR
            have hset := G.set s wc 4 (.slice (some ⟨g, 0, none⟩) l.length cp)
            have hw : Bw (Mq s g1 r1.kept r1.av) wc.heap.size wc (wc.setCell ⟨s, 4, none⟩ (.slice (some ⟨g, 0, none⟩) l.length cp)).drew := ((Bw.refl _ _ _).grown hset (Nat.le_refl _) (fun k hk => .inr (.inl (Option.some.inj hk).symm))).trans (Bw.ofBelow ((Below.refl _ _).drew))
            have hm : ∀ k, k < wc.heap.size → Mq s g1 (.slice (some ⟨g, 0, none⟩) l.length cp) r1.av k → Mq s g1 r1.kept r1.av k := fun k _ e => by rw [HCv2.out]; exact e
            exact ⟨hR.below ((Below.refl _ _).drew), HTc.out.next hw hm, HBc.out.next hw hm, (hw.block kb hkl hkm).trans HBx.out, Nat.le_trans hzc hw.size⟩
      case rest =>
        clear HBx HSc HTc HBc hzc hkl y4c yf4c hkm
        obtain ⟨hSd, hTd, hBd, hbx, hzd⟩ := hcut
        have HSd : Hid (RS w0 wc s { r1 with kept := .slice (some ⟨g, 0, none⟩) l.length cp } g1 cap1 len1 N1 τ1 ρ1 rk1 σ1 wk1 gl1 l an) := hSd
        have HTd : Hid (TD wc (Mq s g1 (.slice (some ⟨g, 0, none⟩) l.length cp) r1.av) c.N (.slice (some ⟨bt, ot, none⟩) (rest.length + 1) ct) ((T0, c0) :: rest)) := hTd
        have HBd : Hid (BR wc (Mq s g1 (.slice (some ⟨g, 0, none⟩) l.length cp) r1.av) (.slice (some ⟨gb, 0, none⟩) c.len cb) c.N c.len c.τ c.ρ c.rk c.σ) := hBd
        have HBx : Hid (wc.heap[kb]? = some (.cells #[.slice (some ⟨gb, 0, none⟩) c.len cb, .slice (some ⟨bt, ot, none⟩) (rest.length + 1) ct, .int .i64 c.k] 176)) := hbx
        have hkl : kb < wc.heap.size := (Array.getElem?_eq_some_iff.1 hbx).1
        obtain ⟨i0, hi0, hz0, hz1, hz2⟩ := info_parts Try.info24
        have HBe : Hid (Below wc.heap.size wc (wc.alloc (.cells #[] 24))) := (Below.refl _ _).alloc (Nat.le_refl _) _
        obtain ⟨k0, _, _, _, _, _⟩ := block_cells hbx
        have k0e : (wc.alloc (.cells #[] 24)).cell? ⟨kb, 0, none⟩ = some (.slice (some ⟨gb, 0, none⟩) c.len cb) := (HBe.out.cell (lt_of_cell k0)).trans k0
        obtain ⟨gb', cb', hgb', hlcb, hMgb, hrows⟩ := hBd.form
        have hge : gb' = gb := by injection hgb' with h1 _ _; injection h1 with h1; injection h1 with h1 _ _; exact h1.symm
        have hrows' : ∀ q, q < c.len → RowAt (wc.alloc (.cells #[] 24)) (some ⟨gb, 0, none⟩) q (c.τ q) := fun q hq => by
          have := (hrows q hq).below HBe.out
          rwa [hge] at this
        have HNe : Hid (∀ j u, (flat (tsOf c.τ c.len))[j]? = some u → (wc.alloc (.cells #[] 24)).cell? ((⟨gb, 0, none⟩ : Addr).add j) = some u) := rows_news hrows'
        have hfl : (flat (tsOf c.τ c.len)).length = c.len * 3 := by rw [flat_length, tsOf_len]
        have hlo : w0.heap.size ≤ wc.heap.size := hSd.low.size
        have HOe : Hid ((wc.alloc (.cells #[] 24)).ownsRow wc.heap.size 24 3 (.slice (some ⟨wc.heap.size, 0, none⟩) 0 0) 0 []) := owns_empty wc wc.heap.size (Nat.le_refl _)
        have HYe : Hid ((wc.alloc (.cells #[] 24)).heap[s]? = some (bxR { r1 with kept := .slice (some ⟨g, 0, none⟩) l.length cp } (.slice (some ⟨g1, 0, none⟩) len1 cap1) (.int .i64 wk1))) := (HBe.out.block s hSd.rf.lt.1).trans hSd.rf.blk
        have HSl : Hid (s < wc.heap.size) := hSd.rf.lt.1
        clear hSd hTd hBd hbx hgb' hlcb hMgb hrows hge hrows'
        go_wp2_with (at_builtin; refine wpList_append_own_at _ rfl (.tmp 36) (.tmp 38) 22 rfl wc.heap.size 24 i0 (.agg #[.int .i64 0, .string ByteArray.empty, .slice none 0 0]) 3 48 Try.underlying22 hi0 hz0 hz1 hz2 rfl (by decide) (.slice (some ⟨wc.heap.size, 0, none⟩) 0 0) 0 [] rfl HOe.out ⟨gb, 0, none⟩ c.len cb (flat (tsOf c.τ c.len)) rfl hfl HNe.out (flat_one _) (by unfold maxLen; omega) (by omega) HBe.out.size ?_; intro v' w9 hown' hgrow hnil hat; rw [Nat.zero_add, List.nil_append] at hown'; have hv' : ∃ g9 cap9, v' = .slice (some ⟨g9, 0, none⟩) c.len cap9 := (by rcases hown'.2 with ⟨_, h0⟩ | ⟨g9, cap9, _, h, _⟩; (· omega); (· exact ⟨g9, cap9, h⟩)); obtain ⟨g9, cap9, rfl⟩ := hv'; have hgw : wc.heap.size < (wc.alloc (.cells #[] 24)).heap.size := (by simp); have hkp : ∀ q, q < wc.heap.size → w9.heap[q]? = (wc.alloc (.cells #[] 24)).heap[q]? := (fun q hq => hgrow.block q (by omega) (fun e => by have : q = wc.heap.size := (by simpa [Value.ownBlock] using e); omega)); have hbk : w9.heap[s]? = some (bxR { r1 with kept := .slice (some ⟨g, 0, none⟩) l.length cp } (.slice (some ⟨g1, 0, none⟩) len1 cap1) (.int .i64 wk1)) := (hkp s HSl.out).trans HYe.out; have hbk2 : w9.heap[kb]? = some (.cells #[.slice (some ⟨gb, 0, none⟩) c.len cb, .slice (some ⟨bt, ot, none⟩) (rest.length + 1) ct, .int .i64 c.k] 176) := (hkp kb hkl).trans ((HBe.out.block kb hkl).trans HBx.out); obtain ⟨_, q1, q2, q3, _, _, _, _, _, qf⟩ := bxR_get hbk; have qf1 := qf 1; have qf2 := qf 2; have qf3 := qf 3; obtain ⟨k0', k1', k2', _, _, _⟩ := block_cells hbk2; clear qf; have HBk : Hid (w9.heap[s]? = some (bxR { r1 with kept := .slice (some ⟨g, 0, none⟩) l.length cp } (.slice (some ⟨g1, 0, none⟩) len1 cap1) (.int .i64 wk1))) := hbk; clear hbk hbk2 hkp)
        have hg9 : wc.heap.size ≤ g9 := by
          rcases hat with e | e
          · have : g9 = wc.heap.size := by simpa [Value.ownBlock] using e
            omega
          · have : g9 = (wc.alloc (.cells #[] 24)).heap.size := by simpa [Value.ownBlock] using e
            omega
        have HB9 : Below wc.heap.size wc w9 := HBe.out.grown hgrow (Nat.le_of_lt hgw) (fun q hq => by
          have : wc.heap.size = q := by simpa [Value.ownBlock] using hq
          omega)
        have hG3 : G s w9 (((w9.setCell ⟨s, 1, none⟩ (.slice (some ⟨g9, 0, none⟩) c.len cap9)).setCell ⟨s, 2, none⟩ (.int .i64 0)).setCell ⟨s, 3, none⟩ (.slice (some ⟨bt, ot, none⟩) (rest.length + 1) ct)) := G.trans (G.trans (G.set s _ 1 _) (G.set s _ 2 _)) (G.set s _ 3 _)
        have hb3 : (((w9.setCell ⟨s, 1, none⟩ (.slice (some ⟨g9, 0, none⟩) c.len cap9)).setCell ⟨s, 2, none⟩ (.int .i64 0)).setCell ⟨s, 3, none⟩ (.slice (some ⟨bt, ot, none⟩) (rest.length + 1) ct)).heap[s]? = some (bxR { r1 with kept := .slice (some ⟨g, 0, none⟩) l.length cp, todo := .slice (some ⟨bt, ot, none⟩) (rest.length + 1) ct } (.slice (some ⟨g9, 0, none⟩) c.len cap9) (.int .i64 (4000 - ((4000 : Nat) : Int)))) := by
          have hb := HBk.out
          unfold bxR at hb ⊢
          simp only [World.setCell, Array.getElem?_modify]
          rw [hb]
          simp
        have hS9 : RS w0 (((w9.setCell ⟨s, 1, none⟩ (.slice (some ⟨g9, 0, none⟩) c.len cap9)).setCell ⟨s, 2, none⟩ (.int .i64 0)).setCell ⟨s, 3, none⟩ (.slice (some ⟨bt, ot, none⟩) (rest.length + 1) ct)) s { r1 with kept := .slice (some ⟨g, 0, none⟩) l.length cp, todo := .slice (some ⟨bt, ot, none⟩) (rest.length + 1) ct } g9 cap9 c.len c.N c.τ c.ρ c.rk c.σ (4000 - ((4000 : Nat) : Int)) ((T0, c0) :: rest) l an := HSd.out.anewT HBd.out HB9 (ownsRow_mono hown' hlo) hg9 hb3 hG3 HTd.out
        have hz9 : w.heap.size ≤ (((w9.setCell ⟨s, 1, none⟩ (.slice (some ⟨g9, 0, none⟩) c.len cap9)).setCell ⟨s, 2, none⟩ (.int .i64 0)).setCell ⟨s, 3, none⟩ (.slice (some ⟨bt, ot, none⟩) (rest.length + 1) ct)).heap.size := Nat.le_trans hzd (Nat.le_trans HB9.size hG3.size)
        have HTr := tryR_any (r := { r1 with kept := .slice (some ⟨g, 0, none⟩) l.length cp, todo := .slice (some ⟨bt, ot, none⟩) (rest.length + 1) ct }) 4000 c.k (((w9.setCell ⟨s, 1, none⟩ (.slice (some ⟨g9, 0, none⟩) c.len cap9)).setCell ⟨s, 2, none⟩ (.int .i64 0)).setCell ⟨s, 3, none⟩ (.slice (some ⟨bt, ot, none⟩) (rest.length + 1) ct)) (by show Prg w0 r1.P; rw [HEq.out.1]; exact HPr.out) hS9 HDb.out HCv.out (by show c.k ≤ r1.P.len; rw [HEq.out.1]; exact HCk.out) (Nat.le_refl _) (by omega) HEq.out.2.2.2 (by omega) hrl
        clear hown' hgrow hnil hat hgw hb3 hG3 hS9 HB9 q1 q2 q3 qf1 qf2 qf3 k0' k1' k2' HBk
        refine HTr.mono ?_
        clear HTr
        rintro e w7 ⟨ok, r7, g7, cap7, len7, N7, Nx7, τ7, ρ7, rk7, σ7, σx7, wk7, gl7, glx7, ch7, rfl, hs7, ht7, hx7, he7, hf7, hn7, hl7, hc7, hc8, hz7⟩
        have he7 : r7.P = r1.P ∧ r7.query = r1.query ∧ r7.st = r1.st := he7
        have ht7' : tryQ (cls r.P) (cgl ((T0, c0) :: rest)) (hdT (cs c.σ) (cgl ((T0, c0) :: rest))) (r.P.len + 1) c.k (absQ { r1 with kept := .slice (some ⟨g, 0, none⟩) l.length cp, todo := .slice (some ⟨bt, ot, none⟩) (rest.length + 1) ct } c.N c.σ ((T0, c0) :: rest) l an) 4000 = (absQ r7 Nx7 σx7 glx7 ch7 an, ok) := by
          have := ht7
          simp only [HEq.out.1] at this
          exact this
        have HS7 : Hid (RS w0 w7 s r7 g7 cap7 len7 N7 τ7 ρ7 rk7 σ7 wk7 gl7 ch7 an) := hs7
        have HE7 : Hid (r7.P = r.P ∧ r7.query = r.query ∧ r7.st = r.st) := ⟨he7.1.trans HEq.out.1, he7.2.1.trans HEq.out.2.1, he7.2.2.trans HEq.out.2.2.1⟩
        have hzf : w.heap.size ≤ w7.heap.size := Nat.le_trans hz9 hz7
        have HX7 : Hid (r7.fin = 0 → Nx7 = N7 ∧ σx7 = σ7 ∧ glx7 = gl7 ∧ ∀ v U, σ7 v = some U → 0 < v ∧ v ≤ N7) := hx7
        have HC7 : Hid (∀ d ∈ ch7, d.N ≤ nB ∧ d.gl.length ≤ gB) := fun d hd => by
          rcases hc7 d hd with h1 | ⟨h1, h2⟩
          · exact HCl.out d h1
          · rw [h1, h2]; exact ⟨hcN1, hcG1⟩
        have hN7 : N7 ≤ nB + 12 := by omega
        have hG7 : gl7.length ≤ gB + 6 := by have : gl7.length ≤ rest.length + 1 + 6 := hl7; omega
        have hL7 : ch7.length ≤ ch.length := by omega
        have hBb := HEb.out
        rw [ht7'] at hBb
        clear hs7 ht7 he7 hx7 hc7 hz7
        cases ok with
        | true =>
          have HB7 : Hid (bkQ (cls r.P) (absQ r Nx σx glx ch an) = absQ r7 Nx7 σx7 glx7 ch7 an) := hBb
          have hf8 : 0 ≤ r7.fin := by rcases hf7 with h | h <;> omega
          clear hBb ht7' hf7
          go_wp2_with fail
          go_end0
          exact ⟨r7, g7, cap7, len7, N7, Nx7, τ7, ρ7, rk7, σ7, σx7, wk7, gl7, glx7, ch7, rfl, HS7.out, HB7.out, HX7.out, HE7.out, hf8, hN7, hG7, HC7.out, hL7, hzf⟩
        | false =>
          have hfc := tryQ_false ht7'
          have hlc : ch7.length = l.length := by
            have := congrArg List.length hfc.1
            simpa [absQ] using this
          rcases hf7 with ⟨hf7, _⟩ | ⟨hf7, _⟩
          · have HB7 : Hid (bkQ (cls r.P) (absQ r Nx σx glx ch an) = backQ (cls r.P) (gk - 1 + 1) (absQ r7 Nx7 σx7 glx7 ch7 an)) := by rw [Hid, show gk - 1 + 1 = gk from by omega]; exact hBb
            have HF7 : Hid (r7.fin = 0) := hf7
            have hdc : (false || decide (r7.fin = 3)) = false := by rw [hf7]; rfl
            rw [hdc]
            clear hBb ht7' hfc hf7 hdc
            go_wp2_with fail
            go_roundg (gk - 1)
            case measure => omega
            case rel => exact ⟨r7, g7, cap7, len7, N7, Nx7, τ7, ρ7, rk7, σ7, σx7, wk7, gl7, glx7, ch7, HS7.out, HB7.out, by omega, ⟨HE7.out.1, HE7.out.2.1, HE7.out.2.2, HF7.out⟩, hN7, hG7, HC7.out, hL7, hzf⟩
          · have hdc : (false || decide (r7.fin = 3)) = true := by rw [hf7]; rfl
            have HB7 : Hid (bkQ (cls r.P) (absQ r Nx σx glx ch an) = absQ r7 Nx7 σx7 glx7 ch7 an) := by
              rw [Hid, hBb]
              obtain ⟨k', hk'⟩ : ∃ k', gk = k' + 1 := ⟨gk - 1, by omega⟩
              rw [hk']
              exact backQ_fin (by show r7.fin.toNat ≠ 0; rw [hf7]; decide)
            have hf8 : 0 ≤ r7.fin := by omega
            rw [hdc]
            clear hBb ht7' hfc hf7 hdc
            go_wp2_with fail
            go_end0
            exact ⟨r7, g7, cap7, len7, N7, Nx7, τ7, ρ7, rk7, σ7, σx7, wk7, gl7, glx7, ch7, rfl, HS7.out, HB7.out, HX7.out, HE7.out, hf8, hN7, hG7, HC7.out, hL7, hzf⟩
end Go.Proofs.Ytmggaclaoefdaaa

namespace Go.Proofs.Ytmggaclaoefdaaa
open Go.RowKit

/-- Cuts fall along the goals, and are at most k. -/
def Cu (gl : List Gl) (k : Nat) : Prop := (∀ g ∈ gl, g.2 ≤ k) ∧ gl.Pairwise fun a b => b.2 ≤ a.2
theorem Cu.tail {gl : List Gl} {k : Nat} (h : Cu gl k) : Cu gl.tail k := ⟨fun g hg => h.1 g (List.mem_of_mem_tail hg), h.2.sublist (List.tail_sublist gl)⟩
/-- Choices have goals, and clauses; the goals' cuts are among those below. -/
def CW (n : Nat) (ch : List Chc) : Prop := (∀ c ∈ ch, c.gl ≠ [] ∧ c.k ≤ n) ∧ ∀ i (h : i < ch.length), Cu ch[i].gl i
theorem CW.push {n : Nat} {ch : List Chc} (h : CW n ch) {c : Chc} (hc : c.gl ≠ [] ∧ c.k ≤ n) (hg : Cu c.gl ch.length) : CW n (ch ++ [c]) := by
  refine ⟨fun d hd => ?_, fun i hi => ?_⟩
  · rcases List.mem_append.1 hd with hd | hd
    · exact h.1 d hd
    · rw [List.mem_singleton] at hd; subst hd; exact hc
  · by_cases hl : i < ch.length
    · rw [List.getElem_append_left hl]; exact h.2 i hl
    · have hi' : i = ch.length := by simp at hi; omega
      subst hi'
      rw [List.getElem_append_right (Nat.le_refl _)]
      simpa using hg
theorem CW.take {n : Nat} {ch : List Chc} (h : CW n ch) (k : Nat) : CW n (ch.take k) :=
  ⟨fun d hd => h.1 d (List.mem_of_mem_take hd), fun i hi => by rw [List.getElem_take]; exact h.2 i (by rw [List.length_take] at hi; omega)⟩
theorem try_cw {P : Cls} {gs : List Gl} {t : Tm} (hgs : gs ≠ []) : ∀ {f i : Nat} {X Y : PS} {L : Nat}, CW P.length X.ch → Cu gs X.ch.length → tryP P gs t f i X L = (Y, true) → CW P.length Y.ch ∧ Cu Y.gl Y.ch.length := by
  intro f
  induction f with
  | zero => intro i X Y L _ _ h; rw [tryP] at h; cases h
  | succ f ih =>
    intro i X Y L hC hG h
    rw [tryP] at h
    split at h
    · cases h
    · split at h
      · cases h
      · exact ih (X := { X with last := X.last + 12 }) hC hG h
      · obtain ⟨rfl, _⟩ := Prod.mk.inj h
        simp only
        have hch : ∀ ch', (ch' = X.ch ∨ ∃ c, ch' = X.ch ++ [c]) → X.ch.length ≤ ch'.length := fun ch' h => by
          rcases h with rfl | ⟨c, rfl⟩
          · exact Nat.le_refl _
          · simp
        have hcu : ∀ (k : Nat) (b : List Tm) (θ : Int → Tm), X.ch.length ≤ k → Cu (b.map (fun b => (ap θ b, X.ch.length)) ++ gs.tail) k := fun k b θ hk => by
          have ht := hG.tail
          refine ⟨fun g hg => ?_, ?_⟩
          · rcases List.mem_append.1 hg with hg | hg
            · obtain ⟨x, _, rfl⟩ := List.mem_map.1 hg; exact hk
            · exact Nat.le_trans (ht.1 g hg) hk
          · rw [List.pairwise_append]
            refine ⟨?_, ht.2, fun a ha c hc => ?_⟩
            · rw [List.pairwise_map]
              exact List.pairwise_iff_getElem.2 (fun _ _ _ _ _ => Nat.le_refl _)
            · obtain ⟨x, _, rfl⟩ := List.mem_map.1 ha
              exact ht.1 c hc
        split
        · exact ⟨hC, hcu _ _ _ (Nat.le_refl _)⟩
        · rename_i k hk
          have hkl : k ≤ P.length := by
            unfold fitP at hk
            rw [List.find?_range_eq_some] at hk
            exact Nat.le_of_lt (List.mem_range.1 hk.2.1)
          exact ⟨hC.push ⟨hgs, hkl⟩ hG, hcu _ _ _ (by simp)⟩
theorem back_cw {P : Cls} : ∀ {f : Nat} {X : PS}, X.ch.length < f → CW P.length X.ch → (backP P f X).fin = 0 → CW P.length (backP P f X).ch ∧ Cu (backP P f X).gl (backP P f X).ch.length := by
  intro f
  induction f with
  | zero => intro X h; omega
  | succ f ih =>
    intro X hl hC hf
    by_cases h0 : X.fin = 0
    case neg => rw [back_fin h0] at hf; exact absurd hf h0
    rcases List.eq_nil_or_concat X.ch with hc | ⟨l, c, hc⟩
    · rw [back_none h0 hc] at hf; simp at hf
    · rw [List.concat_eq_append] at hc
      rw [back_some h0 hc] at hf ⊢
      rw [hc] at hC hl
      have hCl : CW P.length l := by have := hC.take l.length; rwa [List.take_left] at this
      have hcg : c.gl ≠ [] := (hC.1 c (by simp)).1
      have hcu : Cu c.gl l.length := by
        have := hC.2 l.length (by simp)
        simpa using this
      cases ht : tryP P c.gl (hdT c.σ c.gl) (P.length + 1) c.k { X with ch := l, σ := c.σ } 4000 with
      | mk Y ok =>
        rw [ht] at hf
        cases ok with
        | true => exact try_cw hcg (X := { X with ch := l, σ := c.σ }) hCl hcu ht
        | false =>
          have hy := (try_false ht).1
          exact ih (X := Y) (by rw [hy]; simp at hl; exact hl) (by rw [hy]; exact hCl) hf
theorem bk_cw {P : Cls} {X : PS} (hC : CW P.length X.ch) (hf : (bk P X).fin = 0) : CW P.length (bk P X).ch ∧ Cu (bk P X).gl (bk P X).ch.length := back_cw (Nat.lt_succ_self _) hC hf
/-- A step: if the search goes on, its cuts are among its choices. -/
theorem step_cw {P : Cls} {X : PS} (hg : X.gl ≠ []) (hC : CW P.length X.ch) (hG : Cu X.gl X.ch.length) (hf : (stepP P X).fin = 0) : CW P.length (stepP P X).ch ∧ Cu (stepP P X).gl (stepP P X).ch.length := by
  unfold stepP at hf ⊢
  simp only at hf ⊢
  split at hf
  · simp at hf
  · rename_i h1
    rw [if_neg h1]
    split at hf
    · rename_i h2
      rw [if_pos h2]
      cases hgl : X.gl with
      | nil => exact absurd hgl hg
      | cons g r =>
        rw [hgl] at hG
        have hle : g.2 ≤ X.ch.length := hG.1 g (by simp)
        refine ⟨hC.take _, ?_⟩
        show Cu r (X.ch.take g.2).length
        rw [List.length_take, show min g.2 X.ch.length = g.2 from by omega]
        have hp := List.pairwise_cons.1 hG.2
        exact ⟨fun a ha => hp.1 a ha, hp.2⟩
    · rename_i h2
      rw [if_neg h2]
      split at hf
      · rename_i h3
        rw [if_pos h3]
        exact ⟨hC, hG.tail⟩
      · rename_i h3
        rw [if_neg h3]
        split at hf
        · rename_i h4
          rw [if_pos h4]
          exact bk_cw (X := { X with gl := X.gl.tail }) hC hf
        · rename_i h4
          rw [if_neg h4]
          split at hf
          · rename_i h5
            rw [if_pos h5]
            split at hf
            · simp at hf
            · exact bk_cw (X := { X with gl := X.gl.tail }) hC hf
            · exact ⟨hC, hG.tail⟩
          · rename_i h5
            rw [if_neg h5]
            cases ht : tryP P X.gl (hdT X.σ X.gl) (P.length + 1) 0 { X with gl := X.gl.tail } 4000 with
            | mk Z ok =>
              rw [ht] at hf
              cases ok with
              | true => exact try_cw hg (X := { X with gl := X.gl.tail }) hC hG ht
              | false =>
                have hz := (try_false ht).1
                exact bk_cw (X := Z) (by rw [hz]; exact hC) hf
theorem answer_cw {P : Cls} {n : Nat} {X : PS} (hC : CW P.length X.ch) (hf : (answerP P n X).fin = 0) : CW P.length (answerP P n X).ch ∧ Cu (answerP P n X).gl (answerP P n X).ch.length := by
  unfold answerP at hf ⊢
  split at hf
  · simp at hf
  · split at hf
    · simp at hf
    · rename_i h2
      rw [if_neg h2]
      exact bk_cw (X := { X with ans := X.ans ++ [foundP X.σ n] }) hC hf
end Go.Proofs.Ytmggaclaoefdaaa
