/- The reference's Take, walked. -/
import Derived.Test.YtmggaclaoefdaaaGU
import Derived.Test.YtmggaclaoefdaaaSvI
namespace Go.Proofs.Ytmggaclaoefdaaa
open Go.RowKit

/-- What the reference's Take says. -/
def TkR (w0 w : World) (s : Nat) (r : Rr) (X : QS) (an : List Tm) (nB : Int) (gB cB : Nat) (e : Ending) (w' : World) : Prop :=
  ∃ (r' : Rr) (g' cap' len' : Nat) (N' Nx : Int) (τ' ρ' : Int → Tm) (rk' : Int → Nat) (σ' σx : Sg) (wk' : Int) (gl' glx : List Gl) (ch' : List Kr), e = .returned (.tuple #[]) ∧ RS w0 w' s r' g' cap' len' N' τ' ρ' rk' σ' wk' gl' ch' an ∧
    stepQ (cls r.P) X = absQ r' Nx σx glx ch' an ∧ (r'.fin = 0 → Nx = N' ∧ σx = σ' ∧ glx = gl' ∧ ∀ v U, σ' v = some U → 0 < v ∧ v ≤ N') ∧ (r'.P = r.P ∧ r'.query = r.query ∧ r'.st = r.st + 1) ∧ 0 ≤ r'.fin ∧ N' ≤ nB + 12 ∧ gl'.length ≤ gB + 6 ∧ (∀ c ∈ ch', c.N ≤ nB ∧ c.gl.length ≤ gB) ∧ ch'.length ≤ cB ∧ w.heap.size ≤ w'.heap.size
theorem BQR.step {w0 w wx : World} {s : Nat} {r r1 : Rr} {X Y : QS} {an : List Tm} {nB : Int} {gB cB cC : Nat} {e : Ending} {w' : World} (h : BQR w0 wx s r1 Y an nB gB cC e w') (hP : r1.P = r.P ∧ r1.query = r.query ∧ r1.st = r.st + 1) (hX : stepQ (cls r.P) X = bkQ (cls r.P) Y) (hC : cC ≤ cB) (hz : w.heap.size ≤ wx.heap.size) : TkR w0 w s r X an nB gB cB e w' := by
  obtain ⟨r', g', cap', len', N', Nx, τ', ρ', rk', σ', σx, wk', gl', glx, ch', h1, h2, h3, h4, h5, h6, h7, h8, h9, h10, h11⟩ := h
  refine ⟨r', g', cap', len', N', Nx, τ', ρ', rk', σ', σx, wk', gl', glx, ch', h1, h2, ?_, h4, ⟨h5.1.trans hP.1, h5.2.1.trans hP.2.1, h5.2.2.trans hP.2.2⟩, h6, h7, h8, h9, by omega, Nat.le_trans hz h11⟩
  rw [hX, ← hP.1]; exact h3
theorem means_cases (U : Tm) :
    (meansB U.nm U.len = false ∧ isT U nCut 0 = false ∧ isT U nTrue 0 = false ∧ isT U nFail 0 = false ∧ isT U nEq 2 = false) ∨
    (meansB U.nm U.len = true ∧ (U.nm.toList == [33]) = true ∧ isT U nCut 0 = true) ∨
    (meansB U.nm U.len = true ∧ ((U.nm.toList == [33]) = false ∧ (U.nm.toList == [102, 97, 105, 108]) = false ∧ (U.nm.toList == [101, 113]) = false) ∧ isT U nCut 0 = false ∧ isT U nTrue 0 = true) ∨
    (meansB U.nm U.len = true ∧ ((U.nm.toList == [33]) = false ∧ (U.nm.toList == [102, 97, 105, 108]) = true) ∧ isT U nCut 0 = false ∧ isT U nTrue 0 = false ∧ isT U nFail 0 = true) ∨
    (meansB U.nm U.len = true ∧ ((U.nm.toList == [33]) = false ∧ (U.nm.toList == [102, 97, 105, 108]) = false ∧ (U.nm.toList == [101, 113]) = true) ∧ isT U nCut 0 = false ∧ isT U nTrue 0 = false ∧ isT U nFail 0 = false ∧ isT U nEq 2 = true) := by
  have e1 : nCut.toList = [33] := by decide +kernel
  have e2 : nTrue.toList = [116, 114, 117, 101] := by decide +kernel
  have e3 : nFail.toList = [102, 97, 105, 108] := by decide +kernel
  have e4 : nEq.toList = [101, 113] := by decide +kernel
  unfold isT meansB
  rw [e1, e2, e3, e4]
  rcases five U.nm.toList with ⟨h1, h2, h3, h4⟩ | ⟨h1, h2, h3, h4⟩ | ⟨h1, h2, h3, h4⟩ | ⟨h1, h2, h3, h4⟩ | ⟨h1, h2, h3, h4⟩ <;>
  rcases three U.len with ⟨_, _, G⟩ | ⟨_, _, G⟩ | ⟨_, _, G⟩ <;> simp [h1, h2, h3, h4, Hid.out G]
theorem block4 {w : World} {k : Nat} {x y z u : Value} {t : TypeId} (h : w.heap[k]? = some (.cells #[x, y, z, u] t)) : w.cell? ⟨k, 0, none⟩ = some x ∧ w.cell? ⟨k, 1, none⟩ = some y ∧ w.cell? ⟨k, 2, none⟩ = some z ∧ w.cell? ⟨k, 3, none⟩ = some u := by
  refine ⟨?_, ?_, ?_, ?_⟩ <;> simp [World.cell?, h]
set_option maxRecDepth 100000 in
set_option maxHeartbeats 8000000 in
theorem take_any {w0 : World} {s : Nat} {r : Rr} {g cap len : Nat} {N : Int} {τ ρ : Int → Tm} {rk : Int → Nat} {σ : Sg} {wk : Int} {T0 : Tm} {c0 : Nat} {rest : List Gl} {ch : List Kr} {an : List Tm} (nB : Int) (gB : Nat) (w : World) (hPr : Prg w0 r.P) (h : RS w0 w s r g cap len N τ ρ rk σ wk ((T0, c0) :: rest) ch an) (hD : ∀ v U, σ v = some U → 0 < v ∧ v ≤ N) (hf : r.fin = 0) (hst : 0 ≤ r.st ∧ r.st ≤ 1000000) (hB : N ≤ nB ∧ rest.length + 1 ≤ gB) (hcB : ∀ c ∈ ch, c.N ≤ nB ∧ c.gl.length ≤ gB) (hn : nB ≤ 700000) (hg : gB ≤ 90000) (hc : ch.length ≤ 90000) :
    Calls Try.prog 73 #[.pointer (some ⟨s, 0, none⟩)] w (TkR w0 w s r (absQ { r with st := r.st + 1 } N σ ((T0, c0) :: rest) ch an) an nB gB (ch.length + 1)) := by
  have H : Hid (RS w0 w s r g cap len N τ ρ rk σ wk ((T0, c0) :: rest) ch an) := h
  have HPr : Hid (Prg w0 r.P) := hPr
  have HD : Hid (∀ v U, σ v = some U → 0 < v ∧ v ≤ N) := hD
  have HFin : Hid (r.fin = 0) := hf
  have HcB : Hid (∀ c ∈ ch, c.N ≤ nB ∧ c.gl.length ≤ gB) := hcB
  have hs := h.rf.lt.1
  obtain ⟨bt, ot, ct, htd, htc, htm, htM, ⟨d0, d1, d2, d3⟩, hT0, _⟩ := h.td.first
  have HTd : Hid (r.todo = .slice (some ⟨bt, ot, none⟩) (rest.length + 1) ct) := htd
  obtain ⟨_, _, y2, y3, _, _, _, _, y8, yf⟩ := h.get
  rw [htd] at y3
  have yf2 := yf 2
  have yf8 := yf 8
  have HBa : Hid (Below w.heap.size w (w.alloc (.cells #[.int .i64 T0.v, .string T0.nm, .slice T0.a T0.len T0.cap, .int .i64 c0] 110))) := (Below.refl _ _).alloc (Nat.le_refl _) _
  have z2 := (HBa.out.cell (lt_of_cell y2)).trans y2
  have z8 := (HBa.out.cell (lt_of_cell y8)).trans y8
  have zf2 := (HBa.out.frozen (p := ⟨s, 2, none⟩) hs).trans yf2
  have zf8 := (HBa.out.frozen (p := ⟨s, 8, none⟩) hs).trans yf8
  have hw8 : IntKind.i64.wrap (r.st + 1) = r.st + 1 := by simp [IntKind.wrap, IntKind.bits, IntKind.signed]; omega
  have hlI : (0 : Int) < ((rest.length + 1 : Nat) : Int) := by omega
  obtain ⟨r1, hr1⟩ : ∃ r1 : Rr, r1 = { r with st := r.st + 1 } := ⟨_, rfl⟩
  rw [show ({ r with st := r.st + 1 } : Rr) = r1 from hr1.symm]
  have HR1 : Hid (r1.P = r.P ∧ r1.query = r.query ∧ r1.st = r.st + 1 ∧ r1.fin = 0 ∧ r1.todo = .slice (some ⟨bt, ot, none⟩) (rest.length + 1) ct) := by rw [Hid, hr1]; exact ⟨rfl, rfl, rfl, hf, htd⟩
  have HRk : Hid (r1.kept = r.kept ∧ r1.av = r.av) := by rw [Hid, hr1]; exact ⟨rfl, rfl⟩
  have HW2 : Hid (∀ W, W = (((w.setCell ⟨s, 8, none⟩ (.int .i64 (r.st + 1))).setCell ⟨s, 2, none⟩ (.int .i64 0)).alloc (.cells #[.int .i64 T0.v, .string T0.nm, .slice T0.a T0.len T0.cap, .int .i64 c0] 110)) → RS w0 W s r1 g cap len N τ ρ rk σ (4000 - ((4000 : Nat) : Int)) ((T0, c0) :: rest) ch an ∧ W.heap[w.heap.size]? = some (.cells #[.int .i64 T0.v, .string T0.nm, .slice T0.a T0.len T0.cap, .int .i64 c0] 110) ∧ w.heap.size < W.heap.size) := by
    rintro W rfl
    have h1 := H.out.put 8 (.int .i64 (r.st + 1)) (r' := r1) (by rw [hr1]; rfl) (by rw [hr1]) (by rw [hr1]) (by rw [hr1]) (by rw [hr1]; exact H.out.td)
    have h2 := h1.put 2 (.int .i64 0) (r' := r1) (wk' := 4000 - ((4000 : Nat) : Int)) rfl rfl rfl rfl h1.td
    have hz : ((w.setCell ⟨s, 8, none⟩ (.int .i64 (r.st + 1))).setCell ⟨s, 2, none⟩ (.int .i64 0)).heap.size = w.heap.size := by simp [World.setCell]
    refine ⟨h2.below ((Below.refl _ _).alloc (Nat.le_refl _) _), ?_, by simp [World.setCell]⟩
    have := heap_alloc_new ((w.setCell ⟨s, 8, none⟩ (.int .i64 (r.st + 1))).setCell ⟨s, 2, none⟩ (.int .i64 0)) (.cells #[.int .i64 T0.v, .string T0.nm, .slice T0.a T0.len T0.cap, .int .i64 c0] 110)
    rwa [hz] at this
  clear h hPr hD hf hcB htd htM hT0 yf hr1
  go_enter Try.func73, Try.ntmps73
  go_wp2_with fail
  obtain ⟨hS2, hb2, hz2⟩ := HW2.out _ rfl
  clear HW2 y2 y3 y8 yf2 yf8 z2 z8 zf2 zf8 d0 d1 d2 d3 HBa
  have HS2 : Hid (RS w0 (((w.setCell ⟨s, 8, none⟩ (.int .i64 (r.st + 1))).setCell ⟨s, 2, none⟩ (.int .i64 0)).alloc (.cells #[.int .i64 T0.v, .string T0.nm, .slice T0.a T0.len T0.cap, .int .i64 c0] 110)) s r1 g cap len N τ ρ rk σ (4000 - ((4000 : Nat) : Int)) ((T0, c0) :: rest) ch an) := hS2
  have HB2 : Hid ((((w.setCell ⟨s, 8, none⟩ (.int .i64 (r.st + 1))).setCell ⟨s, 2, none⟩ (.int .i64 0)).alloc (.cells #[.int .i64 T0.v, .string T0.nm, .slice T0.a T0.len T0.cap, .int .i64 c0] 110)).heap[w.heap.size]? = some (.cells #[.int .i64 T0.v, .string T0.nm, .slice T0.a T0.len T0.cap, .int .i64 c0] 110)) := hb2
  clear hS2 hb2
  generalize (((w.setCell ⟨s, 8, none⟩ (.int .i64 (r.st + 1))).setCell ⟨s, 2, none⟩ (.int .i64 0)).alloc (.cells #[.int .i64 T0.v, .string T0.nm, .slice T0.a T0.len T0.cap, .int .i64 c0] 110)) = w2 at *
  have HkM : Hid (¬ Mq s g r1.kept r1.av w.heap.size) := fun e => by
    rw [HRk.out.1, HRk.out.2] at e
    have := (H.out.mu e).2
    omega
  obtain ⟨bt', ot', ct', htd', _, _, _, _, hT0, _⟩ := HS2.out.td.first
  have HT0 : Hid (TIn w2 T0 ∧ NM (Mq s g r1.kept r1.av) T0 ∧ Okv N T0) := hT0
  clear htd' hT0
  obtain ⟨p0, p1, p2, p3⟩ := block4 HB2.out
  have HKp : Hid (∀ W, Below w2.heap.size w2 W → W.cell? ⟨w.heap.size, 0, none⟩ = some (.int .i64 T0.v) ∧ W.cell? ⟨w.heap.size, 1, none⟩ = some (.string T0.nm) ∧ W.cell? ⟨w.heap.size, 2, none⟩ = some (.slice T0.a T0.len T0.cap)) := fun W hW => ⟨(hW.cell (lt_of_cell p0)).trans p0, (hW.cell (lt_of_cell p1)).trans p1, (hW.cell (lt_of_cell p2)).trans p2⟩
  go_cut [3] from 24 to 29 (fun x wx => ∃ (kb : Nat) (Y : Tm), x = .pointer (some ⟨kb, 0, none⟩) ∧ w2.heap.size ≤ kb ∧ Bx3 wx kb Y ∧ Below w2.heap.size w2 wx ∧ ((Y.v = 0 ∧ Y = wha σ T0 ∧ (wha σ T0 = T0 ∨ ∃ v, 0 < v ∧ v ≤ N ∧ wha σ T0 = τ v)) ∨ (Y.v ≠ 0 ∧ (wha σ T0).v ≠ 0)))
  case first =>
    have HU0 : Hid (∀ W, Below w2.heap.size w2 W → Calls Try.prog 67 #[.pointer (some ⟨s, 1, none⟩), .agg #[.int .i64 T0.v, .string T0.nm, .slice T0.a T0.len T0.cap]] W fun e w' => ∃ Y : Tm, e = .returned (.agg #[.int .i64 Y.v, .string Y.nm, .slice Y.a Y.len Y.cap]) ∧ Below W.heap.size W w' ∧ ((Y.v = 0 ∧ Y = wha σ T0 ∧ (wha σ T0 = T0 ∨ ∃ v, 0 < v ∧ v ≤ N ∧ wha σ T0 = τ v)) ∨ (Y.v ≠ 0 ∧ (wha σ T0).v ≠ 0))) := fun W hW => by
      have hRW := (HS2.out.below hW).rf
      refine (lookAt_agg T0 W hRW.by hRW.ch HT0.out.2.2).mono ?_
      rintro e w' ⟨Y, rfl, hb, hLk, hY⟩
      refine ⟨Y, rfl, hb, ?_⟩
      by_cases hY0 : Y.v = 0
      · have hz : (lk ρ T0).v = 0 := hLk.1.symm.trans hY0
        have e1 : Y = wha σ T0 := (hLk.2.1 hY0).trans (hRW.rel.fn T0 HT0.out.2.2 hz).symm
        exact .inl ⟨hY0, e1, e1 ▸ hY⟩
      · exact .inr ⟨hY0, fun e => hY0 (hLk.1.trans ((hRW.rel.zero HT0.out.2.2).2 e))⟩
    go_region_held3 (fun w' => w'.cell? ⟨w.heap.size, 0, none⟩ = some (.int .i64 T0.v) ∧ w'.cell? ⟨w.heap.size, 1, none⟩ = some (.string T0.nm) ∧ w'.cell? ⟨w.heap.size, 2, none⟩ = some (.slice T0.a T0.len T0.cap)) ((refine HKp.out _ ?_; repeat (first | exact HB1.out | exact Below.refl _ _ | refine Below.drew ?_ | refine Below.alloc ?_ (by first | exact Nat.le_refl _ | exact HB1.out.size | simp) _ | refine Below.setCell ?_ (by first | exact Nat.le_refl _ | exact HB1.out.size | simp) _))) (first
      | (go_at_call 67
         refine (HU0.out _ (by repeat (first | exact Below.refl _ _ | refine Below.drew ?_ | refine Below.alloc ?_ (by first | exact Nat.le_refl _ | simp) _))).mono ?_
         rintro e w3 ⟨Y, rfl, hb1, hO1⟩
         have HB1 : Hid (Below w2.heap.size w2 w3) := Below.trans (by repeat (first | exact Below.refl _ _ | refine Below.drew ?_ | refine Below.alloc ?_ (by first | exact Nat.le_refl _ | simp) _)) (hb1.mono (by simp))
         have HO1 : Hid ((Y.v = 0 ∧ Y = wha σ T0 ∧ (wha σ T0 = T0 ∨ ∃ v, 0 < v ∧ v ≤ N ∧ wha σ T0 = τ v)) ∨ (Y.v ≠ 0 ∧ (wha σ T0).v ≠ 0)) := hO1
         first
           | (have hz : w3.heap[w2.heap.size]? = some (.cells #[.int .i64 0, .string ⟨#[]⟩, .slice none 0 0] 24) := boxA (W := w2) ⟨hb1.os, hb1.tape, hb1.output, hb1.size, hb1.block⟩
              have HZ : Hid (w3.heap[w2.heap.size]? = some (.cells #[.int .i64 0, .string ⟨#[]⟩, .slice none 0 0] 24)) := hz
              obtain ⟨z0, z1, z2, zf0, zf1, zf2⟩ := block_cells hz
              clear hz)
           | skip
         clear hb1 hO1))
    all_goals
      go_wp2_with fail
      go_meet
      case rel =>
        first
          | (obtain ⟨W', hW', _, _, _, hB', _⟩ := fin3n (w := w2) (r := w2.heap.size) (Nat.le_refl _) HZ.out HB1.out (.int .i64 Y.v) (.string Y.nm) (.slice Y.a Y.len Y.cap)
             have hx := set3 (a := .int .i64 Y.v) (b := .string Y.nm) (c := .slice Y.a Y.len Y.cap) HZ.out
             rw [hW'] at hx ⊢
             exact ⟨w2.heap.size, Y, rfl, Nat.le_refl _, hx, hB', HO1.out⟩)
          | exact ⟨w3.heap.size, Y, rfl, HB1.out.size, heap_alloc_new w3 _, HB1.out.alloc HB1.out.size _, HO1.out⟩
  case rest =>
    obtain ⟨kb, Y, rfl, hkb, hbx, hB, hY⟩ := hcut
    have HSc : Hid (RS w0 wc s r1 g cap len N τ ρ rk σ (4000 - ((4000 : Nat) : Int)) ((T0, c0) :: rest) ch an) := HS2.out.below hB
    have HX : Hid (Bx3 wc kb Y) := hbx
    have HGo : Hid (wc.heap[w.heap.size]? = some (.cells #[.int .i64 T0.v, .string T0.nm, .slice T0.a T0.len T0.cap, .int .i64 c0] 110)) := (hB.block _ hz2).trans HB2.out
    have hzc : w.heap.size ≤ wc.heap.size := Nat.le_trans (Nat.le_of_lt hz2) hB.size
    have HKb : Hid (¬ Mq s g r1.kept r1.av kb) := fun e => by have := (HS2.out.mu e).2; omega
    have HStep : Hid (stepQ (cls r.P) (absQ r1 N σ ((T0, c0) :: rest) ch an) = if (wha σ T0).v ≠ 0 then absQ { r1 with fin := 4 } N σ ((T0, c0) :: rest) ch an else if isT (wha σ T0) nCut 0 then { absQ r1 N σ rest ch an with ch := (ch.map kq).take c0 } else if isT (wha σ T0) nTrue 0 then absQ r1 N σ rest ch an else if isT (wha σ T0) nFail 0 then bkQ (cls r.P) (absQ r1 N σ rest ch an) else if isT (wha σ T0) nEq 2 then match meetF 4001 (cs σ) 4000 [((can (wha σ T0)).f 0, (can (wha σ T0)).f 1)] with
        | .over => { absQ r1 N σ rest ch an with fin := 3 }
        | .no _ => bkQ (cls r.P) (absQ r1 N σ rest ch an)
        | .yes _ σ' => { absQ r1 N σ rest ch an with σ := σ' }
      else match tryQ (cls r.P) (cgl ((T0, c0) :: rest)) (can (wha σ T0)) (r.P.len + 1) 0 (absQ r1 N σ ((T0, c0) :: rest) ch an) 4000 with
        | (Z, true) => Z
        | (Z, false) => bkQ (cls r.P) Z) := by
      unfold stepQ
      rw [show hdT (absQ r1 N σ ((T0, c0) :: rest) ch an).σ (absQ r1 N σ ((T0, c0) :: rest) ch an).gl = can (wha σ T0) from hd_can σ T0 c0 rest]
      simp only [can_v, isT_can, cls_len]
      rfl
    have HHd : Hid (hdT (cs σ) (cgl ((T0, c0) :: rest)) = can (wha σ T0)) := hd_can σ T0 c0 rest
    obtain ⟨u0, u1, u2, _, _, _⟩ := block_cells hbx
    clear hB hbx p0 p1 p2 p3 HKp HS2 HB2 HT0
    rcases hY with ⟨hv, hYe, hYt⟩ | ⟨hv, hv2⟩
    case inr =>
      have hvb : (Y.v != 0) = true := bne_iff_ne.2 hv
      have HE : Hid (stepQ (cls r.P) (absQ r1 N σ ((T0, c0) :: rest) ch an) = absQ { r1 with fin := 4 } N σ ((T0, c0) :: rest) ch an) := by
        rw [Hid, HStep.out, if_pos hv2]
      have x7 := HSc.out.get.2.2.2.2.2.2.2.1
      have xf7 := HSc.out.get.2.2.2.2.2.2.2.2.2 7
      clear hv hv2
      go_wp2_with fail
      go_end0
      exact ⟨{ r1 with fin := 4 }, g, cap, len, N, N, τ, ρ, rk, σ, σ, _, (T0, c0) :: rest, (T0, c0) :: rest, ch, rfl, HSc.out.put 7 _ rfl rfl rfl rfl HSc.out.td, HE.out, fun _ => ⟨rfl, rfl, rfl, HD.out⟩, ⟨HR1.out.1, HR1.out.2.1, HR1.out.2.2.1⟩, by show (0 : Int) ≤ 4; omega, by omega, by show rest.length + 1 ≤ _; omega, HcB.out, by omega, by simpa [World.setCell] using hzc⟩
    subst hYe
    have HV : Hid ((wha σ T0).v = 0) := hv
    have HV0 : Hid ((hdT σ ((T0, c0) :: rest)).v = 0) := hv
    have HV1 : Hid ((wha σ T0).v = 0) := hv
    have HYt : Hid (wha σ T0 = T0 ∨ ∃ v, 0 < v ∧ v ≤ N ∧ wha σ T0 = τ v) := hYt
    have hvb : ((wha σ T0).v != 0) = false := by rw [hv]; rfl
    have HSt2 : Hid (_ = _) := HStep.out.trans (if_neg (by rw [hv]; simp))
    have HTry : Hid (∀ W, RS w0 W s r1 g cap len N τ ρ rk σ (4000 - ((4000 : Nat) : Int)) ((T0, c0) :: rest) ch an → Calls Try.prog 104 #[.pointer (some ⟨s, 0, none⟩), .int .i64 0] W (TQR w0 W s r1 N σ 4000 ((T0, c0) :: rest) ch an 0)) := fun W hW => tryR_any 4000 0 W (by rw [HR1.out.1]; exact HPr.out) hW HD.out hv (Nat.zero_le _) (Nat.le_refl _) (by omega) HR1.out.2.2.2.1 (by omega) (by omega)
    clear hv hYt HStep
    have HGU : Hid (TIn wc (wha σ T0) ∧ Okv N (wha σ T0) ∧ NM (Mq s g r1.kept r1.av) (wha σ T0)) := by
      rcases HYt.out with e | ⟨v, v0, v1, e⟩
      · obtain ⟨_, _, _, _, _, _, _, _, hT, _⟩ := HSc.out.td.first
        rw [e]; exact ⟨hT.1, hT.2.2, hT.2.1⟩
      · rw [e]; exact gd_nm (HSc.out.rf.trm v (by omega) v1)
    clear HYt
    generalize wha σ T0 = U at *
    have hUl2 : U.len ≤ 2 ^ 63 - 1 := HGU.out.1.len
    have HIs : Hid (Calls Try.prog 59 #[.string U.nm, .int .i64 U.len] wc fun e w' => e = .returned (.bool (meansB U.nm U.len)) ∧ w' = wc) := isBuiltin_any U.nm U.len wc
    go_wp2_with fail
    refine HIs.out.mono ?_
    rintro e w3 ⟨rfl, h3⟩
    rw [h3]
    clear h3 w3 HIs u0 u1 u2
    have HRx : Hid (r1.P = r.P ∧ r1.query = r.query ∧ r1.st = r.st + 1) := ⟨HR1.out.1, HR1.out.2.1, HR1.out.2.2.1⟩
    rcases means_cases U with ⟨hm, h1, h2, h3, h4⟩ | hbi
    case inl =>
      have HE := HSt2.out
      rw [if_neg (by rw [h1]; simp), if_neg (by rw [h2]; simp), if_neg (by rw [h3]; simp), if_neg (by rw [h4]; simp)] at HE
      have HSt3 : Hid (stepQ (cls r.P) (absQ r1 N σ ((T0, c0) :: rest) ch an) = match tryQ (cls r.P) (cgl ((T0, c0) :: rest)) (can U) (r.P.len + 1) 0 (absQ r1 N σ ((T0, c0) :: rest) ch an) 4000 with
        | (Z, true) => Z
        | (Z, false) => bkQ (cls r.P) Z) := HE
      rw [hm]
      clear hm h1 h2 h3 h4 HE HSt2
      go_wp2_with fail
      refine (HTry.out _ HSc.out).mono ?_
      rintro e w7 ⟨ok, r7, g7, cap7, len7, N7, Nx7, τ7, ρ7, rk7, σ7, σx7, wk7, gl7, glx7, ch7, rfl, hs7, ht7, hx7, he7, hf7, hn7, hl7, hc7, hc8, hz7⟩
      have ht7' : tryQ (cls r.P) (cgl ((T0, c0) :: rest)) (can U) (r.P.len + 1) 0 (absQ r1 N σ ((T0, c0) :: rest) ch an) 4000 = (absQ r7 Nx7 σx7 glx7 ch7 an, ok) := by
        have := ht7
        rw [HHd.out] at this
        simp only [HR1.out.1] at this
        exact this
      have HS7 : Hid (RS w0 w7 s r7 g7 cap7 len7 N7 τ7 ρ7 rk7 σ7 wk7 gl7 ch7 an) := hs7
      have HE7 : Hid (r7.P = r.P ∧ r7.query = r.query ∧ r7.st = r.st + 1) := ⟨he7.1.trans HRx.out.1, he7.2.1.trans HRx.out.2.1, he7.2.2.trans HRx.out.2.2⟩
      have hzf : w.heap.size ≤ w7.heap.size := Nat.le_trans hzc hz7
      have HX7 : Hid (r7.fin = 0 → Nx7 = N7 ∧ σx7 = σ7 ∧ glx7 = gl7 ∧ ∀ v U, σ7 v = some U → 0 < v ∧ v ≤ N7) := hx7
      have HC7 : Hid (∀ d ∈ ch7, d.N ≤ nB ∧ d.gl.length ≤ gB) := fun d hd => by
        rcases hc7 d hd with h1 | ⟨h1, h2⟩
        · exact HcB.out d h1
        · rw [h1, h2]; exact ⟨hB.1, hB.2⟩
      have hN7 : N7 ≤ nB + 12 := by omega
      have hG7 : gl7.length ≤ gB + 6 := by have : gl7.length ≤ rest.length + 1 + 6 := hl7; omega
      have hE := HSt3.out
      rw [ht7'] at hE
      clear hs7 ht7 he7 hx7 hc7 hz7 HSt3
      cases ok with
      | true =>
        have HE : Hid (stepQ (cls r.P) (absQ r1 N σ ((T0, c0) :: rest) ch an) = absQ r7 Nx7 σx7 glx7 ch7 an) := hE
        have hf8 : 0 ≤ r7.fin := by rcases hf7 with h | h <;> omega
        clear hE ht7' hf7
        go_wp2_with fail
        go_end0
        exact ⟨r7, g7, cap7, len7, N7, Nx7, τ7, ρ7, rk7, σ7, σx7, wk7, gl7, glx7, ch7, rfl, HS7.out, HE.out, HX7.out, HE7.out, hf8, hN7, hG7, HC7.out, hc8, hzf⟩
      | false =>
        rcases hf7 with ⟨hf7, _⟩ | ⟨hf7, _⟩
        · have HE : Hid (stepQ (cls r.P) (absQ r1 N σ ((T0, c0) :: rest) ch an) = bkQ (cls r.P) (absQ r7 Nx7 σx7 glx7 ch7 an)) := hE
          have hdc : (false || decide (r7.fin = 3)) = false := by rw [hf7]; rfl
          rw [hdc]
          have HBk : Hid (Calls Try.prog 103 #[.pointer (some ⟨s, 0, none⟩)] w7 (BQR w0 w7 s r7 (absQ r7 Nx7 σx7 glx7 ch7 an) an nB gB ch7.length)) := backR_any nB gB w7 (by rw [HE7.out.1]; exact HPr.out) HS7.out hf7 ⟨hN7, hG7⟩ HC7.out (by omega) (by omega) (by omega)
          clear hE ht7' hf7 hdc
          go_wp2_with fail
          refine HBk.out.mono ?_
          intro e w8 h8
          have h9 : TkR w0 w s r (absQ r1 N σ ((T0, c0) :: rest) ch an) an nB gB (ch.length + 1) e w8 := h8.step HE7.out HE.out hc8 hzf
          have he : e = .returned (.tuple #[]) := by
            obtain ⟨_, _, _, _, _, _, _, _, _, _, _, _, _, _, _, h, _⟩ := h8
            exact h
          subst he
          have H9 : Hid (TkR w0 w s r (absQ r1 N σ ((T0, c0) :: rest) ch an) an nB gB (ch.length + 1) (.returned (.tuple #[])) w8) := h9
          clear h8 h9 HBk
          go_wp2_with fail
          go_end0
          exact H9.out
        · have hdc : (false || decide (r7.fin = 3)) = true := by rw [hf7]; rfl
          have HE : Hid (stepQ (cls r.P) (absQ r1 N σ ((T0, c0) :: rest) ch an) = absQ r7 Nx7 σx7 glx7 ch7 an) := hE.trans (backQ_fin (by show r7.fin.toNat ≠ 0; rw [hf7]; decide))
          have hf8 : 0 ≤ r7.fin := by omega
          rw [hdc]
          clear hE ht7' hf7 hdc
          go_wp2_with fail
          go_end0
          exact ⟨r7, g7, cap7, len7, N7, Nx7, τ7, ρ7, rk7, σ7, σx7, wk7, gl7, glx7, ch7, rfl, HS7.out, HE.out, HX7.out, HE7.out, hf8, hN7, hG7, HC7.out, hc8, hzf⟩
    have hmB : meansB U.nm U.len = true := by rcases hbi with h | h | h | h <;> exact h.1
    rw [hmB]
    clear HTry hmB
    obtain ⟨bt', ot', ct', htd', _, _, htM', _, _, htl'⟩ := HSc.out.td.first
    rw [HR1.out.2.2.2.2] at htd'
    injection htd' with hx1 hx2 hx3
    injection hx1 with hx1
    injection hx1 with hx4 hx5 _
    subst hx4 hx5 hx3
    have hsl := tail_runT bt ot (rest.length + 1) ct (by omega)
    rw [show rest.length + 1 - 1 = rest.length from by omega] at hsl
    generalize (if ct = 1 then ot else ot + 4) = o2 at *
    have y3 : wc.cell? ⟨s, 3, none⟩ = some (.slice (some ⟨bt, ot, none⟩) (rest.length + 1) ct) := by have := HSc.out.get.2.2.2.1; rwa [HR1.out.2.2.2.2] at this
    have yf3 := HSc.out.get.2.2.2.2.2.2.2.2.2 3
    have hS4 : RS w0 (wc.setCell ⟨s, 3, none⟩ (.slice (some ⟨bt, o2, none⟩) rest.length (ct - 1))) s { r1 with todo := (.slice (some ⟨bt, o2, none⟩) rest.length (ct - 1)) } g cap len N τ ρ rk σ (4000 - ((4000 : Nat) : Int)) rest ch an := HSc.out.put 3 (.slice (some ⟨bt, o2, none⟩) rest.length (ct - 1)) rfl rfl rfl rfl htl'
    have hset := G.set s wc 3 (.slice (some ⟨bt, o2, none⟩) rest.length (ct - 1))
    have hkb4 : Bx3 (wc.setCell ⟨s, 3, none⟩ (.slice (some ⟨bt, o2, none⟩) rest.length (ct - 1))) kb U := (hset.block kb (Array.getElem?_eq_some_iff.1 HX.out).1 (fun e => HKb.out (.inl (Option.some.inj e)))).trans HX.out
    have hgo4 : (wc.setCell ⟨s, 3, none⟩ (.slice (some ⟨bt, o2, none⟩) rest.length (ct - 1))).heap[w.heap.size]? = some (.cells #[.int .i64 T0.v, .string T0.nm, .slice T0.a T0.len T0.cap, .int .i64 c0] 110) := (hset.block _ (Array.getElem?_eq_some_iff.1 HGo.out).1 (fun e => HkM.out (.inl (Option.some.inj e)))).trans HGo.out
    have hw4 : Bw (Mq s g r1.kept r1.av) wc.heap.size wc (wc.setCell ⟨s, 3, none⟩ (.slice (some ⟨bt, o2, none⟩) rest.length (ct - 1))) := (Bw.refl _ _ _).grown hset (Nat.le_refl _) (fun k hk => .inr (.inl (Option.some.inj hk).symm))
    have HU4 : Hid (TIn (wc.setCell ⟨s, 3, none⟩ (.slice (some ⟨bt, o2, none⟩) rest.length (ct - 1))) U ∧ Okv N U ∧ NM (Mq s g r1.kept r1.av) U) := ⟨HGU.out.1.bw hw4 (Nat.le_refl _) HGU.out.2.2, HGU.out.2⟩
    have hz4 : w.heap.size ≤ (wc.setCell ⟨s, 3, none⟩ (.slice (some ⟨bt, o2, none⟩) rest.length (ct - 1))).heap.size := by simpa [World.setCell] using hzc
    obtain ⟨r2, hr2⟩ : ∃ r2 : Rr, r2 = { r1 with todo := (.slice (some ⟨bt, o2, none⟩) rest.length (ct - 1)) } := ⟨_, rfl⟩
    rw [← hr2] at hS4
    have HR2 : Hid ((r2.P = r.P ∧ r2.query = r.query ∧ r2.st = r.st + 1) ∧ r2.fin = 0 ∧ r2.kept = r1.kept ∧ r2.av = r1.av) := by rw [Hid, hr2]; exact ⟨HRx.out, HR1.out.2.2.2.1, rfl, rfl⟩
    have HA : Hid (∀ N' σ' gl' ch', absQ r1 N' σ' gl' ch' an = absQ r2 N' σ' gl' ch' an) := by rw [Hid, hr2]; intros; rfl
    have HRf : Hid (r2.P = r.P ∧ r2.query = r.query ∧ r2.st = r.st + 1) := HR2.out.1
    have HF2 : Hid (r2.fin = 0) := HR2.out.2.1
    have HS4 : Hid (RS w0 (wc.setCell ⟨s, 3, none⟩ (.slice (some ⟨bt, o2, none⟩) rest.length (ct - 1))) s r2 g cap len N τ ρ rk σ (4000 - ((4000 : Nat) : Int)) rest ch an) := hS4
    have HX4 : Hid (Bx3 (wc.setCell ⟨s, 3, none⟩ (.slice (some ⟨bt, o2, none⟩) rest.length (ct - 1))) kb U) := hkb4
    have HGo4 : Hid ((wc.setCell ⟨s, 3, none⟩ (.slice (some ⟨bt, o2, none⟩) rest.length (ct - 1))).heap[w.heap.size]? = some (.cells #[.int .i64 T0.v, .string T0.nm, .slice T0.a T0.len T0.cap, .int .i64 c0] 110)) := hgo4
    obtain ⟨u0, u1, u2, _, _, _⟩ := block_cells HX.out
    obtain ⟨x0, x1, x2, _, _, _⟩ := block_cells hkb4
    have hks : kb ≠ s := fun e => HKb.out (.inl e)
    clear hS4 hset hkb4 hgo4 hw4 hr2 htM' htl' hx2
    rcases hbi with ⟨_, b1, t1⟩ | ⟨_, ⟨b1, b2, b3⟩, t1, t2⟩ | ⟨_, ⟨b1, b2⟩, t1, t2, t3⟩ | ⟨_, ⟨b1, b2, b3⟩, t1, t2, t3, t4⟩
    · have HE : Hid (stepQ (cls r.P) (absQ r1 N σ ((T0, c0) :: rest) ch an) = { absQ r2 N σ rest ch an with ch := (ch.map kq).take c0 }) := by rw [Hid, HSt2.out, if_pos t1, HA.out]
      clear t1 HSt2
      go_wp2_with fail
      generalize (wc.setCell ⟨s, 3, none⟩ (.slice (some ⟨bt, o2, none⟩) rest.length (ct - 1))) = w4 at *
      obtain ⟨ka, kc, hkf, hkc1, hkc2, hkx⟩ := kept_form HS4.out.kr
      have y4 : w4.cell? ⟨s, 4, none⟩ = some (.slice ka ch.length kc) := by rw [← hkf]; exact HS4.out.get.2.2.2.2.1
      have yf4 := HS4.out.get.2.2.2.2.2.2.2.2.2 4
      obtain ⟨_, _, _, p3⟩ := block4 HGo4.out
      have hl63 : ch.length ≤ 2 ^ 63 - 1 := by omega
      by_cases hcc : c0 < ch.length
      case pos =>
        obtain ⟨gk, rfl, _⟩ := hkx 0 (by omega)
        have hto := to_runK gk ch.length kc c0 (by omega) hkc1
        have hcI : (c0 : Int) < (ch.length : Int) := by omega
        have hRc := HS4.out.cut (k := c0) (by omega) hkf
        have HRc : Hid (RS w0 (w4.setCell ⟨s, 4, none⟩ (.slice (some ⟨gk, 0, none⟩) c0 kc)) s { r2 with kept := .slice (some ⟨gk, 0, none⟩) c0 kc } g cap len N τ ρ rk σ (4000 - ((4000 : Nat) : Int)) rest (ch.take c0) an) := hRc
        clear hRc hkf hkx
        go_region
        all_goals
          go_wp2_with fail
          go_region
        all_goals
          go_wp2_with fail
          go_end0
          refine ⟨{ r2 with kept := .slice (some ⟨gk, 0, none⟩) c0 kc }, g, cap, len, N, N, τ, ρ, rk, σ, σ, _, rest, rest, ch.take c0, rfl, HRc.out.below (Below.refl _ _).drew.drew, ?_, fun _ => ⟨rfl, rfl, rfl, HD.out⟩, HRf.out, by show 0 ≤ r2.fin; rw [HF2.out]; exact Int.le_refl _, by omega, by omega, fun d hd => HcB.out d (List.mem_of_mem_take hd), by rw [List.length_take]; omega, by simpa [World.setCell] using hz4⟩
          rw [HE.out]; unfold absQ; rw [List.map_take]
      case neg =>
        have hcI : ¬ ((c0 : Int) < (ch.length : Int)) := by omega
        have HTk : Hid ((ch.map kq).take c0 = ch.map kq) := List.take_of_length_le (by rw [List.length_map]; omega)
        clear hkf hkx
        go_region
        all_goals
          go_wp2_with fail
          go_end0
          exact ⟨r2, g, cap, len, N, N, τ, ρ, rk, σ, σ, _, rest, rest, ch, rfl, HS4.out.below (Below.refl _ _).drew, by rw [HE.out, HTk.out]; rfl, fun _ => ⟨rfl, rfl, rfl, HD.out⟩, HRf.out, by rw [HF2.out]; exact Int.le_refl _, by omega, by omega, HcB.out, by omega, hz4⟩
    · have HE : Hid (stepQ (cls r.P) (absQ r1 N σ ((T0, c0) :: rest) ch an) = absQ r2 N σ rest ch an) := by rw [Hid, HSt2.out, if_neg (by rw [t1]; simp), if_pos t2, HA.out]
      clear t1 t2 HSt2
      go_wp2_with fail
      go_end0
      exact ⟨r2, g, cap, len, N, N, τ, ρ, rk, σ, σ, _, rest, rest, ch, rfl, HS4.out, HE.out, fun _ => ⟨rfl, rfl, rfl, HD.out⟩, HRf.out, by rw [HF2.out]; exact Int.le_refl _, by omega, by omega, HcB.out, by omega, hz4⟩
    · have HE : Hid (stepQ (cls r.P) (absQ r1 N σ ((T0, c0) :: rest) ch an) = bkQ (cls r.P) (absQ r2 N σ rest ch an)) := by rw [Hid, HSt2.out, if_neg (by rw [t1]; simp), if_neg (by rw [t2]; simp), if_pos t3, HA.out]
      have HBk : Hid (Calls Try.prog 103 #[.pointer (some ⟨s, 0, none⟩)] (wc.setCell ⟨s, 3, none⟩ (.slice (some ⟨bt, o2, none⟩) rest.length (ct - 1))) (BQR w0 (wc.setCell ⟨s, 3, none⟩ (.slice (some ⟨bt, o2, none⟩) rest.length (ct - 1))) s r2 (absQ r2 N σ rest ch an) an nB gB ch.length)) := backR_any nB gB (wc.setCell ⟨s, 3, none⟩ (.slice (some ⟨bt, o2, none⟩) rest.length (ct - 1))) (by rw [HRf.out.1]; exact HPr.out) HS4.out HF2.out ⟨by omega, by omega⟩ HcB.out (by omega) (by omega) (by omega)
      clear t1 t2 t3 HSt2
      go_wp2_with fail
      refine HBk.out.mono ?_
      intro e w8 h8
      have h9 : TkR w0 w s r (absQ r1 N σ ((T0, c0) :: rest) ch an) an nB gB (ch.length + 1) e w8 := h8.step HRf.out HE.out (by omega) hz4
      have he : e = .returned (.tuple #[]) := by
        obtain ⟨_, _, _, _, _, _, _, _, _, _, _, _, _, _, _, h, _⟩ := h8
        exact h
      subst he
      have H9 : Hid (TkR w0 w s r (absQ r1 N σ ((T0, c0) :: rest) ch an) an nB gB (ch.length + 1) (.returned (.tuple #[])) w8) := h9
      clear h8 h9 HBk
      go_wp2_with fail
      go_end0
      exact H9.out
    · have hlen : U.len = 2 := by
        unfold isT at t4
        rw [Bool.and_eq_true] at t4
        simpa using t4.2
      have HE0 : Hid (stepQ (cls r.P) (absQ r1 N σ ((T0, c0) :: rest) ch an) = match csO (meetF 4001 σ 4000 [(U.f 0, U.f 1)]) with
        | .over => { absQ r2 N σ rest ch an with fin := 3 }
        | .no _ => bkQ (cls r.P) (absQ r2 N σ rest ch an)
        | .yes _ σ' => { absQ r2 N σ rest ch an with σ := σ' }) := by
        rw [Hid, HSt2.out, if_neg (by rw [t1]; simp), if_neg (by rw [t2]; simp), if_neg (by rw [t3]; simp), if_pos t4, ← meetF_cs, HA.out]
        rw [show [(U.f 0, U.f 1)].map can2 = [((can U).f 0, (can U).f 1)] from by rw [can_f U (by omega), can_f U (by omega)]; rfl]
      clear t1 t2 t3 t4 HSt2
      go_wp2_with fail
      clear u0 u1 u2 x0 x1 x2 y3 yf3
      generalize (wc.setCell ⟨s, 3, none⟩ (.slice (some ⟨bt, o2, none⟩) rest.length (ct - 1))) = w4 at *
      obtain ⟨hU6, hO6, hN6⟩ := HU4.out
      have HK0 : Hid ((TIn w4 (U.f 0) ∧ Okv N (U.f 0) ∧ NM (Mq s g r1.kept r1.av) (U.f 0)) ∧ (TIn w4 (U.f 1) ∧ Okv N (U.f 1) ∧ NM (Mq s g r1.kept r1.av) (U.f 1))) := ⟨⟨hU6.kid (by omega), hO6.kid (by omega), hN6.kid (by omega)⟩, ⟨hU6.kid (by omega), hO6.kid (by omega), hN6.kid (by omega)⟩⟩
      obtain ⟨ub, uo, hua, a0, a1, a2⟩ := hU6.row (i := 0) (by omega)
      obtain ⟨ub', uo', hua', b0', b1', b2'⟩ := hU6.row (i := 1) (by omega)
      obtain ⟨ub2, uo2, hua2, hubM⟩ := hN6.root (by omega)
      rw [hua] at hua' hua2
      cases hua'
      cases hua2
      rw [Nat.zero_mul, Nat.add_zero] at a0 a1 a2
      rw [Nat.one_mul] at b0' b1' b2'
      have hubl : ub < w4.heap.size := lt_of_cell a0
      have hkbl : kb < w4.heap.size := (Array.getElem?_eq_some_iff.1 HX4.out).1
      have HKe : Hid (∀ W : World, W.heap[kb]? = w4.heap[kb]? → W.heap[ub]? = w4.heap[ub]? → W.cell? ⟨kb, 2, none⟩ = some (.slice (some ⟨ub, uo, none⟩) 2 U.cap) ∧ W.cell? ⟨ub, uo, none⟩ = some (.int .i64 (U.f 0).v) ∧ W.cell? ⟨ub, uo + 1, none⟩ = some (.string (U.f 0).nm) ∧ W.cell? ⟨ub, uo + 2, none⟩ = some (.slice (U.f 0).a (U.f 0).len (U.f 0).cap) ∧ W.cell? ⟨ub, uo + 3, none⟩ = some (.int .i64 (U.f 1).v) ∧ W.cell? ⟨ub, uo + 4, none⟩ = some (.string (U.f 1).nm) ∧ W.cell? ⟨ub, uo + 5, none⟩ = some (.slice (U.f 1).a (U.f 1).len (U.f 1).cap)) := fun W h1 h2 => by
        have hc : ∀ o, W.cell? ⟨ub, o, none⟩ = w4.cell? ⟨ub, o, none⟩ := fun o => World.cell?_of_block h2
        have hx : W.cell? ⟨kb, 2, none⟩ = w4.cell? ⟨kb, 2, none⟩ := World.cell?_of_block h1
        have hk2 := (block_cells HX4.out).2.2.1
        rw [hua, hlen] at hk2
        exact ⟨hx.trans hk2, (hc _).trans a0, (hc _).trans a1, (hc _).trans a2, (hc _).trans b0', (hc _).trans b1', (hc _).trans b2'⟩
      have HKp : Hid (∀ W, Below w4.heap.size w4 W → W.cell? ⟨kb, 2, none⟩ = some (.slice (some ⟨ub, uo, none⟩) 2 U.cap) ∧ W.cell? ⟨ub, uo, none⟩ = some (.int .i64 (U.f 0).v) ∧ W.cell? ⟨ub, uo + 1, none⟩ = some (.string (U.f 0).nm) ∧ W.cell? ⟨ub, uo + 2, none⟩ = some (.slice (U.f 0).a (U.f 0).len (U.f 0).cap) ∧ W.cell? ⟨ub, uo + 3, none⟩ = some (.int .i64 (U.f 1).v) ∧ W.cell? ⟨ub, uo + 4, none⟩ = some (.string (U.f 1).nm) ∧ W.cell? ⟨ub, uo + 5, none⟩ = some (.slice (U.f 1).a (U.f 1).len (U.f 1).cap)) := fun W hW => HKe.out W (hW.block kb hkbl) (hW.block ub hubl)
      have HMe : Hid (∀ W, Below w4.heap.size w4 W → Calls Try.prog 66 #[.pointer (some ⟨s, 1, none⟩), .agg #[.int .i64 (U.f 0).v, .string (U.f 0).nm, .slice (U.f 0).a (U.f 0).len (U.f 0).cap], .agg #[.int .i64 (U.f 1).v, .string (U.f 1).nm, .slice (U.f 1).a (U.f 1).len (U.f 1).cap]] W fun e w' => ∃ (how : Int) (τ2 ρ2 : Int → Tm) (rk2 : Int → Nat) (σ2 : Sg) (wk2 : Int), e = .returned (.int .i64 how) ∧ RS w0 w' s r2 g cap len N τ2 ρ2 rk2 σ2 wk2 rest ch an ∧ ((how = 2 ∧ meetF 4001 σ 4000 [(U.f 0, U.f 1)] = .over) ∨ (how = 0 ∧ ∃ k2 : Nat, meetF 4001 σ 4000 [(U.f 0, U.f 1)] = .no k2) ∨ (how = 1 ∧ (∃ k2 : Nat, meetF 4001 σ 4000 [(U.f 0, U.f 1)] = .yes k2 σ2) ∧ ∀ v T, σ2 v = some T → 0 < v ∧ v ≤ N)) ∧ (w'.cell? ⟨kb, 2, none⟩ = some (.slice (some ⟨ub, uo, none⟩) 2 U.cap) ∧ w'.cell? ⟨ub, uo, none⟩ = some (.int .i64 (U.f 0).v) ∧ w'.cell? ⟨ub, uo + 1, none⟩ = some (.string (U.f 0).nm) ∧ w'.cell? ⟨ub, uo + 2, none⟩ = some (.slice (U.f 0).a (U.f 0).len (U.f 0).cap) ∧ w'.cell? ⟨ub, uo + 3, none⟩ = some (.int .i64 (U.f 1).v) ∧ w'.cell? ⟨ub, uo + 4, none⟩ = some (.string (U.f 1).nm) ∧ w'.cell? ⟨ub, uo + 5, none⟩ = some (.slice (U.f 1).a (U.f 1).len (U.f 1).cap)) ∧ w4.heap.size ≤ w'.heap.size) := fun W hW => by
        have hRW := HS4.out.below hW
        have hG0 : GdK (Kq r2.kept r2.av) W s s (.slice (some ⟨g, 0, none⟩) len cap) N (U.f 0) := nm_gd (by rw [HR2.out.2.2.1, HR2.out.2.2.2]; exact ⟨HK0.out.1.1.below hW, HK0.out.1.2⟩)
        have hG1 : GdK (Kq r2.kept r2.av) W s s (.slice (some ⟨g, 0, none⟩) len cap) N (U.f 1) := nm_gd (by rw [HR2.out.2.2.1, HR2.out.2.2.2]; exact ⟨HK0.out.2.1.below hW, HK0.out.2.2⟩)
        refine (meet_any 4000 (U.f 0) (U.f 1) W hRW.rf (Nat.le_refl _) hG0 hG1).mono ?_
        rintro e w' ⟨hG, hM⟩
        have hbw := gf_bw hG
        have hw : Bw (Mq s g r1.kept r1.av) W.heap.size W w' := hbw.wide (fun q _ e => by
          rcases e with e | e
          · exact .inl e
          · exact .inr (.inl e))
        have hcells : w'.cell? ⟨kb, 2, none⟩ = some (.slice (some ⟨ub, uo, none⟩) 2 U.cap) ∧ w'.cell? ⟨ub, uo, none⟩ = some (.int .i64 (U.f 0).v) ∧ w'.cell? ⟨ub, uo + 1, none⟩ = some (.string (U.f 0).nm) ∧ w'.cell? ⟨ub, uo + 2, none⟩ = some (.slice (U.f 0).a (U.f 0).len (U.f 0).cap) ∧ w'.cell? ⟨ub, uo + 3, none⟩ = some (.int .i64 (U.f 1).v) ∧ w'.cell? ⟨ub, uo + 4, none⟩ = some (.string (U.f 1).nm) ∧ w'.cell? ⟨ub, uo + 5, none⟩ = some (.slice (U.f 1).a (U.f 1).len (U.f 1).cap) := HKe.out w' ((hw.block kb (Nat.lt_of_lt_of_le hkbl hW.size) HKb.out).trans (hW.block kb hkbl)) ((hw.block ub (Nat.lt_of_lt_of_le hubl hW.size) hubM).trans (hW.block ub hubl))
        have hz' : w4.heap.size ≤ w'.heap.size := Nat.le_trans hW.size hw.size
        have h12' := hRW.n12
        rcases hM with ⟨rfl, hm, τ2, ρ2, rr2, σ2, hR⟩ | ⟨k2, hk2, rfl, hm, τ2, ρ2, rr2, σ2, hR⟩ | ⟨k2, σ2, hk2, rfl, hm, τ2, ρ2, rr2, hR⟩
        · exact ⟨2, τ2, ρ2, rr2, σ2, _, rfl, hRW.turn hR h12' hbw (.inl rfl) (Int.le_refl _), .inl ⟨rfl, hm _ (Nat.lt_succ_self _)⟩, hcells, hz'⟩
        · exact ⟨0, τ2, ρ2, rr2, σ2, _, rfl, hRW.turn hR h12' hbw (.inl rfl) (Int.le_refl _), .inr (.inl ⟨rfl, k2, hm _ (Nat.lt_succ_self _)⟩), hcells, hz'⟩
        · have hm' := hm _ (Nat.lt_succ_self 4000)
          exact ⟨1, τ2, ρ2, rr2, σ2, _, rfl, hRW.turn hR h12' hbw (.inl rfl) (Int.le_refl _), .inr (.inr ⟨rfl, ⟨k2, hm'⟩, meet_dom (N := N) _ σ 4000 [(U.f 0, U.f 1)] k2 σ2 hRW.rf.dec hRW.rf.ok HD.out (fun p hp => by
            rw [List.mem_singleton] at hp; subst hp; exact ⟨HK0.out.1.2.1, HK0.out.2.2.1⟩) hm'⟩), hcells, hz'⟩
      clear hU6 hO6 hN6 a0 a1 a2 b0' b1' b2' hua
      obtain ⟨v2, _, _, _, _, _, _⟩ := HKp.out w4 (Below.refl _ _)
      go_cut [4] from 85 to 96 (fun x wx => ∃ (how : Int) (τ2 ρ2 : Int → Tm) (rk2 : Int → Nat) (σ2 : Sg) (wk2 : Int), x = .int .i64 how ∧ RS w0 wx s r2 g cap len N τ2 ρ2 rk2 σ2 wk2 rest ch an ∧ ((how = 2 ∧ meetF 4001 σ 4000 [(U.f 0, U.f 1)] = .over) ∨ (how = 0 ∧ ∃ k2 : Nat, meetF 4001 σ 4000 [(U.f 0, U.f 1)] = .no k2) ∨ (how = 1 ∧ (∃ k2 : Nat, meetF 4001 σ 4000 [(U.f 0, U.f 1)] = .yes k2 σ2) ∧ ∀ v T, σ2 v = some T → 0 < v ∧ v ≤ N)) ∧ w4.heap.size ≤ wx.heap.size)
      case first =>
        go_region_held3 (fun w' => w'.cell? ⟨kb, 2, none⟩ = some (.slice (some ⟨ub, uo, none⟩) 2 U.cap) ∧ w'.cell? ⟨ub, uo, none⟩ = some (.int .i64 (U.f 0).v) ∧ w'.cell? ⟨ub, uo + 1, none⟩ = some (.string (U.f 0).nm) ∧ w'.cell? ⟨ub, uo + 2, none⟩ = some (.slice (U.f 0).a (U.f 0).len (U.f 0).cap) ∧ w'.cell? ⟨ub, uo + 3, none⟩ = some (.int .i64 (U.f 1).v) ∧ w'.cell? ⟨ub, uo + 4, none⟩ = some (.string (U.f 1).nm) ∧ w'.cell? ⟨ub, uo + 5, none⟩ = some (.slice (U.f 1).a (U.f 1).len (U.f 1).cap)) (first | exact HK7.out | (refine HKp.out _ ?_; repeat (first | exact Below.refl _ _ | refine Below.drew ?_))) (first
          | (go_at_call 66
             refine (HMe.out _ (by repeat (first | exact Below.refl _ _ | refine Below.drew ?_))).mono ?_
             rintro e w7 ⟨how, τ2, ρ2, rk2, σ2, wk2, rfl, h5, h6, h7, h8⟩
             have HK7 : Hid (w7.cell? ⟨kb, 2, none⟩ = some (.slice (some ⟨ub, uo, none⟩) 2 U.cap) ∧ w7.cell? ⟨ub, uo, none⟩ = some (.int .i64 (U.f 0).v) ∧ w7.cell? ⟨ub, uo + 1, none⟩ = some (.string (U.f 0).nm) ∧ w7.cell? ⟨ub, uo + 2, none⟩ = some (.slice (U.f 0).a (U.f 0).len (U.f 0).cap) ∧ w7.cell? ⟨ub, uo + 3, none⟩ = some (.int .i64 (U.f 1).v) ∧ w7.cell? ⟨ub, uo + 4, none⟩ = some (.string (U.f 1).nm) ∧ w7.cell? ⟨ub, uo + 5, none⟩ = some (.slice (U.f 1).a (U.f 1).len (U.f 1).cap)) := h7
             have H5 : Hid (RS w0 w7 s r2 g cap len N τ2 ρ2 rk2 σ2 wk2 rest ch an) := h5
             have H6 : Hid (((how = 2 ∧ meetF 4001 σ 4000 [(U.f 0, U.f 1)] = .over) ∨ (how = 0 ∧ ∃ k2 : Nat, meetF 4001 σ 4000 [(U.f 0, U.f 1)] = .no k2) ∨ (how = 1 ∧ (∃ k2 : Nat, meetF 4001 σ 4000 [(U.f 0, U.f 1)] = .yes k2 σ2) ∧ ∀ v T, σ2 v = some T → 0 < v ∧ v ≤ N))) := h6
             have H8 : Hid (w4.heap.size ≤ w7.heap.size) := h8
             clear h5 h6 h7 h8))
        all_goals
          go_wp2_with fail
          go_meet
          case rel => exact ⟨how, τ2, ρ2, rk2, σ2, wk2, rfl, H5.out, H6.out, H8.out⟩
      case rest =>
        obtain ⟨how, τ2, ρ2, rk2, σ2, wk2, rfl, h5, h6, h8⟩ := hcut
        have H5 : Hid (RS w0 wc s r2 g cap len N τ2 ρ2 rk2 σ2 wk2 rest ch an) := h5
        have hz5 : w.heap.size ≤ wc.heap.size := Nat.le_trans hz4 h8
        have hE0 := HE0.out
        clear h5 h8 v2 HMe HKp HKe
        rcases h6 with ⟨rfl, hm⟩ | ⟨rfl, k2, hm⟩ | ⟨rfl, ⟨k2, hm⟩, hdm⟩
        · rw [hm] at hE0
          have HE : Hid (stepQ (cls r.P) (absQ r1 N σ ((T0, c0) :: rest) ch an) = absQ { r2 with fin := 3 } N σ rest ch an) := hE0
          have x7 := H5.out.get.2.2.2.2.2.2.2.1
          have xf7 := H5.out.get.2.2.2.2.2.2.2.2.2 7
          clear hm hE0
          go_wp2_with fail
          go_end0
          exact ⟨{ r2 with fin := 3 }, g, cap, len, N, N, τ2, ρ2, rk2, σ2, σ, _, rest, rest, ch, rfl, H5.out.put 7 _ rfl rfl rfl rfl H5.out.td, HE.out, fun h => absurd (show (3 : Int) = 0 from h) (by omega), HRf.out, by show (0 : Int) ≤ 3; omega, by omega, by omega, HcB.out, by omega, by simpa [World.setCell] using hz5⟩
        · rw [hm] at hE0
          have HE : Hid (stepQ (cls r.P) (absQ r1 N σ ((T0, c0) :: rest) ch an) = bkQ (cls r.P) (absQ r2 N σ rest ch an)) := hE0
          have HBk : Hid (Calls Try.prog 103 #[.pointer (some ⟨s, 0, none⟩)] wc (BQR w0 wc s r2 (absQ r2 N σ rest ch an) an nB gB ch.length)) := backR_any nB gB wc (by rw [HRf.out.1]; exact HPr.out) H5.out HF2.out ⟨by omega, by omega⟩ HcB.out (by omega) (by omega) (by omega)
          clear hm hE0
          go_wp2_with fail
          refine HBk.out.mono ?_
          intro e w8 h8
          have h9 : TkR w0 w s r (absQ r1 N σ ((T0, c0) :: rest) ch an) an nB gB (ch.length + 1) e w8 := h8.step HRf.out HE.out (by omega) hz5
          have he : e = .returned (.tuple #[]) := by
            obtain ⟨_, _, _, _, _, _, _, _, _, _, _, _, _, _, _, h, _⟩ := h8
            exact h
          subst he
          have H9 : Hid (TkR w0 w s r (absQ r1 N σ ((T0, c0) :: rest) ch an) an nB gB (ch.length + 1) (.returned (.tuple #[])) w8) := h9
          clear h8 h9 HBk
          go_wp2_with fail
          go_end0
          exact H9.out
        · rw [hm] at hE0
          have HE : Hid (stepQ (cls r.P) (absQ r1 N σ ((T0, c0) :: rest) ch an) = absQ r2 N σ2 rest ch an) := hE0
          have HDm : Hid (∀ v T, σ2 v = some T → 0 < v ∧ v ≤ N) := hdm
          clear hm hE0 hdm
          go_wp2_with fail
          go_end0
          exact ⟨r2, g, cap, len, N, N, τ2, ρ2, rk2, σ2, σ2, _, rest, rest, ch, rfl, H5.out, HE.out, fun _ => ⟨rfl, rfl, rfl, HDm.out⟩, HRf.out, by rw [HF2.out]; exact Int.le_refl _, by omega, by omega, HcB.out, by omega, hz5⟩
end Go.Proofs.Ytmggaclaoefdaaa
