/- A search: a goal is taken. -/
import Derived.Test.YtmggaclaoefdaaaGU
namespace Go.Proofs.Ytmggaclaoefdaaa
open Go.RowKit

/-- What step says. -/
def StRes (w0 w : World) (s m : Nat) (r : Sr) (X : PS) (an : List Tm) (Lb Nb : Nat) (e : Ending) (w' : World) : Prop :=
  ∃ (r' : Sr) (tv' : Value) (n' : Nat) (σ' σx : Sg) (L' : Int) (tr' : List Int) (gl' : List Gl) (ch' : List Cr), e = .returned (.tuple #[]) ∧ SS w0 w' s m r' tv' n' σ' L' tr' gl' ch' an ∧
    stepP (cls r.P) X = absP r' σx gl' ch' an ∧ (r'.fin = 0 → σx = σ') ∧ (r'.P = r.P ∧ r'.limit = r.limit ∧ r'.asked = r.asked ∧ r'.st = r.st) ∧ 0 ≤ r'.fin ∧ 0 ≤ r'.last ∧ r'.last + 360 * ch'.length ≤ Lb + 1080 ∧ n' + 130000 * ch'.length ≤ Nb + 400000 ∧ w.heap.size ≤ w'.heap.size
theorem BRes.step {w0 w wx : World} {s m : Nat} {r r1 : Sr} {X Y : PS} {an : List Tm} {Lb Nb Lc Nc : Nat} {e : Ending} {w' : World} (h : BRes w0 wx s m r1 Y an Lc Nc e w') (hP : r1.P = r.P ∧ r1.limit = r.limit ∧ r1.asked = r.asked ∧ r1.st = r.st) (hX : stepP (cls r.P) X = bk (cls r.P) Y) (hL : Lc ≤ Lb + 720) (hN : Nc ≤ Nb + 270000) (hz : w.heap.size ≤ wx.heap.size) : StRes w0 w s m r X an Lb Nb e w' := by
  obtain ⟨r', tv', n', σ', σx, L', tr', gl', ch', h1, h2, h3, h4, h5, h6, h7, h8, h9, h10⟩ := h
  refine ⟨r', tv', n', σ', σx, L', tr', gl', ch', h1, h2, ?_, h4, ⟨h5.1.trans hP.1, h5.2.1.trans hP.2.1, h5.2.2.1.trans hP.2.2.1, h5.2.2.2.trans hP.2.2.2⟩, h6, h7, by omega, by omega, Nat.le_trans hz h10⟩
  rw [hX, ← hP.1]; exact h3
set_option maxRecDepth 100000 in
set_option maxHeartbeats 8000000 in
theorem step_any {w0 : World} {s m : Nat} {r : Sr} {tv : Value} {n : Nat} {σ : Sg} {L : Int} {tr : List Int} {T0 : Tm} {c0 : Nat} {rest : List Gl} {ch : List Cr} {an : List Tm} (Lb Nb : Nat) (w : World) (hPr : Prg w0 r.P) (h : SS w0 w s m r tv n σ L tr ((T0, c0) :: rest) ch an) (hW : ∀ c ∈ ch, c.gl ≠ [] ∧ c.k ≤ r.P.len) (hc0 : c0 ≤ ch.length) (hl : 0 ≤ r.last ∧ r.last + 360 * ch.length ≤ Lb) (hLb : Lb ≤ 980000) (hn : n + 130000 * ch.length ≤ Nb) (hNb : Nb ≤ 800000000) (hf : r.fin = 0) (hc : ch.length ≤ 4000) :
    Calls Try.prog 102 #[.pointer (some ⟨s, 0, none⟩), r.first] w (StRes w0 w s m r (absP r σ ((T0, c0) :: rest) ch an) an Lb Nb) := by
  have H : Hid (SS w0 w s m r tv n σ L tr ((T0, c0) :: rest) ch an) := h
  have HPr : Hid (Prg w0 r.P) := hPr
  have HW : Hid (∀ c ∈ ch, c.gl ≠ [] ∧ c.k ≤ r.P.len) := hW
  have hgl := h.gls
  have HP : Hid (GL w (Mu s r.b m tv r.cv r.av) 1000000 r.first ((T0, c0) :: rest)) := hgl
  obtain ⟨kp, qn, hfst, hpM, hpb, hpT, hpN, hpO, hpr⟩ := hgl
  rw [hfst] at HP ⊢
  have HRest : Hid (GL w (Mu s r.b m tv r.cv r.av) 1000000 qn rest) := hpr
  have HMk : Hid (¬ Mu s r.b m tv r.cv r.av kp) := hpM
  have HPb : Hid (w.heap[kp]? = some (.cells #[.int .i64 T0.v, .string T0.nm, .slice T0.a T0.len T0.cap, .int .i64 c0, qn] 149)) := hpb
  obtain ⟨_, _, _, _, _, _, _, y7, _, _, _⟩ := h.blk.get
  have HRn : Hid (Calls Try.prog 124 #[.pointer (some ⟨r.b, 0, none⟩)] w fun e w' => e = .returned (.tuple #[]) ∧ VS w' r.b m tv 1000000 w0.heap.size n σ (4000 : Nat) ∧ G r.b w w') := renew_any w h.vs
  obtain ⟨L4, hL4⟩ : ∃ L4 : Nat, L4 = 4000 := ⟨_, rfl⟩
  have HL4 : Hid (L4 = 4000) := hL4
  have hL5 : L4 ≤ 4000 := by omega
  have hs := h.blk.lt
  clear h hPr hW hpM hpb hpT hpN hpO hpr hL4
  go_enter Try.func102, Try.ntmps102
  go_wp2_with fail
  refine HRn.out.mono ?_
  rintro e w1 ⟨rfl, hv1, hg1⟩
  obtain ⟨tr1, hs1, _, _, _⟩ := H.out.vars hv1 (GF.ofG hg1) (TX.ofG hg1 (fun q hq => (H.out.vs.tb q hq).1)) H.out.sg
  have hbw1 : Bw (Mu s r.b m tv r.cv r.av) w.heap.size w w1 := SS.ofGF (s := s) (m := m) (tv := tv) (GF.ofG hg1)
  have HS1 : Hid (SS w0 w1 s m r tv n σ (L4 : Nat) tr1 ((T0, c0) :: rest) ch an) := by rw [Hid, HL4.out]; exact hs1
  have HP1 : Hid (GL w1 (Mu s r.b m tv r.cv r.av) 1000000 (.pointer (some ⟨kp, 0, none⟩)) ((T0, c0) :: rest)) := HP.out.next hbw1 (fun _ _ e => e)
  have HR1 : Hid (GL w1 (Mu s r.b m tv r.cv r.av) 1000000 qn rest) := HRest.out.next hbw1 (fun _ _ e => e)
  have HPb1 : Hid (w1.heap[kp]? = some (.cells #[.int .i64 T0.v, .string T0.nm, .slice T0.a T0.len T0.cap, .int .i64 c0, qn] 149)) := (hbw1.block kp (Array.getElem?_eq_some_iff.1 HPb.out).1 HMk.out).trans HPb.out
  have hz1 : w.heap.size ≤ w1.heap.size := hbw1.size
  obtain ⟨qa, rfl⟩ := HRest.out.ptr
  obtain ⟨p0, p1, p2, p3, p4⟩ := block5 HPb1.out
  obtain ⟨_, _, _, _, _, _, _, x7, x8, _, xf⟩ := HS1.out.blk.get
  have xf8 := xf 8
  clear hv1 hg1 hs1 hbw1 xf y7
  rw [hfst] at x8
  go_wp2_with fail
  have HS2 : Hid (SS w0 (w1.setCell ⟨s, 8, none⟩ (.pointer qa)) s m { r with first := .pointer qa } tv n σ (L4 : Nat) tr1 rest ch an) := HS1.out.put 8 (.pointer qa) (r' := { r with first := .pointer qa }) rfl rfl rfl rfl HR1.out
  have hbw2 : Bw (Mu s r.b m tv r.cv r.av) w1.heap.size w1 (w1.setCell ⟨s, 8, none⟩ (.pointer qa)) := (Bw.refl _ _ w1).grown (grown_set s 8 _) (Nat.le_refl _) (fun k hk => .inr (.inr (.inl (Option.some.inj hk).symm)))
  have HP2 : Hid (GL (w1.setCell ⟨s, 8, none⟩ (.pointer qa)) (Mu s r.b m tv r.cv r.av) 1000000 (.pointer (some ⟨kp, 0, none⟩)) ((T0, c0) :: rest)) := HP1.out.next hbw2 (fun _ _ e => e)
  have HPb2 : Hid ((w1.setCell ⟨s, 8, none⟩ (.pointer qa)).heap[kp]? = some (.cells #[.int .i64 T0.v, .string T0.nm, .slice T0.a T0.len T0.cap, .int .i64 c0, .pointer qa] 149)) := (hbw2.block kp (Array.getElem?_eq_some_iff.1 HPb1.out).1 HMk.out).trans HPb1.out
  have hz2 : w.heap.size ≤ (w1.setCell ⟨s, 8, none⟩ (.pointer qa)).heap.size := Nat.le_trans hz1 hbw2.size
  clear hbw2 p0 p1 p2 p3 p4 x7 x8 xf8 HS1 HP1 HR1 HPb1
  generalize w1.setCell ⟨s, 8, none⟩ (.pointer qa) = w2 at *
  obtain ⟨p0, p1, p2, p3, p4⟩ := block5 HPb2.out
  have y7 : w2.cell? ⟨s, 7, none⟩ = some (.pointer (some ⟨r.b, 0, none⟩)) := HS2.out.blk.get.2.2.2.2.2.2.2.1
  have hT2 : TIn w2 T0 ∧ Okv 1000000 T0 ∧ NM (Mu s r.b m tv r.cv r.av) T0 := by
    obtain ⟨_, _, _, _, _, h1, h2, h3, _⟩ := HP2.out
    exact ⟨h1, h3, h2⟩
  have HT2 : Hid (TIn w2 T0 ∧ Okv 1000000 T0 ∧ NM (Mu s r.b m tv r.cv r.av) T0) := hT2
  clear hT2
  have HKp : Hid (∀ W, Below w2.heap.size w2 W → W.cell? ⟨s, 7, none⟩ = some (.pointer (some ⟨r.b, 0, none⟩)) ∧ W.cell? ⟨kp, 0, none⟩ = some (.int .i64 T0.v) ∧ W.cell? ⟨kp, 1, none⟩ = some (.string T0.nm) ∧ W.cell? ⟨kp, 2, none⟩ = some (.slice T0.a T0.len T0.cap)) := fun W hW => ⟨(hW.cell (lt_of_cell y7)).trans y7, (hW.cell (lt_of_cell p0)).trans p0, (hW.cell (lt_of_cell p1)).trans p1, (hW.cell (lt_of_cell p2)).trans p2⟩
  go_cut [4] from 17 to 25 (fun x wx => ∃ kb, x = .pointer (some ⟨kb, 0, none⟩) ∧ w2.heap.size ≤ kb ∧ Bx3 wx kb (wha σ T0) ∧ Below w2.heap.size w2 wx)
  case first =>
    have HWh : Hid (∀ W, Below w2.heap.size w2 W → Calls Try.prog 93 #[.pointer (some ⟨r.b, 0, none⟩), .agg #[.int .i64 T0.v, .string T0.nm, .slice T0.a T0.len T0.cap]] W fun e w' => e = .returned (.agg #[.int .i64 (wha σ T0).v, .string (wha σ T0).nm, .slice (wha σ T0).a (wha σ T0).len (wha σ T0).cap]) ∧ Below W.heap.size W w' ∧ Okv 1000000 (wha σ T0)) := fun W hW => what_agg T0 W (HS2.out.below hW).vs HT2.out.2.1
    go_region_held3 (fun w' => w'.cell? ⟨s, 7, none⟩ = some (.pointer (some ⟨r.b, 0, none⟩)) ∧ w'.cell? ⟨kp, 0, none⟩ = some (.int .i64 T0.v) ∧ w'.cell? ⟨kp, 1, none⟩ = some (.string T0.nm) ∧ w'.cell? ⟨kp, 2, none⟩ = some (.slice T0.a T0.len T0.cap)) ((refine HKp.out _ ?_; repeat (first | exact HB1.out | exact Below.refl _ _ | refine Below.drew ?_ | refine Below.alloc ?_ (by first | exact Nat.le_refl _ | exact HB1.out.size | simp) _ | refine Below.setCell ?_ (by first | exact Nat.le_refl _ | exact HB1.out.size | simp) _))) (first
      | (go_at_call 93
         refine (HWh.out _ (by repeat (first | exact Below.refl _ _ | refine Below.drew ?_ | refine Below.alloc ?_ (by first | exact Nat.le_refl _ | simp) _))).mono ?_
         rintro e w3 ⟨rfl, hb1, hO1⟩
         have HB1 : Hid (Below w2.heap.size w2 w3) := Below.trans (by repeat (first | exact Below.refl _ _ | refine Below.drew ?_ | refine Below.alloc ?_ (by first | exact Nat.le_refl _ | simp) _)) (hb1.mono (by simp))
         first
           | (have hz : w3.heap[w2.heap.size]? = some (.cells #[.int .i64 0, .string ⟨#[]⟩, .slice none 0 0] 24) := boxA (W := w2) ⟨hb1.os, hb1.tape, hb1.output, hb1.size, hb1.block⟩
              have HZ : Hid (w3.heap[w2.heap.size]? = some (.cells #[.int .i64 0, .string ⟨#[]⟩, .slice none 0 0] 24)) := hz
              obtain ⟨z0, z1, z2, zf0, zf1, zf2⟩ := block_cells hz
              clear hz)
           | skip
         clear hb1 hO1))
    all_goals
      generalize wha σ T0 = U at *
      go_wp2_with fail
      go_meet
      case rel =>
        first
          | (obtain ⟨W', hW', _, _, _, hB', _⟩ := fin3n (w := w2) (r := w2.heap.size) (Nat.le_refl _) HZ.out HB1.out (.int .i64 U.v) (.string U.nm) (.slice U.a U.len U.cap)
             have hx := set3 (a := .int .i64 U.v) (b := .string U.nm) (c := .slice U.a U.len U.cap) HZ.out
             rw [hW'] at hx ⊢
             exact ⟨w2.heap.size, rfl, Nat.le_refl _, hx, hB'⟩)
          | exact ⟨w3.heap.size, rfl, HB1.out.size, heap_alloc_new w3 _, HB1.out.alloc HB1.out.size _⟩
  case rest =>
    obtain ⟨kb, rfl, hkb, hbx, hB⟩ := hcut
    have HU : Hid (∀ W, Below wc.heap.size wc W → TIn W (wha σ T0) ∧ Okv 1000000 (wha σ T0) ∧ NM (Mu s r.b m tv r.cv r.av) (wha σ T0)) := fun W hW => by
      have := ((HS2.out.below hB).below hW).wha ⟨(HT2.out.1.below hB).below hW, HT2.out.2⟩
      exact this
    have HAll : Hid (∀ W, Below wc.heap.size wc W → SS w0 W s m { r with first := .pointer qa } tv n σ (L4 : Nat) tr1 rest ch an ∧ GL W (Mu s r.b m tv r.cv r.av) 1000000 (.pointer (some ⟨kp, 0, none⟩)) ((T0, c0) :: rest) ∧ Bx3 W kb (wha σ T0) ∧ W.heap[kp]? = some (.cells #[.int .i64 T0.v, .string T0.nm, .slice T0.a T0.len T0.cap, .int .i64 c0, .pointer qa] 149) ∧ w.heap.size ≤ W.heap.size) := fun W hW => ⟨(HS2.out.below hB).below hW, (HP2.out.next (Bw.ofBelow hB) (fun _ _ e => e)).next (Bw.ofBelow hW) (fun _ _ e => e), (hW.block kb (Array.getElem?_eq_some_iff.1 hbx).1).trans hbx, (hW.block kp (Nat.lt_of_lt_of_le (Array.getElem?_eq_some_iff.1 HPb2.out).1 hB.size)).trans ((hB.block kp (Array.getElem?_eq_some_iff.1 HPb2.out).1).trans HPb2.out), Nat.le_trans hz2 (Nat.le_trans hB.size hW.size)⟩
    have HKb : Hid (¬ Mu s r.b m tv r.cv r.av kb) := fun e => by have := (HS2.out.mu e).2; omega
    have HStep : Hid (stepP (cls r.P) (absP r σ ((T0, c0) :: rest) ch an) = if (wha σ T0).v ≠ 0 then { absP { r with first := .pointer qa } σ rest ch an with fin := 4 } else if isT (wha σ T0) nCut 0 then { absP { r with first := .pointer qa } σ rest ch an with ch := (ch.map cch).take c0 } else if isT (wha σ T0) nTrue 0 then absP { r with first := .pointer qa } σ rest ch an else if isT (wha σ T0) nFail 0 then bk (cls r.P) (absP { r with first := .pointer qa } σ rest ch an) else if isT (wha σ T0) nEq 2 then match meetF 4001 (cs σ) 4000 [((can (wha σ T0)).f 0, (can (wha σ T0)).f 1)] with
        | .over => { absP { r with first := .pointer qa } σ rest ch an with fin := 3 }
        | .no _ => bk (cls r.P) (absP { r with first := .pointer qa } σ rest ch an)
        | .yes _ σ' => { absP { r with first := .pointer qa } σ rest ch an with σ := σ' }
      else match tryP (cls r.P) (cgl ((T0, c0) :: rest)) (can (wha σ T0)) (r.P.len + 1) 0 (absP { r with first := .pointer qa } σ rest ch an) 4000 with
        | (Z, true) => Z
        | (Z, false) => bk (cls r.P) Z) := by
      unfold stepP
      rw [show hdT (absP r σ ((T0, c0) :: rest) ch an).σ (absP r σ ((T0, c0) :: rest) ch an).gl = can (wha σ T0) from hd_can σ T0 c0 rest]
      simp only [can_v, isT_can, cls_len]
      rfl
    have hd_ : hdT (cs σ) (cgl ((T0, c0) :: rest)) = can (wha σ T0) := hd_can σ T0 c0 rest
    have HHd : Hid (hdT (cs σ) (cgl ((T0, c0) :: rest)) = can (wha σ T0)) := hd_
    obtain ⟨u0, u1, u2, _, _, _⟩ := block_cells hbx
    clear hB hbx p0 p1 p2 p3 p4 y7 HKp hd_ HS2 HP2 HPb2 HT2 hz2
    generalize wha σ T0 = U at *
    have hrl : ({ r with first := Value.pointer qa } : Sr).fin = 0 := hf
    by_cases hv : U.v ≠ 0
    case pos =>
      have hvb : (U.v != 0) = true := bne_iff_ne.2 hv
      have HE : Hid (stepP (cls r.P) (absP r σ ((T0, c0) :: rest) ch an) = absP { r with first := .pointer qa, fin := 4 } σ rest ch an) := by
        rw [Hid, HStep.out, if_pos hv]; rfl
      obtain ⟨hSc, _, _, _, hzc⟩ := HAll.out wc (Below.refl _ _)
      have HSc : Hid (SS w0 wc s m { r with first := .pointer qa } tv n σ (L4 : Nat) tr1 rest ch an) := hSc
      have x1 := hSc.blk.get.2.1
      have xf1 := hSc.blk.get.2.2.2.2.2.2.2.2.2.2 1
      clear hv hSc
      go_wp2_with fail
      go_end0
      exact ⟨{ r with first := .pointer qa, fin := 4 }, tv, n, σ, σ, L4, tr1, rest, ch, rfl, HSc.out.put 1 _ rfl rfl rfl rfl HSc.out.gls, HE.out, fun _ => rfl, ⟨rfl, rfl, rfl, rfl⟩, by show (0 : Int) ≤ 4; omega, hl.1, by show r.last + _ ≤ _; omega, by omega, by simpa [World.setCell] using hzc⟩
    have hvb : (U.v != 0) = false := by simpa using hv
    have HStep2 : Hid (_ = _) := (HStep.out.trans (if_neg hv))
    clear hv
    have HIs1 : Hid (Calls Try.prog 125 #[.agg #[.int .i64 U.v, .string U.nm, .slice U.a U.len U.cap], .string ⟨#[33]⟩, .int .i64 0] wc fun e w' => e = .returned (.bool (isT U nCut 0)) ∧ Below wc.heap.size wc w') := is_any U nCut 0 wc
    go_wp2_with fail
    refine HIs1.out.mono ?_
    rintro e w3 ⟨rfl, hb1⟩
    have HB1 : Hid (Below wc.heap.size wc w3) := hb1
    clear hb1 HIs1 u0 u1 u2
    obtain ⟨u0, u1, u2, _, _, _⟩ := block_cells (HAll.out _ HB1.out).2.2.1
    cases h1 : isT U nCut 0 with
    | true =>
      have HE : Hid (stepP (cls r.P) (absP r σ ((T0, c0) :: rest) ch an) = { absP { r with first := .pointer qa } σ rest ch an with ch := (ch.map cch).take c0 }) := by rw [Hid, HStep2.out, if_pos h1]
      clear h1 HStep2 HStep
      obtain ⟨hSc, _, _, hpb, hzc⟩ := HAll.out w3 HB1.out
      have HSc : Hid (SS w0 w3 s m { r with first := .pointer qa } tv n σ (L4 : Nat) tr1 rest ch an) := hSc
      obtain ⟨_, _, _, q3, _⟩ := block5 hpb
      obtain ⟨ca, cp, hcv, hcp1, hcp2, _⟩ := ch_form hSc.chr
      have hcv : r.cv = .slice ca ch.length cp := hcv
      have HCv : Hid (r.cv = .slice ca ch.length cp) := hcv
      have q9 : w3.cell? ⟨s, 9, none⟩ = some r.cv := hSc.blk.get.2.2.2.2.2.2.2.2.2.1
      have qf9 := hSc.blk.get.2.2.2.2.2.2.2.2.2.2 9
      rw [hcv] at q9
      have HSF : Hid (SS w0 (w3.setCell ⟨s, 9, none⟩ (.slice ca c0 cp)) s m { r with first := .pointer qa, cv := .slice ca c0 cp } tv n σ (L4 : Nat) tr1 rest (ch.take c0) an) := hSc.cut hc0 hcv
      have hto : (Instr.slice 101 (.slice ca ch.length cp) none (some (.int .i64 c0)) none).run Try.prog w3.drew = .ok (.slice ca c0 cp) w3.drew := by
        cases ca with
        | some ad =>
          have hg : ∃ g, ad = ⟨g, 0, none⟩ := by
            rcases HSc.out.chr.2 with ⟨e, _⟩ | ⟨g, cap, cur, e, _⟩
            · have e : r.cv = .slice none 0 0 := e
              rw [HCv.out] at e; simp at e
            · have e : r.cv = .slice (some ⟨g, 0, none⟩) ch.length cap := e
              rw [HCv.out] at e; simp at e; exact ⟨g, e.1⟩
          obtain ⟨g, rfl⟩ := hg
          exact to_runC g ch.length cp c0 hc0 hcp1 w3.drew
        | none =>
          have hz : ch.length = 0 ∧ cp = 0 := by
            rcases HSc.out.chr.2 with ⟨e, h0⟩ | ⟨g, cap, cur, e, _⟩
            · have e : r.cv = .slice none 0 0 := e
              rw [HCv.out] at e; simp at e; exact ⟨h0, e.2⟩
            · have e : r.cv = .slice (some ⟨g, 0, none⟩) ch.length cap := e
              rw [HCv.out] at e; simp at e
          obtain ⟨i0, hi, hz0, hz1, hz2⟩ := info_parts Try.info183
          have hc00 : c0 = 0 := by omega
          rw [hz.1, hz.2, hc00]
          simp [Instr.slice, run_underlying Try.underlying101, Instr.sliceBounds, run_sliceBound, sizeOf, typeInfo, hi, Addr.add]
      have HTk : Hid ((ch.take c0).length ≤ ch.length) := by rw [Hid, List.length_take]; omega
      clear hSc hpb hcv
      go_wp2_with fail
      go_region
      all_goals
        go_wp2_with fail
        go_end0
        have htk := HTk.out
        refine ⟨{ r with first := .pointer qa, cv := .slice ca c0 cp }, tv, n, σ, σ, L4, tr1, rest, ch.take c0, rfl, HSF.out.below (Below.refl _ _).drew, ?_, fun _ => rfl, ⟨rfl, rfl, rfl, rfl⟩, by show (0 : Int) ≤ r.fin; omega, hl.1, by show r.last + _ ≤ _; omega, by omega, by simpa [World.setCell] using hzc⟩
        rw [HE.out]; unfold absP; rw [List.map_take]
    | false =>
    have HStep3 : Hid (_ = _) := HStep2.out.trans (if_neg (by rw [h1]; simp))
    clear h1 HStep2 HStep
    have HIs2 : Hid (Calls Try.prog 125 #[.agg #[.int .i64 U.v, .string U.nm, .slice U.a U.len U.cap], .string ⟨#[116, 114, 117, 101]⟩, .int .i64 0] w3 fun e w' => e = .returned (.bool (isT U nTrue 0)) ∧ Below w3.heap.size w3 w') := is_any U nTrue 0 w3
    go_wp2_with fail
    refine HIs2.out.mono ?_
    rintro e w4 ⟨rfl, hb2⟩
    have HB2 : Hid (Below wc.heap.size wc w4) := HB1.out.trans (hb2.mono HB1.out.size)
    clear hb2 HIs2 u0 u1 u2
    obtain ⟨u0, u1, u2, _, _, _⟩ := block_cells (HAll.out _ HB2.out).2.2.1
    cases h2 : isT U nTrue 0 with
    | true =>
      have HE : Hid (stepP (cls r.P) (absP r σ ((T0, c0) :: rest) ch an) = absP { r with first := .pointer qa } σ rest ch an) := by rw [Hid, HStep3.out, if_pos h2]
      obtain ⟨hSc, _, _, _, hzc⟩ := HAll.out w4 HB2.out
      have HSc : Hid (SS w0 w4 s m { r with first := .pointer qa } tv n σ (L4 : Nat) tr1 rest ch an) := hSc
      clear h2 HStep3 hSc
      go_wp2_with fail
      go_end0
      exact ⟨{ r with first := .pointer qa }, tv, n, σ, σ, L4, tr1, rest, ch, rfl, HSc.out, HE.out, fun _ => rfl, ⟨rfl, rfl, rfl, rfl⟩, by show (0 : Int) ≤ r.fin; omega, hl.1, by show r.last + _ ≤ _; omega, by omega, hzc⟩
    | false =>
    have HStep4 : Hid (_ = _) := HStep3.out.trans (if_neg (by rw [h2]; simp))
    clear h2 HStep3
    have HIs3 : Hid (Calls Try.prog 125 #[.agg #[.int .i64 U.v, .string U.nm, .slice U.a U.len U.cap], .string ⟨#[102, 97, 105, 108]⟩, .int .i64 0] w4 fun e w' => e = .returned (.bool (isT U nFail 0)) ∧ Below w4.heap.size w4 w') := is_any U nFail 0 w4
    go_wp2_with fail
    refine HIs3.out.mono ?_
    rintro e w5 ⟨rfl, hb3⟩
    have HB3 : Hid (Below wc.heap.size wc w5) := HB2.out.trans (hb3.mono HB2.out.size)
    clear hb3 HIs3 u0 u1 u2
    obtain ⟨u0, u1, u2, _, _, _⟩ := block_cells (HAll.out _ HB3.out).2.2.1
    cases h3 : isT U nFail 0 with
    | true =>
      have HE : Hid (stepP (cls r.P) (absP r σ ((T0, c0) :: rest) ch an) = bk (cls r.P) (absP { r with first := .pointer qa } σ rest ch an)) := by rw [Hid, HStep4.out, if_pos h3]
      have hzc := (HAll.out w5 HB3.out).2.2.2.2
      have HBk : Hid (Calls Try.prog 123 #[.pointer (some ⟨s, 0, none⟩)] w5 (BRes w0 w5 s m { r with first := .pointer qa } (absP { r with first := .pointer qa } σ rest ch an) an Lb Nb)) := sback_any (σx := σ) Lb Nb w5 HPr.out (HAll.out w5 HB3.out).1 HW.out hl (by omega) hn (by omega) (by show (0 : Int) ≤ r.fin; omega) (by omega)
      clear h3 HStep4
      go_wp2_with fail
      refine HBk.out.mono ?_
      intro e w6 h6
      have h7 : StRes w0 w s m r (absP r σ ((T0, c0) :: rest) ch an) an Lb Nb e w6 := h6.step ⟨rfl, rfl, rfl, rfl⟩ HE.out (by omega) (by omega) hzc
      have he : e = .returned (.tuple #[]) := by
        obtain ⟨_, _, _, _, _, _, _, _, _, h, _⟩ := h6
        exact h
      subst he
      have H7 : Hid (StRes w0 w s m r (absP r σ ((T0, c0) :: rest) ch an) an Lb Nb (.returned (.tuple #[])) w6) := h7
      clear h6 h7 HBk
      go_wp2_with fail
      go_end0
      exact H7.out
    | false =>
    have HStep5 : Hid (_ = _) := HStep4.out.trans (if_neg (by rw [h3]; simp))
    clear h3 HStep4
    have HIs4 : Hid (Calls Try.prog 125 #[.agg #[.int .i64 U.v, .string U.nm, .slice U.a U.len U.cap], .string ⟨#[101, 113]⟩, .int .i64 2] w5 fun e w' => e = .returned (.bool (isT U nEq 2)) ∧ Below w5.heap.size w5 w') := is_any U nEq 2 w5
    go_wp2_with fail
    refine HIs4.out.mono ?_
    rintro e w6 ⟨rfl, hb4⟩
    have HB4 : Hid (Below wc.heap.size wc w6) := HB3.out.trans (hb4.mono HB3.out.size)
    clear hb4 HIs4 u0 u1 u2
    obtain ⟨u0, u1, u2, _, _, _⟩ := block_cells (HAll.out _ HB4.out).2.2.1
    cases h4 : isT U nEq 2 with
    | true =>
      have hlen : U.len = 2 := by
        unfold isT at h4
        rw [Bool.and_eq_true] at h4
        simpa using h4.2
      have HE0 : Hid (stepP (cls r.P) (absP r σ ((T0, c0) :: rest) ch an) = match csO (meetF 4001 σ 4000 [(U.f 0, U.f 1)]) with
        | .over => { absP { r with first := .pointer qa } σ rest ch an with fin := 3 }
        | .no _ => bk (cls r.P) (absP { r with first := .pointer qa } σ rest ch an)
        | .yes _ σ' => { absP { r with first := .pointer qa } σ rest ch an with σ := σ' }) := by
        rw [Hid, HStep5.out, if_pos h4, ← meetF_cs]
        rw [show [(U.f 0, U.f 1)].map can2 = [((can U).f 0, (can U).f 1)] from by rw [can_f U (by omega), can_f U (by omega)]; rfl]
      clear h4 HStep5
      obtain ⟨hU6, hO6, hN6⟩ := HU.out w6 HB4.out
      have HK0 : Hid ((TIn w6 (U.f 0) ∧ Okv 1000000 (U.f 0) ∧ NM (Mu s r.b m tv r.cv r.av) (U.f 0)) ∧ (TIn w6 (U.f 1) ∧ Okv 1000000 (U.f 1) ∧ NM (Mu s r.b m tv r.cv r.av) (U.f 1))) := ⟨⟨hU6.kid (by omega), hO6.kid (by omega), hN6.kid (by omega)⟩, ⟨hU6.kid (by omega), hO6.kid (by omega), hN6.kid (by omega)⟩⟩
      obtain ⟨ub, uo, hua, a0, a1, a2⟩ := hU6.row (i := 0) (by omega)
      obtain ⟨ub', uo', hua', b0, b1, b2⟩ := hU6.row (i := 1) (by omega)
      obtain ⟨ub2, uo2, hua2, hubM⟩ := hN6.root (by omega)
      rw [hua] at hua' hua2
      cases hua'
      cases hua2
      rw [Nat.zero_mul, Nat.add_zero] at a0 a1 a2
      rw [Nat.one_mul] at b0 b1 b2
      have hubl : ub < w6.heap.size := lt_of_cell a0
      have HX6 : Hid (Bx3 w6 kb U) := (HAll.out w6 HB4.out).2.2.1
      have hkbl : kb < w6.heap.size := (Array.getElem?_eq_some_iff.1 HX6.out).1
      have HKe : Hid (∀ W : World, W.heap[kb]? = w6.heap[kb]? → W.heap[ub]? = w6.heap[ub]? → W.cell? ⟨kb, 2, none⟩ = some (.slice (some ⟨ub, uo, none⟩) 2 U.cap) ∧ W.cell? ⟨ub, uo, none⟩ = some (.int .i64 (U.f 0).v) ∧ W.cell? ⟨ub, uo + 1, none⟩ = some (.string (U.f 0).nm) ∧ W.cell? ⟨ub, uo + 2, none⟩ = some (.slice (U.f 0).a (U.f 0).len (U.f 0).cap) ∧ W.cell? ⟨ub, uo + 3, none⟩ = some (.int .i64 (U.f 1).v) ∧ W.cell? ⟨ub, uo + 4, none⟩ = some (.string (U.f 1).nm) ∧ W.cell? ⟨ub, uo + 5, none⟩ = some (.slice (U.f 1).a (U.f 1).len (U.f 1).cap)) := fun W h1 h2 => by
        have hc : ∀ o, W.cell? ⟨ub, o, none⟩ = w6.cell? ⟨ub, o, none⟩ := fun o => World.cell?_of_block h2
        have hx : W.cell? ⟨kb, 2, none⟩ = w6.cell? ⟨kb, 2, none⟩ := World.cell?_of_block h1
        have hk2 := (block_cells HX6.out).2.2.1
        rw [hua, hlen] at hk2
        exact ⟨hx.trans hk2, (hc _).trans a0, (hc _).trans a1, (hc _).trans a2, (hc _).trans b0, (hc _).trans b1, (hc _).trans b2⟩
      have HKp : Hid (∀ W, Below w6.heap.size w6 W → W.cell? ⟨kb, 2, none⟩ = some (.slice (some ⟨ub, uo, none⟩) 2 U.cap) ∧ W.cell? ⟨ub, uo, none⟩ = some (.int .i64 (U.f 0).v) ∧ W.cell? ⟨ub, uo + 1, none⟩ = some (.string (U.f 0).nm) ∧ W.cell? ⟨ub, uo + 2, none⟩ = some (.slice (U.f 0).a (U.f 0).len (U.f 0).cap) ∧ W.cell? ⟨ub, uo + 3, none⟩ = some (.int .i64 (U.f 1).v) ∧ W.cell? ⟨ub, uo + 4, none⟩ = some (.string (U.f 1).nm) ∧ W.cell? ⟨ub, uo + 5, none⟩ = some (.slice (U.f 1).a (U.f 1).len (U.f 1).cap)) := fun W hW => HKe.out W (hW.block kb hkbl) (hW.block ub hubl)
      have hn6 : n + L4 ≤ 1000000000 := by
        have h1 : n ≤ Nb := Nat.le_trans (Nat.le_add_right n (130000 * ch.length)) hn
        clear hn
        omega
      have HSm : Hid (∀ W, Below w6.heap.size w6 W → Calls Try.prog 126 #[.pointer (some ⟨s, 0, none⟩), .agg #[.int .i64 (U.f 0).v, .string (U.f 0).nm, .slice (U.f 0).a (U.f 0).len (U.f 0).cap], .agg #[.int .i64 (U.f 1).v, .string (U.f 1).nm, .slice (U.f 1).a (U.f 1).len (U.f 1).cap]] W (SM w0 w6 s m { r with first := .pointer qa } tv n σ L4 tr1 rest ch an (U.f 0) (U.f 1))) := fun W hW =>
        (ssame_any (U.f 0) (U.f 1) W ((HAll.out w6 HB4.out).1.below hW) hL5 hn6 ⟨HK0.out.1.1.below hW, HK0.out.1.2⟩ ⟨HK0.out.2.1.below hW, HK0.out.2.2⟩).mono fun e w' h => h.rebase hW
      have HUm : Hid (¬ Mu s r.b m tv r.cv r.av ub) := hubM
      have hzc := (HAll.out w6 HB4.out).2.2.2.2
      clear hU6 hO6 hN6 a0 a1 a2 b0 b1 b2 u0 u1 u2 hubM
      obtain ⟨v2, _, _, _, _, _, _⟩ := HKp.out w6 (Below.refl _ _)
      go_wp2_with fail
      go_region_held3 (fun w' => w'.cell? ⟨kb, 2, none⟩ = some (.slice (some ⟨ub, uo, none⟩) 2 U.cap) ∧ w'.cell? ⟨ub, uo, none⟩ = some (.int .i64 (U.f 0).v) ∧ w'.cell? ⟨ub, uo + 1, none⟩ = some (.string (U.f 0).nm) ∧ w'.cell? ⟨ub, uo + 2, none⟩ = some (.slice (U.f 0).a (U.f 0).len (U.f 0).cap) ∧ w'.cell? ⟨ub, uo + 3, none⟩ = some (.int .i64 (U.f 1).v) ∧ w'.cell? ⟨ub, uo + 4, none⟩ = some (.string (U.f 1).nm) ∧ w'.cell? ⟨ub, uo + 5, none⟩ = some (.slice (U.f 1).a (U.f 1).len (U.f 1).cap)) (first | exact HK7.out | (refine HKp.out _ ?_; repeat (first | exact Below.refl _ _ | refine Below.drew ?_))) (first
        | (go_at_call 126
           refine (HSm.out _ (by repeat (first | exact Below.refl _ _ | refine Below.drew ?_))).mono ?_
           rintro e w7 ⟨ok, r5, tv5, n5, σ5, L5, tr5, rfl, h5, h6⟩
           have HK7 : Hid (w7.cell? ⟨kb, 2, none⟩ = some (.slice (some ⟨ub, uo, none⟩) 2 U.cap) ∧ w7.cell? ⟨ub, uo, none⟩ = some (.int .i64 (U.f 0).v) ∧ w7.cell? ⟨ub, uo + 1, none⟩ = some (.string (U.f 0).nm) ∧ w7.cell? ⟨ub, uo + 2, none⟩ = some (.slice (U.f 0).a (U.f 0).len (U.f 0).cap) ∧ w7.cell? ⟨ub, uo + 3, none⟩ = some (.int .i64 (U.f 1).v) ∧ w7.cell? ⟨ub, uo + 4, none⟩ = some (.string (U.f 1).nm) ∧ w7.cell? ⟨ub, uo + 5, none⟩ = some (.slice (U.f 1).a (U.f 1).len (U.f 1).cap)) := HKe.out w7 (h6.2.2.2.1.1.block kb hkbl HKb.out) (h6.2.2.2.1.1.block ub hubl HUm.out)
           have H5 : Hid (SS w0 w7 s m r5 tv5 n5 σ5 L5 tr5 rest ch an) := h5
           have H6 : Hid (n5 ≤ n + L4 ∧ w6.heap.size ≤ w7.heap.size ∧ ((ok = true ∧ r5 = { r with first := .pointer qa } ∧ ∃ k : Nat, k ≤ L4 ∧ L5 = k ∧ n5 + k ≤ n + L4 ∧ meetF (L4 + 1) σ L4 [(U.f 0, U.f 1)] = .yes k σ5) ∨ (ok = false ∧ r5 = { r with first := .pointer qa } ∧ ∃ k : Nat, k ≤ L4 ∧ L5 = k ∧ meetF (L4 + 1) σ L4 [(U.f 0, U.f 1)] = .no k) ∨ (ok = false ∧ r5 = { r with first := .pointer qa, fin := 3 } ∧ L5 = -1 ∧ meetF (L4 + 1) σ L4 [(U.f 0, U.f 1)] = .over))) := ⟨h6.2.2.1, h6.2.2.2.1.1.size, h6.2.2.2.2⟩
           clear h5 h6))
      all_goals
        have hzf : w.heap.size ≤ w7.heap.size := Nat.le_trans hzc H6.out.2.1
        have hE0 := HE0.out
        have hL4 := HL4.out
        have h6 := H6.out
        rw [hL4] at h6
        clear HK7 v2
        by_cases hok : ok = true
        case pos =>
          have hy : r5 = { r with first := .pointer qa } ∧ ∃ k, meetF 4001 σ 4000 [(U.f 0, U.f 1)] = .yes k σ5 := by
            rcases h6.2.2 with ⟨_, e, k, _, _, _, h⟩ | ⟨e, _⟩ | ⟨e, _⟩
            · exact ⟨e, k, h⟩
            · rw [hok] at e; simp at e
            · rw [hok] at e; simp at e
          obtain ⟨rfl, k, hm⟩ := hy
          rw [hm] at hE0
          have HE : Hid (stepP (cls r.P) (absP r σ ((T0, c0) :: rest) ch an) = absP { r with first := .pointer qa } σ5 rest ch an) := hE0
          have hnn : n5 + 130000 * ch.length ≤ Nb + 400000 := by
            have := h6.1
            generalize 130000 * ch.length = y at *
            omega
          subst hok
          clear hE0 hm h6 hL4
          go_wp2_with fail
          go_end0
          exact ⟨{ r with first := .pointer qa }, tv5, n5, σ5, σ5, L5, tr5, rest, ch, rfl, H5.out, HE.out, fun _ => rfl, ⟨rfl, rfl, rfl, rfl⟩, by show (0 : Int) ≤ r.fin; omega, hl.1, by show r.last + _ ≤ _; omega, hnn, hzf⟩
        have hz : ok = false ∧ (r5.P = r.P ∧ r5.limit = r.limit ∧ r5.asked = r.asked ∧ r5.st = r.st) ∧ 0 ≤ r5.fin ∧ r5.last = r.last ∧ stepP (cls r.P) (absP r σ ((T0, c0) :: rest) ch an) = bk (cls r.P) (absP r5 σ rest ch an) := by
          rcases h6.2.2 with ⟨e, _⟩ | ⟨e, e2, k, _, _, hm⟩ | ⟨e, e2, _, hm⟩
          · exact absurd e hok
          · rw [hm] at hE0
            subst e2
            exact ⟨e, ⟨rfl, rfl, rfl, rfl⟩, by show (0 : Int) ≤ r.fin; omega, rfl, hE0⟩
          · rw [hm] at hE0
            subst e2
            exact ⟨e, ⟨rfl, rfl, rfl, rfl⟩, by show (0 : Int) ≤ 3; omega, rfl, hE0.trans (back_fin (by show (3 : Int).toNat ≠ 0; decide)).symm⟩
        obtain ⟨rfl, heq, hf5, hl5, hst⟩ := hz
        have HE : Hid (stepP (cls r.P) (absP r σ ((T0, c0) :: rest) ch an) = bk (cls r.P) (absP r5 σ rest ch an)) := hst
        have HEq : Hid (r5.P = r.P ∧ r5.limit = r.limit ∧ r5.asked = r.asked ∧ r5.st = r.st) := heq
        have hnn : n5 + 130000 * ch.length ≤ Nb + 130000 := by
          have := h6.1
          generalize 130000 * ch.length = y at *
          omega
        have HBk : Hid (Calls Try.prog 123 #[.pointer (some ⟨s, 0, none⟩)] w7 (BRes w0 w7 s m r5 (absP r5 σ rest ch an) an Lb (Nb + 130000))) := sback_any (σx := σ) Lb (Nb + 130000) w7 (by rw [heq.1]; exact HPr.out) H5.out (by rw [heq.1]; exact HW.out) (by rw [hl5]; exact hl) (by omega) hnn (by omega) hf5 (by omega)
        clear hE0 h6 hL4 hst heq hok hl5
        go_wp2_with fail
        refine HBk.out.mono ?_
        intro e w8 h8
        have h9 : StRes w0 w s m r (absP r σ ((T0, c0) :: rest) ch an) an Lb Nb e w8 := h8.step HEq.out HE.out (by omega) (by omega) hzf
        have he : e = .returned (.tuple #[]) := by
          obtain ⟨_, _, _, _, _, _, _, _, _, h, _⟩ := h8
          exact h
        subst he
        have H9 : Hid (StRes w0 w s m r (absP r σ ((T0, c0) :: rest) ch an) an Lb Nb (.returned (.tuple #[])) w8) := h9
        clear h8 h9 HBk
        go_wp2_with fail
        go_end0
        exact H9.out
    | false =>
    have HStep6 : Hid (_ = _) := HStep5.out.trans (if_neg (by rw [h4]; simp))
    clear h4 HStep5
    have hn6 : n + 130000 ≤ 1000000000 := by
      have h1 : n ≤ Nb := Nat.le_trans (Nat.le_add_right n (130000 * ch.length)) hn
      clear hn
      omega
    have hfew := HPr.out.few
    have hl6 : 0 ≤ r.last ∧ r.last + 12 * ((r.P.len - 0 : Nat) : Int) ≤ 999000 := by omega
    have HTr : Hid (Calls Try.prog 127 #[.pointer (some ⟨s, 0, none⟩), .pointer (some ⟨kp, 0, none⟩), .int .i64 0] w6 (TRes w0 w6 s m { r with first := .pointer qa } n σ L4 rest ch an ((T0, c0) :: rest) 0)) :=
      try_any (L := L4) 0 w6 HPr.out (HAll.out w6 HB4.out).1 (HAll.out w6 HB4.out).2.1 (Nat.zero_le _) hL5 hn6 hl6 hf (by omega)
    have hzc := (HAll.out w6 HB4.out).2.2.2.2
    clear u0 u1 u2
    go_wp2_with fail
    refine HTr.out.mono ?_
    rintro e w7 ⟨ok, r7, tv7, n7, σ7, L7, tr7, gl7, ch7, rfl, hs7, ht7, he7, hf7, hn7, hl7, hl8, hc7, hz7⟩
    have he7 : r7.P = r.P ∧ r7.limit = r.limit ∧ r7.asked = r.asked ∧ r7.st = r.st := he7
    have hl7 : r.last ≤ r7.last := hl7
    have hl8 : r7.last ≤ r.last + 12 * ((r.P.len - 0 : Nat) : Int) := hl8
    have ht7' : tryP (cls r.P) (cgl ((T0, c0) :: rest)) (can U) (r.P.len + 1) 0 (absP { r with first := .pointer qa } σ rest ch an) 4000 = (absP r7 σ7 gl7 ch7 an, ok) := by
      have := ht7
      rw [HL4.out, HHd.out] at this
      exact this
    have HS7 : Hid (SS w0 w7 s m r7 tv7 n7 σ7 L7 tr7 gl7 ch7 an) := hs7
    have HE7 : Hid (r7.P = r.P ∧ r7.limit = r.limit ∧ r7.asked = r.asked ∧ r7.st = r.st) := he7
    have hzf : w.heap.size ≤ w7.heap.size := Nat.le_trans hzc hz7
    have hst := HStep6.out
    rw [ht7'] at hst
    clear hs7 ht7 he7 HStep6
    cases ok with
    | true =>
      have HE : Hid (stepP (cls r.P) (absP r σ ((T0, c0) :: rest) ch an) = absP r7 σ7 gl7 ch7 an) := hst
      have hnn : n7 + 130000 * ch7.length ≤ Nb + 400000 := by
        have h1 : 130000 * ch7.length ≤ 130000 * (ch.length + 1) := Nat.mul_le_mul_left _ hc7
        rw [Nat.mul_add] at h1
        generalize 130000 * ch7.length = x at *
        generalize 130000 * ch.length = y at *
        omega
      clear hst ht7'
      go_wp2_with fail
      go_end0
      exact ⟨r7, tv7, n7, σ7, σ7, L7, tr7, gl7, ch7, rfl, HS7.out, HE.out, fun _ => rfl, HE7.out, hf7, by omega, by omega, hnn, hzf⟩
    | false =>
      have hfc := try_false ht7'
      have hlc : ch7.length = ch.length := by
        have := congrArg List.length hfc.1
        simpa [absP] using this
      have HW7 : Hid (∀ d ∈ ch7, d.gl ≠ [] ∧ d.k ≤ r7.P.len) := fun d hd => by
        have h1 : ch7.map cch = ch.map cch := hfc.1
        have h2 : cch d ∈ ch.map cch := by rw [← h1]; exact List.mem_map.2 ⟨d, hd, rfl⟩
        obtain ⟨d', hd', e⟩ := List.mem_map.1 h2
        have hw := HW.out d' hd'
        have ek : d'.k = d.k := congrArg Chc.k e
        have eg : cgl d'.gl = cgl d.gl := congrArg Chc.gl e
        rw [HE7.out.1]
        refine ⟨fun h0 => hw.1 ?_, by rw [← ek]; exact hw.2⟩
        rw [h0] at eg
        simpa [cgl] using eg
      have HE : Hid (stepP (cls r.P) (absP r σ ((T0, c0) :: rest) ch an) = bk (cls r.P) (absP r7 σ7 gl7 ch7 an)) := hst
      have hnn : n7 + 130000 * ch7.length ≤ Nb + 130000 := by
        rw [hlc]
        generalize 130000 * ch.length = y at *
        omega
      have HBk : Hid (Calls Try.prog 123 #[.pointer (some ⟨s, 0, none⟩)] w7 (BRes w0 w7 s m r7 (absP r7 σ7 gl7 ch7 an) an (Lb + 360) (Nb + 130000))) := sback_any (σx := σ7) (Lb + 360) (Nb + 130000) w7 (by rw [HE7.out.1]; exact HPr.out) HS7.out HW7.out (by rw [hlc]; omega) (by omega) hnn (by omega) hf7 (by omega)
      clear hst ht7' hfc
      go_wp2_with fail
      refine HBk.out.mono ?_
      intro e w8 h8
      have h9 : StRes w0 w s m r (absP r σ ((T0, c0) :: rest) ch an) an Lb Nb e w8 := h8.step HE7.out HE.out (by omega) (by omega) hzf
      have he : e = .returned (.tuple #[]) := by
        obtain ⟨_, _, _, _, _, _, _, _, _, h, _⟩ := h8
        exact h
      subst he
      have H9 : Hid (StRes w0 w s m r (absP r σ ((T0, c0) :: rest) ch an) an Lb Nb (.returned (.tuple #[])) w8) := h9
      clear h8 h9 HBk
      go_wp2_with fail
      go_end0
      exact H9.out
end Go.Proofs.Ytmggaclaoefdaaa
