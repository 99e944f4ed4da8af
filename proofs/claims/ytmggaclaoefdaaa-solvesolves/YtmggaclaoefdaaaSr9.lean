/- The reference's Try, walked. -/
import Derived.Test.YtmggaclaoefdaaaGT
import Derived.Test.YtmggaclaoefdaaaRgD
import Derived.Test.YtmggaclaoefdaaaSvE
namespace Go.Proofs.Ytmggaclaoefdaaa
open Go.RowKit

theorem gf_bw {s g len cap : Nat} {w w' : World} (h : GF s s (.slice (some ⟨g, 0, none⟩) len cap) w w') : Bw (fun k => k = s ∨ k = g) w.heap.size w w' :=
  ⟨h.os, h.tape, h.output, h.size, fun k hk hm => h.block k hk (fun e => hm (.inl e)) (fun e => hm (.inl e)) (fun q hq e => hm (.inr (by
    have : g = q := by simpa [Value.ownBlock] using hq
    omega)))⟩
/-- What variables were, and the goals, kept. -/
def BT (w : World) (M : Nat → Prop) (v : Value) (N : Int) (len : Nat) (τ ρ : Int → Tm) (r : Int → Nat) (σ : Sg) (todo : Value) (gl : List Gl) : Prop := BR w M v N len τ ρ r σ ∧ TD w M N todo gl
theorem BT.next {w w' : World} {M M' : Nat → Prop} {v : Value} {N : Int} {len : Nat} {τ ρ : Int → Tm} {r : Int → Nat} {σ : Sg} {todo : Value} {gl : List Gl} (h : BT w M v N len τ ρ r σ todo gl) (hb : Bw M w.heap.size w w') (hm : ∀ k, k < w.heap.size → M' k → M k) : BT w' M' v N len τ ρ r σ todo gl := ⟨h.1.next hb hm, h.2.next hb hm⟩
/-- What the reference's Try says. -/
def TQR (w0 w : World) (s : Nat) (r : Rr) (N : Int) (σ : Sg) (L : Nat) (gl : List Gl) (ch : List Kr) (an : List Tm) (i : Nat) (e : Ending) (w' : World) : Prop :=
  ∃ (ok : Bool) (r' : Rr) (g' cap' len' : Nat) (N' Nx : Int) (τ' ρ' : Int → Tm) (rk' : Int → Nat) (σ' σx : Sg) (wk' : Int) (gl' glx : List Gl) (ch' : List Kr), e = .returned (.bool (ok || decide (r'.fin = 3))) ∧ RS w0 w' s r' g' cap' len' N' τ' ρ' rk' σ' wk' gl' ch' an ∧
    tryQ (cls r.P) (cgl gl) (hdT (cs σ) (cgl gl)) (r.P.len + 1) i (absQ r N σ gl ch an) L = (absQ r' Nx σx glx ch' an, ok) ∧
    (r'.fin = 0 → Nx = N' ∧ σx = σ' ∧ glx = gl' ∧ ∀ v U, σ' v = some U → 0 < v ∧ v ≤ N') ∧ (r'.P = r.P ∧ r'.query = r.query ∧ r'.st = r.st) ∧ ((r'.fin = 0 ∧ (ok = false → N' = N)) ∨ (r'.fin = 3 ∧ ok = false)) ∧ N' ≤ N + 12 ∧ gl'.length ≤ gl.length + 6 ∧ (∀ c ∈ ch', c ∈ ch ∨ (c.N = N ∧ c.gl = gl)) ∧ ch'.length ≤ ch.length + 1 ∧ w.heap.size ≤ w'.heap.size
set_option maxRecDepth 100000 in
set_option maxHeartbeats 8000000 in
theorem tryR_any {w0 : World} {s : Nat} {r : Rr} {g cap len : Nat} {N : Int} {τ ρ : Int → Tm} {rk : Int → Nat} {σ : Sg} {T0 : Tm} {c0 : Nat} {rest : List Gl} {ch : List Kr} {an : List Tm} (L i : Nat) (w : World) (hPr : Prg w0 r.P) (h : RS w0 w s r g cap len N τ ρ rk σ (4000 - (L : Int)) ((T0, c0) :: rest) ch an) (hD : ∀ v U, σ v = some U → 0 < v ∧ v ≤ N) (hv : (wha σ T0).v = 0) (hi : i ≤ r.P.len) (hL : L ≤ 4000) (hN : N ≤ 800000) (hf : r.fin = 0) (hc : ch.length ≤ 100000) (hgl : rest.length ≤ 100000) :
    Calls Try.prog 104 #[.pointer (some ⟨s, 0, none⟩), .int .i64 i] w (TQR w0 w s r N σ L ((T0, c0) :: rest) ch an i) := by
  have H : Hid (RS w0 w s r g cap len N τ ρ rk σ (4000 - (L : Int)) ((T0, c0) :: rest) ch an) := h
  have HPr : Hid (Prg w0 r.P) := hPr
  have HD : Hid (∀ v U, σ v = some U → 0 < v ∧ v ≤ N) := hD
  have HFin : Hid (r.fin = 0) := hf
  have hln := h.rf.ln
  have h12 := h.n12
  obtain ⟨bt, ot, ct, htd, htc, htm, htM, ⟨d0, d1, d2, d3⟩, hT0, hrest⟩ := h.td.first
  have HT0 : Hid (TIn w T0 ∧ NM (Mq s g r.kept r.av) T0 ∧ Okv N T0) := hT0
  obtain ⟨y0, y1, _, y3, _, _, _, _, _, _⟩ := h.get
  rw [htd] at y3
  have HTd : Hid (r.todo = .slice (some ⟨bt, ot, none⟩) (rest.length + 1) ct) := htd
  have hs := h.rf.lt.1
  have hplen : r.P.len ≤ 2 ^ 63 - 1 := by have := hPr.few; omega
  have hfew := hPr.few
  have HU0 : Hid (∀ W, Below w.heap.size w W → Calls Try.prog 67 #[.pointer (some ⟨s, 1, none⟩), .agg #[.int .i64 T0.v, .string T0.nm, .slice T0.a T0.len T0.cap]] W fun e w' => e = .returned (.agg #[.int .i64 (wha σ T0).v, .string (wha σ T0).nm, .slice (wha σ T0).a (wha σ T0).len (wha σ T0).cap]) ∧ Below W.heap.size W w' ∧ (wha σ T0 = T0 ∨ ∃ v, 0 < v ∧ v ≤ N ∧ wha σ T0 = τ v)) := fun W hW => by
    have hRW := (H.out.below hW).rf
    refine (lookAt_agg T0 W hRW.by hRW.ch HT0.out.2.2).mono ?_
    rintro e w' ⟨Y, rfl, hb, hLk, hY⟩
    have hz : (lk ρ T0).v = 0 := (hRW.rel.zero HT0.out.2.2).2 hv
    have hY0 : Y.v = 0 := hLk.1.trans hz
    have e1 : Y = wha σ T0 := (hLk.2.1 hY0).trans (hRW.rel.fn T0 HT0.out.2.2 hz).symm
    rw [← e1]
    exact ⟨rfl, hb, hY⟩
  have HU2 : Hid (wha σ T0 = T0 ∨ ∃ v, 0 < v ∧ v ≤ N ∧ wha σ T0 = τ v) := by
    have hRW := h.rf
    have hz : (lk ρ T0).v = 0 := (hRW.rel.zero HT0.out.2.2).2 hv
    have e1 : wha σ T0 = lk ρ T0 := hRW.rel.fn T0 HT0.out.2.2 hz
    exact lk_from hRW.ch HT0.out.2.2 hz e1
  have HV : Hid ((wha σ T0).v = 0) := hv
  have HV0 : Hid ((hdT σ ((T0, c0) :: rest)).v = 0) := hv
  have HLn : Hid ((len : Int) = N + 1) := hln
  have h800 : len ≤ 800001 := by omega
  have hlen0 : 0 < len := by omega
  clear h hPr hD hT0 hrest htd htM hv hf hln
  go_enter Try.func104, Try.ntmps104
  go_wp2_with fail
  have HKp : Hid (∀ W, Below w.heap.size w W → W.cell? ⟨s, 3, none⟩ = some (.slice (some ⟨bt, ot, none⟩) (rest.length + 1) ct) ∧ W.cell? ⟨bt, ot, none⟩ = some (.int .i64 T0.v) ∧ W.cell? ⟨bt, ot + 1, none⟩ = some (.string T0.nm) ∧ W.cell? ⟨bt, ot + 2, none⟩ = some (.slice T0.a T0.len T0.cap)) := fun W hW => ⟨(hW.cell (lt_of_cell y3)).trans y3, (hW.cell (lt_of_cell d0)).trans d0, (hW.cell (lt_of_cell d1)).trans d1, (hW.cell (lt_of_cell d2)).trans d2⟩
  have hlI : (0 : Int) < ((rest.length + 1 : Nat) : Int) := by omega
  go_cut [5] from 14 to 24 (fun x wx => ∃ kb, x = .pointer (some ⟨kb, 0, none⟩) ∧ w.heap.size ≤ kb ∧ Bx3 wx kb (wha σ T0) ∧ Below w.heap.size w wx)
  case first =>
    go_region_held3 (fun w' => w'.cell? ⟨s, 3, none⟩ = some (.slice (some ⟨bt, ot, none⟩) (rest.length + 1) ct) ∧ w'.cell? ⟨bt, ot, none⟩ = some (.int .i64 T0.v) ∧ w'.cell? ⟨bt, ot + 1, none⟩ = some (.string T0.nm) ∧ w'.cell? ⟨bt, ot + 2, none⟩ = some (.slice T0.a T0.len T0.cap)) ((refine HKp.out _ ?_; repeat (first | exact HB1.out | exact Below.refl _ _ | refine Below.drew ?_ | refine Below.alloc ?_ (by first | exact Nat.le_refl _ | exact HB1.out.size | simp) _ | refine Below.setCell ?_ (by first | exact Nat.le_refl _ | exact HB1.out.size | simp) _))) (first
      | (go_at_call 67
         refine (HU0.out _ (by repeat (first | exact Below.refl _ _ | refine Below.drew ?_ | refine Below.alloc ?_ (by first | exact Nat.le_refl _ | simp) _))).mono ?_
         rintro e w1 ⟨rfl, hb1, hO1⟩
         have HB1 : Hid (Below w.heap.size w w1) := Below.trans (by repeat (first | exact Below.refl _ _ | refine Below.drew ?_ | refine Below.alloc ?_ (by first | exact Nat.le_refl _ | simp) _)) (hb1.mono (by simp))
         first
           | (have hz : w1.heap[w.heap.size]? = some (.cells #[.int .i64 0, .string ⟨#[]⟩, .slice none 0 0] 24) := boxA (W := w) ⟨hb1.os, hb1.tape, hb1.output, hb1.size, hb1.block⟩
              have HZ : Hid (w1.heap[w.heap.size]? = some (.cells #[.int .i64 0, .string ⟨#[]⟩, .slice none 0 0] 24)) := hz
              obtain ⟨z0, z1, z2, zf0, zf1, zf2⟩ := block_cells hz
              clear hz)
           | skip
         clear hb1 hO1))
    all_goals
      generalize wha σ T0 = U at *
      go_wp2_with fail
      go_meet
      case rel =>
        first
          | (obtain ⟨W', hW', _, _, _, hB', _⟩ := fin3n (w := w) (r := w.heap.size) (Nat.le_refl _) HZ.out HB1.out (.int .i64 U.v) (.string U.nm) (.slice U.a U.len U.cap)
             have hx := set3 (a := .int .i64 U.v) (b := .string U.nm) (c := .slice U.a U.len U.cap) HZ.out
             rw [hW'] at hx ⊢
             exact ⟨w.heap.size, rfl, Nat.le_refl _, hx, hB'⟩)
          | exact ⟨w1.heap.size, rfl, HB1.out.size, heap_alloc_new w1 _, HB1.out.alloc HB1.out.size _⟩
  case rest =>
    obtain ⟨kb, rfl, hkb, hbx, hB⟩ := hcut
    have HBc : Hid (Below w.heap.size w wc) := hB
    have HSc : Hid (RS w0 wc s r g cap len N τ ρ rk σ (4000 - (L : Int)) ((T0, c0) :: rest) ch an) := H.out.below hB
    have HHd : Hid (hdT (cs σ) (cgl ((T0, c0) :: rest)) = can (wha σ T0)) := hd_can σ T0 c0 rest
    have HXc : Hid (Bx3 wc kb (wha σ T0)) := hbx
    have hkm : ¬ Mq s g r.kept r.av kb := fun e => by have := (H.out.mu e).2; omega
    have hkl : kb < wc.heap.size := (Array.getElem?_eq_some_iff.1 hbx).1
    clear hB hbx d0 d1 d2 d3 y0 y1 y3 HKp HU0
    generalize wha σ T0 = U at *
    have HGU : Hid (∀ (W : World) (g1 cap1 : Nat) (wk1 : Int), RS w0 W s r g1 cap1 len N τ ρ rk σ wk1 ((T0, c0) :: rest) ch an → TIn W U ∧ Okv N U ∧ NM (Mq s g1 r.kept r.av) U) := fun W g1 cap1 wk1 hW => by
      rcases HU2.out with e | ⟨v, v0, v1, e⟩
      · obtain ⟨_, _, _, _, _, _, _, _, hT, _⟩ := hW.td.first
        rw [e]; exact ⟨hT.1, hT.2.2, hT.2.1⟩
      · rw [e]; exact gd_nm (hW.rf.trm v (by omega) v1)
    obtain ⟨hU1, hU2, _⟩ := HGU.out wc g cap (4000 - (L : Int)) HSc.out
    have hUl : U.len ≤ maxLen := hU1.len
    have hUl2 : U.len ≤ 2 ^ 63 - 1 := hUl
    clear hU1 hU2
    obtain ⟨i0, hi0, hz0, hz1, hz2⟩ := info_parts Try.info24
    have y1 : wc.cell? ⟨s, 1, none⟩ = some (.slice (some ⟨g, 0, none⟩) len cap) := HSc.out.get.2.1
    have HBe : Hid (Below wc.heap.size wc (wc.alloc (.cells #[] 24))) := (Below.refl _ _).alloc (Nat.le_refl _) _
    have HSe : Hid (RS w0 (wc.alloc (.cells #[] 24)) s r g cap len N τ ρ rk σ (4000 - (L : Int)) ((T0, c0) :: rest) ch an) := HSc.out.below HBe.out
    have z1 : (wc.alloc (.cells #[] 24)).cell? ⟨s, 1, none⟩ = some (.slice (some ⟨g, 0, none⟩) len cap) := HSe.out.get.2.1
    have HNe : Hid (∀ j u, (flat (tsOf τ len))[j]? = some u → (wc.alloc (.cells #[] 24)).cell? ((⟨g, 0, none⟩ : Addr).add j) = some u) := rows_news HSe.out.rf.by.row
    have hfl : (flat (tsOf τ len)).length = len * 3 := by rw [flat_length, tsOf_len]
    have hOe := owns_empty wc wc.heap.size (Nat.le_refl _)
    have HOe : Hid ((wc.alloc (.cells #[] 24)).ownsRow wc.heap.size 24 3 (.slice (some ⟨wc.heap.size, 0, none⟩) 0 0) 0 []) := hOe
    clear hOe
    go_wp2_with (at_builtin; refine wpList_append_own_at _ rfl (.tmp 25) (.tmp 30) 22 rfl wc.heap.size 24 i0 (.agg #[.int .i64 0, .string ByteArray.empty, .slice none 0 0]) 3 48 Try.underlying22 hi0 hz0 hz1 hz2 rfl (by decide) (.slice (some ⟨wc.heap.size, 0, none⟩) 0 0) 0 [] rfl HOe.out ⟨g, 0, none⟩ len cap (flat (tsOf τ len)) rfl hfl HNe.out (flat_one _) (by unfold maxLen; omega) (by omega) HBe.out.size ?_; intro v' w3 hown' hgrow hnil hat; rw [Nat.zero_add, List.nil_append] at hown'; have hv' : ∃ gb cb, v' = .slice (some ⟨gb, 0, none⟩) len cb := (by rcases hown'.2 with ⟨_, h0⟩ | ⟨gb, cb, _, h, _⟩; (· omega); (· exact ⟨gb, cb, h⟩)); obtain ⟨gb, cb, rfl⟩ := hv')
    have hgw : wc.heap.size < (wc.alloc (.cells #[] 24)).heap.size := by simp
    have hgb : wc.heap.size ≤ gb := by
      rcases hat with e | e
      · have : gb = wc.heap.size := by simpa [Value.ownBlock] using e
        omega
      · have : gb = (wc.alloc (.cells #[] 24)).heap.size := by simpa [Value.ownBlock] using e
        omega
    have HB3 : Hid (Below wc.heap.size wc w3) := HBe.out.grown hgrow (Nat.le_of_lt hgw) (fun k hk => by
      have : wc.heap.size = k := by simpa [Value.ownBlock] using hk
      omega)
    have HS3 : Hid (RS w0 w3 s r g cap len N τ ρ rk σ (4000 - (L : Int)) ((T0, c0) :: rest) ch an) := HSc.out.below HB3.out
    have hkg : ¬ Mq s g r.kept r.av gb := fun e => by have := (HSc.out.mu e).2; omega
    have HW3 : Hid (BR w3 (Mq s g r.kept r.av) (.slice (some ⟨gb, 0, none⟩) len cb) N len τ ρ rk σ) := HS3.out.was hown' hkg (by omega) HD.out
    have HX3 : Hid (Bx3 w3 kb U) := (HB3.out.block kb hkl).trans HXc.out
    have hz3 : w.heap.size ≤ w3.heap.size := Nat.le_trans HBc.out.size HB3.out.size
    have HPin : Hid (∀ W, Below w0.heap.size w0 W → PIn W r.P) := fun W hW => HPr.out.pin.below hW
    have HFt : Hid (∀ W, Below w3.heap.size w3 W → Calls Try.prog 128 #[.slice r.P.a r.P.len r.P.cap, .agg #[.int .i64 U.v, .string U.nm, .slice U.a U.len U.cap], .int .i64 i] W fun e w' => e = .returned (.int .i64 (fitN r.P (fitP (cls r.P) U i) : Nat)) ∧ Below W.heap.size W w') := fun W hW => fitting_any r.P U i W (HPin.out _ (HS3.out.below hW).low) hUl hi
    obtain ⟨x0, x1, x2, _, _, _⟩ := block_cells HX3.out
    have y0 : w3.cell? ⟨s, 0, none⟩ = some (.slice r.P.a r.P.len r.P.cap) := HS3.out.get.1
    have HK3 : Hid (∀ W, Below w3.heap.size w3 W → W.cell? ⟨s, 0, none⟩ = some (.slice r.P.a r.P.len r.P.cap) ∧ W.cell? ⟨kb, 0, none⟩ = some (.int .i64 U.v) ∧ W.cell? ⟨kb, 1, none⟩ = some (.string U.nm) ∧ W.cell? ⟨kb, 2, none⟩ = some (.slice U.a U.len U.cap)) := fun W hW => ⟨(hW.cell (lt_of_cell y0)).trans y0, (hW.cell (lt_of_cell x0)).trans x0, (hW.cell (lt_of_cell x1)).trans x1, (hW.cell (lt_of_cell x2)).trans x2⟩
    clear hown' hgrow hnil hat hgw z1 y1 HNe HOe hfl HSe HBe
    go_cut [7] from 32 to 38 (fun x wx => x = .int .i64 (fitN r.P (fitP (cls r.P) U i) : Nat) ∧ Below w3.heap.size w3 wx)
    case first =>
      go_region_held3 (fun W => W.cell? ⟨s, 0, none⟩ = some (.slice r.P.a r.P.len r.P.cap) ∧ W.cell? ⟨kb, 0, none⟩ = some (.int .i64 U.v) ∧ W.cell? ⟨kb, 1, none⟩ = some (.string U.nm) ∧ W.cell? ⟨kb, 2, none⟩ = some (.slice U.a U.len U.cap)) ((refine HK3.out _ ?_; repeat (first | exact HB4.out | exact Below.refl _ _ | refine Below.drew ?_))) (first
        | (go_at_call 128
           refine (HFt.out _ (by repeat (first | exact Below.refl _ _ | refine Below.drew ?_))).mono ?_
           rintro e w4 ⟨rfl, hb4⟩
           have HB4 : Hid (Below w3.heap.size w3 w4) := Below.trans (by repeat (first | exact Below.refl _ _ | refine Below.drew ?_)) (hb4.mono (Nat.le_refl _))
           clear hb4))
      all_goals
        go_wp2_with fail
        go_meet
        case rel => exact ⟨rfl, HB4.out⟩
    case rest =>
      obtain ⟨rfl, hB4⟩ := hcut
      have HS4 : Hid (RS w0 wc s r g cap len N τ ρ rk σ (4000 - (L : Int)) ((T0, c0) :: rest) ch an) := HS3.out.below hB4
      have HW4 : Hid (BR wc (Mq s g r.kept r.av) (.slice (some ⟨gb, 0, none⟩) len cb) N len τ ρ rk σ) := HW3.out.next (Bw.ofBelow hB4) (fun _ _ e => e)
      have HX4 : Hid (Bx3 wc kb U) := (hB4.block kb (Array.getElem?_eq_some_iff.1 HX3.out).1).trans HX3.out
      have hz4 : w.heap.size ≤ wc.heap.size := Nat.le_trans hz3 hB4.size
      clear hB4 x0 x1 x2 y0 HK3 HFt HS3 HW3 HX3 HSc HXc HB3 hgb hkl HBc hz3 hkg
      generalize hX0 : absQ r N σ ((T0, c0) :: rest) ch an = X0
      have HX0 : Hid (X0 = absQ r N σ ((T0, c0) :: rest) ch an) := hX0.symm
      clear hX0
      go_wp2_with fail
      go_loopw [7] (fun x wr => ∃ (j g1 cap1 L1 f : Nat), i ≤ j ∧ j ≤ r.P.len ∧ x = .int .i64 (fitN r.P (fitP (cls r.P) U j) : Nat) ∧ RS w0 wr s r g1 cap1 len N τ ρ rk σ (4000 - (L1 : Int)) ((T0, c0) :: rest) ch an ∧ L1 ≤ L ∧ BR wr (Mq s g1 r.kept r.av) (.slice (some ⟨gb, 0, none⟩) len cb) N len τ ρ rk σ ∧ Bx3 wr kb U ∧ ¬ Mq s g1 r.kept r.av kb ∧ w.heap.size ≤ wr.heap.size ∧ r.P.len - j < f ∧ tryQ (cls r.P) (cgl ((T0, c0) :: rest)) (can U) (r.P.len + 1) i X0 L = tryQ (cls r.P) (cgl ((T0, c0) :: rest)) (can U) f j X0 L1) (fun x _ => r.P.len - (intOf x).toNat)
      case atStart => exact ⟨i, g, cap, L, r.P.len + 1, Nat.le_refl _, hi, rfl, HS4.out, Nat.le_refl _, HW4.out, HX4.out, hkm, hz4, by omega, rfl⟩
      case round =>
        clear HS4 HW4 HX4 hkm hz4
        obtain ⟨j, g1, cap1, L1, f, hij, hjP, rfl, hSr, hL1, hWr, hXr, hkr, hzr, hff, hEq⟩ := hrel
        have HSr : Hid (RS w0 wr s r g1 cap1 len N τ ρ rk σ (4000 - (L1 : Int)) ((T0, c0) :: rest) ch an) := hSr
        have HWr : Hid (BR wr (Mq s g1 r.kept r.av) (.slice (some ⟨gb, 0, none⟩) len cb) N len τ ρ rk σ) := hWr
        have HXr : Hid (Bx3 wr kb U) := hXr
        have HKr : Hid (¬ Mq s g1 r.kept r.av kb) := hkr
        have HEq : Hid (tryQ (cls r.P) (cgl ((T0, c0) :: rest)) (can U) (r.P.len + 1) i X0 L = tryQ (cls r.P) (cgl ((T0, c0) :: rest)) (can U) f j X0 L1) := hEq
        have y0 : wr.cell? ⟨s, 0, none⟩ = some (.slice r.P.a r.P.len r.P.cap) := hSr.get.1
        obtain ⟨x0, x1, x2, _, _, _⟩ := block_cells hXr
        clear hSr hWr hXr hkr hEq
        cases hfit : fitP (cls r.P) U j with
        | none =>
          have HRes : Hid (tryQ (cls r.P) (cgl ((T0, c0) :: rest)) (can U) (r.P.len + 1) i X0 L = (X0, false)) := by
            obtain ⟨f', rfl⟩ : ∃ f', f = f' + 1 := ⟨f - 1, by omega⟩
            rw [Hid, HEq.out, tq_none hfit]
          rw [show fitN r.P none = r.P.len from rfl]
          clear hfit
          go_wp2_with fail
          go_ret
          exact ⟨false, r, g1, cap1, len, N, N, τ, ρ, rk, σ, σ, _, _, _, ch, by rw [HFin.out]; rfl, HSr.out, by rw [HHd.out, ← HX0.out]; exact HRes.out, fun _ => ⟨rfl, rfl, rfl, HD.out⟩, ⟨rfl, rfl, rfl⟩, .inl ⟨HFin.out, fun _ => rfl⟩, by omega, by omega, fun c hc => .inl hc, by omega, hzr⟩
        | some k =>
          have hjk := fit_lt hfit
          rw [show fitN r.P (some k) = k from rfl]
          have hkI : (k : Int) < (r.P.len : Int) := by omega
          have HFit : Hid (fitP (cls r.P) U j = some k) := hfit
          have hw1 : IntKind.i64.wrap ((k : Int) + 1) = (k : Int) + 1 := by simp [IntKind.wrap, IntKind.bits, IntKind.signed]; omega
          have hk63 : k ≤ 2 ^ 63 - 2 := by omega
          have HFt : Hid (∀ W, Below wr.heap.size wr W → Calls Try.prog 128 #[.slice r.P.a r.P.len r.P.cap, .agg #[.int .i64 U.v, .string U.nm, .slice U.a U.len U.cap], .int .i64 ((k : Int) + 1)] W fun e w' => e = .returned (.int .i64 (fitN r.P (fitP (cls r.P) U (k + 1)) : Nat)) ∧ Below W.heap.size W w') := fun W hW => by
            have := fitting_any r.P U (k + 1) W (HPin.out _ (HSr.out.below hW).low) hUl (by omega)
            rw [show ((k + 1 : Nat) : Int) = (k : Int) + 1 from by omega] at this
            exact this
          have HK3 : Hid (∀ W, Below wr.heap.size wr W → W.cell? ⟨s, 0, none⟩ = some (.slice r.P.a r.P.len r.P.cap) ∧ W.cell? ⟨kb, 0, none⟩ = some (.int .i64 U.v) ∧ W.cell? ⟨kb, 1, none⟩ = some (.string U.nm) ∧ W.cell? ⟨kb, 2, none⟩ = some (.slice U.a U.len U.cap)) := fun W hW => ⟨(hW.cell (lt_of_cell y0)).trans y0, (hW.cell (lt_of_cell x0)).trans x0, (hW.cell (lt_of_cell x1)).trans x1, (hW.cell (lt_of_cell x2)).trans x2⟩
          clear hfit
          go_wp2_with fail
          go_cut [8] from 46 to 53 (fun x wx => x = .int .i64 (fitN r.P (fitP (cls r.P) U (k + 1)) : Nat) ∧ Below wr.heap.size wr wx)
          case first =>
            go_region_held3 (fun W => W.cell? ⟨s, 0, none⟩ = some (.slice r.P.a r.P.len r.P.cap) ∧ W.cell? ⟨kb, 0, none⟩ = some (.int .i64 U.v) ∧ W.cell? ⟨kb, 1, none⟩ = some (.string U.nm) ∧ W.cell? ⟨kb, 2, none⟩ = some (.slice U.a U.len U.cap)) ((refine HK3.out _ ?_; repeat (first | exact HB4.out | exact Below.refl _ _ | refine Below.drew ?_))) (first
              | (go_at_call 128
                 refine (HFt.out _ (by repeat (first | exact Below.refl _ _ | refine Below.drew ?_))).mono ?_
                 rintro e w4 ⟨rfl, hb4⟩
                 have HB4 : Hid (Below wr.heap.size wr w4) := Below.trans (by repeat (first | exact Below.refl _ _ | refine Below.drew ?_)) (hb4.mono (Nat.le_refl _))
                 clear hb4))
            all_goals
              go_wp2_with fail
              go_meet
              case rel => exact ⟨rfl, HB4.out⟩
          case rest =>
            obtain ⟨rfl, hB5⟩ := hcut
            have HS5 : Hid (RS w0 wc s r g1 cap1 len N τ ρ rk σ (4000 - (L1 : Int)) ((T0, c0) :: rest) ch an) := HSr.out.below hB5
            have HW5 : Hid (BR wc (Mq s g1 r.kept r.av) (.slice (some ⟨gb, 0, none⟩) len cb) N len τ ρ rk σ) := HWr.out.next (Bw.ofBelow hB5) (fun _ _ e => e)
            have HX5 : Hid (Bx3 wc kb U) := (hB5.block kb (Array.getElem?_eq_some_iff.1 HXr.out).1).trans HXr.out
            have hz5 : w.heap.size ≤ wc.heap.size := Nat.le_trans hzr hB5.size
            clear hB5 x0 x1 x2 y0 HK3 HFt HSr HWr HXr hzr
            have HMo : Hid (Calls Try.prog 99 #[.pointer (some ⟨s, 1, none⟩), .int .i64 12] wc fun e w' => e = .returned (.int .i64 (len : Int)) ∧ ∃ g2 cap2, RS w0 w' s r g2 cap2 (len + 12) (N + 12) (τM τ N) (τM ρ N) rk σ (4000 - (L1 : Int)) ((T0, c0) :: rest) ch an ∧ BT w' (Mq s g2 r.kept r.av) (.slice (some ⟨gb, 0, none⟩) len cb) N len τ ρ rk σ r.todo ((T0, c0) :: rest) ∧ Bx3 w' kb U ∧ ¬ Mq s g2 r.kept r.av kb ∧ (TIn w' U ∧ Okv N U ∧ NM (Mq s g2 r.kept r.av) U) ∧ wc.heap.size ≤ w'.heap.size) := by
              have hlN := HLn.out
              have hts : (tsOf τ len).length = len := tsOf_len _ _
              have := more_any 12 (b := s) (ob := 1) (B := bxR r) (lo := w0.heap.size) (ts := tsOf τ len) wc HS5.out.rf.st (by rw [hts]; omega)
              refine this.mono ?_
              rintro e w' ⟨rfl, v', hSt, hG, hT⟩
              rw [hts] at hSt
              obtain ⟨g2, cap2, rfl, hgg, hRF⟩ := HS5.out.rf.more HD.out hSt hG hT (by omega)
              have hbw := gf_bw hG
              have hm : ∀ q, q < wc.heap.size → Mq s g2 r.kept r.av q → Mq s g1 r.kept r.av q := fun q hq e => by
                rcases e with e | e | e
                · exact .inl e
                · rcases hgg with h1 | h1
                  · exact .inr (.inl (h1 ▸ e))
                  · omega
                · exact .inr (.inr e)
              have hw : Bw (Mq s g1 r.kept r.av) wc.heap.size wc w' := hbw.wide (fun q _ e => by
                rcases e with e | e
                · exact .inl e
                · exact .inr (.inl e))
              have hkb' : kb < wc.heap.size := (Array.getElem?_eq_some_iff.1 HX5.out).1
              obtain ⟨u1, u2, u3⟩ := HGU.out wc g1 cap1 _ HS5.out
              exact ⟨by rw [hts], g2, cap2, HS5.out.turn hRF (by omega) hbw hgg (by omega), ⟨HW5.out.next hw hm, HS5.out.td.next hw hm⟩, (hw.block kb hkb' HKr.out).trans HX5.out, fun e => HKr.out (hm kb hkb' e), ⟨u1.bw hw (Nat.le_refl _) u3, u2, u3.anti u1 hm⟩, hG.size⟩
            go_wp2_with fail
            refine HMo.out.mono ?_
            rintro e w6 ⟨rfl, g2, cap2, hS6, hW6, hX6, hk6, hU6, hz6⟩
            have HS6 : Hid (RS w0 w6 s r g2 cap2 (len + 12) (N + 12) (τM τ N) (τM ρ N) rk σ (4000 - (L1 : Int)) ((T0, c0) :: rest) ch an) := hS6
            have HW6 : Hid (BT w6 (Mq s g2 r.kept r.av) (.slice (some ⟨gb, 0, none⟩) len cb) N len τ ρ rk σ r.todo ((T0, c0) :: rest)) := hW6
            have HX6 : Hid (Bx3 w6 kb U) := hX6
            have HK6 : Hid (¬ Mq s g2 r.kept r.av kb) := hk6
            have HU6 : Hid (TIn w6 U ∧ Okv N U ∧ NM (Mq s g2 r.kept r.av) U) := hU6
            have hz6' : w.heap.size ≤ w6.heap.size := Nat.le_trans hz5 hz6
            clear hS6 hW6 hX6 hk6 hU6 HS5 HW5 HX5 HMo hz6 hz5 HKr
            go_wp2_with fail
            obtain ⟨bp, op, hpa, _⟩ := (HPin.out _ HS6.out.low).2 k hjk.2 |>.1
            have HPa : Hid (r.P.a = some ⟨bp, op, none⟩) := hpa
            have HHk : Hid (∀ W, Below w0.heap.size w0 W → W.cell? ⟨bp, op + k * 4, none⟩ = some (.int .i64 (r.P.hd k).v) ∧ W.cell? ⟨bp, op + k * 4 + 1, none⟩ = some (.string (r.P.hd k).nm) ∧ W.cell? ⟨bp, op + k * 4 + 2, none⟩ = some (.slice (r.P.hd k).a (r.P.hd k).len (r.P.hd k).cap) ∧ W.cell? ⟨bp, op + k * 4 + 3, none⟩ = some (.slice (r.P.bd k).a (r.P.bd k).len (r.P.bd k).cap) ∧ TIn W (r.P.hd k) ∧ TIn W (r.P.bd k)) := fun W hW => by
              obtain ⟨⟨b', o', e', c0, c1, c2, c3⟩, t1, t2⟩ := (HPin.out W hW).2 k hjk.2
              rw [HPa.out] at e'
              cases e'
              exact ⟨c0, c1, c2, c3, t1, t2⟩
            have HOk : Hid (Okv 12 (r.P.hd k) ∧ (r.P.bd k).len ≤ 6 ∧ ∀ q, q < (r.P.bd k).len → Okv 12 ((r.P.bd k).f q)) := ⟨HPr.out.hd k hjk.2, HPr.out.bd k hjk.2⟩
            have HKw : Hid (∀ (W : World) (τ2 ρ2 : Int → Tm) (rk2 : Int → Nat) (σ2 : Sg) (wk2 : Int), RS w0 W s r g2 cap2 (len + 12) (N + 12) τ2 ρ2 rk2 σ2 wk2 ((T0, c0) :: rest) ch an → Bx3 W kb U → W.cell? ⟨s, 0, none⟩ = some (.slice (some ⟨bp, op, none⟩) r.P.len r.P.cap) ∧ (W.cell? ⟨bp, op + k * 4, none⟩ = some (.int .i64 (r.P.hd k).v) ∧ W.cell? ⟨bp, op + k * 4 + 1, none⟩ = some (.string (r.P.hd k).nm) ∧ W.cell? ⟨bp, op + k * 4 + 2, none⟩ = some (.slice (r.P.hd k).a (r.P.hd k).len (r.P.hd k).cap)) ∧ W.cell? ⟨kb, 0, none⟩ = some (.int .i64 U.v) ∧ W.cell? ⟨kb, 1, none⟩ = some (.string U.nm) ∧ W.cell? ⟨kb, 2, none⟩ = some (.slice U.a U.len U.cap)) := fun W τ2 ρ2 rk2 σ2 wk2 hR hX => by
              obtain ⟨c0, c1, c2, _, _, _⟩ := HHk.out W hR.low
              obtain ⟨x0, x1, x2, _, _, _⟩ := block_cells hX
              have h0 := hR.get.1
              rw [HPa.out] at h0
              exact ⟨h0, ⟨c0, c1, c2⟩, x0, x1, x2⟩
            have HKb : Hid (∀ W, Below w6.heap.size w6 W → RS w0 W s r g2 cap2 (len + 12) (N + 12) (τM τ N) (τM ρ N) rk σ (4000 - (L1 : Int)) ((T0, c0) :: rest) ch an ∧ Bx3 W kb U ∧ BT W (Mq s g2 r.kept r.av) (.slice (some ⟨gb, 0, none⟩) len cb) N len τ ρ rk σ r.todo ((T0, c0) :: rest) ∧ (TIn W U ∧ Okv N U ∧ NM (Mq s g2 r.kept r.av) U)) := fun W hW => ⟨HS6.out.below hW, (hW.block kb (Array.getElem?_eq_some_iff.1 HX6.out).1).trans HX6.out, HW6.out.next (Bw.ofBelow hW) (fun _ _ e => e), HU6.out.1.below hW, HU6.out.2⟩
            have hHl : (r.P.hd k).len ≤ 2 ^ 63 - 1 := (HHk.out _ HS6.out.low).2.2.2.2.1.len
            have HFa : Hid (∀ W, Below w6.heap.size w6 W → Calls Try.prog 129 #[.agg #[.int .i64 (r.P.hd k).v, .string (r.P.hd k).nm, .slice (r.P.hd k).a (r.P.hd k).len (r.P.hd k).cap], .int .i64 ((len : Int) - 1)] W fun e w' => ∃ X : Tm, e = .returned (.agg #[.int .i64 X.v, .string X.nm, .slice X.a X.len X.cap]) ∧ Below W.heap.size W w' ∧ TIn w' X ∧ can X = ap (ownV N) (r.P.hd k) ∧ Above W.heap.size X) := fun W hW => by
              have hlN := HLn.out
              rw [show (len : Int) - 1 = N from by omega]
              exact far_any (r.P.hd k) N W (by omega) (HHk.out W (HKb.out W hW).1.low).2.2.2.2.1 HOk.out.1
            have HMe : Hid (∀ (W : World) (X : Tm), Below w6.heap.size w6 W → TIn W X → can X = ap (ownV N) (r.P.hd k) → Above w6.heap.size X → Calls Try.prog 66 #[.pointer (some ⟨s, 1, none⟩), .agg #[.int .i64 X.v, .string X.nm, .slice X.a X.len X.cap], .agg #[.int .i64 U.v, .string U.nm, .slice U.a U.len U.cap]] W fun e w' => ∃ (how : Int) (τ2 ρ2 : Int → Tm) (rk2 : Int → Nat) (σ2 : Sg) (wk2 : Int), e = .returned (.int .i64 how) ∧ (RS w0 w' s r g2 cap2 (len + 12) (N + 12) τ2 ρ2 rk2 σ2 wk2 ((T0, c0) :: rest) ch an ∧ BT w' (Mq s g2 r.kept r.av) (.slice (some ⟨gb, 0, none⟩) len cb) N len τ ρ rk σ r.todo ((T0, c0) :: rest) ∧ Bx3 w' kb U ∧ w6.heap.size ≤ w'.heap.size) ∧ ((how = 2 ∧ meetF (L1 + 1) σ L1 [(X, U)] = .over) ∨ (how = 0 ∧ ∃ k2 : Nat, k2 ≤ L1 ∧ wk2 = 4000 - (k2 : Int) ∧ meetF (L1 + 1) σ L1 [(X, U)] = .no k2) ∨ (how = 1 ∧ ∃ k2 : Nat, meetF (L1 + 1) σ L1 [(X, U)] = .yes k2 σ2 ∧ ∀ v T, σ2 v = some T → 0 < v ∧ v ≤ N + 12))) := fun W X hW hX hcX hAX => by
              obtain ⟨hRW, hXW, hBW, hUW⟩ := HKb.out W hW
              have hOX : Okv (N + 12) X := okv_of_can hX (by rw [hcX]; exact okv_own (by omega) (by omega) HOk.out.1)
              have hGX : GdK (Kq r.kept r.av) W s s (.slice (some ⟨g2, 0, none⟩) (len + 12) cap2) (N + 12) X := nm_gd ⟨hX, hOX, hAX.nm (fun q hq => (HS6.out.mu hq).2)⟩
              have hGU : GdK (Kq r.kept r.av) W s s (.slice (some ⟨g2, 0, none⟩) (len + 12) cap2) (N + 12) U := nm_gd ⟨hUW.1, hUW.2.1.up (by omega), hUW.2.2⟩
              refine (meet_any L1 X U W hRW.rf (by omega) hGX hGU).mono ?_
              rintro e w' ⟨hG, hM⟩
              have hbw := gf_bw hG
              have hw : Bw (Mq s g2 r.kept r.av) W.heap.size W w' := hbw.wide (fun q _ e => by
                rcases e with e | e
                · exact .inl e
                · exact .inr (.inl e))
              have hkl : kb < W.heap.size := (Array.getElem?_eq_some_iff.1 hXW).1
              have hX' : Bx3 w' kb U := (hw.block kb hkl HK6.out).trans hXW
              have hB' := hBW.next hw (fun _ _ e => e)
              have hz' : w6.heap.size ≤ w'.heap.size := Nat.le_trans hW.size hw.size
              have h12' : 12 ≤ N + 12 := by omega
              rcases hM with ⟨rfl, hm, τ2, ρ2, r2, σ2, hR⟩ | ⟨k2, hk2, rfl, hm, τ2, ρ2, r2, σ2, hR⟩ | ⟨k2, σ2, hk2, rfl, hm, τ2, ρ2, r2, hR⟩
              · exact ⟨2, τ2, ρ2, r2, σ2, _, rfl, ⟨hRW.turn hR h12' hbw (.inl rfl) (Int.le_refl _), hB', hX', hz'⟩, .inl ⟨rfl, hm _ (Nat.lt_succ_self _)⟩⟩
              · exact ⟨0, τ2, ρ2, r2, σ2, _, rfl, ⟨hRW.turn hR h12' hbw (.inl rfl) (Int.le_refl _), hB', hX', hz'⟩, .inr (.inl ⟨rfl, k2, hk2, rfl, hm _ (Nat.lt_succ_self _)⟩)⟩
              · have hm' := hm _ (Nat.lt_succ_self L1)
                exact ⟨1, τ2, ρ2, r2, σ2, _, rfl, ⟨hRW.turn hR h12' hbw (.inl rfl) (Int.le_refl _), hB', hX', hz'⟩, .inr (.inr ⟨rfl, k2, hm', meet_dom (N := N + 12) _ σ L1 [(X, U)] k2 σ2 hRW.rf.dec hRW.rf.ok (fun v T hv => by have := HD.out v T hv; omega) (fun p hp => by
                  rw [List.mem_singleton] at hp; subst hp; exact ⟨hOX, hUW.2.1.up (by omega)⟩) hm'⟩)⟩
            have hw2 : IntKind.i64.wrap ((len : Int) - 1) = (len : Int) - 1 := by simp [IntKind.wrap, IntKind.bits, IntKind.signed]; omega
            clear hpa
            go_cut [10] from 59 to 73 (fun x wx => ∃ (X : Tm) (how : Int) (τ2 ρ2 : Int → Tm) (rk2 : Int → Nat) (σ2 : Sg) (wk2 : Int), x = .int .i64 how ∧ can X = ap (ownV N) (r.P.hd k) ∧ (RS w0 wx s r g2 cap2 (len + 12) (N + 12) τ2 ρ2 rk2 σ2 wk2 ((T0, c0) :: rest) ch an ∧ BT wx (Mq s g2 r.kept r.av) (.slice (some ⟨gb, 0, none⟩) len cb) N len τ ρ rk σ r.todo ((T0, c0) :: rest) ∧ Bx3 wx kb U ∧ w6.heap.size ≤ wx.heap.size) ∧ ((how = 2 ∧ meetF (L1 + 1) σ L1 [(X, U)] = .over) ∨ (how = 0 ∧ ∃ k2 : Nat, k2 ≤ L1 ∧ wk2 = 4000 - (k2 : Int) ∧ meetF (L1 + 1) σ L1 [(X, U)] = .no k2) ∨ (how = 1 ∧ ∃ k2 : Nat, meetF (L1 + 1) σ L1 [(X, U)] = .yes k2 σ2 ∧ ∀ v T, σ2 v = some T → 0 < v ∧ v ≤ N + 12)))
            case first =>
              have HB0 : Hid (Below w6.heap.size w6 w6) := Below.refl _ _
              have HQ0 := HKw.out w6 _ _ _ _ _ HS6.out HX6.out
              have HQ : Hid (∀ W, Below w6.heap.size w6 W → W.cell? ⟨s, 0, none⟩ = some (.slice (some ⟨bp, op, none⟩) r.P.len r.P.cap) ∧ (W.cell? ⟨bp, op + k * 4, none⟩ = some (.int .i64 (r.P.hd k).v) ∧ W.cell? ⟨bp, op + k * 4 + 1, none⟩ = some (.string (r.P.hd k).nm) ∧ W.cell? ⟨bp, op + k * 4 + 2, none⟩ = some (.slice (r.P.hd k).a (r.P.hd k).len (r.P.hd k).cap)) ∧ W.cell? ⟨kb, 0, none⟩ = some (.int .i64 U.v) ∧ W.cell? ⟨kb, 1, none⟩ = some (.string U.nm) ∧ W.cell? ⟨kb, 2, none⟩ = some (.slice U.a U.len U.cap)) := fun W hW => HKw.out W _ _ _ _ _ (HKb.out W hW).1 (HKb.out W hW).2.1
              clear HQ0
              generalize r.P.hd k = H at *
              go_region_held3 (fun W => W.cell? ⟨s, 0, none⟩ = some (.slice (some ⟨bp, op, none⟩) r.P.len r.P.cap) ∧ (W.cell? ⟨bp, op + k * 4, none⟩ = some (.int .i64 H.v) ∧ W.cell? ⟨bp, op + k * 4 + 1, none⟩ = some (.string H.nm) ∧ W.cell? ⟨bp, op + k * 4 + 2, none⟩ = some (.slice H.a H.len H.cap)) ∧ W.cell? ⟨kb, 0, none⟩ = some (.int .i64 U.v) ∧ W.cell? ⟨kb, 1, none⟩ = some (.string U.nm) ∧ W.cell? ⟨kb, 2, none⟩ = some (.slice U.a U.len U.cap)) (first | with_reducible exact HK8.out | (refine HQ.out _ ?_; repeat (first | with_reducible exact HB7.out | with_reducible exact Below.refl _ _ | refine Below.drew ?_))) (first
                | (go_at_call 129
                   refine (HFa.out _ (by repeat (first | exact Below.refl _ _ | refine Below.drew ?_))).mono ?_
                   rintro e w7 ⟨X, rfl, hb7, hX7, hc7, hA7⟩
                   have HB7 : Hid (Below w6.heap.size w6 w7) := Below.trans (by repeat (first | exact Below.refl _ _ | refine Below.drew ?_)) (hb7.mono (Nat.le_refl _))
                   have HX7 : Hid (TIn w7 X ∧ can X = ap (ownV N) H ∧ Above w6.heap.size X) := ⟨hX7, hc7, hA7⟩
                   clear hb7 hX7 hc7 hA7)
                | (go_at_call 66
                   refine (HMe.out _ X (by repeat (first | exact HB7.out | refine Below.drew ?_)) (by first | exact HX7.out.1 | exact HX7.out.1.below (Below.refl _ _).drew | exact HX7.out.1.below (Below.refl _ _).drew.drew) HX7.out.2.1 HX7.out.2.2).mono ?_
                   rintro e w8 ⟨how, τ2, ρ2, rk2, σ2, wk2, rfl, hR8, hM8⟩
                   have HR8 : Hid (RS w0 w8 s r g2 cap2 (len + 12) (N + 12) τ2 ρ2 rk2 σ2 wk2 ((T0, c0) :: rest) ch an ∧ BT w8 (Mq s g2 r.kept r.av) (.slice (some ⟨gb, 0, none⟩) len cb) N len τ ρ rk σ r.todo ((T0, c0) :: rest) ∧ Bx3 w8 kb U ∧ w6.heap.size ≤ w8.heap.size) := hR8
                   have HM8 : Hid ((how = 2 ∧ meetF (L1 + 1) σ L1 [(X, U)] = .over) ∨ (how = 0 ∧ ∃ k2 : Nat, k2 ≤ L1 ∧ wk2 = 4000 - (k2 : Int) ∧ meetF (L1 + 1) σ L1 [(X, U)] = .no k2) ∨ (how = 1 ∧ ∃ k2 : Nat, meetF (L1 + 1) σ L1 [(X, U)] = .yes k2 σ2 ∧ ∀ v T, σ2 v = some T → 0 < v ∧ v ≤ N + 12)) := hM8
                   have HK8 := HKw.out w8 _ _ _ _ _ hR8.1 hR8.2.2.1
                   replace HK8 : Hid (w8.cell? ⟨s, 0, none⟩ = some (.slice (some ⟨bp, op, none⟩) r.P.len r.P.cap) ∧ (w8.cell? ⟨bp, op + k * 4, none⟩ = some (.int .i64 H.v) ∧ w8.cell? ⟨bp, op + k * 4 + 1, none⟩ = some (.string H.nm) ∧ w8.cell? ⟨bp, op + k * 4 + 2, none⟩ = some (.slice H.a H.len H.cap)) ∧ w8.cell? ⟨kb, 0, none⟩ = some (.int .i64 U.v) ∧ w8.cell? ⟨kb, 1, none⟩ = some (.string U.nm) ∧ w8.cell? ⟨kb, 2, none⟩ = some (.slice U.a U.len U.cap)) := HK8
                   clear hR8 hM8))
              all_goals
                go_wp2_with fail
                go_meet
                case rel => exact ⟨X, how, τ2, ρ2, rk2, σ2, wk2, rfl, HX7.out.2.1, HR8.out, HM8.out⟩
            case rest =>
              obtain ⟨X, how, τ2, ρ2, rk2, σ2, wk2, rfl, hcX, ⟨hR8, hB8, hX8, hz8⟩, hM8⟩ := hcut
              have HR8 : Hid (RS w0 wc s r g2 cap2 (len + 12) (N + 12) τ2 ρ2 rk2 σ2 wk2 ((T0, c0) :: rest) ch an) := hR8
              have HB8 : Hid (BT wc (Mq s g2 r.kept r.av) (.slice (some ⟨gb, 0, none⟩) len cb) N len τ ρ rk σ r.todo ((T0, c0) :: rest)) := hB8
              have HX8 : Hid (Bx3 wc kb U) := hX8
              have hz9 : w.heap.size ≤ wc.heap.size := Nat.le_trans hz6' hz8
              have HTr : Hid (tryQ (cls r.P) (cgl ((T0, c0) :: rest)) (can U) (r.P.len + 1) i X0 L = match meetF (L1 + 1) σ L1 [(X, U)] with
                | .over => ({ X0 with fin := 3 }, false)
                | .no L' => tryQ (cls r.P) (cgl ((T0, c0) :: rest)) (can U) (f - 1) (k + 1) X0 L'
                | .yes _ σ' => ({ X0 with N := N + 12, σ := cs σ', gl := ((kidsL (r.P.bd k)).map fun b => (ap (ownV N) b, ch.length)) ++ cgl rest, ch := match fitP (cls r.P) U (k + 1) with
                    | none => X0.ch
                    | some q => X0.ch ++ [⟨cgl ((T0, c0) :: rest), q, cs σ, N⟩] }, true)) := by
                obtain ⟨f', rfl⟩ : ∃ f', f = f' + 1 := ⟨f - 1, by omega⟩
                have e1 : X0.N = N := by rw [HX0.out]; rfl
                have e2 : X0.σ = cs σ := by rw [HX0.out]; rfl
                have e3 : X0.ch.length = ch.length := by rw [HX0.out]; simp [absQ]
                rw [Hid, HEq.out, tq_some (X := X0) (A := X) e2 HFit.out (by rw [e1]; exact hcX), e1, e2, e3]
                rfl
              clear hR8 hB8 hX8 hcX hz8 HS6 HW6 HX6 HU6 HKw HKb HFa HMe hz6'
              rcases hM8 with ⟨rfl, hm⟩ | ⟨rfl, k2, hk2, rfl, hm⟩ | ⟨rfl, k2, hm, hdm⟩
              · have HT9 : Hid (tryQ (cls r.P) (cgl ((T0, c0) :: rest)) (can U) (r.P.len + 1) i X0 L = (absQ { r with fin := 3 } N σ ((T0, c0) :: rest) ch an, false)) := by
                  rw [Hid, HTr.out, hm, HX0.out]; rfl
                have y7 : wc.cell? ⟨s, 7, none⟩ = some (.int .i64 r.fin) := HR8.out.get.2.2.2.2.2.2.2.1
                have yf7 := HR8.out.get.2.2.2.2.2.2.2.2.2 7
                clear hm
                go_wp2_with fail
                go_ret
                exact ⟨false, { r with fin := 3 }, g2, cap2, len + 12, N + 12, N, τ2, ρ2, rk2, σ2, σ, wk2, _, _, ch, rfl, HR8.out.put 7 _ rfl rfl rfl rfl HR8.out.td, by rw [HHd.out, ← HX0.out]; exact HT9.out, fun h => absurd (show (3 : Int) = 0 from h) (by omega), ⟨rfl, rfl, rfl⟩, .inr ⟨rfl, rfl⟩, Int.le_refl _, by omega, fun c hc => .inl hc, by omega, by simpa [World.setCell] using hz9⟩
              · have HT9 : Hid (tryQ (cls r.P) (cgl ((T0, c0) :: rest)) (can U) (r.P.len + 1) i X0 L = tryQ (cls r.P) (cgl ((T0, c0) :: rest)) (can U) (f - 1) (k + 1) X0 k2) := by rw [Hid, HTr.out, hm]
                have y1 : wc.cell? ⟨s, 1, none⟩ = some (.slice (some ⟨g2, 0, none⟩) (len + 12) cap2) := HR8.out.get.2.1
                have HBe : Hid (Below wc.heap.size wc (wc.alloc (.cells #[] 24))) := (Below.refl _ _).alloc (Nat.le_refl _) _
                obtain ⟨gb', cb', hgb', hlcb, hMgb, hrows⟩ := HB8.out.1.form
                have hge : gb' = gb := by injection hgb' with h1 _ _; injection h1 with h1; injection h1 with h1 _ _; exact h1.symm
                have hrows' : ∀ q, q < len → RowAt (wc.alloc (.cells #[] 24)) (some ⟨gb, 0, none⟩) q (τ q) := fun q hq => by
                  have := (hrows q hq).below HBe.out
                  rwa [hge] at this
                have HNe : Hid (∀ j u, (flat (tsOf τ len))[j]? = some u → (wc.alloc (.cells #[] 24)).cell? ((⟨gb, 0, none⟩ : Addr).add j) = some u) := rows_news hrows'
                have hfl : (flat (tsOf τ len)).length = len * 3 := by rw [flat_length, tsOf_len]
                have hlo : w0.heap.size ≤ wc.heap.size := HR8.out.low.size
                have HOe : Hid ((wc.alloc (.cells #[] 24)).ownsRow wc.heap.size 24 3 (.slice (some ⟨wc.heap.size, 0, none⟩) 0 0) 0 []) := owns_empty wc wc.heap.size (Nat.le_refl _)
                have y1e : (wc.alloc (.cells #[] 24)).heap[s]? = wc.heap[s]? := HBe.out.block s HR8.out.rf.lt.1
                have HYe : Hid ((wc.alloc (.cells #[] 24)).heap[s]? = some (bxR r (.slice (some ⟨g2, 0, none⟩) (len + 12) cap2) (.int .i64 (4000 - (k2 : Int))))) := y1e.trans HR8.out.rf.blk
                clear hm hgb' hlcb hMgb hrows hge hrows' y1e
                go_wp2_with (at_builtin; refine wpList_append_own_at _ rfl (.tmp 152) (.tmp 153) 22 rfl wc.heap.size 24 i0 (.agg #[.int .i64 0, .string ByteArray.empty, .slice none 0 0]) 3 48 Try.underlying22 hi0 hz0 hz1 hz2 rfl (by decide) (.slice (some ⟨wc.heap.size, 0, none⟩) 0 0) 0 [] rfl HOe.out ⟨gb, 0, none⟩ len cb (flat (tsOf τ len)) rfl hfl HNe.out (flat_one _) (by unfold maxLen; omega) (by omega) HBe.out.size ?_; intro v' w9 hown' hgrow hnil hat; rw [Nat.zero_add, List.nil_append] at hown'; have hv' : ∃ g9 cap9, v' = .slice (some ⟨g9, 0, none⟩) len cap9 := (by rcases hown'.2 with ⟨_, h0⟩ | ⟨g9, cap9, _, h, _⟩; (· omega); (· exact ⟨g9, cap9, h⟩)); obtain ⟨g9, cap9, rfl⟩ := hv'; have hgw : wc.heap.size < (wc.alloc (.cells #[] 24)).heap.size := (by simp); have hsl : s < wc.heap.size := HR8.out.rf.lt.1; have hst : w9.heap[s]? = (wc.alloc (.cells #[] 24)).heap[s]? := hgrow.block s (by omega) (fun e => by have : s = wc.heap.size := (by simpa [Value.ownBlock] using e); omega); have hbk : w9.heap[s]? = some (bxR r (.slice (some ⟨g2, 0, none⟩) (len + 12) cap2) (.int .i64 (4000 - (k2 : Int)))) := hst.trans HYe.out; have q1 : w9.cell? ⟨s, 1, none⟩ = some (.slice (some ⟨g2, 0, none⟩) (len + 12) cap2) := (bxR_bx r).c0 _ _ _ _ hbk; have qf1 : w9.frozen? ⟨s, 1, none⟩ = false := (bxR_bx r).f0 _ _ _ _ hbk)
                have hg9 : wc.heap.size ≤ g9 := by
                  rcases hat with e | e
                  · have : g9 = wc.heap.size := by simpa [Value.ownBlock] using e
                    omega
                  · have : g9 = (wc.alloc (.cells #[] 24)).heap.size := by simpa [Value.ownBlock] using e
                    omega
                have HB9 : Hid (Below wc.heap.size wc w9) := HBe.out.grown hgrow (Nat.le_of_lt hgw) (fun q hq => by
                  have : wc.heap.size = q := by simpa [Value.ownBlock] using hq
                  omega)
                have hset := G.set s w9 1 (.slice (some ⟨g9, 0, none⟩) len cap9)
                have HS9 : Hid (RS w0 (w9.setCell ⟨s, 1, none⟩ (.slice (some ⟨g9, 0, none⟩) len cap9)) s r g9 cap9 len N τ ρ rk σ (4000 - (k2 : Int)) ((T0, c0) :: rest) ch an) := HR8.out.anew HB8.out.1 HB9.out (ownsRow_mono hown' hlo) hg9 ((bxR_bx r).s0 _ _ _ _ _ hbk) hset HB8.out.2
                have hw9 : Bw (Mq s g2 r.kept r.av) wc.heap.size wc (w9.setCell ⟨s, 1, none⟩ (.slice (some ⟨g9, 0, none⟩) len cap9)) := (Bw.ofBelow HB9.out).grown hset HB9.out.size (fun q hq => .inr (.inl (Option.some.inj hq).symm))
                have hm9 : ∀ q, q < wc.heap.size → Mq s g9 r.kept r.av q → Mq s g2 r.kept r.av q := fun q hq e => by
                  rcases e with e | e | e
                  · exact .inl e
                  · omega
                  · exact .inr (.inr e)
                have HW9 : Hid (BR (w9.setCell ⟨s, 1, none⟩ (.slice (some ⟨g9, 0, none⟩) len cap9)) (Mq s g9 r.kept r.av) (.slice (some ⟨gb, 0, none⟩) len cb) N len τ ρ rk σ) := HB8.out.1.next hw9 hm9
                have hkl : kb < wc.heap.size := (Array.getElem?_eq_some_iff.1 HX8.out).1
                have HX9 : Hid (Bx3 (w9.setCell ⟨s, 1, none⟩ (.slice (some ⟨g9, 0, none⟩) len cap9)) kb U) := (hw9.block kb hkl HK6.out).trans HX8.out
                have HK9 : Hid (¬ Mq s g9 r.kept r.av kb) := fun e => HK6.out (hm9 kb hkl e)
                have hz10 : w.heap.size ≤ (w9.setCell ⟨s, 1, none⟩ (.slice (some ⟨g9, 0, none⟩) len cap9)).heap.size := Nat.le_trans hz9 hw9.size
                have hnx : k + 1 ≤ fitN r.P (fitP (cls r.P) U (k + 1)) := by
                  cases hq : fitP (cls r.P) U (k + 1) with
                  | none => show k + 1 ≤ r.P.len; omega
                  | some q => exact (fit_lt hq).1
                clear hown' hgrow hnil hat hset hw9 hm9 hbk q1 qf1 hst
                go_roundw
                case rel => exact ⟨k + 1, g9, cap9, k2, f - 1, by omega, by omega, rfl, HS9.out, by omega, HW9.out, HX9.out, HK9.out, hz10, by omega, HT9.out⟩
                case measure => simp [intOf]; omega
              · obtain ⟨ka, kc, hkf, hkc1, hkc2, _⟩ := kept_form HR8.out.kr
                have HT9 : Hid (tryQ (cls r.P) (cgl ((T0, c0) :: rest)) (can U) (r.P.len + 1) i X0 L = ({ X0 with N := N + 12, σ := cs σ2, gl := ((kidsL (r.P.bd k)).map fun b => (ap (ownV N) b, ch.length)) ++ cgl rest, ch := match fitP (cls r.P) U (k + 1) with
                    | none => X0.ch
                    | some q => X0.ch ++ [⟨cgl ((T0, c0) :: rest), q, cs σ, N⟩] }, true)) := by rw [Hid, HTr.out, hm]
                have HDm : Hid (∀ v T, σ2 v = some T → 0 < v ∧ v ≤ N + 12) := hdm
                have y4 : wc.cell? ⟨s, 4, none⟩ = some (.slice ka ch.length kc) := by rw [← hkf]; exact HR8.out.get.2.2.2.2.1
                have y0 : wc.cell? ⟨s, 0, none⟩ = some (.slice r.P.a r.P.len r.P.cap) := HR8.out.get.1
                have y3 : wc.cell? ⟨s, 3, none⟩ = some (.slice (some ⟨bt, ot, none⟩) (rest.length + 1) ct) := by have := HR8.out.get.2.2.2.1; rwa [HTd.out] at this
                have yf4 := HR8.out.get.2.2.2.2.2.2.2.2.2 4
                have HKf : Hid (r.kept = .slice ka ch.length kc) := hkf
                have hch63 : ch.length ≤ 2 ^ 63 - 1 := by omega
                clear hm hdm hkf HTr
                cases hq : fitP (cls r.P) U (k + 1) with
                | none =>
                  have HT10 : Hid (tryQ (cls r.P) (cgl ((T0, c0) :: rest)) (can U) (r.P.len + 1) i X0 L = ({ X0 with N := N + 12, σ := cs σ2, gl := ((kidsL (r.P.bd k)).map fun b => (ap (ownV N) b, ch.length)) ++ cgl rest, ch := ch.map kq }, true)) := by
                    rw [Hid, HT9.out, hq, HX0.out]; rfl
                  obtain ⟨rp, ch', hRp, hEp, hT10', hLp⟩ : ∃ (rp : Rr) (ch' : List Kr), RS w0 wc s rp g2 cap2 (len + 12) (N + 12) τ2 ρ2 rk2 σ2 wk2 ((T0, c0) :: rest) ch' an ∧ (rp.P = r.P ∧ rp.todo = r.todo ∧ rp.fin = 0 ∧ rp.query = r.query ∧ rp.st = r.st) ∧ tryQ (cls r.P) (cgl ((T0, c0) :: rest)) (can U) (r.P.len + 1) i X0 L = ({ X0 with N := N + 12, σ := cs σ2, gl := ((kidsL (r.P.bd k)).map fun b => (ap (ownV N) b, ch.length)) ++ cgl rest, ch := ch'.map kq }, true) ∧ (∀ c ∈ ch', c ∈ ch ∨ (c.N = N ∧ c.gl = (T0, c0) :: rest)) ∧ ch'.length ≤ ch.length + 1 := ⟨r, ch, HR8.out, ⟨rfl, rfl, HFin.out, rfl, rfl⟩, HT10.out, fun c hc => .inl hc, by omega⟩
                  rw [show fitN r.P none = r.P.len from rfl]
                  clear hq HT10 HT9
                  go_wp2_with fail
                  clear y0 y3 y4 yf4
                  have HRp : Hid (RS w0 wc s rp g2 cap2 (len + 12) (N + 12) τ2 ρ2 rk2 σ2 wk2 ((T0, c0) :: rest) ch' an) := hRp
                  have HEp : Hid (rp.P = r.P ∧ rp.todo = r.todo ∧ rp.fin = 0 ∧ rp.query = r.query ∧ rp.st = r.st) := hEp
                  have HT10 : Hid (tryQ (cls r.P) (cgl ((T0, c0) :: rest)) (can U) (r.P.len + 1) i X0 L = ({ X0 with N := N + 12, σ := cs σ2, gl := ((kidsL (r.P.bd k)).map fun b => (ap (ownV N) b, ch.length)) ++ cgl rest, ch := ch'.map kq }, true)) := hT10'
                  have HLp : Hid ((∀ c ∈ ch', c ∈ ch ∨ (c.N = N ∧ c.gl = (T0, c0) :: rest)) ∧ ch'.length ≤ ch.length + 1) := hLp
                  clear hRp hEp hT10' hLp HR8 HB8 HX8 HKf HK6
                  generalize wc = wp at *
                  have hBl : (r.P.bd k).len ≤ 6 := HOk.out.2.1
                  have HBt : Hid (∀ W, Below wp.heap.size wp W → W.cell? ⟨bp, op + k * 4 + 3, none⟩ = some (.slice (r.P.bd k).a (r.P.bd k).len (r.P.bd k).cap) ∧ TIn W (r.P.bd k)) := fun W hW => ⟨(HHk.out W (HRp.out.below hW).low).2.2.2.1, (HHk.out W (HRp.out.below hW).low).2.2.2.2.2⟩
                  have HBo : Hid (∀ q, q < (r.P.bd k).len → Okv 12 ((r.P.bd k).f q)) := HOk.out.2.2
                  have HY : Hid (∀ W, Below wp.heap.size wp W → W.cell? ⟨s, 0, none⟩ = some (.slice (some ⟨bp, op, none⟩) r.P.len r.P.cap) ∧ W.cell? ⟨s, 3, none⟩ = some (.slice (some ⟨bt, ot, none⟩) (rest.length + 1) ct) ∧ W.frozen? ⟨s, 3, none⟩ = false) := fun W hW => by
                    obtain ⟨a0, _, _, a3, _, _, _, _, _, af⟩ := (HRp.out.below hW).get
                    rw [HEp.out.1, HPa.out] at a0
                    rw [HEp.out.2.1, HTd.out] at a3
                    exact ⟨a0, a3, af 3⟩
                  obtain ⟨i1, hi1, hy0, hy1, hy2⟩ := info_parts Try.info110
                  generalize r.P.bd k = Bd at *
                  generalize hba : Bd.a = ba at *
                  have hwN : IntKind.i64.wrap ((len : Int) - 1) = (len : Int) - 1 := by simp [IntKind.wrap, IntKind.bits, IntKind.signed]; omega
                  have hkI2 : (k : Int) < (r.P.len : Int) := by omega
                  clear HHk HOk HPin
                  go_loopw [12, 13] (fun v x wr => ∃ (n : Nat) (td : List Gl), n ≤ Bd.len ∧ x = .int .i64 n ∧ LstT wp.heap.size wr v td ∧ td.length = n ∧ (∀ q ∈ td, Okv (N + 12) q.1) ∧ cgl td = ((kidsL Bd).take n).map (fun b => (ap (ownV N) b, ch.length)) ∧ Below wp.heap.size wp wr) (fun _ x _ => Bd.len - (intOf x).toNat)
                  case atStart => exact ⟨0, [], Nat.zero_le _, rfl, LstT.nil _ _, rfl, fun q hq => absurd hq (by simp), rfl, Below.refl _ _⟩
                  case round =>
                    obtain ⟨n, td, hn, rfl, hLt, hlt, hot, hct, hBt⟩ := hrel
                    have HLt : Hid (LstT wp.heap.size wr u12 td) := hLt
                    have HTl : Hid (td.length = n) := hlt
                    have HOt : Hid (∀ q ∈ td, Okv (N + 12) q.1) := hot
                    have HCt : Hid (cgl td = ((kidsL Bd).take n).map (fun b => (ap (ownV N) b, ch.length))) := hct
                    have HBw : Hid (Below wp.heap.size wp wr) := hBt
                    have htd6 : td.length ≤ 6 := by omega
                    obtain ⟨y0, y3, yf3⟩ := HY.out wr hBt
                    have c3 := (HBt.out wr hBt).1
                    clear hLt hlt hot hct hBt
                    by_cases hnl : n < Bd.len
                    case pos =>
                      obtain ⟨bb, o, ha, e0, e1, e2⟩ := (HBt.out wr HBw.out).2.row hnl
                      have HKt : Hid (TIn wr (Bd.f n)) := (HBt.out wr HBw.out).2.kid hnl
                      rw [hba] at ha
                      subst ha
                      have hnI : (n : Int) < (Bd.len : Int) := by omega
                      have HFb : Hid (Calls Try.prog 129 #[.agg #[.int .i64 (Bd.f n).v, .string (Bd.f n).nm, .slice (Bd.f n).a (Bd.f n).len (Bd.f n).cap], .int .i64 ((len : Int) - 1)] wr fun e w' => ∃ X : Tm, e = .returned (.agg #[.int .i64 X.v, .string X.nm, .slice X.a X.len X.cap]) ∧ Below wr.heap.size wr w' ∧ TIn w' X ∧ can X = ap (ownV N) (Bd.f n) ∧ Above wr.heap.size X) := by
                        have hlN := HLn.out
                        rw [show (len : Int) - 1 = N from by omega]
                        exact far_any (Bd.f n) N wr (by omega) HKt.out (HBo.out n hnl)
                      have HTk : Hid ((kidsL Bd).take (n + 1) = (kidsL Bd).take n ++ [Bd.f n]) := by
                        rw [Hid, List.take_succ_eq_append_getElem (by rw [kidsL_len]; exact hnl), kidsL_get]
                      go_wp2_with fail
                      refine HFb.out.mono ?_
                      rintro e w1 ⟨X, rfl, hb1, hX1, hc1, hA1⟩
                      have HB1 : Hid (Below wr.heap.size wr w1) := hb1
                      have HX1 : Hid (TIn w1 X ∧ can X = ap (ownV N) (Bd.f n) ∧ Above wr.heap.size X) := ⟨hX1, hc1, hA1⟩
                      have HBx : Hid (Below w1.heap.size w1 (w1.alloc (.cells #[.int .i64 X.v, .string X.nm, .slice X.a X.len X.cap, .int .i64 ch.length] 110))) := (Below.refl _ _).alloc (Nat.le_refl _) _
                      have HL1 : Hid (LstT wp.heap.size (w1.alloc (.cells #[.int .i64 X.v, .string X.nm, .slice X.a X.len X.cap, .int .i64 ch.length] 110)) u12 td) := (HLt.out.keep hb1).keep HBx.out
                      have HNw : Hid (∀ j u, (flatT [(X, ch.length)])[j]? = some u → (w1.alloc (.cells #[.int .i64 X.v, .string X.nm, .slice X.a X.len X.cap, .int .i64 ch.length] 110)).cell? ((⟨w1.heap.size, 0, none⟩ : Addr).add j) = some u) := newsT w1 (X, ch.length)
                      have hsz1 : wp.heap.size ≤ (w1.alloc (.cells #[.int .i64 X.v, .string X.nm, .slice X.a X.len X.cap, .int .i64 ch.length] 110)).heap.size := by have := HBw.out.size; have := hb1.size; simp; omega
                      clear hb1 hX1 hc1 hA1 e0 e1 e2 c3 y0 y3 yf3 HFb
                      go_wp2_with (at_builtin; refine wpList_append_own_at _ rfl (.tmp 123) (.tmp 139) 105 rfl wp.heap.size 110 i1 (.agg #[.int .i64 0, .string ⟨#[]⟩, .slice none 0 0, .int .i64 0]) 4 56 Try.underlying105 hi1 hy0 hy1 hy2 rfl (by decide) u12 td.length (flatT td) rfl HL1.out.own ⟨w1.heap.size, 0, none⟩ 1 1 (flatT [(X, ch.length)]) rfl rfl HNw.out (flatT_one _) (by unfold maxLen; omega) (by omega) hsz1 ?_; intro v' w6 hown' hgrow hnil hat)
                      have HB6 : Hid (Below wp.heap.size wp w6) := ((HBw.out.trans (HB1.out.mono HBw.out.size)).trans (HBx.out.mono (by have := HBw.out.size; have := HB1.out.size; omega))).grown hgrow hsz1 (fun q hq => (HL1.out.own.lt q hq).1)
                      have HL6 : Hid (LstT wp.heap.size w6 v' (td ++ [(X, ch.length)])) := HL1.out.more (HX1.out.1.below HBx.out) (HX1.out.2.2.mono HBw.out.size) (fun q hq => HX1.out.2.2.nb (HLt.out.own.lt q hq).2) hown' hgrow hat
                      have HO6 : Hid (∀ q ∈ td ++ [(X, ch.length)], Okv (N + 12) q.1) := fun q hq => by
                        rcases List.mem_append.1 hq with hq | hq
                        · exact HOt.out q hq
                        · rw [List.mem_singleton] at hq
                          subst hq
                          exact okv_of_can HX1.out.1 (by rw [HX1.out.2.1]; exact okv_own (by omega) (by omega) (HBo.out n hnl))
                      have HC6 : Hid (cgl (td ++ [(X, ch.length)]) = ((kidsL Bd).take (n + 1)).map (fun b => (ap (ownV N) b, ch.length))) := by
                        rw [Hid, cgl_append, HCt.out, HTk.out, List.map_append]
                        congr 1
                        show [(can X, ch.length)] = [(ap (ownV N) (Bd.f n), ch.length)]
                        rw [HX1.out.2.1]
                      have HT6 : Hid ((td ++ [(X, ch.length)]).length = n + 1) := by rw [Hid, List.length_append, HTl.out]; rfl
                      clear hown' hgrow hnil hat
                      go_wp2_with fail
                      go_roundw
                      case rel => exact ⟨n + 1, td ++ [(X, ch.length)], by omega, by go_num, HL6.out, HT6.out, HO6.out, HC6.out, HB6.out⟩
                      case measure => simp [intOf]; omega
                    have hne : n = Bd.len := by omega
                    have HCe : Hid (cgl td = (kidsL Bd).map (fun b => (ap (ownV N) b, ch.length))) := by
                      rw [Hid, HCt.out, hne, List.take_of_length_le (by rw [kidsL_len]; exact Nat.le_refl _)]
                    have hRw := HRp.out.below HBw.out
                    have HRw : Hid (RS w0 wr s rp g2 cap2 (len + 12) (N + 12) τ2 ρ2 rk2 σ2 wk2 ((T0, c0) :: rest) ch' an) := hRw
                    obtain ⟨bt', ot', ct', htd', _, _, htM', _, _, htl'⟩ := hRw.td.first
                    rw [HEp.out.2.1, HTd.out] at htd'
                    injection htd' with hx1 hx2 hx3
                    injection hx1 with hx1
                    injection hx1 with hx4 hx5 _
                    subst hx4 hx5 hx3
                    have hsl := tail_runT bt ot (rest.length + 1) ct (by omega)
                    rw [show rest.length + 1 - 1 = rest.length from by omega] at hsl
                    generalize (if ct = 1 then ot else ot + 4) = o2 at *
                    have HTl2 : Hid (TD wr (Mq s g2 rp.kept rp.av) (N + 12) (.slice (some ⟨bt, o2, none⟩) rest.length (ct - 1)) rest) := htl'
                    have HNw : Hid (∀ j u, (flatT rest)[j]? = some u → wr.cell? ((⟨bt, o2, none⟩ : Addr).add j) = some u) := td_news htl'
                    have hszw : wp.heap.size ≤ wr.heap.size := HBw.out.size
                    have hlT : (flatT rest).length = rest.length * 4 := flatT_len rest
                    have hslp : s < wp.heap.size := HRp.out.rf.lt.1
                    have hnI : ¬ ((n : Int) < (Bd.len : Int)) := by omega
                    clear hne hRw htM' htl' hx2
                    go_wp2_with (at_builtin; refine wpList_append_own_at _ rfl (.tmp 142) (.tmp 147) 105 rfl wp.heap.size 110 i1 (.agg #[.int .i64 0, .string ⟨#[]⟩, .slice none 0 0, .int .i64 0]) 4 56 Try.underlying105 hi1 hy0 hy1 hy2 rfl (by decide) u12 td.length (flatT td) rfl HLt.out.own ⟨bt, o2, none⟩ rest.length (ct - 1) (flatT rest) rfl hlT HNw.out (flatT_one _) (by unfold maxLen; omega) (by omega) hszw ?_; intro v' w6 hown' hgrow hnil hat; have hv' : ∃ a6 c6, v' = .slice a6 (td.length + rest.length) c6 := (by rcases hown'.2 with ⟨h, h0⟩ | ⟨g', cap', _, h, _⟩; (· exact ⟨none, 0, by rw [h, h0]⟩); (· exact ⟨_, _, h⟩)); obtain ⟨a6, c6, rfl⟩ := hv'; have hst : w6.heap[s]? = wr.heap[s]? := hgrow.block s (by omega) (fun e => by have := (HLt.out.own.lt s e.symm).1; omega); have q3 : w6.cell? ⟨s, 3, none⟩ = some (.slice (some ⟨bt, ot, none⟩) (rest.length + 1) ct) := (World.cell?_of_block hst).trans y3; have qf3 : w6.frozen? ⟨s, 3, none⟩ = false := (World.frozen?_of_block hst).trans yf3)
                    have HB6 : Hid (Below wr.heap.size wr w6 ∨ True) := .inr trivial
                    have hBp6 : Below wp.heap.size wp w6 := HBw.out.grown hgrow hszw (fun q hq => (HLt.out.own.lt q hq).1)
                    have hR6 := HRp.out.below hBp6
                    have hbw6 : Bw (Mq s g2 rp.kept rp.av) wr.heap.size wr w6 ∨ True := .inr trivial
                    have hTd6 : TD w6 (Mq s g2 rp.kept rp.av) (N + 12) (.slice a6 (td.length + rest.length) c6) (td ++ rest) := by
                      refine td_own (lo := wp.heap.size) (by rw [List.length_append, flatT_append]; exact hown') (fun q hq e => ?_) (fun q hq => ?_)
                      · have h1 := (hown'.lt q hq).1
                        have h2 := (HRp.out.mu e).2
                        omega
                      · rcases List.mem_append.1 hq with hq | hq
                        · obtain ⟨h1, h2, h3⟩ := HLt.out.all q hq
                          exact ⟨h1.grown hgrow h3, h2.nm (fun j hj => (HRp.out.mu hj).2), HOt.out q hq⟩
                        · obtain ⟨i', hi', rfl⟩ := List.getElem_of_mem hq
                          have hp := hR6.td.first
                          obtain ⟨_, _, _, _, _, _, _, _, _, htl6⟩ := hp
                          obtain ⟨_, _, _, _, _, h4⟩ := htl6
                          exact (h4 i' hi').2
                    have HFinal : Hid (RS w0 (w6.setCell ⟨s, 3, none⟩ (.slice a6 (td.length + rest.length) c6)) s { rp with todo := .slice a6 (td.length + rest.length) c6 } g2 cap2 (len + 12) (N + 12) τ2 ρ2 rk2 σ2 wk2 (td ++ rest) ch' an) := hR6.put 3 _ rfl rfl rfl rfl hTd6
                    have hz6 : w.heap.size ≤ (w6.setCell ⟨s, 3, none⟩ (.slice a6 (td.length + rest.length) c6)).heap.size := by have := hBp6.size; simp [World.setCell]; omega
                    have HTF : Hid (tryQ (cls r.P) (cgl ((T0, c0) :: rest)) (can U) (r.P.len + 1) i X0 L = (absQ { rp with todo := .slice a6 (td.length + rest.length) c6 } (N + 12) σ2 (td ++ rest) ch' an, true)) := by
                      rw [Hid, HT10.out, HX0.out]
                      unfold absQ
                      rw [cgl_append, HCe.out]
                      show (({ gl := _, ch := _, σ := _, N := _, ans := _, fin := r.fin.toNat, st := r.st.toNat } : QS), true) = (({ gl := _, ch := _, σ := _, N := _, ans := _, fin := rp.fin.toNat, st := rp.st.toNat } : QS), true)
                      rw [HEp.out.2.2.1, HEp.out.2.2.2.2, HFin.out]
                    clear hown' hgrow hnil hat hst q3 qf3 hBp6 hR6 hTd6 hbw6 HB6
                    go_wp2_with fail
                    go_ret
                    exact ⟨true, { rp with todo := .slice a6 (td.length + rest.length) c6 }, g2, cap2, len + 12, N + 12, N + 12, τ2, ρ2, rk2, σ2, σ2, wk2, td ++ rest, td ++ rest, ch', rfl, HFinal.out, by rw [HHd.out, ← HX0.out]; exact HTF.out, fun _ => ⟨rfl, rfl, rfl, HDm.out⟩, ⟨HEp.out.1, HEp.out.2.2.2.1, HEp.out.2.2.2.2⟩, .inl ⟨HEp.out.2.2.1, fun h => absurd h (by decide)⟩, Int.le_refl _, by rw [List.length_append]; show _ ≤ rest.length + 1 + 6; omega, HLp.out.1, HLp.out.2, hz6⟩
                | some q =>
                  have hq2 := fit_lt hq
                  have HT10 : Hid (tryQ (cls r.P) (cgl ((T0, c0) :: rest)) (can U) (r.P.len + 1) i X0 L = ({ X0 with N := N + 12, σ := cs σ2, gl := ((kidsL (r.P.bd k)).map fun b => (ap (ownV N) b, ch.length)) ++ cgl rest, ch := (ch ++ [(⟨.slice (some ⟨gb, 0, none⟩) len cb, .slice (some ⟨bt, ot, none⟩) (rest.length + 1) ct, (T0, c0) :: rest, q, N, len, τ, ρ, rk, σ⟩ : Kr)]).map kq }, true)) := by
                    rw [Hid, HT9.out, hq, HX0.out, List.map_append]; rfl
                  rw [show fitN r.P (some q) = q from rfl]
                  have hqI : (q : Int) < (r.P.len : Int) := by omega
                  obtain ⟨i3, hi3, hk0, hk1, hk2⟩ := info_parts Try.info176
                  have hBa : Below wc.heap.size wc (wc.alloc (.cells #[.slice (some ⟨gb, 0, none⟩) len cb, .slice (some ⟨bt, ot, none⟩) (rest.length + 1) ct, .int .i64 q] 176)) := (Below.refl _ _).alloc (Nat.le_refl _) _
                  have hRa := HR8.out.below hBa
                  have HRa : Hid (RS w0 (wc.alloc (.cells #[.slice (some ⟨gb, 0, none⟩) len cb, .slice (some ⟨bt, ot, none⟩) (rest.length + 1) ct, .int .i64 q] 176)) s r g2 cap2 (len + 12) (N + 12) τ2 ρ2 rk2 σ2 wk2 ((T0, c0) :: rest) ch an) := hRa
                  have HBa : Hid (BT (wc.alloc (.cells #[.slice (some ⟨gb, 0, none⟩) len cb, .slice (some ⟨bt, ot, none⟩) (rest.length + 1) ct, .int .i64 q] 176)) (Mq s g2 r.kept r.av) (.slice (some ⟨gb, 0, none⟩) len cb) N len τ ρ rk σ r.todo ((T0, c0) :: rest)) := HB8.out.next (Bw.ofBelow hBa) (fun _ _ e => e)
                  have HOa : Hid ((wc.alloc (.cells #[.slice (some ⟨gb, 0, none⟩) len cb, .slice (some ⟨bt, ot, none⟩) (rest.length + 1) ct, .int .i64 q] 176)).ownsRow w0.heap.size 176 3 (.slice ka ch.length kc) ch.length (flatK ch)) := by have := hRa.kr; rwa [HKf.out] at this
                  have HNa : Hid (∀ j u, (flatK [(⟨.slice (some ⟨gb, 0, none⟩) len cb, .slice (some ⟨bt, ot, none⟩) (rest.length + 1) ct, (T0, c0) :: rest, q, N, len, τ, ρ, rk, σ⟩ : Kr)])[j]? = some u → (wc.alloc (.cells #[.slice (some ⟨gb, 0, none⟩) len cb, .slice (some ⟨bt, ot, none⟩) (rest.length + 1) ct, .int .i64 q] 176)).cell? ((⟨wc.heap.size, 0, none⟩ : Addr).add j) = some u) := newsK wc ⟨.slice (some ⟨gb, 0, none⟩) len cb, .slice (some ⟨bt, ot, none⟩) (rest.length + 1) ct, (T0, c0) :: rest, q, N, len, τ, ρ, rk, σ⟩
                  have HFa : Hid (∀ u ∈ flatK [(⟨.slice (some ⟨gb, 0, none⟩) len cb, .slice (some ⟨bt, ot, none⟩) (rest.length + 1) ct, (T0, c0) :: rest, q, N, len, τ, ρ, rk, σ⟩ : Kr)], u.oneCell' = true) := by
                    intro u hu
                    simp [flatK, cellsK] at hu
                    rcases hu with rfl | rfl | rfl <;> rfl
                  have hsw : s < wc.heap.size := HR8.out.rf.lt.1
                  have hlo : w0.heap.size ≤ (wc.alloc (.cells #[.slice (some ⟨gb, 0, none⟩) len cb, .slice (some ⟨bt, ot, none⟩) (rest.length + 1) ct, .int .i64 q] 176)).heap.size := hRa.low.size
                  have HDk : Hid (∀ p, (Value.slice ka ch.length kc).ownBlock = some p → p ≠ s) := fun p hp => (HR8.out.dk p (by rw [HKf.out]; exact hp)).1
                  clear hq HT9 hBa hRa
                  go_wp2_with fail
                  go_cut [] from 94 to 109 (fun wx => ∃ kv, RS w0 wx s { r with kept := kv } g2 cap2 (len + 12) (N + 12) τ2 ρ2 rk2 σ2 wk2 ((T0, c0) :: rest) (ch ++ [(⟨.slice (some ⟨gb, 0, none⟩) len cb, .slice (some ⟨bt, ot, none⟩) (rest.length + 1) ct, (T0, c0) :: rest, q, N, len, τ, ρ, rk, σ⟩ : Kr)]) an ∧ w.heap.size ≤ wx.heap.size)
                  case first =>
                    go_region_law (refine step_append_own_at rfl (.tmp 98) (.tmp 106) 106 rfl w0.heap.size 176 i3 (.agg #[.slice none 0 0, .slice none 0 0, .int .i64 0]) 3 56 Try.underlying106 hi3 hk0 hk1 hk2 rfl (by decide) (.slice ka ch.length kc) ch.length (flatK ch) (by first | rfl | simp [Act.eval, Act.put]) HOa.out ⟨wc.heap.size, 0, none⟩ 1 1 (flatK [(⟨.slice (some ⟨gb, 0, none⟩) len cb, .slice (some ⟨bt, ot, none⟩) (rest.length + 1) ct, (T0, c0) :: rest, q, N, len, τ, ρ, rk, σ⟩ : Kr)]) (by first | rfl | simp [Act.eval, Act.put]) rfl HNa.out HFa.out (by unfold maxLen; omega) (by omega) hlo (by omega) ?_
                                   intro g9 cap9 w9 hown9 hg9 hat9
                                   have HG9 : Hid ((wc.alloc (.cells #[.slice (some ⟨gb, 0, none⟩) len cb, .slice (some ⟨bt, ot, none⟩) (rest.length + 1) ct, .int .i64 q] 176)).grownBy w9 (Value.slice ka ch.length kc).ownBlock) := ⟨hg9.os, hg9.tape, hg9.output, hg9.size, hg9.block⟩
                                   have HO9 : Hid (w9.ownsRow w0.heap.size 176 3 (.slice (some ⟨g9, 0, none⟩) (ch.length + 1) cap9) (ch.length + 1) (flatK ch ++ flatK [(⟨.slice (some ⟨gb, 0, none⟩) len cb, .slice (some ⟨bt, ot, none⟩) (rest.length + 1) ct, (T0, c0) :: rest, q, N, len, τ, ρ, rk, σ⟩ : Kr)])) := hown9
                                   have HA9 : Hid (some g9 = (Value.slice ka ch.length kc).ownBlock ∨ g9 = (wc.alloc (.cells #[.slice (some ⟨gb, 0, none⟩) len cb, .slice (some ⟨bt, ot, none⟩) (rest.length + 1) ct, .int .i64 q] 176)).heap.size) := hat9
                                   have hst9 : w9.heap[s]? = wc.heap[s]? := (hg9.block s (by simp; omega) (fun e => HDk.out s e.symm rfl)).trans (heap_alloc_old _ _ hsw)
                                   have q4 : w9.cell? ⟨s, 4, none⟩ = some (.slice ka ch.length kc) := (World.cell?_of_block hst9).trans y4
                                   have qf4 : w9.frozen? ⟨s, 4, none⟩ = false := (World.frozen?_of_block hst9).trans yf4
                                   clear hown9 hg9 hat9 hst9)
                    all_goals
                      go_wp2_with fail
                      go_meet
                      case rel =>
                        refine ⟨.slice (some ⟨g9, 0, none⟩) (ch.length + 1) cap9, HRa.out.keptTo (by rw [HKf.out]; exact HG9.out) (fun p hp => ?_) (by rw [List.length_append, flatK_append]; exact HO9.out) (fun c' hc' => ?_) (fun c' hc' => ?_), ?_⟩
                        · rw [HKf.out]
                          have hp' : g9 = p := by simpa [Value.ownBlock] using hp
                          subst hp'
                          rcases HA9.out with e | e
                          · exact .inl e.symm
                          · exact .inr (by omega)
                        · rcases List.mem_append.1 hc' with hc' | hc'
                          · exact HRa.out.hd c' hc'
                          · rw [List.mem_singleton] at hc'
                            subst hc'
                            exact ⟨by simp, HV0.out, by show q ≤ r.P.len; omega⟩
                        · rcases List.mem_append.1 hc' with hc' | hc'
                          · exact HRa.out.kt c' hc'
                          · rw [List.mem_singleton] at hc'
                            subst hc'
                            exact ⟨by have := HBa.out.2; rw [HTd.out] at this; exact this, HBa.out.1⟩
                        · have h1 := HG9.out.size
                          have h2 : wc.heap.size ≤ (wc.alloc (.cells #[.slice (some ⟨gb, 0, none⟩) len cb, .slice (some ⟨bt, ot, none⟩) (rest.length + 1) ct, .int .i64 q] 176)).heap.size := by simp
                          have h3 : w.heap.size ≤ w9.heap.size := by omega
                          simpa [World.setCell] using h3
                  case rest =>
                    obtain ⟨kv, hRk, hz10⟩ := hcut
                    obtain ⟨rp, ch', hRp, hEp, hT10', hLp⟩ : ∃ (rp : Rr) (ch' : List Kr), RS w0 wc s rp g2 cap2 (len + 12) (N + 12) τ2 ρ2 rk2 σ2 wk2 ((T0, c0) :: rest) ch' an ∧ (rp.P = r.P ∧ rp.todo = r.todo ∧ rp.fin = 0 ∧ rp.query = r.query ∧ rp.st = r.st) ∧ tryQ (cls r.P) (cgl ((T0, c0) :: rest)) (can U) (r.P.len + 1) i X0 L = ({ X0 with N := N + 12, σ := cs σ2, gl := ((kidsL (r.P.bd k)).map fun b => (ap (ownV N) b, ch.length)) ++ cgl rest, ch := ch'.map kq }, true) ∧ (∀ c ∈ ch', c ∈ ch ∨ (c.N = N ∧ c.gl = (T0, c0) :: rest)) ∧ ch'.length ≤ ch.length + 1 := ⟨{ r with kept := kv }, _, hRk, ⟨rfl, rfl, HFin.out, rfl, rfl⟩, HT10.out, fun c hc => by
                      rcases List.mem_append.1 hc with hc | hc
                      · exact .inl hc
                      · rw [List.mem_singleton] at hc; subst hc; exact .inr ⟨rfl, rfl⟩, by rw [List.length_append]; exact Nat.le_refl _⟩
                    clear HT10 hRk HRa HBa HOa HNa HFa HDk hlo hsw hz9
                    have hz9 := hz10
                    clear hz10
                    go_wp2_with fail
                    clear y0 y3 y4 yf4
                    have HRp : Hid (RS w0 wc s rp g2 cap2 (len + 12) (N + 12) τ2 ρ2 rk2 σ2 wk2 ((T0, c0) :: rest) ch' an) := hRp
                    have HEp : Hid (rp.P = r.P ∧ rp.todo = r.todo ∧ rp.fin = 0 ∧ rp.query = r.query ∧ rp.st = r.st) := hEp
                    have HT10 : Hid (tryQ (cls r.P) (cgl ((T0, c0) :: rest)) (can U) (r.P.len + 1) i X0 L = ({ X0 with N := N + 12, σ := cs σ2, gl := ((kidsL (r.P.bd k)).map fun b => (ap (ownV N) b, ch.length)) ++ cgl rest, ch := ch'.map kq }, true)) := hT10'
                    have HLp : Hid ((∀ c ∈ ch', c ∈ ch ∨ (c.N = N ∧ c.gl = (T0, c0) :: rest)) ∧ ch'.length ≤ ch.length + 1) := hLp
                    clear hRp hEp hT10' hLp HR8 HB8 HX8 HKf HK6
                    generalize wc = wp at *
                    have hBl : (r.P.bd k).len ≤ 6 := HOk.out.2.1
                    have HBt : Hid (∀ W, Below wp.heap.size wp W → W.cell? ⟨bp, op + k * 4 + 3, none⟩ = some (.slice (r.P.bd k).a (r.P.bd k).len (r.P.bd k).cap) ∧ TIn W (r.P.bd k)) := fun W hW => ⟨(HHk.out W (HRp.out.below hW).low).2.2.2.1, (HHk.out W (HRp.out.below hW).low).2.2.2.2.2⟩
                    have HBo : Hid (∀ q, q < (r.P.bd k).len → Okv 12 ((r.P.bd k).f q)) := HOk.out.2.2
                    have HY : Hid (∀ W, Below wp.heap.size wp W → W.cell? ⟨s, 0, none⟩ = some (.slice (some ⟨bp, op, none⟩) r.P.len r.P.cap) ∧ W.cell? ⟨s, 3, none⟩ = some (.slice (some ⟨bt, ot, none⟩) (rest.length + 1) ct) ∧ W.frozen? ⟨s, 3, none⟩ = false) := fun W hW => by
                      obtain ⟨a0, _, _, a3, _, _, _, _, _, af⟩ := (HRp.out.below hW).get
                      rw [HEp.out.1, HPa.out] at a0
                      rw [HEp.out.2.1, HTd.out] at a3
                      exact ⟨a0, a3, af 3⟩
                    obtain ⟨i1, hi1, hy0, hy1, hy2⟩ := info_parts Try.info110
                    generalize r.P.bd k = Bd at *
                    generalize hba : Bd.a = ba at *
                    have hwN : IntKind.i64.wrap ((len : Int) - 1) = (len : Int) - 1 := by simp [IntKind.wrap, IntKind.bits, IntKind.signed]; omega
                    have hkI2 : (k : Int) < (r.P.len : Int) := by omega
                    clear HHk HOk HPin
                    go_loopw [12, 13] (fun v x wr => ∃ (n : Nat) (td : List Gl), n ≤ Bd.len ∧ x = .int .i64 n ∧ LstT wp.heap.size wr v td ∧ td.length = n ∧ (∀ q ∈ td, Okv (N + 12) q.1) ∧ cgl td = ((kidsL Bd).take n).map (fun b => (ap (ownV N) b, ch.length)) ∧ Below wp.heap.size wp wr) (fun _ x _ => Bd.len - (intOf x).toNat)
                    case atStart => exact ⟨0, [], Nat.zero_le _, rfl, LstT.nil _ _, rfl, fun q hq => absurd hq (by simp), rfl, Below.refl _ _⟩
                    case round =>
                      obtain ⟨n, td, hn, rfl, hLt, hlt, hot, hct, hBt⟩ := hrel
                      have HLt : Hid (LstT wp.heap.size wr u12 td) := hLt
                      have HTl : Hid (td.length = n) := hlt
                      have HOt : Hid (∀ q ∈ td, Okv (N + 12) q.1) := hot
                      have HCt : Hid (cgl td = ((kidsL Bd).take n).map (fun b => (ap (ownV N) b, ch.length))) := hct
                      have HBw : Hid (Below wp.heap.size wp wr) := hBt
                      have htd6 : td.length ≤ 6 := by omega
                      obtain ⟨y0, y3, yf3⟩ := HY.out wr hBt
                      have c3 := (HBt.out wr hBt).1
                      clear hLt hlt hot hct hBt
                      by_cases hnl : n < Bd.len
                      case pos =>
                        obtain ⟨bb, o, ha, e0, e1, e2⟩ := (HBt.out wr HBw.out).2.row hnl
                        have HKt : Hid (TIn wr (Bd.f n)) := (HBt.out wr HBw.out).2.kid hnl
                        rw [hba] at ha
                        subst ha
                        have hnI : (n : Int) < (Bd.len : Int) := by omega
                        have HFb : Hid (Calls Try.prog 129 #[.agg #[.int .i64 (Bd.f n).v, .string (Bd.f n).nm, .slice (Bd.f n).a (Bd.f n).len (Bd.f n).cap], .int .i64 ((len : Int) - 1)] wr fun e w' => ∃ X : Tm, e = .returned (.agg #[.int .i64 X.v, .string X.nm, .slice X.a X.len X.cap]) ∧ Below wr.heap.size wr w' ∧ TIn w' X ∧ can X = ap (ownV N) (Bd.f n) ∧ Above wr.heap.size X) := by
                          have hlN := HLn.out
                          rw [show (len : Int) - 1 = N from by omega]
                          exact far_any (Bd.f n) N wr (by omega) HKt.out (HBo.out n hnl)
                        have HTk : Hid ((kidsL Bd).take (n + 1) = (kidsL Bd).take n ++ [Bd.f n]) := by
                          rw [Hid, List.take_succ_eq_append_getElem (by rw [kidsL_len]; exact hnl), kidsL_get]
                        go_wp2_with fail
                        refine HFb.out.mono ?_
                        rintro e w1 ⟨X, rfl, hb1, hX1, hc1, hA1⟩
                        have HB1 : Hid (Below wr.heap.size wr w1) := hb1
                        have HX1 : Hid (TIn w1 X ∧ can X = ap (ownV N) (Bd.f n) ∧ Above wr.heap.size X) := ⟨hX1, hc1, hA1⟩
                        have HBx : Hid (Below w1.heap.size w1 (w1.alloc (.cells #[.int .i64 X.v, .string X.nm, .slice X.a X.len X.cap, .int .i64 ch.length] 110))) := (Below.refl _ _).alloc (Nat.le_refl _) _
                        have HL1 : Hid (LstT wp.heap.size (w1.alloc (.cells #[.int .i64 X.v, .string X.nm, .slice X.a X.len X.cap, .int .i64 ch.length] 110)) u12 td) := (HLt.out.keep hb1).keep HBx.out
                        have HNw : Hid (∀ j u, (flatT [(X, ch.length)])[j]? = some u → (w1.alloc (.cells #[.int .i64 X.v, .string X.nm, .slice X.a X.len X.cap, .int .i64 ch.length] 110)).cell? ((⟨w1.heap.size, 0, none⟩ : Addr).add j) = some u) := newsT w1 (X, ch.length)
                        have hsz1 : wp.heap.size ≤ (w1.alloc (.cells #[.int .i64 X.v, .string X.nm, .slice X.a X.len X.cap, .int .i64 ch.length] 110)).heap.size := by have := HBw.out.size; have := hb1.size; simp; omega
                        clear hb1 hX1 hc1 hA1 e0 e1 e2 c3 y0 y3 yf3 HFb
                        go_wp2_with (at_builtin; refine wpList_append_own_at _ rfl (.tmp 123) (.tmp 139) 105 rfl wp.heap.size 110 i1 (.agg #[.int .i64 0, .string ⟨#[]⟩, .slice none 0 0, .int .i64 0]) 4 56 Try.underlying105 hi1 hy0 hy1 hy2 rfl (by decide) u12 td.length (flatT td) rfl HL1.out.own ⟨w1.heap.size, 0, none⟩ 1 1 (flatT [(X, ch.length)]) rfl rfl HNw.out (flatT_one _) (by unfold maxLen; omega) (by omega) hsz1 ?_; intro v' w6 hown' hgrow hnil hat)
                        have HB6 : Hid (Below wp.heap.size wp w6) := ((HBw.out.trans (HB1.out.mono HBw.out.size)).trans (HBx.out.mono (by have := HBw.out.size; have := HB1.out.size; omega))).grown hgrow hsz1 (fun q hq => (HL1.out.own.lt q hq).1)
                        have HL6 : Hid (LstT wp.heap.size w6 v' (td ++ [(X, ch.length)])) := HL1.out.more (HX1.out.1.below HBx.out) (HX1.out.2.2.mono HBw.out.size) (fun q hq => HX1.out.2.2.nb (HLt.out.own.lt q hq).2) hown' hgrow hat
                        have HO6 : Hid (∀ q ∈ td ++ [(X, ch.length)], Okv (N + 12) q.1) := fun q hq => by
                          rcases List.mem_append.1 hq with hq | hq
                          · exact HOt.out q hq
                          · rw [List.mem_singleton] at hq
                            subst hq
                            exact okv_of_can HX1.out.1 (by rw [HX1.out.2.1]; exact okv_own (by omega) (by omega) (HBo.out n hnl))
                        have HC6 : Hid (cgl (td ++ [(X, ch.length)]) = ((kidsL Bd).take (n + 1)).map (fun b => (ap (ownV N) b, ch.length))) := by
                          rw [Hid, cgl_append, HCt.out, HTk.out, List.map_append]
                          congr 1
                          show [(can X, ch.length)] = [(ap (ownV N) (Bd.f n), ch.length)]
                          rw [HX1.out.2.1]
                        have HT6 : Hid ((td ++ [(X, ch.length)]).length = n + 1) := by rw [Hid, List.length_append, HTl.out]; rfl
                        clear hown' hgrow hnil hat
                        go_wp2_with fail
                        go_roundw
                        case rel => exact ⟨n + 1, td ++ [(X, ch.length)], by omega, by go_num, HL6.out, HT6.out, HO6.out, HC6.out, HB6.out⟩
                        case measure => simp [intOf]; omega
                      have hne : n = Bd.len := by omega
                      have HCe : Hid (cgl td = (kidsL Bd).map (fun b => (ap (ownV N) b, ch.length))) := by
                        rw [Hid, HCt.out, hne, List.take_of_length_le (by rw [kidsL_len]; exact Nat.le_refl _)]
                      have hRw := HRp.out.below HBw.out
                      have HRw : Hid (RS w0 wr s rp g2 cap2 (len + 12) (N + 12) τ2 ρ2 rk2 σ2 wk2 ((T0, c0) :: rest) ch' an) := hRw
                      obtain ⟨bt', ot', ct', htd', _, _, htM', _, _, htl'⟩ := hRw.td.first
                      rw [HEp.out.2.1, HTd.out] at htd'
                      injection htd' with hx1 hx2 hx3
                      injection hx1 with hx1
                      injection hx1 with hx4 hx5 _
                      subst hx4 hx5 hx3
                      have hsl := tail_runT bt ot (rest.length + 1) ct (by omega)
                      rw [show rest.length + 1 - 1 = rest.length from by omega] at hsl
                      generalize (if ct = 1 then ot else ot + 4) = o2 at *
                      have HTl2 : Hid (TD wr (Mq s g2 rp.kept rp.av) (N + 12) (.slice (some ⟨bt, o2, none⟩) rest.length (ct - 1)) rest) := htl'
                      have HNw : Hid (∀ j u, (flatT rest)[j]? = some u → wr.cell? ((⟨bt, o2, none⟩ : Addr).add j) = some u) := td_news htl'
                      have hszw : wp.heap.size ≤ wr.heap.size := HBw.out.size
                      have hlT : (flatT rest).length = rest.length * 4 := flatT_len rest
                      have hslp : s < wp.heap.size := HRp.out.rf.lt.1
                      have hnI : ¬ ((n : Int) < (Bd.len : Int)) := by omega
                      clear hne hRw htM' htl' hx2
                      go_wp2_with (at_builtin; refine wpList_append_own_at _ rfl (.tmp 142) (.tmp 147) 105 rfl wp.heap.size 110 i1 (.agg #[.int .i64 0, .string ⟨#[]⟩, .slice none 0 0, .int .i64 0]) 4 56 Try.underlying105 hi1 hy0 hy1 hy2 rfl (by decide) u12 td.length (flatT td) rfl HLt.out.own ⟨bt, o2, none⟩ rest.length (ct - 1) (flatT rest) rfl hlT HNw.out (flatT_one _) (by unfold maxLen; omega) (by omega) hszw ?_; intro v' w6 hown' hgrow hnil hat; have hv' : ∃ a6 c6, v' = .slice a6 (td.length + rest.length) c6 := (by rcases hown'.2 with ⟨h, h0⟩ | ⟨g', cap', _, h, _⟩; (· exact ⟨none, 0, by rw [h, h0]⟩); (· exact ⟨_, _, h⟩)); obtain ⟨a6, c6, rfl⟩ := hv'; have hst : w6.heap[s]? = wr.heap[s]? := hgrow.block s (by omega) (fun e => by have := (HLt.out.own.lt s e.symm).1; omega); have q3 : w6.cell? ⟨s, 3, none⟩ = some (.slice (some ⟨bt, ot, none⟩) (rest.length + 1) ct) := (World.cell?_of_block hst).trans y3; have qf3 : w6.frozen? ⟨s, 3, none⟩ = false := (World.frozen?_of_block hst).trans yf3)
                      have HB6 : Hid (Below wr.heap.size wr w6 ∨ True) := .inr trivial
                      have hBp6 : Below wp.heap.size wp w6 := HBw.out.grown hgrow hszw (fun q hq => (HLt.out.own.lt q hq).1)
                      have hR6 := HRp.out.below hBp6
                      have hbw6 : Bw (Mq s g2 rp.kept rp.av) wr.heap.size wr w6 ∨ True := .inr trivial
                      have hTd6 : TD w6 (Mq s g2 rp.kept rp.av) (N + 12) (.slice a6 (td.length + rest.length) c6) (td ++ rest) := by
                        refine td_own (lo := wp.heap.size) (by rw [List.length_append, flatT_append]; exact hown') (fun q hq e => ?_) (fun q hq => ?_)
                        · have h1 := (hown'.lt q hq).1
                          have h2 := (HRp.out.mu e).2
                          omega
                        · rcases List.mem_append.1 hq with hq | hq
                          · obtain ⟨h1, h2, h3⟩ := HLt.out.all q hq
                            exact ⟨h1.grown hgrow h3, h2.nm (fun j hj => (HRp.out.mu hj).2), HOt.out q hq⟩
                          · obtain ⟨i', hi', rfl⟩ := List.getElem_of_mem hq
                            have hp := hR6.td.first
                            obtain ⟨_, _, _, _, _, _, _, _, _, htl6⟩ := hp
                            obtain ⟨_, _, _, _, _, h4⟩ := htl6
                            exact (h4 i' hi').2
                      have HFinal : Hid (RS w0 (w6.setCell ⟨s, 3, none⟩ (.slice a6 (td.length + rest.length) c6)) s { rp with todo := .slice a6 (td.length + rest.length) c6 } g2 cap2 (len + 12) (N + 12) τ2 ρ2 rk2 σ2 wk2 (td ++ rest) ch' an) := hR6.put 3 _ rfl rfl rfl rfl hTd6
                      have hz6 : w.heap.size ≤ (w6.setCell ⟨s, 3, none⟩ (.slice a6 (td.length + rest.length) c6)).heap.size := by have := hBp6.size; simp [World.setCell]; omega
                      have HTF : Hid (tryQ (cls r.P) (cgl ((T0, c0) :: rest)) (can U) (r.P.len + 1) i X0 L = (absQ { rp with todo := .slice a6 (td.length + rest.length) c6 } (N + 12) σ2 (td ++ rest) ch' an, true)) := by
                        rw [Hid, HT10.out, HX0.out]
                        unfold absQ
                        rw [cgl_append, HCe.out]
                        show (({ gl := _, ch := _, σ := _, N := _, ans := _, fin := r.fin.toNat, st := r.st.toNat } : QS), true) = (({ gl := _, ch := _, σ := _, N := _, ans := _, fin := rp.fin.toNat, st := rp.st.toNat } : QS), true)
                        rw [HEp.out.2.2.1, HEp.out.2.2.2.2, HFin.out]
                      clear hown' hgrow hnil hat hst q3 qf3 hBp6 hR6 hTd6 hbw6 HB6
                      go_wp2_with fail
                      go_ret
                      exact ⟨true, { rp with todo := .slice a6 (td.length + rest.length) c6 }, g2, cap2, len + 12, N + 12, N + 12, τ2, ρ2, rk2, σ2, σ2, wk2, td ++ rest, td ++ rest, ch', rfl, HFinal.out, by rw [HHd.out, ← HX0.out]; exact HTF.out, fun _ => ⟨rfl, rfl, rfl, HDm.out⟩, ⟨HEp.out.1, HEp.out.2.2.2.1, HEp.out.2.2.2.2⟩, .inl ⟨HEp.out.2.2.1, fun h => absurd h (by decide)⟩, Int.le_refl _, by rw [List.length_append]; show _ ≤ rest.length + 1 + 6; omega, HLp.out.1, HLp.out.2, hz6⟩
where
  lk_from {N : Int} {τ ρ : Int → Tm} {r : Int → Nat} {σ : Sg} {T : Tm} (hC : Chain N τ ρ r) (hT : Okv N T) (hz : (lk ρ T).v = 0) (he : wha σ T = lk ρ T) : wha σ T = T ∨ ∃ v, 0 < v ∧ v ≤ N ∧ wha σ T = τ v := by
    by_cases hv : T.v = 0
    · left; rw [he]; unfold lk; rw [if_pos hv]
    · right
      have hp := hT.top
      have e1 : lk ρ T = ρ T.v := by unfold lk; rw [if_neg hv]
      have key : ∀ (n : Nat) (u : Int), r u = n → 0 < u → u ≤ N → (ρ u).v = 0 → ∃ v, 0 < v ∧ v ≤ N ∧ ρ u = τ v := by
        intro n
        induction n using Nat.strongRecOn with
        | _ n ih =>
          intro u hn h0 h1 hz
          obtain ⟨ho, hc⟩ := hC u h0 h1
          rcases hc with ⟨_, h3⟩ | ⟨h2, h3, h4⟩
          · omega
          · by_cases ht : (τ u).v = 0
            · exact ⟨u, h0, h1, by rw [← h3]; unfold lk; rw [if_pos ht]⟩
            · have e2 : lk ρ (τ u) = ρ (τ u).v := by unfold lk; rw [if_neg ht]
              rw [e2] at h3
              have := ho.top
              obtain ⟨v, v0, v1, v2⟩ := ih (r (τ u).v) (by have := h4 ht; omega) (τ u).v rfl (by omega) (by omega) (by rw [h3]; exact hz)
              exact ⟨v, v0, v1, by rw [← h3]; exact v2⟩
      obtain ⟨v, v0, v1, v2⟩ := key (r T.v) T.v rfl (by omega) hp.2.1 (by rw [← e1]; exact hz)
      exact ⟨v, v0, v1, by rw [he, e1]; exact v2⟩
end Go.Proofs.Ytmggaclaoefdaaa
