/- A search: a clause is entered. Trying clauses: over terms alone, and as a search in memory means it. -/
import Derived.Test.YtmggaclaoefdaaaGM
namespace Go.Proofs.Ytmggaclaoefdaaa
open Go.RowKit

def cgl (gl : List Gl) : List Gl := gl.map fun g => (can g.1, g.2)
theorem cgl_append (a b : List Gl) : cgl (a ++ b) = cgl a ++ cgl b := by unfold cgl; rw [List.map_append]
theorem okv_own {N last : Int} (h0 : 0 ≤ last) (h1 : last + 12 ≤ N) {T : Tm} (h : Okv 12 T) : Okv N (ap (ownV last) T) := by
  induction T with
  | nil => exact h.elim
  | mk v nm a len cap f ih =>
    obtain ⟨g0, g1, g2, g3, g4⟩ := h
    rw [ap]
    split
    · refine ⟨by omega, by omega, fun h => absurd rfl h, g3, fun i hi => ?_⟩
      show Okv N (if i < len then ap (ownV last) (f i) else .nil)
      rw [if_pos hi]; exact ih i (g4 i hi)
    · exact vT_ok (by omega) (by omega)
theorem okv_of_can {N : Int} {w : World} {X : Tm} (hX : TIn w X) (h : Okv N (can X)) : Okv N X := by
  induction X with
  | nil => exact hX.elim
  | mk v nm a len cap f ih =>
    obtain ⟨g0, g1, g2, g3, g4⟩ := h
    refine ⟨g0, g1, g2, g3, fun i hi => ih i (hX.2.2 i hi).2 ?_⟩
    have := g4 i hi
    simp only [if_pos hi] at this
    exact this
theorem GL.ptr {w : World} {M : Nat → Prop} {N : Int} {p : Value} {gl : List Gl} (h : GL w M N p gl) : ∃ ad, p = .pointer ad := by
  cases gl with
  | nil => exact ⟨none, h⟩
  | cons g r =>
    obtain ⟨T, c⟩ := g
    obtain ⟨k, q, h1, _⟩ := h
    exact ⟨_, h1⟩
theorem ch_form {w : World} {lo : Nat} {v : Value} {ch : List Cr} (h : w.ownsRow lo 183 3 v ch.length (flatR ch)) : ∃ a cp, v = .slice a ch.length cp ∧ ch.length ≤ cp ∧ cp ≤ maxLen ∧ ∀ k (hk : k < ch.length), ∃ g, a = some ⟨g, 0, none⟩ ∧ w.cell? ⟨g, k * 3, none⟩ = some ch[k].p ∧ w.cell? ⟨g, k * 3 + 1, none⟩ = some (.int .i64 ch[k].k) ∧ w.cell? ⟨g, k * 3 + 2, none⟩ = some (.int .i64 ch[k].mark) := by
  rcases h.2 with ⟨rfl, h0⟩ | ⟨g, cap, cur, rfl, hlo, hg, hnc, hcm, hsz, htk⟩
  · exact ⟨none, 0, by rw [h0], by omega, by unfold maxLen; omega, fun k hk => by omega⟩
  · refine ⟨some ⟨g, 0, none⟩, cap, rfl, hnc, hcm, fun k hk => ⟨g, rfl, ?_⟩⟩
    have key : ∀ (l : List Cr) (k : Nat) (hk : k < l.length), (flatR l)[k * 3]? = some l[k].p ∧ (flatR l)[k * 3 + 1]? = some (.int .i64 l[k].k) ∧ (flatR l)[k * 3 + 2]? = some (.int .i64 l[k].mark) := by
      intro l
      induction l with
      | nil => intro k hk; simp at hk
      | cons c l ih =>
        intro k hk
        rw [show flatR (c :: l) = cellsR c ++ flatR l from rfl]
        cases k with
        | zero => exact ⟨rfl, rfl, rfl⟩
        | succ k =>
          have := ih k (by simpa using hk)
          have hl : (cellsR c).length = 3 := rfl
          refine ⟨?_, ?_, ?_⟩
          · rw [List.getElem?_append_right (by rw [hl]; omega), hl, show (k + 1) * 3 - 3 = k * 3 from by omega]; exact this.1
          · rw [List.getElem?_append_right (by rw [hl]; omega), hl, show (k + 1) * 3 + 1 - 3 = k * 3 + 1 from by omega]; exact this.2.1
          · rw [List.getElem?_append_right (by rw [hl]; omega), hl, show (k + 1) * 3 + 2 - 3 = k * 3 + 2 from by omega]; exact this.2.2
    obtain ⟨h1, h2, h3⟩ := key ch k hk
    exact ⟨(h.cellAt (k * 3) (by omega)).trans h1, (h.cellAt (k * 3 + 1) (by omega)).trans h2, (h.cellAt (k * 3 + 2) (by omega)).trans h3⟩
theorem block5 {w : World} {k : Nat} {x0 x1 x2 x3 x4 : Value} {t : TypeId} (h : w.heap[k]? = some (.cells #[x0, x1, x2, x3, x4] t)) : w.cell? ⟨k, 0, none⟩ = some x0 ∧ w.cell? ⟨k, 1, none⟩ = some x1 ∧ w.cell? ⟨k, 2, none⟩ = some x2 ∧ w.cell? ⟨k, 3, none⟩ = some x3 ∧ w.cell? ⟨k, 4, none⟩ = some x4 := by
  refine ⟨?_, ?_, ?_, ?_, ?_⟩ <;> simp [World.cell?, h]

set_option maxRecDepth 100000 in
set_option maxHeartbeats 4000000 in
theorem enter_any {w0 : World} {s m : Nat} {r : Sr} {tv : Value} {n : Nat} {σ : Sg} {L : Int} {tr : List Int} {gl : List Gl} {ch : List Cr} {an : List Tm} {o : Nat} {last : Int} {p : Value} {g : Gl} {rest : List Gl} (B : Tm) (w : World) (h : SS w0 w s m r tv n σ L tr gl ch an) (hp : GL w (Mu s r.b m tv r.cv r.av) 1000000 p (g :: rest)) (hB : TIn w B) (hB6 : B.len ≤ 6) (hO : ∀ i, i < B.len → Okv 12 (B.f i)) (hI : w.heap[o]? = some (.cells #[.int .i64 last] 3)) (hl : 0 ≤ last ∧ last + 12 ≤ 1000000) :
    Calls Try.prog 142 #[.pointer (some ⟨s, 0, none⟩), p, .slice B.a B.len B.cap, .func (.func 145) #[] #[.pointer (some ⟨o, 0, none⟩)]] w fun e w' => e = .returned (.tuple #[]) ∧ ∃ (q : Value) (gl' : List Gl), SS w0 w' s m { r with first := q } tv n σ L tr gl' ch an ∧ cgl gl' = ((kidsL B).map fun b => (ap (ownV last) b, ch.length)) ++ cgl rest ∧ w.heap.size ≤ w'.heap.size ∧ (∀ k, w0.heap.size ≤ k → k < w.heap.size → k ≠ s → w'.heap[k]? = w.heap[k]?) := by
  have H : Hid (SS w0 w s m r tv n σ L tr gl ch an) := h
  have HP : Hid (GL w (Mu s r.b m tv r.cv r.av) 1000000 p (g :: rest)) := hp
  obtain ⟨T, cut⟩ := g
  obtain ⟨kp, qn, rfl, hpM, hpb, hpT, _, _, hpr⟩ := hp
  have HRest : Hid (GL w (Mu s r.b m tv r.cv r.av) 1000000 qn rest) := hpr
  have HO : Hid (∀ i, i < B.len → Okv 12 (B.f i)) := hO
  have HB : Hid (TIn w B) := hB
  have hlen : B.len ≤ 2 ^ 63 - 1 := by omega
  have HRow : Hid (∀ i, i < B.len → ∀ W, Below w.heap.size w W → RowAt W B.a i (B.f i) ∧ TIn W (B.f i)) := fun i hi W hW => ⟨(hB.row hi).below hW, (hB.kid hi).below hW⟩
  have HI : Hid (∀ W, Below w.heap.size w W → W.heap[o]? = some (.cells #[.int .i64 last] 3)) := fun W hW => (hW.block o (Array.getElem?_eq_some_iff.1 hI).1).trans hI
  have HPb : Hid (∀ W, Below w.heap.size w W → W.heap[kp]? = some (.cells #[.int .i64 T.v, .string T.nm, .slice T.a T.len T.cap, .int .i64 cut, qn] 149)) := fun W hW => (hW.block kp (Array.getElem?_eq_some_iff.1 hpb).1).trans hpb
  obtain ⟨i0, hi, hz0, hz1, hz2⟩ := info_parts Try.info24
  have hs := h.blk.lt
  clear h hpM hpb hpT hpr hO hB hI
  generalize hua : B.a = ua at *
  go_enter Try.func142, Try.ntmps142
  go_wp2_with fail
  go_loopw [8, 13] (fun v x wr => ∃ (j : Nat) (ts : List Tm), j ≤ B.len ∧ x = .int .i64 j ∧ LstR w.heap.size wr v ts ts ∧ ts.length = j ∧ Below w.heap.size w wr ∧ ∀ i, i < j → can (ts.getD i .nil) = ap (ownV last) (B.f i)) (fun _ x _ => B.len - (intOf x).toNat)
  case atStart => exact ⟨0, [], Nat.zero_le _, rfl, ⟨World.ownsRow_nil _ _ _ _, fun c hc => absurd hc (by simp), rfl, fun i hi => absurd hi (Nat.not_lt_zero i)⟩, rfl, Below.refl _ _, fun i hi => absurd hi (Nat.not_lt_zero i)⟩
  case round =>
    obtain ⟨j, ts, hj, rfl, hL, hTL, hBr, hV⟩ := hrel
    have HL : Hid (LstR w.heap.size wr u8 ts ts) := hL
    have HTL : Hid (ts.length = j) := hTL
    have HBr : Hid (Below w.heap.size w wr) := hBr
    have HV : Hid (∀ i, i < j → can (ts.getD i .nil) = ap (ownV last) (B.f i)) := hV
    have hts : ts.length ≤ 6 := by omega
    clear hL hTL hBr hV
    by_cases hlt : j < B.len
    case pos =>
      obtain ⟨hr, hTj⟩ := HRow.out j hlt wr HBr.out
      have HTj : Hid (TIn wr (B.f j)) := hTj
      obtain ⟨bb, oo, ha, c0, c1, c2⟩ := hr
      clear hTj
      subst ha
      have HBe : Hid (Below wr.heap.size wr (wr.alloc (.cells #[.int .i64 (B.f j).v, .string (B.f j).nm, .slice (B.f j).a (B.f j).len (B.f j).cap] 24))) := (Below.refl _ _).alloc (Nat.le_refl _) _
      have HA : Hid ((wr.alloc (.cells #[.int .i64 (B.f j).v, .string (B.f j).nm, .slice (B.f j).a (B.f j).len (B.f j).cap] 24)).heap[wr.heap.size]? = some (.cells #[.int .i64 (B.f j).v, .string (B.f j).nm, .slice (B.f j).a (B.f j).len (B.f j).cap] 24)) := heap_alloc_new wr _
      go_wp2_with fail
      generalize wr.alloc (.cells #[.int .i64 (B.f j).v, .string (B.f j).nm, .slice (B.f j).a (B.f j).len (B.f j).cap] 24) = wa at *
      have HBa : Hid (Below w.heap.size w wa) := HBr.out.trans (HBe.out.mono HBr.out.size)
      have HC : Hid (Calls Try.prog 120 #[.agg #[.int .i64 (B.f j).v, .string (B.f j).nm, .slice (B.f j).a (B.f j).len (B.f j).cap], .func (.func 145) #[] #[.pointer (some ⟨o, 0, none⟩)]] wa fun e w' => ∃ X : Tm, e = .returned X.val ∧ Below wa.heap.size wa w' ∧ TIn w' X ∧ Above wa.heap.size X ∧ can X = ap (ownV last) (B.f j)) := each_own wa (HI.out _ HBa.out) (by omega) (HTj.out.below HBe.out) (HO.out j hlt)
      obtain ⟨e0, e1, e2, _, _, _⟩ := block_cells HA.out
      clear c0 c1 c2
      go_wp2_with fail
      refine HC.out.mono ?_
      rintro e w2 ⟨X, rfl, hb2, hX2, hA2, hS2⟩
      rw [show X.val = .agg #[.int .i64 X.v, .string X.nm, .slice X.a X.len X.cap] from rfl]
      have HB2 : Hid (Below wr.heap.size wr w2) := HBe.out.trans (hb2.mono HBe.out.size)
      have HBx : Hid (Below w2.heap.size w2 (w2.alloc (.cells #[.int .i64 X.v, .string X.nm, .slice X.a X.len X.cap] 24))) := (Below.refl _ _).alloc (Nat.le_refl _) _
      have HL3 : Hid (LstR w.heap.size (w2.alloc (.cells #[.int .i64 X.v, .string X.nm, .slice X.a X.len X.cap] 24)) u8 ts ts) := (HL.out.keep HB2.out).keep HBx.out
      have HX3 : Hid (TIn (w2.alloc (.cells #[.int .i64 X.v, .string X.nm, .slice X.a X.len X.cap] 24)) X ∧ Above w.heap.size X ∧ (∀ g, u8.ownBlock = some g → NB g X) ∧ can X = ap (ownV last) (B.f j)) := ⟨hX2.below HBx.out, hA2.mono (Nat.le_trans HBr.out.size HBe.out.size), fun g hg => hA2.nb (Nat.lt_of_lt_of_le (HL.out.own.lt g hg).2 HBe.out.size), hS2⟩
      have HB3 : Hid (Below w.heap.size w (w2.alloc (.cells #[.int .i64 X.v, .string X.nm, .slice X.a X.len X.cap] 24))) := (HBr.out.trans (HB2.out.mono HBr.out.size)).alloc (Nat.le_trans HBr.out.size HB2.out.size) _
      have hsz3 : w.heap.size ≤ (w2.alloc (.cells #[.int .i64 X.v, .string X.nm, .slice X.a X.len X.cap] 24)).heap.size := HB3.out.size
      have HN3 : Hid (∀ j u, (flat [X])[j]? = some u → (w2.alloc (.cells #[.int .i64 X.v, .string X.nm, .slice X.a X.len X.cap] 24)).cell? ((⟨w2.heap.size, 0, none⟩ : Addr).add j) = some u) := news1 w2 X
      clear hb2 hX2 hA2 hS2 e0 e1 e2
      go_wp2_with (at_builtin; refine wpList_append_own_at _ rfl (.tmp 17) (.tmp 21) 22 rfl w.heap.size 24 i0 (.agg #[.int .i64 0, .string ByteArray.empty, .slice none 0 0]) 3 48 Try.underlying22 hi hz0 hz1 hz2 rfl (by decide) u8 ts.length (flat ts) rfl HL3.out.own ⟨w2.heap.size, 0, none⟩ 1 1 (flat [X]) rfl rfl HN3.out (flat_one _) (by unfold maxLen; omega) (by omega) hsz3 ?_; intro v' w6 hown' hgrow hnil hat)
      have HB6 : Hid (Below w.heap.size w w6) := HB3.out.grown hgrow hsz3 (fun k hk => (HL3.out.own.lt k hk).1)
      have HL6 : Hid (LstR w.heap.size w6 v' (ts ++ [X]) (ts ++ [X])) := HL3.out.more HX3.out.1 HX3.out.2.1 HX3.out.2.2.1 (Sim.refl X) hown' hgrow hat
      have HV6 : Hid (∀ i, i < j + 1 → can ((ts ++ [X]).getD i .nil) = ap (ownV last) (B.f i)) := fun i hi => by
        have hj' := HTL.out
        by_cases h2 : i < j
        · have e : (ts ++ [X]).getD i .nil = ts.getD i .nil := by simp [List.getD, List.getElem?_append_left (show i < ts.length by omega)]
          rw [e]; exact HV.out i h2
        · obtain rfl : i = j := by omega
          have e : (ts ++ [X]).getD i .nil = X := by rw [← hj']; simp [List.getD]
          rw [e]; exact HX3.out.2.2.2
      have hlF : (ts ++ [X]).length = j + 1 := by rw [List.length_append, HTL.out]; rfl
      clear hown' hgrow hnil hat
      go_roundw
      case rel => exact ⟨j + 1, ts ++ [X], by omega, by go_num, HL6.out, hlF, HB6.out, HV6.out⟩
      case measure => simp [intOf]; omega
    have hje : j = B.len := by omega
    obtain ⟨Q, hvQ, hQ, hQA, hQS⟩ := HL.out.terms
    have hQl : Q.len = B.len := by rw [hQS.1, HTL.out, hje]
    have hQc : ∀ i, i < Q.len → can (Q.f i) = ap (ownV last) (B.f i) := fun i hi => by rw [sim_can (hQS.2 i hi)]; exact HV.out i (by omega)
    have HQ : Hid (TIn wr Q ∧ Above w.heap.size Q ∧ Q.len = B.len ∧ ∀ i, i < Q.len → can (Q.f i) = ap (ownV last) (B.f i)) := ⟨hQ, hQA, hQl, hQc⟩
    subst hvQ
    have HSr : Hid (SS w0 wr s m r tv n σ L tr gl ch an) := H.out.below HBr.out
    have HMl : Hid (∀ k, Mu s r.b m tv r.cv r.av k → k < w.heap.size) := fun k hk => (H.out.mu hk).2
    have HRr : Hid (GL wr (Mu s r.b m tv r.cv r.av) 1000000 qn rest) := HRest.out.next (Bw.ofBelow HBr.out) (fun _ _ e => e)
    obtain ⟨_, _, _, _, _, _, _, _, _, c9, cf⟩ := HSr.out.blk.get
    have cf8 := cf 8
    obtain ⟨ca, cp, hcv, hc1, hc2, _⟩ := ch_form HSr.out.chr
    obtain ⟨_, _, _, _, p4⟩ := block5 (HPb.out wr HBr.out)
    obtain ⟨qa, hqn⟩ := HRest.out.ptr
    have HKp : Hid (∀ W, Below wr.heap.size wr W → W.cell? ⟨s, 9, none⟩ = some (.slice ca ch.length cp) ∧ W.cell? ⟨kp, 4, none⟩ = some qn ∧ W.frozen? ⟨s, 8, none⟩ = false ∧ ∃ x, W.cell? ⟨s, 8, none⟩ = some x) := fun W hW => ⟨by rw [hW.cell (lt_of_cell c9), c9, hcv], (hW.cell (lt_of_cell p4)).trans p4, (hW.frozen (p := ⟨s, 8, none⟩) HSr.out.blk.lt).trans cf8, r.first, ((HSr.out.below hW).blk.get).2.2.2.2.2.2.2.2.1⟩
    have HC : Hid (∀ W, Below wr.heap.size wr W → Calls Try.prog 70 #[.slice Q.a Q.len Q.cap, .int .i64 ch.length, qn] W fun e w' => ∃ q, e = .returned (.pointer q) ∧ GL w' (Mu s r.b m tv r.cv r.av) 1000000 (.pointer q) (((kidsL Q).map fun t => (t, ch.length)) ++ rest) ∧ Below wr.heap.size wr w') := fun W hW =>
      (ahead_any Q ch.length qn rest W (HQ.out.1.below hW) (HQ.out.2.1.nm (fun k hk => HMl.out k hk)) (fun i hi => okv_of_can (HQ.out.1.kid hi) (by rw [HQ.out.2.2.2 i hi]; exact okv_own (by omega) (by omega) (HO.out i (by rw [← HQ.out.2.2.1]; exact hi)))) (HRr.out.next (Bw.ofBelow hW) (fun _ _ e => e)) (fun k hk => Nat.lt_of_lt_of_le (HMl.out k hk) (Nat.le_trans HBr.out.size hW.size)) ⟨qa, hqn⟩).mono fun e w' ⟨q, h1, ⟨ad, h2⟩, h3, h4⟩ => ⟨ad, by rw [h1, h2], by rw [← h2]; exact h3, hW.trans (h4.mono hW.size)⟩
    clear hQ hQA hQS hje hQl hQc c9 cf cf8 p4
    obtain ⟨k9, k4, _, _⟩ := HKp.out wr (Below.refl _ _)
    subst hqn
    have HF8 : Hid (∀ W, Below wr.heap.size wr W → W.frozen? ⟨s, 8, none⟩ = false) := fun W hW => (HKp.out W hW).2.2.1
    go_wp2_with fail
    go_region_with (first
      | (go_at_call 70
         refine (HC.out _ (by repeat (first | exact Below.refl _ _ | refine Below.drew ?_))).mono ?_
         rintro e w5 ⟨q, rfl, h5, h6⟩
         have H5 : Hid (GL w5 (Mu s r.b m tv r.cv r.av) 1000000 (.pointer q) (((kidsL Q).map fun t => (t, ch.length)) ++ rest)) := h5
         have HB5 : Hid (Below wr.heap.size wr w5) := h6
         have z8 := HF8.out w5 h6
         obtain ⟨z9, z4, _, x8, y8⟩ := HKp.out w5 h6
         clear h5 h6))
    all_goals
      go_wp2_with fail
      go_end0
      have hS5 := HSr.out.below HB5.out
      refine ⟨rfl, .pointer q, _, hS5.put 8 (.pointer q) (r' := { r with first := .pointer q }) rfl rfl rfl rfl H5.out, ?_, ?_, ?_⟩
      · rw [cgl_append]
        congr 1
        unfold cgl kidsL
        rw [List.map_map, List.map_map, List.map_map, HQ.out.2.2.1]
        apply List.map_congr_left
        intro i hi
        show (can (Q.f i), ch.length) = (ap (ownV last) (B.f i), ch.length)
        rw [HQ.out.2.2.2 i (by rw [HQ.out.2.2.1]; exact List.mem_range.1 hi)]
      · have := HBr.out.size
        have := HB5.out.size
        simp [World.setCell]; omega
      · intro k _ hk hne
        rw [Below.heap_setCell _ _ _ _ hne]
        exact (HB5.out.block k (Nat.lt_of_lt_of_le hk HBr.out.size)).trans (HBr.out.block k hk)
end Go.Proofs.Ytmggaclaoefdaaa

namespace Go.Proofs.Ytmggaclaoefdaaa
open Go.RowKit

def cch (c : Cr) : Chc := ⟨cgl c.gl, c.k, cs c.σ⟩
def ansC (A : Tm) : List Tm := (kidsL A).map can
/-- What a search in memory means. -/
def absP (r : Sr) (σ : Sg) (gl : List Gl) (ch : List Cr) (an : List Tm) : PS := ⟨cgl gl, ch.map cch, cs σ, r.last, an.map ansC, r.fin.toNat, r.st.toNat⟩
theorem fitP_can (P : Cls) (t : Tm) (i : Nat) : fitP P (can t) i = fitP P t i := by unfold fitP; rw [can_nm, can_len]
theorem fit_lt {P : Pg} {t : Tm} {i k : Nat} (h : fitP (cls P) t i = some k) : i ≤ k ∧ k < P.len := by
  unfold fitP at h
  rw [List.find?_range_eq_some, cls_len] at h
  have h1 := h.1
  simp at h1
  exact ⟨h1.1, List.mem_range.1 h.2.1⟩
theorem hd_can (σ : Sg) (T : Tm) (c : Nat) (rest : List Gl) : hdT (cs σ) (cgl ((T, c) :: rest)) = can (wha σ T) := by
  show wha (cs σ) (can T) = _
  exact wha_cs σ T
theorem try_none {P : Pg} {gs : List Gl} {t : Tm} {f j : Nat} {X : PS} {L : Nat} (h : fitP (cls P) t j = none) : tryP (cls P) gs (can t) (f + 1) j X L = (X, false) := by
  rw [tryP, fitP_can, h]
theorem try_some {P : Pg} {gs : List Gl} {t A : Tm} {f j k : Nat} {X : PS} {L : Nat} {σ : Sg} (hX : X.σ = cs σ) (h : fitP (cls P) t j = some k) (hA : can A = ap (ownV X.last) (P.hd k)) : tryP (cls P) gs (can t) (f + 1) j X L = match meetF (L + 1) σ L [(A, t)] with
    | .over => ({ X with last := X.last + 12, fin := 3 }, false)
    | .no L' => tryP (cls P) gs (can t) f (k + 1) { X with last := X.last + 12 } L'
    | .yes _ σ' => ({ X with last := X.last + 12, σ := cs σ', gl := ((kidsL (P.bd k)).map fun b => (ap (ownV X.last) b, X.ch.length)) ++ gs.tail, ch := match fitP (cls P) t (k + 1) with
          | none => X.ch
          | some q => X.ch ++ [⟨gs, q, X.σ⟩] }, true) := by
  have hk := (fit_lt h).2
  rw [tryP, fitP_can, h]
  simp only
  rw [cls_get P hk, fitP_can, hX]
  have e1 : [(ap (ownV X.last) (can (P.hd k)), can t)] = [(A, t)].map can2 := by
    rw [ap_can, ← hA]; rfl
  simp only
  rw [e1, meetF_cs]
  cases meetF (L + 1) σ L [(A, t)] with
  | over => rfl
  | no L' => rfl
  | yes k' σ' =>
    have e2 : ((kidsL (P.bd k)).map can).map (fun b => (ap (ownV X.last) b, X.ch.length)) = (kidsL (P.bd k)).map fun b => (ap (ownV X.last) b, X.ch.length) := by
      rw [List.map_map]
      apply List.map_congr_left
      intro b _
      show (ap (ownV X.last) (can b), X.ch.length) = _
      rw [ap_can]
    show ({ X with last := X.last + 12, σ := cs σ', gl := ((kidsL (P.bd k)).map can).map (fun b => (ap (ownV X.last) b, X.ch.length)) ++ gs.tail, ch := _ }, true) = _
    rw [e2]
    rfl
/-- The program that is searched. -/
structure Prg (w0 : World) (P : Pg) : Prop where
  pin : PIn w0 P
  cap : P.len ≤ P.cap
  few : P.len ≤ 30
  hd : ∀ i, i < P.len → Okv 12 (P.hd i)
  bd : ∀ i, i < P.len → (P.bd i).len ≤ 6 ∧ ∀ j, j < (P.bd i).len → Okv 12 ((P.bd i).f j)
/-- What try says. -/
def TRes (w0 w : World) (s m : Nat) (r : Sr) (n : Nat) (σ : Sg) (L : Nat) (gl : List Gl) (ch : List Cr) (an : List Tm) (gs : List Gl) (i : Nat) (e : Ending) (w' : World) : Prop :=
  ∃ (ok : Bool) (r' : Sr) (tv' : Value) (n' : Nat) (σ' : Sg) (L' : Int) (tr' : List Int) (gl' : List Gl) (ch' : List Cr), e = .returned (.bool ok) ∧ SS w0 w' s m r' tv' n' σ' L' tr' gl' ch' an ∧
    tryP (cls r.P) (cgl gs) (hdT (cs σ) (cgl gs)) (r.P.len + 1) i (absP r σ gl ch an) L = (absP r' σ' gl' ch' an, ok) ∧
    (r'.P = r.P ∧ r'.limit = r.limit ∧ r'.asked = r.asked ∧ r'.st = r.st) ∧ 0 ≤ r'.fin ∧ n' ≤ n + 130000 ∧ r.last ≤ r'.last ∧ r'.last ≤ r.last + 12 * (r.P.len - i : Nat) ∧ ch'.length ≤ ch.length + 1 ∧ w.heap.size ≤ w'.heap.size
end Go.Proofs.Ytmggaclaoefdaaa
