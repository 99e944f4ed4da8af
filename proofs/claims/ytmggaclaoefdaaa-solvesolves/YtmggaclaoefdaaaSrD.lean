/- The reference's Tell, walked. -/
import Derived.Test.YtmggaclaoefdaaaGV
import Derived.Test.YtmggaclaoefdaaaSvT
namespace Go.Proofs.Ytmggaclaoefdaaa
open Go.RowKit

/-- A number stored into a list of numbers. -/
theorem owns_set1 {w : World} {lo g cap n : Nat} {t : TypeId} {xs : List Value} (h : w.ownsRow lo t 1 (.slice (some ⟨g, 0, none⟩) n cap) n xs) (i : Nat) (x : Value) :
    (w.setCell ⟨g, i, none⟩ x).ownsRow lo t 1 (.slice (some ⟨g, 0, none⟩) n cap) n (xs.set i x) := by
  obtain ⟨h1, h2⟩ := h
  rcases h2 with ⟨h2, _⟩ | ⟨g', cap', cur, hv, hlo, hg, hnc, hcm, hsz, htk⟩
  · cases h2
  cases hv
  refine ⟨by simp [h1], .inr ⟨g, cap, cur.setIfInBounds i x, rfl, hlo, ?_, hnc, hcm, by simp [hsz], ?_⟩⟩
  · simp only [World.setCell, Array.getElem?_modify]
    simp [hg]
  · rw [← htk]
    simp [List.take_set]
theorem made1 (z : Value) (hz : z.cells = #[z]) (n : Nat) : (madeCells z.cells (n * 1)).toList = (List.range n).map fun _ : Nat => z := by
  rw [hz, Nat.mul_one, toList_madeCells_one]
  refine List.ext_getElem (by simp) fun i h1 h2 => ?_
  simp
/-- The numbers of variables; 0: none so far. -/
def nf (S : List Int) (u : Int) : Int := if u ∈ S then num S u else 0
theorem nf_in {S : List Int} {u : Int} (h : u ∈ S) : nf S u = num S u ∧ nf S u ≠ 0 := by
  unfold nf; rw [if_pos h]; refine ⟨rfl, ?_⟩; unfold num; omega
theorem nf_out {S : List Int} {u : Int} (h : ¬ u ∈ S) : nf S u = 0 := by unfold nf; rw [if_neg h]
theorem nf_set {len z : Nat} {S : List Int} (hn : ¬ (z : Int) ∈ S) : ((List.range len).map fun i : Nat => Value.int .i64 (nf S (i : Int))).set z (.int .i64 ((S.length : Int) + 1)) = (List.range len).map fun i : Nat => Value.int .i64 (nf (S ++ [(z : Int)]) (i : Int)) := by
  refine List.ext_getElem (by simp) fun i h1 h2 => ?_
  rw [List.getElem_set]
  simp only [List.getElem_map, List.getElem_range]
  by_cases e : z = i
  · rw [if_pos e]
    subst e
    rw [(nf_in (S := S ++ [(z : Int)]) (by simp)).1]
    unfold num
    rw [List.idxOf_append, if_neg hn]
    simp
  · rw [if_neg e]
    have hne : ((i : Int)) ≠ (z : Int) := by omega
    by_cases h : (i : Int) ∈ S
    · rw [(nf_in h).1, (nf_in (S := S ++ [(z : Int)]) (List.mem_append_left _ h)).1, num_pre (List.prefix_append _ _) h]
    · rw [nf_out h, nf_out (fun h' => by
        rcases List.mem_append.1 h' with h' | h'
        · exact h h'
        · exact hne (List.mem_singleton.1 h'))]
theorem pre_okv {N : Int} {T : Tm} (hT : Okv N T) : ∀ q ∈ pre T, Okv N q := by
  induction T with
  | nil => exact hT.elim
  | mk v nm a len cap f ih =>
    intro q hq
    rcases List.mem_cons.1 hq with rfl | hq
    · exact hT
    · have key : ∀ k, k ≤ len → ∀ q ∈ preTo (fun i => pre (f i)) k, Okv N q := by
        intro k
        induction k with
        | zero => intro _ q hq; simp [preTo] at hq
        | succ k ihk =>
          intro hk q hq
          rcases List.mem_append.1 hq with hq | hq
          · exact ihk (by omega) q hq
          · exact ih k (hT.2.2.2.2 k (by omega)) q hq
      exact key len (Nat.le_refl _) q hq
def SX (Xs : List Tm) : List Int := addV [] (Xs.map vsT).flatten
theorem SX_more (Xs : List Tm) (X : Tm) : SX (Xs ++ [X]) = addV (SX Xs) (vsT X) := by
  unfold SX; rw [List.map_append, List.flatten_append, addV_append]; simp
def nmRow (len : Nat) (S : List Int) : List Value := (List.range len).map fun i : Nat => Value.int .i64 (nf S (i : Int))
def XOk (N : Int) (σ : Sg) (ρ : Int → Tm) (ι : Int → Int) (Xs : List Tm) : Prop := ∀ i (hi : i < Xs.length), ap (nmOf ι) Xs[i] = can (ex σ 200 (vT ((i : Int) + 1))) ∧ ∀ v ∈ vsT Xs[i], Rt N ρ v
theorem XOk.more {N : Int} {σ : Sg} {ρ : Int → Tm} {ι : Int → Int} {Xs : List Tm} {X : Tm} (h : XOk N σ ρ ι Xs) (h1 : ap (nmOf ι) X = can (ex σ 200 (vT ((Xs.length : Int) + 1)))) (h2 : ∀ v ∈ vsT X, Rt N ρ v) : XOk N σ ρ ι (Xs ++ [X]) := by
  intro i hi
  by_cases hl : i < Xs.length
  · rw [List.getElem_append_left hl]; exact h i hl
  · have e : i = Xs.length := by simp at hi; omega
    subst e
    rw [List.getElem_append_right (Nat.le_refl _)]
    simp only [Nat.sub_self, List.getElem_cons_zero]
    exact ⟨h1, h2⟩
theorem mem_addV {u : Int} (l : List Int) : ∀ s : List Int, u ∈ l → u ∈ addV s l := by
  induction l with
  | nil => intro s h; simp at h
  | cons v l ih =>
    intro s h
    show u ∈ addV (if v ∈ s then s else s ++ [v]) l
    rcases List.mem_cons.1 h with rfl | h
    · refine (addV_pre l _).subset ?_
      split
      · assumption
      · simp
    · exact ih _ h
theorem us_more (Xs : List Tm) (X : Tm) : (Xs.map fun Y => ap (nmOf (num (SX (Xs ++ [X])))) Y) = Xs.map fun Y => ap (nmOf (num (SX Xs))) Y := by
  refine List.map_congr_left fun Y hY => ap_vs fun v hv => ?_
  rw [SX_more]
  exact num_pre (addV_pre _ _) (mem_addV _ _ (List.mem_flatten.2 ⟨vsT Y, List.mem_map.2 ⟨Y, hY, rfl⟩, hv⟩))
theorem varsN_drop {n j : Nat} (h : j < n) : (varsN n).drop j = vT ((j : Int) + 1) :: (varsN n).drop (j + 1) := by
  unfold varsN
  rw [List.drop_eq_getElem_cons (by simpa using h)]
  simp
theorem nm_nb {M : Nat → Prop} {k0 : Nat} {T : Tm} (h0 : NB k0 T) (h : ∀ k, M k → NB k T) : NM M T := by
  induction T with
  | nil => trivial
  | mk v nm a len cap f ih =>
    refine ⟨fun hl => ?_, fun i hi => ih i (h0.2 i hi) (fun k hk => (h k hk).2 i hi)⟩
    obtain ⟨b, o, e, _⟩ := h0.1 hl
    refine ⟨b, o, e, fun hm => ?_⟩
    obtain ⟨b', o', e', hne'⟩ := (h b hm).1 hl
    rw [e] at e'
    cases e'
    exact hne' rfl
/-- What the reference's Tell says. -/
def TlR (w0 w : World) (s n : Nat) (r : Rr) (X : QS) (an : List Tm) (nB : Int) (gB cB : Nat) (e : Ending) (w' : World) : Prop :=
  ∃ (r' : Rr) (g' cap' len' : Nat) (N' Nx : Int) (τ' ρ' : Int → Tm) (rk' : Int → Nat) (σ' σx : Sg) (wk' : Int) (gl' glx : List Gl) (ch' : List Kr) (an' : List Tm), e = .returned (.tuple #[]) ∧ RS w0 w' s r' g' cap' len' N' τ' ρ' rk' σ' wk' gl' ch' an' ∧
    answerQ (cls r.P) n X = absQ r' Nx σx glx ch' an' ∧ (r'.fin = 0 → Nx = N' ∧ σx = σ' ∧ glx = gl' ∧ ∀ v U, σ' v = some U → 0 < v ∧ v ≤ N') ∧ (r'.P = r.P ∧ r'.query = r.query ∧ r'.st = r.st) ∧ 0 ≤ r'.fin ∧ N' ≤ nB + 12 ∧ gl'.length ≤ gB + 6 ∧ (∀ c ∈ ch', c.N ≤ nB ∧ c.gl.length ≤ gB) ∧ ch'.length ≤ cB ∧ w.heap.size ≤ w'.heap.size ∧ an'.length ≤ 40 ∧ (r'.fin = 0 → an'.length = an.length + 1 ∧ an'.length < 40)
set_option maxRecDepth 100000 in
set_option maxHeartbeats 8000000 in
theorem tell_any {w0 : World} {s : Nat} {r : Rr} {g cap len : Nat} {N : Int} {τ ρ : Int → Tm} {rk : Int → Nat} {σ : Sg} {wk : Int} {gl : List Gl} {ch : List Kr} {an : List Tm} (n : Nat) (nB : Int) (gB : Nat) (w : World) (hPr : Prg w0 r.P) (h : RS w0 w s r g cap len N τ ρ rk σ wk gl ch an) (hq : r.query = n) (hn12 : n ≤ 12) (hf : r.fin = 0) (hB : N ≤ nB ∧ gl.length ≤ gB) (hcB : ∀ c ∈ ch, c.N ≤ nB ∧ c.gl.length ≤ gB) (hn : nB ≤ 700000) (hg : gB ≤ 90000) (hc : ch.length ≤ 90000) (han : an.length < 40) :
    Calls Try.prog 72 #[.pointer (some ⟨s, 0, none⟩)] w (TlR w0 w s n r (absQ r N σ gl ch an) an nB gB ch.length) := by
  have H : Hid (RS w0 w s r g cap len N τ ρ rk σ wk gl ch an) := h
  have HPr : Hid (Prg w0 r.P) := hPr
  have HFin : Hid (r.fin = 0) := hf
  have HcB : Hid (∀ c ∈ ch, c.N ≤ nB ∧ c.gl.length ≤ gB) := hcB
  have HQ : Hid (r.query = n) := hq
  have HLn : Hid ((len : Int) = N + 1) := h.rf.ln
  have h12 := h.n12
  have hlen : len ≤ 700001 := by have := h.rf.ln; omega
  have hlen1 : 13 ≤ len := by have := h.rf.ln; omega
  obtain ⟨ι, hι1, hι2, hι3, hι4⟩ := roots h.rf.rel h.rf.dec h.rf.ok (by omega)
  have HI : Hid (Ren N σ ρ ι ∧ (∀ u, ι u ≠ 0) ∧ Ij (Rt N ρ) ι ∧ ∀ X C : Tm, (∀ π, Ren N σ ρ π → ap (nmOf π) X = C) → ∀ v ∈ vsT X, Rt N ρ v) := ⟨hι1, hι2, hι3, hι4⟩
  have hs := h.rf.lt.1
  have y1 : w.cell? ⟨s, 1, none⟩ = some (.slice (some ⟨g, 0, none⟩) len cap) := h.get.2.1
  obtain ⟨j0, hj, hj0, hj1, hj2⟩ := info_parts Try.info3
  obtain ⟨i0, hi, hz0, hz1, hz2⟩ := info_parts Try.info24
  have hmade : (madeCells (Value.int .i64 0).cells (len * 1)).toList = nmRow len [] := made1 (.int .i64 0) rfl len
  clear h hPr hf hcB hq hι1 hι2 hι3 hι4
  go_enter Try.func72, Try.ntmps72
  go_wp2_with (at_make; refine wpList_make_full _ rfl _ _ 56 rfl w.heap.size 3 j0 (.int .i64 0) 1 Try.underlying56 hj hj0 hj1 _ _ _ _ len rfl rfl rfl rfl (by rw [hj2]; omega) (by unfold maxLen; omega) (Nat.le_refl _) ?_; intro w1 ho1 hg1; rw [hmade] at ho1; have HO1 : Hid (w1.ownsRow w.heap.size 3 1 (.slice (some ⟨w.heap.size, 0, none⟩) len len) len (nmRow len [])) := ho1; have HB1 : Hid (Below w.heap.size w w1) := ⟨hg1.os, hg1.tape, hg1.output, hg1.size, fun k hk => hg1.block k hk (by simp)⟩; clear ho1 hg1 hmade)
  have hgn : w.heap.size < w1.heap.size := (HO1.out.lt _ rfl).2
  clear y1
  go_loopw [2, 4, 5, 6] (fun fv lv rv vv wr => ∃ (j m : Nat) (Xs ts : List Tm), (j ≤ n ∧ m ≤ 200 ∧ Xs.length = j ∧ ts.length = j) ∧ lv = .int .i64 ((SX Xs).length : Nat) ∧ rv = .int .i64 m ∧ vv = .int .i64 ((j : Int) + 1) ∧ LstQ w1.heap.size (vT 0) wr fv ts (Xs.map fun X => ap (nmOf (num (SX Xs))) X) ∧ XOk N σ ρ ι Xs ∧ wr.ownsRow w.heap.size 3 1 (.slice (some ⟨w.heap.size, 0, none⟩) len len) len (nmRow len (SX Xs)) ∧ (SX Xs).length ≤ 200 * j ∧ roomF σ 200 (varsN n) = roomF σ m ((varsN n).drop j) ∧ Below w.heap.size w wr ∧ w1.heap.size ≤ wr.heap.size) (fun _ _ _ v _ => 14 - (intOf v).toNat)
  case atStart => exact ⟨0, 200, [], [], ⟨Nat.zero_le _, Nat.le_refl _, rfl, rfl⟩, rfl, rfl, rfl, ⟨World.ownsRow_nil _ _ _ _, fun c hc => absurd hc (by simp), rfl, fun i hi => absurd hi (Nat.not_lt_zero i)⟩, fun i hi => absurd hi (Nat.not_lt_zero i), HO1.out, Nat.zero_le _, rfl, HB1.out, Nat.le_refl _⟩
  case round =>
    obtain ⟨j, m, Xs, ts, ⟨hj1', hm, hXl, htl⟩, rfl, rfl, rfl, hL, hX, hO, hSl, hRm, hBr, hwr⟩ := hrel
    have HL : Hid (LstQ w1.heap.size (vT 0) wr u2 ts (Xs.map fun X => ap (nmOf (num (SX Xs))) X)) := hL
    have HX : Hid (XOk N σ ρ ι Xs) := hX
    have HO : Hid (wr.ownsRow w.heap.size 3 1 (.slice (some ⟨w.heap.size, 0, none⟩) len len) len (nmRow len (SX Xs))) := hO
    have HRm : Hid (roomF σ 200 (varsN n) = roomF σ m ((varsN n).drop j)) := hRm
    have HBr : Hid (Below w.heap.size w wr) := hBr
    have HXl : Hid (Xs.length = j ∧ ts.length = j) := ⟨hXl, htl⟩
    have hRr := H.out.below hBr
    have HRr : Hid (RS w0 wr s r g cap len N τ ρ rk σ wk gl ch an) := hRr
    have y5 : wr.cell? ⟨s, 5, none⟩ = some (.int .i64 n) := by have := hRr.get.2.2.2.2.2.1; rwa [HQ.out] at this
    have hts : ts.length ≤ 12 := by omega
    have hzr := hBr.size
    clear hL hX hO hRm hBr hXl htl hRr HO1 HB1
    by_cases hlt : j < n
    case neg =>
      obtain rfl : j = n := by omega
      have hgt : ¬ ((j : Int) + 1 ≤ (j : Int)) := by omega
      obtain ⟨A, hAv, hA, hAb, hAl, hAk⟩ := HL.out.terms
      have hE : ansC A = foundP σ j := by
        rw [found_of HI.out.2.1 HI.out.2.2.1 Xs HXl.out.1 HX.out]
        refine List.ext_getElem (by simp [ansC, kidsL, hAl]) fun i h1 h2 => ?_
        have hi' : i < A.len := by simpa [ansC, kidsL] using h1
        have h3 := hAk i hi'
        simp only [ansC, kidsL, List.getElem_map, List.getElem_range]
        rw [h3, List.getD_eq_getElem?_getD, List.getElem?_eq_getElem (by simpa using h2)]
        simp [SX]
      have hR : roomF σ 200 (varsN j) = some m := by
        rw [HRm.out, List.drop_of_length_le (by simp [varsN])]; exact roomF_nil _ _
      have HE : Hid (∀ av', answerQ (cls r.P) j (absQ r N σ gl ch an) = if an.length + 1 = 40 then absQ { r with av := av', fin := 1 } N σ gl ch (an ++ [A]) else bkQ (cls r.P) (absQ { r with av := av' } N σ gl ch (an ++ [A]))) := fun av' => by
        unfold answerQ
        rw [show (absQ r N σ gl ch an).σ = cs σ from rfl, roomN_cs, hR, found_cs, ← hE]
        simp only
        rw [show (absQ r N σ gl ch an).ans.length = an.length from by simp [absQ]]
        unfold absQ
        rw [List.map_append]
        rfl
      have hN0 : ∀ k, NB k (vT 0) := fun k => ⟨fun h => absurd h (Nat.lt_irrefl 0), fun i hi => absurd hi (Nat.not_lt_zero i)⟩
      have HA1 : Hid (TIn wr A ∧ NM (Mq s g r.kept r.av) A) := ⟨hA, nm_nb (k0 := s) (hAb s (by omega) (hN0 s)) (fun k hk => hAb k (by have := (H.out.mu hk).2; omega) (hN0 k))⟩
      have HBn : Hid (Below wr.heap.size wr (wr.alloc (.cells #[.slice A.a A.len A.cap] 112))) := (Below.refl _ _).alloc (Nat.le_refl _) _
      have HS2 : Hid (RS w0 (wr.alloc (.cells #[.slice A.a A.len A.cap] 112)) s r g cap len N τ ρ rk σ wk gl ch an) := HRr.out.below HBn.out
      have HA2 : Hid (TIn (wr.alloc (.cells #[.slice A.a A.len A.cap] 112)) A ∧ NM (Mq s g r.kept r.av) A) := ⟨HA1.out.1.below HBn.out, HA1.out.2⟩
      have HNw : Hid (∀ j u, [slA A][j]? = some u → (wr.alloc (.cells #[.slice A.a A.len A.cap] 112)).cell? ((⟨wr.heap.size, 0, none⟩ : Addr).add j) = some u) := newsA wr A
      obtain ⟨ia, hia, hia0, hia1, hia2⟩ := info_parts Try.info112
      have hlo2 : w0.heap.size ≤ (wr.alloc (.cells #[.slice A.a A.len A.cap] 112)).heap.size := HS2.out.low.size
      have y6 : wr.cell? ⟨s, 6, none⟩ = some r.av := HRr.out.get.2.2.2.2.2.2.1
      have z6 : (wr.alloc (.cells #[.slice A.a A.len A.cap] 112)).cell? ⟨s, 6, none⟩ = some r.av := HS2.out.get.2.2.2.2.2.2.1
      have zf6 : (wr.alloc (.cells #[.slice A.a A.len A.cap] 112)).frozen? ⟨s, 6, none⟩ = false := HS2.out.get.2.2.2.2.2.2.2.2.2 6
      have z7 : (wr.alloc (.cells #[.slice A.a A.len A.cap] 112)).cell? ⟨s, 7, none⟩ = some (.int .i64 0) := by have := HS2.out.get.2.2.2.2.2.2.2.1; rwa [HFin.out] at this
      have zf7 : (wr.alloc (.cells #[.slice A.a A.len A.cap] 112)).frozen? ⟨s, 7, none⟩ = false := HS2.out.get.2.2.2.2.2.2.2.2.2 7
      have hsl2 : s < (wr.alloc (.cells #[.slice A.a A.len A.cap] 112)).heap.size := HS2.out.rf.lt.1
      have HDa : Hid (∀ q, r.av.ownBlock = some q → q ≠ s) := fun q hq' => (H.out.da q hq').1
      have HAr : Hid ((wr.alloc (.cells #[.slice A.a A.len A.cap] 112)).ownsRow w0.heap.size 112 1 r.av an.length (an.map slA)) := HS2.out.anr
      have HZs : Hid (w.heap.size ≤ (wr.alloc (.cells #[.slice A.a A.len A.cap] 112)).heap.size) := by rw [Hid]; simp; omega
      rw [hAv]
      obtain ⟨avv, hav⟩ : ∃ avv, r.av = avv := ⟨_, rfl⟩
      have HAv : Hid (r.av = avv) := hav
      rw [hav] at y6 z6
      replace HDa : Hid (∀ q, avv.ownBlock = some q → q ≠ s) := by rw [← hav]; exact HDa.out
      replace HAr : Hid ((wr.alloc (.cells #[.slice A.a A.len A.cap] 112)).ownsRow w0.heap.size 112 1 avv an.length (an.map slA)) := by rw [← hav]; exact HAr.out
      clear hA hAb hAl hAk hE hR hN0 hav hAv
      by_cases hm40 : an.length + 1 = 40
      case pos =>
        have hmb : ((an.length : Int) + 1 == 40) = true := beq_iff_eq.2 (by omega)
        have HM : Hid (an.length + 1 = 40) := hm40
        clear hm40
        go_wp2_with (at_builtin; refine wpList_append_own_at _ rfl (.tmp 93) (.tmp 95) 42 rfl w0.heap.size 112 ia (.slice none 0 0) 1 24 Try.underlying42 hia hia0 hia1 hia2 rfl (by decide) avv an.length (an.map slA) rfl HAr.out ⟨wr.heap.size, 0, none⟩ 1 1 [slA A] rfl rfl HNw.out (by intro u hu; simp [slA] at hu; rw [hu]; rfl) (by unfold maxLen; omega) (by omega) hlo2 ?_; intro v' w8 hown' hgrow hnil hat; have hv' : ∃ g' cap', v' = .slice (some ⟨g', 0, none⟩) (an.length + 1) cap' := (by rcases hown'.2 with ⟨_, h0⟩ | ⟨g', cap', _, h, _⟩; (· omega); (· exact ⟨g', cap', h⟩)); obtain ⟨g', cap', rfl⟩ := hv'; have hst : w8.heap[s]? = (wr.alloc (.cells #[.slice A.a A.len A.cap] 112)).heap[s]? := hgrow.block s hsl2 (fun e => HDa.out s e.symm rfl); have q6 : w8.cell? ⟨s, 6, none⟩ = some avv := (World.cell?_of_block hst).trans z6; have qf6 : w8.frozen? ⟨s, 6, none⟩ = false := (World.frozen?_of_block hst).trans zf6; have q7 : w8.cell? ⟨s, 7, none⟩ = some (.int .i64 0) := (World.cell?_of_block hst).trans z7; have qf7 : w8.frozen? ⟨s, 7, none⟩ = false := (World.frozen?_of_block hst).trans zf7)
        have hgr' : (wr.alloc (.cells #[.slice A.a A.len A.cap] 112)).grownBy w8 r.av.ownBlock := by rw [HAv.out]; exact hgrow
        have hat' : ∀ q, (Value.slice (some ⟨g', 0, none⟩) (an.length + 1) cap').ownBlock = some q → r.av.ownBlock = some q ∨ (wr.alloc (.cells #[.slice A.a A.len A.cap] 112)).heap.size ≤ q := fun q hq => by
          have e1 : g' = q := by simpa [Value.ownBlock] using hq
          subst e1
          rw [HAv.out]
          rcases hat with e | e
          · exact .inl (e.symm.trans rfl)
          · exact .inr (by have e2 : g' = (wr.alloc (.cells #[.slice A.a A.len A.cap] 112)).heap.size := by simpa [Value.ownBlock] using e
                           omega)
        have HSF : Hid (RS w0 (w8.setCell ⟨s, 6, none⟩ (.slice (some ⟨g', 0, none⟩) (an.length + 1) cap')) s { r with av := (.slice (some ⟨g', 0, none⟩) (an.length + 1) cap') } g cap len N τ ρ rk σ wk gl ch (an ++ [A])) := HS2.out.avTo hown' hgr' hat' HA2.out
        have hszF : w.heap.size ≤ w8.heap.size := by have := hgrow.size; have := HZs.out; omega
        clear hown' hgrow hnil hat hst q6 qf6 q7 qf7 hgr' hat'
        go_end0
        refine ⟨{ r with av := (.slice (some ⟨g', 0, none⟩) (an.length + 1) cap'), fin := 1 }, g, cap, len, N, N, τ, ρ, rk, σ, σ, wk, gl, gl, ch, an ++ [A], rfl, HSF.out.put 7 _ rfl rfl rfl rfl HSF.out.td, ?_, fun h => absurd (show (1 : Int) = 0 from h) (by omega), ⟨rfl, rfl, rfl⟩, by show (0 : Int) ≤ 1; omega, by omega, by omega, HcB.out, by omega, by simpa [World.setCell] using hszF, by rw [List.length_append]; have := HM.out; simp; omega, fun h => absurd (show (1 : Int) = 0 from h) (by omega)⟩
        rw [HE.out (.slice (some ⟨g', 0, none⟩) (an.length + 1) cap'), if_pos HM.out]
      have hmb : ((an.length : Int) + 1 == 40) = false := beq_eq_false_iff_ne.2 (by omega)
      have HM : Hid (¬ an.length + 1 = 40) := hm40
      clear hm40
      go_wp2_with (at_builtin; refine wpList_append_own_at _ rfl (.tmp 93) (.tmp 95) 42 rfl w0.heap.size 112 ia (.slice none 0 0) 1 24 Try.underlying42 hia hia0 hia1 hia2 rfl (by decide) avv an.length (an.map slA) rfl HAr.out ⟨wr.heap.size, 0, none⟩ 1 1 [slA A] rfl rfl HNw.out (by intro u hu; simp [slA] at hu; rw [hu]; rfl) (by unfold maxLen; omega) (by omega) hlo2 ?_; intro v' w8 hown' hgrow hnil hat; have hv' : ∃ g' cap', v' = .slice (some ⟨g', 0, none⟩) (an.length + 1) cap' := (by rcases hown'.2 with ⟨_, h0⟩ | ⟨g', cap', _, h, _⟩; (· omega); (· exact ⟨g', cap', h⟩)); obtain ⟨g', cap', rfl⟩ := hv'; have hst : w8.heap[s]? = (wr.alloc (.cells #[.slice A.a A.len A.cap] 112)).heap[s]? := hgrow.block s hsl2 (fun e => HDa.out s e.symm rfl); have q6 : w8.cell? ⟨s, 6, none⟩ = some avv := (World.cell?_of_block hst).trans z6; have qf6 : w8.frozen? ⟨s, 6, none⟩ = false := (World.frozen?_of_block hst).trans zf6; have q7 : w8.cell? ⟨s, 7, none⟩ = some (.int .i64 0) := (World.cell?_of_block hst).trans z7; have qf7 : w8.frozen? ⟨s, 7, none⟩ = false := (World.frozen?_of_block hst).trans zf7)
      have hgr' : (wr.alloc (.cells #[.slice A.a A.len A.cap] 112)).grownBy w8 r.av.ownBlock := by rw [HAv.out]; exact hgrow
      have hat' : ∀ q, (Value.slice (some ⟨g', 0, none⟩) (an.length + 1) cap').ownBlock = some q → r.av.ownBlock = some q ∨ (wr.alloc (.cells #[.slice A.a A.len A.cap] 112)).heap.size ≤ q := fun q hq => by
        have e1 : g' = q := by simpa [Value.ownBlock] using hq
        subst e1
        rw [HAv.out]
        rcases hat with e | e
        · exact .inl (e.symm.trans rfl)
        · exact .inr (by have e2 : g' = (wr.alloc (.cells #[.slice A.a A.len A.cap] 112)).heap.size := by simpa [Value.ownBlock] using e
                         omega)
      have HSF : Hid (RS w0 (w8.setCell ⟨s, 6, none⟩ (.slice (some ⟨g', 0, none⟩) (an.length + 1) cap')) s { r with av := (.slice (some ⟨g', 0, none⟩) (an.length + 1) cap') } g cap len N τ ρ rk σ wk gl ch (an ++ [A])) := HS2.out.avTo hown' hgr' hat' HA2.out
      have hszF : w.heap.size ≤ (w8.setCell ⟨s, 6, none⟩ (.slice (some ⟨g', 0, none⟩) (an.length + 1) cap')).heap.size := by have := hgrow.size; have := HZs.out; simp [World.setCell]; omega
      have HBk : Hid (Calls Try.prog 103 #[.pointer (some ⟨s, 0, none⟩)] (w8.setCell ⟨s, 6, none⟩ (.slice (some ⟨g', 0, none⟩) (an.length + 1) cap')) (BQR w0 (w8.setCell ⟨s, 6, none⟩ (.slice (some ⟨g', 0, none⟩) (an.length + 1) cap')) s { r with av := (.slice (some ⟨g', 0, none⟩) (an.length + 1) cap') } (absQ { r with av := (.slice (some ⟨g', 0, none⟩) (an.length + 1) cap') } N σ gl ch (an ++ [A])) (an ++ [A]) nB gB ch.length)) := backR_any (r := { r with av := (.slice (some ⟨g', 0, none⟩) (an.length + 1) cap') }) nB gB _ HPr.out HSF.out HFin.out ⟨by omega, by omega⟩ HcB.out (by omega) (by omega) (by omega)
      clear hown' hgrow hnil hat hst q6 qf6 q7 qf7 hgr' hat'
      refine HBk.out.mono ?_
      rintro e w9 ⟨r', g9, cap9, len9, N9, Nx9, τ9, ρ9, rk9, σ9, σx9, wk9, gl9, glx9, ch9, rfl, hS9, hE9, hX9, hQ9, hf9, hn9, hg9, hc9, hl9, hz9⟩
      have HR : Hid (TlR w0 w s j r (absQ r N σ gl ch an) an nB gB ch.length (.returned (.tuple #[])) w9) := by
        refine ⟨r', g9, cap9, len9, N9, Nx9, τ9, ρ9, rk9, σ9, σx9, wk9, gl9, glx9, ch9, an ++ [A], rfl, hS9, ?_, hX9, hQ9, hf9, hn9, hg9, hc9, hl9, Nat.le_trans hszF hz9, by rw [List.length_append]; simp; omega, fun _ => ?_⟩
        · rw [HE.out (.slice (some ⟨g', 0, none⟩) (an.length + 1) cap'), if_neg HM.out]; exact hE9
        · have := HM.out
          rw [List.length_append]
          simp
          omega
      clear hS9 hE9 hX9 hQ9 hf9 hn9 hg9 hc9 hl9 hz9
      go_wp2_with fail
      go_end0
      exact HR.out
    have hle : (j : Int) + 1 ≤ (n : Int) := by omega
    have HFull : Hid (Calls Try.prog 68 #[.pointer (some ⟨s, 1, none⟩), .agg #[.int .i64 ((j : Int) + 1), .string ⟨#[]⟩, .slice none 0 0], .int .i64 m] wr (FP N σ ρ m (vT ((j : Int) + 1)) wr)) :=
      full_all m s 1 g 0 cap N len τ ρ rk σ (vT ((j : Int) + 1)) wr HRr.out.rf.by HRr.out.rf.ch (fun v h0 h1 => (HRr.out.rf.trm v (by omega) h1).1) HRr.out.rf.rel HRr.out.rf.ok hm (vT_ok (by omega) (by omega)) (vT_in _ _)
    go_wp2_with fail
    refine HFull.out.mono ?_
    rintro e w6 ⟨hb6, h⟩
    have hs6 : wr.heap.size ≤ w6.heap.size := hb6.size
    clear y5 HFull
    rcases h with ⟨X, q, rfl, hq1, hq2, hX, hXO, hXN, hXR, hXV⟩ | ⟨q, rfl, hq, hno⟩
    case inr =>
      rw [show T3 (vT 0) q false = .returned (.tuple #[.agg #[.int .i64 0, .string ⟨#[]⟩, .slice none 0 0], .int .i64 q, .bool false]) from rfl]
      have hR : roomF σ 200 (varsN n) = none := by rw [HRm.out, varsN_drop hlt]; exact hno _
      have HE : Hid (answerQ (cls r.P) n (absQ r N σ gl ch an) = absQ { r with fin := 3 } N σ gl ch an) := by
        rw [Hid]; unfold answerQ
        rw [show (absQ r N σ gl ch an).σ = cs σ from rfl, roomN_cs, hR]; rfl
      have HBf : Hid (Below wr.heap.size wr (w6.alloc (.cells #[.int .i64 0, .string ⟨#[]⟩, .slice none 0 0] 24))) := below_alloc hb6 _
      have hSf := HRr.out.below HBf.out
      have HSf : Hid (RS w0 (w6.alloc (.cells #[.int .i64 0, .string ⟨#[]⟩, .slice none 0 0] 24)) s r g cap len N τ ρ rk σ wk gl ch an) := hSf
      have x7 := hSf.get.2.2.2.2.2.2.2.1
      have xf7 := hSf.get.2.2.2.2.2.2.2.2.2 7
      have hzf : w.heap.size ≤ (w6.alloc (.cells #[.int .i64 0, .string ⟨#[]⟩, .slice none 0 0] 24)).heap.size := by simp; omega
      have hS6 := HRr.out.below hb6
      have v7 := hS6.get.2.2.2.2.2.2.2.1
      have vf7 := hS6.get.2.2.2.2.2.2.2.2.2 7
      have HS6 : Hid (RS w0 w6 s r g cap len N τ ρ rk σ wk gl ch an) := hS6
      clear hno hb6 hR hSf hS6
      go_wp2_with fail
      go_end0
      refine ⟨{ r with fin := 3 }, g, cap, len, N, N, τ, ρ, rk, σ, σ, wk, gl, gl, ch, an, rfl, ?_, HE.out, fun h => absurd (show (3 : Int) = 0 from h) (by omega), ⟨rfl, rfl, rfl⟩, by show (0 : Int) ≤ 3; omega, by omega, by omega, HcB.out, by omega, ?_, by omega, fun h => absurd (show (3 : Int) = 0 from h) (by omega)⟩
      · first
          | exact HSf.out.put 7 _ rfl rfl rfl rfl HSf.out.td
          | (have h1 := HS6.out.put 7 (.int .i64 3) (r' := { r with fin := 3 }) rfl rfl rfl rfl HS6.out.td
             exact h1.below ((Below.refl _ _).alloc (Nat.le_refl _) _))
      · simp [World.setCell]; omega
    rw [show T3 X q true = .returned (.tuple #[.agg #[.int .i64 X.v, .string X.nm, .slice X.a X.len X.cap], .int .i64 q, .bool true]) from rfl]
    have HRj : Hid (roomF σ 200 (varsN n) = roomF σ (m - q) ((varsN n).drop (j + 1))) := by rw [Hid, HRm.out, varsN_drop hlt]; exact hXR _
    have HXV : Hid (ap (nmOf ι) X = can (ex σ 200 (vT ((j : Int) + 1)))) := hXV _ HI.out.1 200 hm
    have HXr : Hid (∀ v ∈ vsT X, Rt N ρ v) := HI.out.2.2.2 X _ (fun π hπ => hXV π hπ 200 hm)
    have hcX : cnt X ≤ 200 := by
      have h1 := room_cnt HRr.out.rf.ok m [vT ((j : Int) + 1)] (m - q) (fun t ht => by rw [List.mem_singleton] at ht; subst ht; exact vT_ok (by omega) (by omega)) (by rw [hXR []]; exact roomF_nil _ _) 200 hm
      have h2 : cnt (ex σ 200 (vT ((j : Int) + 1))) ≤ m := by simpa using h1
      have h3 := congrArg cnt HXV.out
      rw [cnt_ap hXO, cnt_can] at h3
      omega
    have HXO : Hid (Okv N X) := hXO
    have HXN : Hid (∀ k, k < wr.heap.size → NB k X) := hXN
    have HBa : Hid (Below wr.heap.size wr (w6.alloc (.cells #[.int .i64 X.v, .string X.nm, .slice X.a X.len X.cap] 24))) := below_alloc hb6 _
    have HXa : Hid (TIn (w6.alloc (.cells #[.int .i64 X.v, .string X.nm, .slice X.a X.len X.cap] 24)) X) := hX.below ((Below.refl _ _).alloc (Nat.le_refl _) _)
    have HBox : Hid ((w6.alloc (.cells #[.int .i64 X.v, .string X.nm, .slice X.a X.len X.cap] 24)).heap[w6.heap.size]? = some (.cells #[.int .i64 X.v, .string X.nm, .slice X.a X.len X.cap] 24)) := heap_alloc_new _ _
    obtain ⟨b0, b1, b2, _, _, _⟩ := block_cells HBox.out
    have hs7 : wr.heap.size < (w6.alloc (.cells #[.int .i64 X.v, .string X.nm, .slice X.a X.len X.cap] 24)).heap.size := by simp; omega
    have hwm : ((m : Int) - (q : Int)) = ((m - q : Nat) : Int) := by omega
    have HParts : Hid (Calls Try.prog 51 #[.agg #[.int .i64 X.v, .string X.nm, .slice X.a X.len X.cap]] (w6.alloc (.cells #[.int .i64 X.v, .string X.nm, .slice X.a X.len X.cap] 24)) fun r w' => ∃ gp cp : Nat, r = .returned (.slice (some ⟨gp, 0, none⟩) (cnt X) cp) ∧ w'.ownsRow (w6.alloc (.cells #[.int .i64 X.v, .string X.nm, .slice X.a X.len X.cap] 24)).heap.size 24 3 (.slice (some ⟨gp, 0, none⟩) (cnt X) cp) (cnt X) (flat (pre X)) ∧ Below (w6.alloc (.cells #[.int .i64 X.v, .string X.nm, .slice X.a X.len X.cap] 24)).heap.size (w6.alloc (.cells #[.int .i64 X.v, .string X.nm, .slice X.a X.len X.cap] 24)) w') := partsBig_any X _ HXa.out (by omega)
    clear hX hXO hXN hXR hXV hb6
    go_wp2_with fail
    refine HParts.out.mono ?_
    rintro e w7 ⟨gp, cp, rfl, hop, hb7⟩
    have HP7 : Hid (w7.ownsRow (w6.alloc (.cells #[.int .i64 X.v, .string X.nm, .slice X.a X.len X.cap] 24)).heap.size 24 3 (.slice (some ⟨gp, 0, none⟩) (cnt X) cp) (cnt X) (flat (pre X))) := hop
    have hgp : (w6.alloc (.cells #[.int .i64 X.v, .string X.nm, .slice X.a X.len X.cap] 24)).heap.size ≤ gp := (hop.lt gp rfl).1
    have HB7 : Hid (Below wr.heap.size wr w7) := below_after HBa.out hb7
    have HX7 : Hid (TIn w7 X) := HXa.out.below hb7
    have HBo7 : Hid (w7.heap[w6.heap.size]? = some (.cells #[.int .i64 X.v, .string X.nm, .slice X.a X.len X.cap] 24)) := (hb7.block _ (by simp)).trans HBox.out
    have HO7 : Hid (w7.ownsRow w.heap.size 3 1 (.slice (some ⟨w.heap.size, 0, none⟩) len len) len (nmRow len (SX Xs))) := HO.out.kept (grown_of_below HB7.out none) (.inr (fun e => by cases e))
    have HL7 : Hid (LstQ w1.heap.size (vT 0) w7 u2 ts (Xs.map fun X => ap (nmOf (num (SX Xs))) X)) := HL.out.keep HB7.out
    have HBw7 : Hid (Below w.heap.size w w7) := below_after HBr.out HB7.out
    have hs8 : (w6.alloc (.cells #[.int .i64 X.v, .string X.nm, .slice X.a X.len X.cap] 24)).heap.size ≤ w7.heap.size := hb7.size
    have hpl : (pre X).length = cnt X := pre_length X
    have HPo : Hid (∀ t ∈ pre X, Okv N t) := pre_okv HXO.out
    have HPv : Hid (pv (pre X) = vsT X) := pv_pre HXO.out
    have hgpn : w.heap.size ≠ gp := by omega
    clear hop hb7 b0 b1 b2 HParts HBox HXa HO HL
    generalize hcc : cnt X = c at *
    clear hcc
    obtain ⟨wv, hwv⟩ : ∃ wv, wv = wr := ⟨wr, rfl⟩
    subst hwv
    go_wp2_with fail
    go_loopw [4, 11] (fun lv iv wq => ∃ i : Nat, i ≤ c ∧ lv = .int .i64 ((addV (SX Xs) (pv ((pre X).take i))).length : Nat) ∧ iv = .int .i64 i ∧ wq.ownsRow w.heap.size 3 1 (.slice (some ⟨w.heap.size, 0, none⟩) len len) len (nmRow len (addV (SX Xs) (pv ((pre X).take i)))) ∧ (addV (SX Xs) (pv ((pre X).take i))).length ≤ 200 * j + i ∧ G w.heap.size w7 wq) (fun _ v _ => c - (intOf v).toNat)
    case atStart => exact ⟨0, Nat.zero_le _, rfl, rfl, HO7.out, hSl, ⟨rfl, rfl, rfl, Nat.le_refl _, fun _ _ _ => rfl⟩⟩
    case round =>
      obtain ⟨i, hic, rfl, rfl, hO, hSi, hG⟩ := hrel
      have HO : Hid (wr.ownsRow w.heap.size 3 1 (.slice (some ⟨w.heap.size, 0, none⟩) len len) len (nmRow len (addV (SX Xs) (pv ((pre X).take i))))) := hO
      have HG : Hid (G w.heap.size w7 wr) := hG
      have HPq : Hid (wr.ownsRow w7.heap.size 24 3 (.slice (some ⟨gp, 0, none⟩) c cp) c (flat (pre X)) ∨ True) := .inr trivial
      have hrowp : wr.heap[gp]? = w7.heap[gp]? := hG.block gp (HP7.out.lt gp rfl).2 (fun e => hgpn (Option.some.inj e).symm)
      have hzq := hG.size
      clear hO hG HPq HO7
      by_cases hil : i < c
      case pos =>
        have hiI : (i : Int) < (c : Int) := by omega
        obtain ⟨t, ht⟩ : ∃ t, (pre X)[i]? = some t := ⟨_, List.getElem?_eq_getElem (by omega)⟩
        obtain ⟨hi', hte⟩ := List.getElem?_eq_some_iff.1 ht
        have HTo : Hid (Okv N t) := HPo.out t (by rw [← hte]; exact List.getElem_mem _)
        have HTk : Hid ((pre X).take (i + 1) = (pre X).take i ++ [t]) := by rw [Hid, List.take_succ_eq_append_getElem hi', hte]
        have e0 : wr.cell? ⟨gp, i * 3, none⟩ = some (.int .i64 t.v) := by
          obtain ⟨f0, _, _⟩ := flat_get (pre X) i hi'
          rw [hte] at f0
          exact (World.cell?_of_block hrowp).trans ((HP7.out.cellAt (i * 3) (by omega)).trans f0)
        have htt := HTo.out.top
        clear ht hte
        by_cases hv : t.v = 0
        case pos =>
          have hvb : (t.v != 0) = false := by rw [hv]; rfl
          have HS1 : Hid (addV (SX Xs) (pv ((pre X).take (i + 1))) = (addV (SX Xs) (pv ((pre X).take i)))) := by
            rw [Hid, HTk.out, pv_append, show pv [t] = [] from by unfold pv; simp [hv], List.append_nil]
          clear hv htt
          go_wp2_with fail
          go_roundw
          case rel => exact ⟨i + 1, by omega, by rw [HS1.out], by go_num, by rw [HS1.out]; exact HO.out, by rw [HS1.out]; omega, HG.out⟩
          case measure => simp [intOf]; omega
        have hvb : (t.v != 0) = true := bne_iff_ne.2 hv
        obtain ⟨z, hz⟩ : ∃ z : Nat, t.v = z := ⟨t.v.toNat, by omega⟩
        have hzl : z < len := by have := HLn.out; omega
        have hzI : (z : Int) < (len : Int) := by omega
        have hone : addV (SX Xs) (pv ((pre X).take (i + 1))) = if (z : Int) ∈ (addV (SX Xs) (pv ((pre X).take i))) then (addV (SX Xs) (pv ((pre X).take i))) else (addV (SX Xs) (pv ((pre X).take i))) ++ [(z : Int)] := by
          rw [HTk.out, pv_append, show pv [t] = [(z : Int)] from by rw [← hz]; unfold pv; rw [List.filter_cons_of_pos (by simpa using hv)]; rfl, addV_append, addV_one]
        have n0 : wr.cell? ⟨w.heap.size, z, none⟩ = some (.int .i64 (nf (addV (SX Xs) (pv ((pre X).take i))) (z : Int))) := by
          refine (HO.out.cellAt z (by omega)).trans ?_
          unfold nmRow
          rw [List.getElem?_eq_getElem (by simpa using hzl)]
          simp
        rw [hz] at e0 hvb
        by_cases hmem : (z : Int) ∈ (addV (SX Xs) (pv ((pre X).take i)))
        case pos =>
          have hnz : (nf (addV (SX Xs) (pv ((pre X).take i))) (z : Int) == 0) = false := beq_eq_false_iff_ne.2 (nf_in hmem).2
          have HS1 : Hid (addV (SX Xs) (pv ((pre X).take (i + 1))) = (addV (SX Xs) (pv ((pre X).take i)))) := by rw [Hid, hone, if_pos hmem]
          clear hv htt hz hone hmem
          generalize nf (addV (SX Xs) (pv ((pre X).take i))) (z : Int) = y at *
          go_wp2_with fail
          go_roundw
          case rel => exact ⟨i + 1, by omega, by rw [HS1.out], by go_num, by rw [HS1.out]; exact HO.out, by rw [HS1.out]; omega, HG.out⟩
          case measure => simp [intOf]; omega
        rw [nf_out hmem] at n0
        have HS1 : Hid (addV (SX Xs) (pv ((pre X).take (i + 1))) = (addV (SX Xs) (pv ((pre X).take i))) ++ [(z : Int)]) := by rw [Hid, hone, if_neg hmem]
        have HSet : Hid ((nmRow len (addV (SX Xs) (pv ((pre X).take i)))).set z (.int .i64 (((addV (SX Xs) (pv ((pre X).take i))).length : Int) + 1)) = nmRow len ((addV (SX Xs) (pv ((pre X).take i))) ++ [(z : Int)])) := nf_set hmem
        have nf0 : wr.frozen? ⟨w.heap.size, z, none⟩ = false := by
          rcases HO.out.2 with ⟨h', _⟩ | ⟨g', cap', cur, h', _, hg', _⟩
          · cases h'
          · cases h'
            simp [World.frozen?, hg']
        have hlS : (addV (SX Xs) (pv ((pre X).take i))).length ≤ 2600 := by omega
        clear hv htt hz hone hmem
        generalize (addV (SX Xs) (pv ((pre X).take i))) = S at *
        have hwS : IntKind.i64.wrap ((S.length : Int) + 1) = (S.length : Int) + 1 := by simp [IntKind.wrap, IntKind.bits, IntKind.signed]; omega
        go_wp2_with fail
        have hO6 := owns_set1 HO.out z (.int .i64 ((S.length : Int) + 1))
        rw [HSet.out] at hO6
        have hG6 : G w.heap.size w7 (wr.setCell ⟨w.heap.size, z, none⟩ (.int .i64 ((S.length : Int) + 1))) := G.trans HG.out (G.set _ _ z _)
        go_roundw
        case rel => exact ⟨i + 1, by omega, by rw [HS1.out]; simp, by go_num, by rw [HS1.out]; exact hO6, by rw [HS1.out]; simp; omega, hG6⟩
        case measure => simp [intOf]; omega
      have hiI : ¬ ((i : Int) < (c : Int)) := by omega
      obtain rfl : i = c := by omega
      have hSe : addV (SX Xs) (pv ((pre X).take i)) = SX (Xs ++ [X]) := by
        rw [List.take_of_length_le (by omega), HPv.out, SX_more]
      have HOe : Hid (wr.ownsRow w.heap.size 3 1 (.slice (some ⟨w.heap.size, 0, none⟩) len len) len (nmRow len (SX (Xs ++ [X])))) := by rw [Hid, ← hSe]; exact HO.out
      rw [hSe] at hSi ⊢
      have HNm : Hid (NmIs wr w.heap.size 0 len (nf (SX (Xs ++ [X])))) := fun k hk => by
        rw [Nat.zero_add]
        refine (HOe.out.cellAt k (by omega)).trans ?_
        unfold nmRow
        rw [List.getElem?_eq_getElem (by simpa using hk)]
        simp
      have HBq : Hid (wr.heap[w6.heap.size]? = some (.cells #[.int .i64 X.v, .string X.nm, .slice X.a X.len X.cap] 24)) := (HG.out.block _ (Array.getElem?_eq_some_iff.1 HBo7.out).1 (fun e => by have := Option.some.inj e; omega)).trans HBo7.out
      have hN0 : ∀ k, NB k (vT 0) := fun k => ⟨fun h => absurd h (Nat.lt_irrefl 0), fun i hi => absurd hi (Nat.not_lt_zero i)⟩
      have HXq : Hid (TIn wr X) := HX7.out.grown HG.out (fun k hk => by obtain rfl := Option.some.inj hk; exact HXN.out _ (by omega))
      have HLq : Hid (LstQ w1.heap.size (vT 0) wr u2 ts (Xs.map fun Y => ap (nmOf (num (SX Xs))) Y)) := by
        refine ⟨HL7.out.own.kept HG.out (row_ne (fun k hk => by have := (HL7.out.own.lt k hk).1; omega)), fun T hT => ⟨(HL7.out.all T hT).1.grown HG.out (fun k hk => by obtain rfl := Option.some.inj hk; exact (HL7.out.all T hT).2.1 _ hgn (hN0 _)), (HL7.out.all T hT).2⟩, HL7.out.len, HL7.out.sim⟩
      have HBwq : Hid (Below w.heap.size w wr) := HBw7.out.grown HG.out (by omega) (fun k hk => by obtain rfl := Option.some.inj hk; exact Nat.le_refl _)
      have HApe : Hid (ap (nmOf (nf (SX (Xs ++ [X])))) X = ap (nmOf (num (SX (Xs ++ [X])))) X) := ap_vs fun v hv => (nf_in (by rw [SX_more]; exact mem_addV _ _ hv)).1
      have HNamed : Hid (Calls Try.prog 69 #[.agg #[.int .i64 X.v, .string X.nm, .slice X.a X.len X.cap], .slice (some ⟨w.heap.size, 0, none⟩) len len] wr (NP (nf (SX (Xs ++ [X]))) X wr)) := named_all N X w.heap.size 0 len len (nf (SX (Xs ++ [X]))) wr HNm.out (by have := HLn.out; omega) (by omega) HXq.out HXO.out
      have HXs : Hid (XOk N σ ρ ι (Xs ++ [X])) := HX.out.more (by rw [HXl.out.1]; exact HXV.out) HXr.out
      obtain ⟨b0, b1, b2, _, _, _⟩ := block_cells HBq.out
      clear hSe HO HL7 HX7 HBo7 hrowp
      go_wp2_with fail
      refine HNamed.out.mono ?_
      rintro e w10 ⟨Z, rfl, hb10, hZ, hZc, hZN⟩
      rw [show Z.val = .agg #[.int .i64 Z.v, .string Z.nm, .slice Z.a Z.len Z.cap] from rfl]
      have hs10 : wr.heap.size ≤ w10.heap.size := hb10.size
      have HB11 : Hid (Below wr.heap.size wr (w10.alloc (.cells #[.int .i64 Z.v, .string Z.nm, .slice Z.a Z.len Z.cap] 24))) := below_alloc hb10 _
      have HL11 : Hid (LstQ w1.heap.size (vT 0) (w10.alloc (.cells #[.int .i64 Z.v, .string Z.nm, .slice Z.a Z.len Z.cap] 24)) u2 ts (Xs.map fun Y => ap (nmOf (num (SX Xs))) Y)) := HLq.out.keep HB11.out
      have HZ11 : Hid (TIn (w10.alloc (.cells #[.int .i64 Z.v, .string Z.nm, .slice Z.a Z.len Z.cap] 24)) Z ∧ (∀ k, k < wr.heap.size → NB k Z) ∧ can Z = ap (nmOf (num (SX (Xs ++ [X])))) X) := ⟨hZ.below ((Below.refl _ _).alloc (Nat.le_refl _) _), fun k hk => hZN k hk (hN0 k), hZc.trans HApe.out⟩
      have HN11 : Hid (∀ j u, (flat [Z])[j]? = some u → (w10.alloc (.cells #[.int .i64 Z.v, .string Z.nm, .slice Z.a Z.len Z.cap] 24)).cell? ((⟨w10.heap.size, 0, none⟩ : Addr).add j) = some u) := news1 w10 Z
      have hsz11 : w1.heap.size ≤ (w10.alloc (.cells #[.int .i64 Z.v, .string Z.nm, .slice Z.a Z.len Z.cap] 24)).heap.size := by simp; omega
      have HBw11 : Hid (Below w.heap.size w (w10.alloc (.cells #[.int .i64 Z.v, .string Z.nm, .slice Z.a Z.len Z.cap] 24))) := below_after HBwq.out HB11.out
      have HO11 : Hid ((w10.alloc (.cells #[.int .i64 Z.v, .string Z.nm, .slice Z.a Z.len Z.cap] 24)).ownsRow w.heap.size 3 1 (.slice (some ⟨w.heap.size, 0, none⟩) len len) len (nmRow len (SX (Xs ++ [X])))) := HOe.out.kept (grown_of_below HB11.out none) (.inr (fun e => by cases e))
      clear hb10 hZ hZc hZN b0 b1 b2 hN0
      go_wp2_with (at_builtin; refine wpList_append_own_at _ rfl (.tmp 82) (.tmp 86) 112 rfl w1.heap.size 24 i0 (.agg #[.int .i64 0, .string ByteArray.empty, .slice none 0 0]) 3 48 Try.underlying112 hi hz0 hz1 hz2 rfl (by decide) u2 ts.length (flat ts) rfl HL11.out.own ⟨w10.heap.size, 0, none⟩ 1 1 (flat [Z]) rfl rfl HN11.out (flat_one _) (by unfold maxLen; omega) (by omega) hsz11 ?_; intro v' w12 hown' hgrow hnil hat)
      have HB12 : Hid (Below w.heap.size w w12) := HBw11.out.grown hgrow (by have := HBw11.out.size; omega) (fun k hk => by have := (HL11.out.own.lt k hk).1; omega)
      have HL12 : Hid (LstQ w1.heap.size (vT 0) w12 v' (ts ++ [Z]) ((Xs ++ [X]).map fun Y => ap (nmOf (num (SX (Xs ++ [X])))) Y)) := by
        rw [Hid, List.map_append, us_more]
        exact HL11.out.more HZ11.out.1 (fun k hk _ => HZ11.out.2.1 k (by omega)) (fun k hk => HZ11.out.2.1 k (HLq.out.own.lt k hk).2) HZ11.out.2.2 hown' hgrow hat
      have HO12 : Hid (w12.ownsRow w.heap.size 3 1 (.slice (some ⟨w.heap.size, 0, none⟩) len len) len (nmRow len (SX (Xs ++ [X])))) := HO11.out.kept hgrow (.inr (fun e => by
        have h1 := (HL11.out.own.lt w.heap.size e.symm).1
        omega))
      have hz12 : w1.heap.size ≤ w12.heap.size := Nat.le_trans hsz11 hgrow.size
      have HXl2 : Hid ((Xs ++ [X]).length = j + 1 ∧ (ts ++ [Z]).length = j + 1) := ⟨by rw [List.length_append, HXl.out.1]; rfl, by rw [List.length_append, HXl.out.2]; rfl⟩
      clear hown' hgrow hnil hat
      go_wp2_with fail
      go_roundw
      case rel => exact ⟨j + 1, m - q, Xs ++ [X], ts ++ [Z], ⟨by omega, by omega, HXl2.out.1, HXl2.out.2⟩, rfl, rfl, by go_num, HL12.out, HXs.out, HO12.out, by omega, HRj.out, HB12.out, hz12⟩
      case measure => simp [intOf]; omega
end Go.Proofs.Ytmggaclaoefdaaa
