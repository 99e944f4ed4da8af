/- Solve: what it answers. -/
import Derived.Test.YtmggaclaoefdaaaGY
import Derived.Test.YtmggaclaoefdaaaLaw
namespace Go.Proofs.Ytmggaclaoefdaaa
open Go.RowKit

def solveE (P : Pg) (Q : Tm) (steps : Int) : Int := if progV P ≠ 0 then progV P else if queryV Q ≠ 0 then queryV Q else if steps < 0 ∨ steps > 400 then 3 else 0
theorem query_okv {Q : Tm} (h : queryV Q = 0) : Q.len ≤ 6 ∧ ∀ i, i < Q.len → Okv 12 (Q.f i) := by
  have h6 : Q.len ≤ 6 := by
    by_cases h6 : Q.len ≤ 6
    · exact h6
    · rw [queryV, if_neg h6] at h; omega
  refine ⟨h6, fun i hi => ?_⟩
  rw [queryV, if_pos h6] at h
  have h1 : chks Q (i + 1) = 0 := fst_zero _ hi h
  have h0 : chks Q i = 0 := fst_zero _ (Nat.le_of_lt hi) h
  unfold chks at h0 h1
  rw [fst, if_pos h0] at h1
  exact okv_of_err _ (checkV_err h1)
theorem prog_ok {w : World} {P : Pg} (hP : PIn w P) (hc : P.len ≤ P.cap) (h : progV P = 0) : Prg w P := by
  have h30 : P.len ≤ 30 := by
    by_cases h30 : P.len ≤ 30
    · exact h30
    · rw [progV, if_neg h30] at h; omega
  rw [progV, if_pos h30] at h
  have hcl : ∀ i, i < P.len → clV (P.hd i) (P.bd i) = 0 := fun i hi => by
    have h1 : clsV P (i + 1) = 0 := fst_zero _ hi h
    have h0 : clsV P i = 0 := fst_zero _ (Nat.le_of_lt hi) h
    unfold clsV at h0 h1
    rw [fst, if_pos h0] at h1
    exact h1
  have hh : ∀ i, i < P.len → headV (P.hd i) = 0 ∧ queryV (P.bd i) = 0 := fun i hi => by
    have h1 := hcl i hi
    by_cases h2 : headV (P.hd i) = 0
    · rw [clV, if_pos h2] at h1; exact ⟨h2, h1⟩
    · rw [clV, if_neg h2] at h1; exact absurd h1 h2
  refine ⟨hP, hc, h30, fun i hi => ?_, fun i hi => query_okv (hh i hi).2⟩
  have h1 := (hh i hi).1
  by_cases h2 : checkV (P.hd i) = 0
  · exact okv_of_err _ (checkV_err h2)
  · rw [headV, if_neg h2] at h1; exact absurd h1 h2
theorem grTo_le {g : Nat → Int} {N : Int} (h0 : 0 ≤ N) (k : Nat) (h : ∀ i, i < k → g i ≤ N) : grTo g k ≤ N := by
  induction k with
  | zero => exact h0
  | succ k ih =>
    rw [grTo]
    exact Int.max_le.2 ⟨ih (fun i hi => h i (by omega)), h k (by omega)⟩
theorem gr_le {N : Int} (h0 : 0 ≤ N) (T : Tm) : Okv N T → gr T ≤ N := by
  induction T with
  | nil => intro h; exact h.elim
  | mk v nm a len cap f ih =>
    intro h
    rw [gr_eq]
    exact Int.max_le.2 ⟨h.2.1, grTo_le h0 len (fun i hi => ih i (h.2.2.2.2 i hi))⟩
theorem vars_12 {Q : Tm} (h : queryV Q = 0) : ∃ a : Nat, varsV Q = a ∧ a ≤ 12 := by
  have h0 : 0 ≤ varsV Q := by rw [varsV, if_pos h]; exact grTo_nonneg _ _
  have h1 : varsV Q ≤ 12 := by rw [varsV, if_pos h]; exact grTo_le (by omega) _ (fun i hi => gr_le (by omega) _ ((query_okv h).2 i hi))
  exact ⟨(varsV Q).toNat, by omega, by omega⟩
/-- A search, as it begins. -/
def ps0 (Q : Tm) (a : Nat) : PS := ⟨(kidsL Q).map fun t => (can t, 0), [], fun _ => none, a, [], 0, 0⟩
/-- What is found. -/
def solP (P : Pg) (Q : Tm) (limit : Nat) : PS := runP (cls P) (varsV Q).toNat limit 442 (ps0 Q (varsV Q).toNat)
def VRes (P : Pg) (Q : Tm) (steps : Int) (w : World) (e : Ending) (w' : World) : Prop := Below w.heap.size w w' ∧
  ((solveE P Q steps ≠ 0 ∧ e = .returned (.tuple #[rsV none 0 0 0 0, .int .i64 (solveE P Q steps)])) ∨
   (solveE P Q steps = 0 ∧ ∃ (sa : Option Addr) (ca : Nat) (an : List Tm) (fin st : Int), e = .returned (.tuple #[rsV sa an.length ca fin st, .int .i64 0]) ∧ AR w' sa an ∧ an.length ≤ ca ∧ an.length ≤ 40 ∧ 0 < fin ∧ 0 ≤ st ∧ (solP P Q steps.toNat).ans = an.map ansC ∧ (solP P Q steps.toNat).fin = fin.toNat ∧ (solP P Q steps.toNat).st = st.toNat))
theorem ans_form {w : World} {lo : Nat} {av : Value} {an : List Tm} (h : w.ownsRow lo 112 1 av an.length (an.map slA)) (ht : ∀ A ∈ an, TIn w A) : ∃ sa ca, av = .slice sa an.length ca ∧ an.length ≤ ca ∧ AR w sa an := by
  rcases h.2 with ⟨rfl, h0⟩ | ⟨g, cap, cur, rfl, hlo, hg, hnc, hcm, hsz, htk⟩
  · exact ⟨none, 0, by rw [h0], by omega, fun k hk => by omega⟩
  · exact ⟨some ⟨g, 0, none⟩, cap, rfl, hnc, fun k hk => ⟨⟨g, 0, rfl, by
      rw [Nat.zero_add, h.cellAt k (by omega)]; simp [hk, slA]⟩, ht _ (List.getElem_mem hk)⟩⟩
theorem Okv.le {N N' : Int} (h : N ≤ N') : ∀ {T : Tm}, Okv N T → Okv N' T := by
  intro T
  induction T with
  | nil => intro h; exact h
  | mk v nm a len cap f ih => intro hT; exact ⟨hT.1, Int.le_trans hT.2.1 h, hT.2.2.1, hT.2.2.2.1, fun i hi => ih i (hT.2.2.2.2 i hi)⟩
theorem set3t {W : World} {r : Nat} {x y z a b c : Value} {t : TypeId} (h : W.heap[r]? = some (.cells #[x, y, z] t)) :
    (((W.setCell ⟨r, 0, none⟩ a).setCell ⟨r, 1, none⟩ b).setCell ⟨r, 2, none⟩ c).heap[r]? = some (.cells #[a, b, c] t) := by
  simp only [World.setCell, Array.getElem?_modify]
  simp [h]
/-- Three cells of a new block are stored, whatever its type. -/
theorem fin3t {w W : World} {r : Nat} {x y z : Value} {t : TypeId} (hr : w.heap.size ≤ r) (hX : W.heap[r]? = some (.cells #[x, y, z] t)) (hB : Below w.heap.size w W) (a c d : Value) :
    ∃ W', ((W.setCell ⟨r, 0, none⟩ a).setCell ⟨r, 1, none⟩ c).setCell ⟨r, 2, none⟩ d = W' ∧ W'.cell? ⟨r, 0, none⟩ = some a ∧ W'.cell? ⟨r, 1, none⟩ = some c ∧ W'.cell? ⟨r, 2, none⟩ = some d ∧ Below w.heap.size w W' ∧ W.grownBy W' (some r) := by
  have h3 : W.grownBy (((W.setCell ⟨r, 0, none⟩ a).setCell ⟨r, 1, none⟩ c).setCell ⟨r, 2, none⟩ d) (some r) := G.trans (G.trans (grown_set r 0 a) (grown_set r 1 c)) (grown_set r 2 d)
  have hc := set3t (a := a) (b := c) (c := d) hX
  refine ⟨_, rfl, by simp [World.cell?, hc], by simp [World.cell?, hc], by simp [World.cell?, hc], ?_, h3⟩
  exact ⟨h3.os.trans hB.os, h3.tape.trans hB.tape, h3.output.trans hB.output, Nat.le_trans hB.size h3.size, fun k hk => (h3.block k (Nat.lt_of_lt_of_le hk hB.size) (by simp; omega)).trans (hB.block k hk)⟩
/-- No argument lies where a result lies. -/
theorem nb_res {w : World} {k : Nat} {a : Option Addr} {n c : Nat} {y z : Int} {t : TypeId} (h : w.heap[k]? = some (.cells #[.slice a n c, .int .i64 y, .int .i64 z] t)) {T : Tm} (hT : TIn w T) : NB k T := by
  induction T with
  | nil => trivial
  | mk v nm a' len cap f ih =>
    refine ⟨fun h0 => ?_, fun i hi => ih i (hT.2.2 i hi).2⟩
    obtain ⟨b, o, e, _, c1, _⟩ := (hT.2.2 0 h0).1
    refine ⟨b, o, e, fun hb => ?_⟩
    subst hb
    have hlen : o + 0 * 3 + 1 < 3 := by
      rcases Nat.lt_or_ge (o + 0 * 3 + 1) 3 with h1 | h1
      · exact h1
      · have h3 : ¬ (o + 0 * 3 + 1 < (#[Value.slice a n c, Value.int .i64 y, Value.int .i64 z] : Array Value).size) := by simp; omega
        rw [cell_of_row _ _ _ _ _ _ h] at c1
        rw [Array.getElem?_eq_none (by omega)] at c1
        cases c1
    have h2 : o = 0 ∨ o = 1 := by omega
    rcases h2 with rfl | rfl
    · simp [World.cell?, h] at c1
    · simp [World.cell?, h] at c1
theorem AR.at {w w' : World} {sa : Option Addr} {l : List Tm} {k : Nat} (h : AR w sa l) (hg : w.grownBy w' (some k)) (hs : ∀ b o, sa = some ⟨b, o, none⟩ → b ≠ k) (hn : ∀ A ∈ l, NB k A) : AR w' sa l := fun i hi => by
  obtain ⟨⟨b, o, e, hc⟩, hT⟩ := h i hi
  exact ⟨⟨b, o, e, hg.cell hc (by simpa using hs b o e)⟩, hT.grown hg (fun q hq => by obtain rfl := Option.some.inj hq; exact hn _ (List.getElem_mem hi))⟩
set_option maxRecDepth 100000 in
set_option maxHeartbeats 8000000 in
theorem solve_any (P : Pg) (Q : Tm) (steps : Int) (w : World) (hP : PIn w P) (hc : P.len ≤ P.cap) (hQ : TIn w Q) :
    Calls Try.prog 27 #[.slice P.a P.len P.cap, .slice Q.a Q.len Q.cap, .int .i64 steps] w (VRes P Q steps w) := by
  have HP : Hid (∀ W, Below w.heap.size w W → PIn W P ∧ TIn W Q) := fun W hW => ⟨hP.below hW, hQ.below hW⟩
  have hc' : P.len ≤ P.cap := hc
  clear hP hQ
  have HZ : Hid ((w.alloc (.cells #[.slice none 0 0, .int .i64 0, .int .i64 0] 44)).heap[w.heap.size]? = some (.cells #[.slice none 0 0, .int .i64 0, .int .i64 0] 44)) := heap_alloc_new w _
  have HBz : Hid (Below w.heap.size w (w.alloc (.cells #[.slice none 0 0, .int .i64 0, .int .i64 0] 44))) := (Below.refl _ _).alloc (Nat.le_refl _) _
  go_enter Try.func27, Try.ntmps27
  go_wp2_with fail
  generalize w.alloc (.cells #[.slice none 0 0, .int .i64 0, .int .i64 0] 44) = wz at *
  have hzz : w.heap.size < wz.heap.size := (Array.getElem?_eq_some_iff.1 HZ.out).1
  have HK1 : Hid (Calls Try.prog 18 #[.slice P.a P.len P.cap] wz fun e w' => e = .returned (.int .i64 (progV P)) ∧ Below wz.heap.size wz w') := clauses_any P wz (HP.out _ HBz.out).1
  refine HK1.out.mono ?_
  rintro e w1 ⟨rfl, hb1⟩
  have HB1 : Hid (Below wz.heap.size wz w1) := hb1
  have HBw1 : Hid (Below w.heap.size w w1) := HBz.out.trans (hb1.mono HBz.out.size)
  have HZ1 : Hid (w1.heap[w.heap.size]? = some (.cells #[.slice none 0 0, .int .i64 0, .int .i64 0] 44)) := (hb1.block _ hzz).trans HZ.out
  clear hb1 HK1
  by_cases hp : progV P = 0
  case neg =>
    have hpb : (progV P != 0) = true := bne_iff_ne.2 hp
    have HE : Hid (solveE P Q steps = progV P ∧ solveE P Q steps ≠ 0) := by
      have : solveE P Q steps = progV P := by unfold solveE; rw [if_pos hp]
      exact ⟨this, by rw [this]; exact hp⟩
    obtain ⟨z0, z1, z2, zf0, zf1, zf2⟩ := block_cells HZ1.out
    clear hp
    go_wp2_with fail
    obtain ⟨W', hW', g0, g1, g2, hB', _⟩ := fin3t (r := w.heap.size) (Nat.le_refl _) HZ1.out HBw1.out (.slice none 0 0) (.int .i64 0) (.int .i64 0)
    rw [hW']
    refine bodyPost_ret (v := .tuple #[rsV none 0 0 0 0, .int .i64 (progV P)]) ?_ rfl ⟨hB', .inl ⟨HE.out.2, by rw [HE.out.1]⟩⟩
    simp [results, Try.results27, go_sem, g0, g1, g2, rsV]
  have HPr : Hid (progV P = 0) := hp
  rw [hp]
  have HK2 : Hid (Calls Try.prog 12 #[.slice Q.a Q.len Q.cap] w1 fun e w' => e = .returned (.tuple #[.int .i64 (varsV Q), .int .i64 (queryV Q)]) ∧ Below w1.heap.size w1 w') := vars_any Q w1 (HP.out _ HBw1.out).2
  clear hp
  go_wp2_with fail
  refine HK2.out.mono ?_
  rintro e w2 ⟨rfl, hb2⟩
  have HBw2 : Hid (Below w.heap.size w w2) := HBw1.out.trans (hb2.mono HBw1.out.size)
  have hz1 : w.heap.size < w1.heap.size := (Array.getElem?_eq_some_iff.1 HZ1.out).1
  have HZ2 : Hid (w2.heap[w.heap.size]? = some (.cells #[.slice none 0 0, .int .i64 0, .int .i64 0] 44)) := (hb2.block _ hz1).trans HZ1.out
  have hz2 : w.heap.size < w2.heap.size := (Array.getElem?_eq_some_iff.1 HZ2.out).1
  clear hb2 HK2
  by_cases hq : queryV Q = 0
  case neg =>
    have hqb : (queryV Q != 0) = true := bne_iff_ne.2 hq
    have HE : Hid (solveE P Q steps = queryV Q ∧ solveE P Q steps ≠ 0) := by
      have : solveE P Q steps = queryV Q := by unfold solveE; rw [if_neg (by simpa using HPr.out), if_pos hq]
      exact ⟨this, by rw [this]; exact hq⟩
    obtain ⟨z0, z1, z2, zf0, zf1, zf2⟩ := block_cells HZ2.out
    clear hq
    go_wp2_with fail
    obtain ⟨W', hW', g0, g1, g2, hB', _⟩ := fin3t (r := w.heap.size) (Nat.le_refl _) HZ2.out HBw2.out (.slice none 0 0) (.int .i64 0) (.int .i64 0)
    rw [hW']
    refine bodyPost_ret (v := .tuple #[rsV none 0 0 0 0, .int .i64 (queryV Q)]) ?_ rfl ⟨hB', .inl ⟨HE.out.2, by rw [HE.out.1]⟩⟩
    simp [results, Try.results27, go_sem, g0, g1, g2, rsV]
  obtain ⟨a, ha, ha12⟩ := vars_12 hq
  have HQ0 : Hid (queryV Q = 0) := hq
  have HA : Hid ((varsV Q).toNat = a) := by rw [Hid, ha]; rfl
  rw [hq, ha]
  clear hq ha
  by_cases hsr : steps < 0 ∨ steps > 400
  case pos =>
    have HE : Hid (solveE P Q steps = 3) := by
      rw [Hid]; unfold solveE; rw [if_neg (by simpa using HPr.out), if_neg (by simpa using HQ0.out), if_pos hsr]
    obtain ⟨z0, z1, z2, zf0, zf1, zf2⟩ := block_cells HZ2.out
    by_cases hs0 : steps < 0
    · have hs0b : decide (steps < 0) = true := decide_eq_true hs0
      clear hs0 hsr
      go_wp2_with fail
      obtain ⟨W', hW', g0, g1, g2, hB', _⟩ := fin3t (r := w.heap.size) (Nat.le_refl _) HZ2.out HBw2.out (.slice none 0 0) (.int .i64 0) (.int .i64 0)
      rw [hW']
      refine bodyPost_ret (v := .tuple #[rsV none 0 0 0 0, .int .i64 3]) ?_ rfl ⟨hB', .inl ⟨by rw [HE.out]; decide, by rw [HE.out]⟩⟩
      simp [results, Try.results27, go_sem, g0, g1, g2, rsV]
    · have hs0b : decide (steps < 0) = false := decide_eq_false hs0
      have hs4b : decide (steps > 400) = true := decide_eq_true (by omega)
      clear hs0 hsr
      go_wp2_with fail
      obtain ⟨W', hW', g0, g1, g2, hB', _⟩ := fin3t (r := w.heap.size) (Nat.le_refl _) HZ2.out HBw2.out (.slice none 0 0) (.int .i64 0) (.int .i64 0)
      rw [hW']
      refine bodyPost_ret (v := .tuple #[rsV none 0 0 0 0, .int .i64 3]) ?_ rfl ⟨hB', .inl ⟨by rw [HE.out]; decide, by rw [HE.out]⟩⟩
      simp [results, Try.results27, go_sem, g0, g1, g2, rsV]
  have HE : Hid (solveE P Q steps = 0) := by
    rw [Hid]; unfold solveE; rw [if_neg (by simpa using HPr.out), if_neg (by simpa using HQ0.out), if_neg hsr]
  have hs0b : decide (steps < 0) = false := decide_eq_false (by omega)
  have hs4b : decide (steps > 400) = false := decide_eq_false (by omega)
  have HSt : Hid (steps = ((steps.toNat : Nat) : Int) ∧ steps.toNat ≤ 400) := ⟨by omega, by omega⟩
  clear hsr
  go_wp2_with fail
  refine (new_any w2 1000000 (Int.le_refl _)).mono ?_
  rintro e w3 ⟨b, m, rfl, hv3, hb3⟩
  have hS4 := SS.start (w0 := w2) (w1 := w3) hv3 hb3 P steps a a
  have HS4 : Hid (SS w2 (w3.alloc (.cells #[.slice none 0 0, .int .i64 0, .int .i64 0, .slice P.a P.len P.cap, .int .i64 steps, .int .i64 a, .int .i64 a, .pointer (some ⟨b, 0, none⟩), .pointer none, .slice none 0 0] 103)) w3.heap.size m (r0 P steps a a b) (.slice none 0 0) 0 (fun _ => none) (4000 : Nat) [] [] [] []) := hS4
  have HB4 : Hid (Below w2.heap.size w2 (w3.alloc (.cells #[.slice none 0 0, .int .i64 0, .int .i64 0, .slice P.a P.len P.cap, .int .i64 steps, .int .i64 a, .int .i64 a, .pointer (some ⟨b, 0, none⟩), .pointer none, .slice none 0 0] 103))) := hb3.alloc hb3.size _
  clear hv3 hb3 hS4
  go_wp2_with fail
  generalize w3.alloc (.cells #[.slice none 0 0, .int .i64 0, .int .i64 0, .slice P.a P.len P.cap, .int .i64 steps, .int .i64 a, .int .i64 a, .pointer (some ⟨b, 0, none⟩), .pointer none, .slice none 0 0] 103) = w4 at *
  generalize w3.heap.size = s at *
  have HAh : Hid (Calls Try.prog 70 #[.slice Q.a Q.len Q.cap, .int .i64 0, .pointer none] w4 fun e w' => ∃ q, e = .returned q ∧ (∃ ad, q = .pointer ad) ∧ GL w' (Mu s b m (.slice none 0 0) (.slice none 0 0) (.slice none 0 0)) 1000000 q (((kidsL Q).map fun t => (t, 0)) ++ []) ∧ Below w4.heap.size w4 w') :=
    ahead_any (M := Mu s b m (.slice none 0 0) (.slice none 0 0) (.slice none 0 0)) (N := 1000000) Q 0 (.pointer none) [] w4 ((HP.out _ HBw2.out).2.below HB4.out) (NM.old (HP.out _ HBw2.out).2 (fun k hk => (HS4.out.mu hk).1)) (fun i hi => ((query_okv HQ0.out).2 i hi).le (by omega)) rfl (fun k hk => (HS4.out.mu hk).2) ⟨none, rfl⟩
  refine HAh.out.mono ?_
  rintro e w5 ⟨q, rfl, ⟨qa, rfl⟩, hg5, hb5⟩
  rw [List.append_nil] at hg5
  have HS5 : Hid (SS w2 w5 s m (r0 P steps a a b) (.slice none 0 0) 0 (fun _ => none) (4000 : Nat) [] [] [] []) := HS4.out.below hb5
  have HG5 : Hid (GL w5 (Mu s b m (.slice none 0 0) (.slice none 0 0) (.slice none 0 0)) 1000000 (.pointer qa) ((kidsL Q).map fun t => (t, 0))) := hg5
  have x8 : w5.cell? ⟨s, 8, none⟩ = some (.pointer none) := HS5.out.blk.get.2.2.2.2.2.2.2.2.1
  have xf8 := HS5.out.blk.get.2.2.2.2.2.2.2.2.2.2 8
  have HS6 : Hid (SS w2 (w5.setCell ⟨s, 8, none⟩ (.pointer qa)) s m { r0 P steps a a b with first := .pointer qa } (.slice none 0 0) 0 (fun _ => none) (4000 : Nat) [] ((kidsL Q).map fun t => (t, 0)) [] []) := HS5.out.put 8 (.pointer qa) (r' := { r0 P steps a a b with first := .pointer qa }) rfl rfl rfl rfl HG5.out
  have HX6 : Hid (absP { r0 P steps a a b with first := .pointer qa } (fun _ => none) ((kidsL Q).map fun t => (t, 0)) [] [] = ps0 Q a) := by
    rw [Hid]; unfold absP ps0 cgl
    rw [List.map_map]
    rfl
  have HRI : Hid (RI (cls P) (absP { r0 P steps a a b with first := .pointer qa } (fun _ => none) ((kidsL Q).map fun t => (t, 0)) [] []) a 0) := by
    rw [Hid, HX6.out]
    refine ⟨by show 0 < 40; omega, ⟨fun c hc => by simp [ps0] at hc, fun i hi => absurd hi (Nat.not_lt_zero i)⟩, ⟨fun g hg => ?_, ?_⟩, by omega, ?_, Nat.zero_le _⟩
    · obtain ⟨t, _, rfl⟩ := List.mem_map.1 hg
      exact Nat.zero_le _
    · show ((kidsL Q).map fun t => (can t, 0)).Pairwise _
      rw [List.pairwise_map]
      exact List.pairwise_iff_getElem.2 (fun _ _ _ _ _ => Nat.le_refl _)
    · show (a : Int) + 360 * ((0 : Nat) : Int) ≤ ((12 + 1080 * 0 + 400 * 0 : Nat) : Int)
      omega
  have HRu : Hid (Calls Try.prog 71 #[.pointer (some ⟨s, 0, none⟩)] (w5.setCell ⟨s, 8, none⟩ (.pointer qa)) (RRes w2 (w5.setCell ⟨s, 8, none⟩ (.pointer qa)) s m { r0 P steps a a b with first := .pointer qa } (absP { r0 P steps a a b with first := .pointer qa } (fun _ => none) ((kidsL Q).map fun t => (t, 0)) [] []) a steps.toNat)) :=
    run_any (r := { r0 P steps a a b with first := .pointer qa }) a steps.toNat _ (prog_ok (HP.out _ HBw2.out).1 hc' HPr.out) HS6.out rfl ha12 HSt.out.1 HSt.out.2 rfl rfl HRI.out
  clear hg5 hb5 HAh
  go_wp2_with fail
  refine HRu.out.mono ?_
  rintro e w7 ⟨r', tv', n', σ', σx, L', tr', gl', ch', an', rfl, hS7, hR7, hf7, hs7, ha7, hz7⟩
  obtain ⟨sa, ca, hav, hle, hAR⟩ := ans_form hS7.anr (fun A hA => (hS7.ant A hA).1)
  have HZ7 : Hid (w7.heap[w.heap.size]? = some (.cells #[.slice none 0 0, .int .i64 0, .int .i64 0] 44)) := (hS7.low.block _ hz2).trans HZ2.out
  have HBw7 : Hid (Below w.heap.size w w7) := HBw2.out.trans (hS7.low.mono HBw2.out.size)
  have HAR : Hid (AR w7 sa an' ∧ (∀ b o, sa = some ⟨b, o, none⟩ → b ≠ w.heap.size) ∧ ∀ A ∈ an', NB w.heap.size A) := ⟨hAR, fun b o e hb => by
    have := hS7.anr.lt b (by rw [hav, e]; rfl)
    omega, fun A hA => nb_res HZ7.out (hS7.ant A hA).1⟩
  have HSo : Hid ((solP P Q steps.toNat).ans = an'.map ansC ∧ (solP P Q steps.toNat).fin = r'.fin.toNat ∧ (solP P Q steps.toNat).st = r'.st.toNat) := by
    have h1 := hR7 442 (Nat.le_refl _)
    rw [HX6.out] at h1
    have h2 : solP P Q steps.toNat = absP r' σx gl' ch' an' := by unfold solP; rw [HA.out]; exact h1
    rw [Hid, h2]
    exact ⟨rfl, rfl, rfl⟩
  obtain ⟨u0, u1, u2, _⟩ := hS7.blk.get
  rw [hav] at u0
  obtain ⟨z0, z1, z2, zf0, zf1, zf2⟩ := block_cells HZ7.out
  generalize r'.fin = fin at *
  generalize r'.st = st at *
  clear hS7 hR7 hav hAR
  go_wp2_with fail
  obtain ⟨W', hW', g0, g1, g2, hB', hG'⟩ := fin3t (r := w.heap.size) (Nat.le_refl _) HZ7.out HBw7.out (.slice sa an'.length ca) (.int .i64 fin) (.int .i64 st)
  rw [hW']
  refine bodyPost_ret (v := .tuple #[rsV sa an'.length ca fin st, .int .i64 0]) ?_ rfl ⟨hB', .inr ⟨HE.out, sa, ca, an', fin, st, rfl, HAR.out.1.at hG' HAR.out.2.1 HAR.out.2.2, hle, ha7, hf7, hs7, HSo.out⟩⟩
  simp [results, Try.results27, go_sem, g0, g1, g2, rsV]
end Go.Proofs.Ytmggaclaoefdaaa
