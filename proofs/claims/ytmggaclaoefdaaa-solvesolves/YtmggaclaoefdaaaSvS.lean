/- A search: what the variables of the query are. -/
import Derived.Test.YtmggaclaoefdaaaGX
import Derived.Test.YtmggaclaoefdaaaGP
namespace Go.Proofs.Ytmggaclaoefdaaa
open Go.RowKit

/-- Variables that have come, as the first so many of the query are told. -/
def nmL (σ : Sg) (j : Nat) : List Int := addV [] (((List.range j).map fun i : Nat => vsT (ex σ 200 (vT ((i : Int) + 1)))).flatten)
theorem nmL_succ (σ : Sg) (j : Nat) : nmL σ (j + 1) = addV (nmL σ j) (vsT (ex σ 200 (vT ((j : Int) + 1)))) := by
  unfold nmL; rw [List.range_succ, List.map_append, List.flatten_append, addV_append]; simp
theorem found_eq (σ : Sg) (n : Nat) : foundP σ n = (List.range n).map fun i : Nat => can (ap (nmOf (num (nmL σ n))) (ex σ 200 (vT ((i : Int) + 1)))) := by
  unfold foundP nmL
  simp only [List.map_map]
  rfl
theorem found_cs (σ : Sg) (n : Nat) : foundP (cs σ) n = foundP σ n := by
  have e : ∀ v : Int, can (ex (cs σ) 200 (vT v)) = can (ex σ 200 (vT v)) := fun v => by
    have := ex_cs σ 200 (vT v)
    rwa [can_vT] at this
  have en : nmL (cs σ) n = nmL σ n := by
    unfold nmL
    congr 2
    apply List.map_congr_left
    intro i _
    exact vsT_eq (e _)
  rw [found_eq, found_eq, en]
  apply List.map_congr_left
  intro i _
  rw [ap_eq (e _)]
theorem varsN_can (n : Nat) : (varsN n).map can = varsN n := by
  unfold varsN
  rw [List.map_map]
  apply List.map_congr_left
  intro i _
  exact can_vT _
theorem varsN_succ (n : Nat) : varsN (n + 1) = varsN n ++ [vT ((n : Int) + 1)] := by unfold varsN; rw [List.range_succ, List.map_append]; rfl
theorem varsN_len (n : Nat) : (varsN n).length = n := by simp [varsN]
theorem varsN_get (n i : Nat) (h : i < n) : (varsN n).getD i .nil = vT ((i : Int) + 1) := by simp [varsN, List.getD, h]
theorem roomN_cs (σ : Sg) (n : Nat) : roomF (cs σ) 200 (varsN n) = roomF σ 200 (varsN n) := by
  have := roomF_cs σ 200 (varsN n)
  rwa [varsN_can] at this
/-- The query's variables, of which j are told. -/
structure FL (σ : Sg) (a lo : Nat) (w : World) (v : Value) (k j : Nat) (ts : List Tm) : Prop where
  own : w.ownsRow lo 24 3 v a (flat ts)
  len : ts.length = a
  all : ∀ T ∈ ts, TIn w T ∧ Above lo T ∧ NB k T ∧ ∀ q, v.ownBlock = some q → NB q T
  ne : ∀ q, v.ownBlock = some q → q ≠ k
  done : ∀ i, i < j → ∀ s', nmL σ j <+: s' → can (ts.getD i .nil) = ap (nmOf (num s')) (ex σ 200 (vT ((i : Int) + 1)))
  rest : ∀ i, j ≤ i → i < a → ts.getD i .nil = vT ((i : Int) + 1)
theorem FL.bw {σ : Sg} {a lo : Nat} {w w' : World} {v : Value} {k j : Nat} {ts : List Tm} (h : FL σ a lo w v k j ts) (hb : Bw (fun q => q = k) w.heap.size w w') : FL σ a lo w' v k j ts :=
  ⟨rowk h.own (fun g hg => hb.block g (h.own.lt g hg).2 (h.ne g hg)), h.len, fun T hT => ⟨(h.all T hT).1.bw hb (Nat.le_refl _) (h.all T hT).2.2.1.nm, (h.all T hT).2⟩, h.ne, h.done, h.rest⟩
theorem FL.put {σ : Sg} {a lo : Nat} {w : World} {g cap : Nat} {k j : Nat} {ts : List Tm} (h : FL σ a lo w (.slice (some ⟨g, 0, none⟩) a cap) k j ts) (hj : j < a) {X : Tm} (hX : TIn w X) (hA : Above lo X) (hk : NB k X) (hg : NB g X)
    (hV : ∀ s', nmL σ (j + 1) <+: s' → can X = ap (nmOf (num s')) (ex σ 200 (vT ((j : Int) + 1)))) :
    FL σ a lo (((w.setCell ⟨g, j * 3, none⟩ (.int .i64 X.v)).setCell ⟨g, j * 3 + 1, none⟩ (.string X.nm)).setCell ⟨g, j * 3 + 2, none⟩ (.slice X.a X.len X.cap)) (.slice (some ⟨g, 0, none⟩) a cap) k (j + 1) (ts.set j X) := by
  have hG : w.grownBy (((w.setCell ⟨g, j * 3, none⟩ (.int .i64 X.v)).setCell ⟨g, j * 3 + 1, none⟩ (.string X.nm)).setCell ⟨g, j * 3 + 2, none⟩ (.slice X.a X.len X.cap)) (some g) := G.trans (G.trans (grown_set g _ _) (grown_set g _ _)) (grown_set g _ _)
  have hget : ∀ i, i ≠ j → (ts.set j X).getD i .nil = ts.getD i .nil := fun i hi => by simp [List.getD, Ne.symm hi]
  have hgetj : (ts.set j X).getD j .nil = X := by simp [List.getD, h.len, hj]
  refine ⟨owns_set h.own h.len hj X, by rw [List.length_set]; exact h.len, fun T hT => ?_, h.ne, fun i hi s' hs => ?_, fun i h1 h2 => ?_⟩
  · rcases List.mem_or_eq_of_mem_set hT with hT | rfl
    · obtain ⟨h1, h2, h3, h4⟩ := h.all T hT
      exact ⟨h1.grown hG (fun q hq => by obtain rfl := Option.some.inj hq; exact h4 _ rfl), h2, h3, h4⟩
    · exact ⟨hX.grown hG (fun q hq => by obtain rfl := Option.some.inj hq; exact hg), hA, hk, fun q hq => by
        have : g = q := by simpa [Value.ownBlock] using hq
        exact this ▸ hg⟩
  · by_cases e : i = j
    · subst e; rw [hgetj]; exact hV s' hs
    · rw [hget i e]; exact h.done i (by omega) s' (List.IsPrefix.trans (by rw [nmL_succ]; exact addV_pre _ _) hs)
  · rw [hget i (by omega)]; exact h.rest i (by omega) h2
/-- All are told. -/
theorem FL.ans {σ : Sg} {a lo : Nat} {w : World} {v : Value} {k : Nat} {ts : List Tm} (h : FL σ a lo w v k a ts) : ∃ A : Tm, v = slA A ∧ TIn w A ∧ Above lo A ∧ ansC A = foundP σ a := by
  have hL : LstR lo w v ts ts := ⟨by rw [h.len]; exact h.own, fun T hT => ⟨(h.all T hT).1, (h.all T hT).2.1, (h.all T hT).2.2.2⟩, rfl, fun i _ => Sim.refl _⟩
  obtain ⟨A, h1, h2, h3, h4⟩ := hL.terms
  refine ⟨A, h1, h2, h3, ?_⟩
  have hl : A.len = a := h4.1.trans h.len
  unfold ansC kidsL
  rw [found_eq, List.map_map, hl]
  apply List.map_congr_left
  intro i hi
  have hi := List.mem_range.1 hi
  show can (A.f i) = can (ap _ _)
  have e := sim_can (h4.2 i (by omega))
  rw [e, ← h.done i hi _ (List.prefix_refl _), can_can]
/-- What found says. -/
def FRes (w0 w : World) (s m : Nat) (r : Sr) (tv : Value) (n : Nat) (σ : Sg) (L : Int) (tr : List Int) (gl : List Gl) (ch : List Cr) (an : List Tm) (a : Nat) (e : Ending) (w' : World) : Prop :=
  (roomF σ 200 (varsN a) = none ∧ e = .returned (.slice none 0 0) ∧ SS w0 w' s m { r with fin := 3 } tv n σ L tr gl ch an ∧ w.heap.size ≤ w'.heap.size) ∨
  ((∃ k, roomF σ 200 (varsN a) = some k) ∧ ∃ A : Tm, e = .returned (slA A) ∧ Below w.heap.size w w' ∧ TIn w' A ∧ Above w.heap.size A ∧ ansC A = foundP σ a)
theorem okv_sim {T : Tm} {v N : Int} (h : Sim T (vT v)) (h0 : 0 < v) (h1 : v ≤ N) : Okv N T := by
  cases T with
  | nil => have h : v = 0 := h.1; omega
  | mk u nm a len cap f =>
    obtain ⟨e1, e2, e3, _⟩ := h
    have e1 : u = v := e1
    have e2 : nm = ⟨#[]⟩ := e2
    have e3 : len = 0 := e3
    exact ⟨by omega, by omega, fun _ => ⟨e2, e3⟩, by omega, fun i hi => absurd hi (by omega)⟩
set_option maxRecDepth 100000 in
set_option maxHeartbeats 4000000 in
theorem found_any {w0 : World} {s m : Nat} {r : Sr} {tv : Value} {n : Nat} {σ : Sg} {L : Int} {tr : List Int} {gl : List Gl} {ch : List Cr} {an : List Tm} (a : Nat) (w : World) (h : SS w0 w s m r tv n σ L tr gl ch an) (ha : r.asked = a) (ha12 : a ≤ 12) :
    Calls Try.prog 122 #[.pointer (some ⟨s, 0, none⟩)] w (FRes w0 w s m r tv n σ L tr gl ch an a) := by
  have H : Hid (SS w0 w s m r tv n σ L tr gl ch an) := h
  obtain ⟨_, _, _, _, _, y5, _, _, _, _, _⟩ := h.blk.get
  have hs := h.blk.lt
  rw [ha] at y5
  have HA : Hid (r.asked = a) := ha
  obtain ⟨i0, hi, hz0, hz1, hz2⟩ := info_parts Try.info24
  have hmm := @run_makeMap Try.prog
  have hmf : ∀ (fn : Fn) (first cap : Array Value) (w : World), (Instr.makeFunc fn first cap).run Try.prog w = .ok (.func fn first cap) w := fun _ _ _ _ => rfl
  clear h ha
  go_enter Try.func122, Try.ntmps122
  go_wp2_with fail
  go_loopw [3, 12] (fun v x wr => ∃ j : Nat, j ≤ a ∧ x = .int .i64 j ∧ LstR w.heap.size wr v (varsN j) (varsN j) ∧ Below w.heap.size w wr) (fun _ x _ => a - (intOf x).toNat)
  case atStart => exact ⟨0, Nat.zero_le _, rfl, ⟨World.ownsRow_nil _ _ _ _, fun c hc => absurd hc (by simp [varsN]), rfl, fun i hi => absurd hi (Nat.not_lt_zero i)⟩, Below.refl _ _⟩
  case round =>
    obtain ⟨j, hj, rfl, hL, hB⟩ := hrel
    have HL : Hid (LstR w.heap.size wr u3 (varsN j) (varsN j)) := hL
    have HB : Hid (Below w.heap.size w wr) := hB
    have hvl := varsN_len j
    clear hL hB
    by_cases hlt : j < a
    case pos =>
      have HBx : Hid (Below wr.heap.size wr (wr.alloc (.cells #[.int .i64 ((j : Int) + 1), .string ⟨#[]⟩, .slice none 0 0] 24))) := (Below.refl _ _).alloc (Nat.le_refl _) _
      have HL3 : Hid (LstR w.heap.size (wr.alloc (.cells #[.int .i64 ((j : Int) + 1), .string ⟨#[]⟩, .slice none 0 0] 24)) u3 (varsN j) (varsN j)) := HL.out.keep HBx.out
      have HB3 : Hid (Below w.heap.size w (wr.alloc (.cells #[.int .i64 ((j : Int) + 1), .string ⟨#[]⟩, .slice none 0 0] 24))) := HB.out.trans (HBx.out.mono HB.out.size)
      have hsz3 := HB3.out.size
      have HN3' : Hid (∀ i u, (flat [vT ((j : Int) + 1)])[i]? = some u → (wr.alloc (.cells #[.int .i64 ((j : Int) + 1), .string ⟨#[]⟩, .slice none 0 0] 24)).cell? ((⟨wr.heap.size, 0, none⟩ : Addr).add i) = some u) := news1 wr (vT ((j : Int) + 1))
      go_wp2_with (at_builtin; refine wpList_append_own_at _ rfl (.tmp 15) (.tmp 19) 22 rfl w.heap.size 24 i0 (.agg #[.int .i64 0, .string ByteArray.empty, .slice none 0 0]) 3 48 Try.underlying22 hi hz0 hz1 hz2 rfl (by decide) u3 (varsN j).length (flat (varsN j)) rfl HL3.out.own ⟨wr.heap.size, 0, none⟩ 1 1 (flat [vT ((j : Int) + 1)]) rfl rfl HN3'.out (flat_one _) (by unfold maxLen; omega) (by omega) hsz3 ?_; intro v' w6 hown' hgrow hnil hat)
      have HB6 : Hid (Below w.heap.size w w6) := HB3.out.grown hgrow hsz3 (fun k hk => (HL3.out.own.lt k hk).1)
      have HL6 : Hid (LstR w.heap.size w6 v' (varsN (j + 1)) (varsN (j + 1))) := by
        rw [Hid, varsN_succ]
        exact HL3.out.more (vT_in _ _) ⟨fun h => absurd h (Nat.lt_irrefl 0), fun i hi => absurd hi (Nat.not_lt_zero i)⟩ (fun g hg => ⟨fun h => absurd h (Nat.lt_irrefl 0), fun i hi => absurd hi (Nat.not_lt_zero i)⟩) (Sim.refl _) hown' hgrow hat
      clear hown' hgrow hnil hat
      go_wp2_with fail
      go_roundw
      case rel => exact ⟨j + 1, by omega, by go_num, HL6.out, HB6.out⟩
      case measure => simp [intOf]; omega
    have hje : j = a := by omega
    have hLa : LstR w.heap.size wr u3 (varsN a) (varsN a) := by have := HL.out; rw [hje] at this; exact this
    have HLa : Hid (LstR w.heap.size wr u3 (varsN a) (varsN a)) := hLa
    obtain ⟨V, hV, hVin, hVab, hVs⟩ := hLa.terms
    have hVl : V.len = a := hVs.1.trans (varsN_len a)
    have HK : Hid (kidsL V = (List.range a).map fun i => V.f i) := by rw [Hid]; unfold kidsL; rw [hVl]
    have HKc : Hid ((kidsL V).map can = varsN a) := by
      rw [HK.out, List.map_map]
      unfold varsN
      apply List.map_congr_left
      intro i hi
      have hi := List.mem_range.1 hi
      have := sim_can (hVs.2 i (by omega))
      rw [varsN_get a i hi, can_vT] at this
      exact this
    have HVo : Hid (∀ i, i < V.len → Okv 1000000 (V.f i)) := fun i hi => by
      have := hVs.2 i hi
      rw [varsN_get a i (by omega)] at this
      exact okv_sim this (by omega) (by omega)
    have HSr : Hid (SS w0 wr s m r tv n σ L tr gl ch an) := H.out.below HB.out
    have HRo : Hid (Calls Try.prog 96 #[.pointer (some ⟨r.b, 0, none⟩), .int .i64 200, .slice V.a a V.cap] wr fun e w' => ∃ x : Int, e = .returned (.int .i64 x) ∧ Below wr.heap.size wr w' ∧ RMP σ 200 V x) := by
      have := room_all 200 r.b m tv 1000000 w0.heap.size n σ L V wr HSr.out.vs (Nat.le_refl _) hVin HVo.out
      rw [hVl] at this
      exact this
    have HRV : Hid (∀ ts, roomF σ 200 (kidsL V ++ ts) = roomF (cs σ) 200 (varsN a ++ ts.map can)) := fun ts => by
      rw [← roomF_cs, List.map_append, HKc.out]
    have hu3 : u3 = .slice V.a a V.cap := by rw [hV, hVl]
    have z7 : wr.cell? ⟨s, 7, none⟩ = some (.pointer (some ⟨r.b, 0, none⟩)) := HSr.out.blk.get.2.2.2.2.2.2.2.1
    clear hje hV hVin hVab hVs hvl
    subst hu3
    clear hLa
    generalize V.a = va at *
    generalize V.cap = vc at *
    go_wp2_with fail
    refine HRo.out.mono ?_
    rintro e w1 ⟨x, rfl, hb1, hP⟩
    have HB1 : Hid (Below wr.heap.size wr w1) := hb1
    have HS1 : Hid (SS w0 w1 s m r tv n σ L tr gl ch an) := HSr.out.below hb1
    have hz1 : w.heap.size ≤ w1.heap.size := Nat.le_trans HB.out.size hb1.size
    have y1 := HS1.out.blk.get.2.1
    have yf1 := HS1.out.blk.get.2.2.2.2.2.2.2.2.2.2 1
    rcases hP with ⟨k, rfl, hk, hw⟩ | ⟨rfl, hw⟩
    case inr =>
      have HQ : Hid (roomF σ 200 (varsN a) = none) := by
        have := hw []
        rw [HRV.out, List.map_nil, List.append_nil, roomN_cs] at this
        exact this
      clear hw hb1
      go_wp2_with fail
      go_ret
      exact .inl ⟨HQ.out, rfl, HS1.out.put 1 _ rfl rfl rfl rfl HS1.out.gls, by simpa [World.setCell] using hz1⟩
    have HQ : Hid (roomF σ 200 (varsN a) = some k) := by
      have := hw []
      rw [HRV.out, List.map_nil, List.append_nil, roomN_cs, roomF_nil] at this
      exact this
    have hkb : decide ((k : Int) < 0) = false := decide_eq_false (by omega)
    have HL1 : Hid (LstR w.heap.size w1 (.slice va a vc) (varsN a) (varsN a)) := HLa.out.keep hb1
    clear hw hb1
    have HFn : Hid (∀ i : Nat, i < a → Fin σ 200 (vT ((i : Int) + 1))) := fun i hi => room_fin 200 _ _ HQ.out _ (List.mem_map.2 ⟨i, List.mem_range.2 hi, rfl⟩)
    have hkl : w.heap.size ≤ w1.heap.size := hz1
    have HBb : Hid (Below w1.heap.size w1 ((w1.alloc (.map #[] 0)).alloc (.cells #[.map (some w1.heap.size)] 124))) := ((Below.refl _ _).alloc (Nat.le_refl _) _).alloc (by simp) _
    have HNb : Hid (NumIs ((w1.alloc (.map #[] 0)).alloc (.cells #[.map (some w1.heap.size)] 124)) w1.heap.size (nmL σ 0)) := (NumIs.made w1).kept (heap_alloc_old _ _ (by simp))
    have HOb : Hid (((w1.alloc (.map #[] 0)).alloc (.cells #[.map (some w1.heap.size)] 124)).heap[w1.heap.size + 1]? = some (.cells #[.map (some w1.heap.size)] 124)) := by
      have := heap_alloc_new (w1.alloc (.map #[] 0)) (.cells #[.map (some w1.heap.size)] 124)
      rwa [show (w1.alloc (.map #[] 0)).heap.size = w1.heap.size + 1 from by simp] at this
    go_wp2_with fail
    generalize (w1.alloc (.map #[] 0)).alloc (.cells #[.map (some w1.heap.size)] 124) = wb at *
    have HFL0 : Hid (FL σ a w.heap.size wb (.slice va a vc) w1.heap.size 0 (varsN a)) := by
      have h1 := HL1.out.keep HBb.out
      refine ⟨by have := h1.own; rwa [varsN_len] at this, varsN_len a, fun T hT => ?_, fun q hq => ?_, fun i hi => absurd hi (Nat.not_lt_zero i), fun i _ hi => varsN_get a i hi⟩
      · obtain ⟨i, _, rfl⟩ := List.mem_map.1 hT
        exact ⟨vT_in _ _, ⟨fun h => absurd h (Nat.lt_irrefl 0), fun i hi => absurd hi (Nat.not_lt_zero i)⟩, ⟨fun h => absurd h (Nat.lt_irrefl 0), fun i hi => absurd hi (Nat.not_lt_zero i)⟩, fun _ _ => ⟨fun h => absurd h (Nat.lt_irrefl 0), fun i hi => absurd hi (Nat.not_lt_zero i)⟩⟩
      · have := (HL1.out.own.lt q hq).2; omega
    have HBwb : Hid (Below w.heap.size w wb) := (HB.out.trans (HB1.out.mono HB.out.size)).trans (HBb.out.mono hkl)
    have hzb : w1.heap.size + 1 < wb.heap.size := (Array.getElem?_eq_some_iff.1 HOb.out).1
    generalize hkk : w1.heap.size = kk at *
    clear hkk
    go_loopw [36] (fun x wr => ∃ (j : Nat) (ts : List Tm), j ≤ a ∧ x = .int .i64 j ∧ FL σ a w.heap.size wr (.slice va a vc) kk j ts ∧ NumIs wr kk (nmL σ j) ∧ wr.heap[kk + 1]? = some (.cells #[.map (some kk)] 124) ∧ Below w.heap.size w wr) (fun x _ => a - (intOf x).toNat)
    case atStart => exact ⟨0, varsN a, Nat.zero_le _, rfl, HFL0.out, HNb.out, HOb.out, HBwb.out⟩
    case round =>
      clear HFL0 HNb HOb HBwb HBb HS1 HSr HL HLa HL1 HB HB1 HRo HRV HKc HK HVo hkb y1 yf1 z7 hlt hj hzb hVl hk hz1
      obtain ⟨j2, ts, hj2, rfl, hFL, hNu, hOb, hB2⟩ := hrel
      have HFL : Hid (FL σ a w.heap.size wr (.slice va a vc) kk j2 ts) := hFL
      have HNu : Hid (NumIs wr kk (nmL σ j2)) := hNu
      have HOb : Hid (wr.heap[kk + 1]? = some (.cells #[.map (some kk)] 124)) := hOb
      have HB2 : Hid (Below w.heap.size w wr) := hB2
      have hzk : kk + 1 < wr.heap.size := (Array.getElem?_eq_some_iff.1 hOb).1
      clear hFL hNu hOb hB2
      by_cases hlt : j2 < a
      case neg =>
        have hje : j2 = a := by omega
        have hFa : FL σ a w.heap.size wr (.slice va a vc) kk a ts := by have := HFL.out; rwa [hje] at this
        obtain ⟨A, hA1, hA2, hA3, hA4⟩ := hFa.ans
        have HAn : Hid (Value.slice va a vc = slA A ∧ TIn wr A ∧ Above w.heap.size A ∧ ansC A = foundP σ a) := ⟨hA1, hA2, hA3, hA4⟩
        clear hje hFa hA1 hA2 hA3 hA4
        go_wp2_with fail
        go_ret
        exact .inr ⟨⟨k, HQ.out⟩, A, by rw [← HAn.out.1]; rfl, HB2.out, HAn.out.2⟩
      obtain ⟨g, hva⟩ : ∃ g, va = some ⟨g, 0, none⟩ := by
        rcases HFL.out.own.2 with ⟨_, h0⟩ | ⟨g, cp, cur, h, _⟩
        · omega
        · injection h with h1 _ _; exact ⟨g, h1⟩
      subst hva
      have hg := HFL.out.own.lt g rfl
      have hgk : g ≠ kk := HFL.out.ne g rfl
      obtain ⟨f0, f1, f2⟩ := flat_get ts j2 (by rw [HFL.out.len]; exact hlt)
      have htj : ts[j2]'(by rw [HFL.out.len]; exact hlt) = vT ((j2 : Int) + 1) := by
        have := HFL.out.rest j2 (Nat.le_refl _) hlt
        simpa [List.getD, HFL.out.len, hlt] using this
      rw [htj] at f0 f1 f2
      have c0 : wr.cell? ⟨g, j2 * 3, none⟩ = some (.int .i64 ((j2 : Int) + 1)) := (HFL.out.own.cellAt (j2 * 3) (by omega)).trans f0
      have c1 : wr.cell? ⟨g, j2 * 3 + 1, none⟩ = some (.string ⟨#[]⟩) := (HFL.out.own.cellAt (j2 * 3 + 1) (by omega)).trans f1
      have c2 : wr.cell? ⟨g, j2 * 3 + 2, none⟩ = some (.slice none 0 0) := (HFL.out.own.cellAt (j2 * 3 + 2) (by omega)).trans f2
      have hfz : ∀ i, wr.frozen? ⟨g, i, none⟩ = false := fun i => by
        rcases HFL.out.own.2 with ⟨h, _⟩ | ⟨g', cp, cur, h, _, hgg, _⟩
        · simp at h
        · injection h with h1 _ _
          injection h1 with h1
          injection h1 with h1 _ _
          subst h1
          simp [World.frozen?, hgg]
      clear f0 f1 f2 htj
      have hltI : (j2 : Int) < (a : Int) := by omega
      have HBa : Hid (Below wr.heap.size wr (wr.alloc (.cells #[.int .i64 ((j2 : Int) + 1), .string ⟨#[]⟩, .slice none 0 0] 24))) := (Below.refl _ _).alloc (Nat.le_refl _) _
      have HXa : Hid ((wr.alloc (.cells #[.int .i64 ((j2 : Int) + 1), .string ⟨#[]⟩, .slice none 0 0] 24)).heap[wr.heap.size]? = some (.cells #[.int .i64 ((j2 : Int) + 1), .string ⟨#[]⟩, .slice none 0 0] 24)) := heap_alloc_new wr _
      go_wp2_with fail
      generalize wr.alloc (.cells #[.int .i64 ((j2 : Int) + 1), .string ⟨#[]⟩, .slice none 0 0] 24) = wa at *
      have hza : wr.heap.size < wa.heap.size := (Array.getElem?_eq_some_iff.1 HXa.out).1
      have HFa : Hid (FL σ a w.heap.size wa (.slice (some ⟨g, 0, none⟩) a vc) kk j2 ts) := HFL.out.bw (Bw.ofBelow HBa.out)
      have HBwa : Hid (Below w.heap.size w wa) := HB2.out.trans (HBa.out.mono HB2.out.size)
      have HSa : Hid (SS w0 wa s m r tv n σ L tr gl ch an) := H.out.below HBwa.out
      have x7 : wa.cell? ⟨s, 7, none⟩ = some (.pointer (some ⟨r.b, 0, none⟩)) := HSa.out.blk.get.2.2.2.2.2.2.2.1
      obtain ⟨e0, e1, e2, _, _, _⟩ := block_cells HXa.out
      have hsg : s ≠ g := by omega
      have HKp : Hid (∀ W : World, (W.heap[s]? = wa.heap[s]? ∧ W.heap[wr.heap.size]? = wa.heap[wr.heap.size]?) → W.cell? ⟨s, 7, none⟩ = some (.pointer (some ⟨r.b, 0, none⟩)) ∧ W.cell? ⟨wr.heap.size, 0, none⟩ = some (.int .i64 ((j2 : Int) + 1)) ∧ W.cell? ⟨wr.heap.size, 1, none⟩ = some (.string ⟨#[]⟩) ∧ W.cell? ⟨wr.heap.size, 2, none⟩ = some (.slice none 0 0)) := fun W hW => ⟨(World.cell?_of_block hW.1).trans x7, (World.cell?_of_block hW.2).trans e0, (World.cell?_of_block hW.2).trans e1, (World.cell?_of_block hW.2).trans e2⟩
      have HKset : Hid (∀ (W : World) (i : Nat) (v : Value), (W.heap[s]? = wa.heap[s]? ∧ W.heap[wr.heap.size]? = wa.heap[wr.heap.size]?) → ((W.setCell ⟨g, i, none⟩ v).heap[s]? = wa.heap[s]? ∧ (W.setCell ⟨g, i, none⟩ v).heap[wr.heap.size]? = wa.heap[wr.heap.size]?)) := fun W i v hW => ⟨(Below.heap_setCell _ _ _ _ (show s ≠ g from hsg)).trans hW.1, (Below.heap_setCell _ _ _ _ (show wr.heap.size ≠ g by omega)).trans hW.2⟩
      have HKdr : Hid (∀ W : World, (W.heap[s]? = wa.heap[s]? ∧ W.heap[wr.heap.size]? = wa.heap[wr.heap.size]?) → (W.drew.heap[s]? = wa.heap[s]? ∧ W.drew.heap[wr.heap.size]? = wa.heap[wr.heap.size]?)) := fun W hW => hW
      have HK0 : Hid (wa.heap[s]? = wa.heap[s]? ∧ wa.heap[wr.heap.size]? = wa.heap[wr.heap.size]?) := ⟨rfl, rfl⟩
      have HCg : Hid (∀ W : World, W.heap[g]? = wa.heap[g]? → W.cell? ⟨g, j2 * 3, none⟩ = some (.int .i64 ((j2 : Int) + 1)) ∧ W.cell? ⟨g, j2 * 3 + 1, none⟩ = some (.string ⟨#[]⟩) ∧ W.cell? ⟨g, j2 * 3 + 2, none⟩ = some (.slice none 0 0) ∧ W.frozen? ⟨g, j2 * 3, none⟩ = false ∧ W.frozen? ⟨g, j2 * 3 + 1, none⟩ = false ∧ W.frozen? ⟨g, j2 * 3 + 2, none⟩ = false) := fun W hW => by
        have hgw : W.heap[g]? = wr.heap[g]? := hW.trans (HBa.out.block g hg.2)
        exact ⟨(World.cell?_of_block hgw).trans c0, (World.cell?_of_block hgw).trans c1, (World.cell?_of_block hgw).trans c2, (World.frozen?_of_block hgw).trans (hfz _), (World.frozen?_of_block hgw).trans (hfz _), (World.frozen?_of_block hgw).trans (hfz _)⟩
      have HC : Hid (∀ W, Below wa.heap.size wa W → Calls Try.prog 97 #[.pointer (some ⟨r.b, 0, none⟩), .agg #[.int .i64 ((j2 : Int) + 1), .string ⟨#[]⟩, .slice none 0 0], .func (.func 137) #[] #[.pointer (some ⟨kk + 1, 0, none⟩)]] W (XQ (fun q => q = kk) W (fun X w' => NumIs w' kk (nmL σ (j2 + 1)) ∧ ∀ s', nmL σ (j2 + 1) <+: s' → can X = ap (nmOf (num s')) (ex σ 200 (vT ((j2 : Int) + 1)))))) := fun W hW => by
        have hbW : Below wr.heap.size wr W := HBa.out.trans (hW.mono (Nat.le_of_lt hza))
        have := whole_num (lo := w0.heap.size) (n := n) (L := L) H.out.vs.dec (k := kk) (o := kk + 1) (b := r.b) (m := m) (tv := tv) ⟨by have := H.out.vs.lt; omega, by have := H.out.vs.map.lt; omega, fun q hq => by have := (H.out.trk.1.lt q hq).2; omega⟩ (fun u T hu => (H.out.vs.trm u T hu).1.nb hkl) (by omega) 200 _ (vT ((j2 : Int) + 1)) (Nat.le_refl _) (nmL σ j2) W (HNu.out.kept (hbW.block kk (by omega))) (HSa.out.below hW).vs ((hbW.block (kk + 1) hzk).trans HOb.out) (vT_ok (by omega) (by omega)) (vT_in _ _) ⟨fun h => absurd h (Nat.lt_irrefl 0), fun i hi => absurd hi (Nat.not_lt_zero i)⟩ (HFn.out j2 hlt)
        rw [← nmL_succ] at this
        exact this
      clear c0 c1 c2 hfz x7 e0 e1 e2
      go_region_held3 (fun W => W.cell? ⟨s, 7, none⟩ = some (.pointer (some ⟨r.b, 0, none⟩)) ∧ W.cell? ⟨wr.heap.size, 0, none⟩ = some (.int .i64 ((j2 : Int) + 1)) ∧ W.cell? ⟨wr.heap.size, 1, none⟩ = some (.string ⟨#[]⟩) ∧ W.cell? ⟨wr.heap.size, 2, none⟩ = some (.slice none 0 0)) ((refine HKp.out _ ?_; repeat (first | with_reducible exact HK5.out | with_reducible exact HK0.out | refine HKset.out _ _ _ ?_ | refine HKdr.out _ ?_))) (first
        | (go_at_call 97
           refine (HC.out _ (by repeat (first | exact Below.refl _ _ | refine Below.drew ?_))).mono ?_
           rintro e w5 ⟨X, rfl, hb5, hX5, hA5, hN5, hV5⟩
           have HB5 : Hid (Bw (fun q => q = kk) wa.heap.size wa w5) := Bw.trans (Bw.ofBelow (by repeat (first | exact Below.refl _ _ | refine Below.drew ?_))) (hb5.mono (Nat.le_refl _))
           have HX5 : Hid (TIn w5 X ∧ Above wa.heap.size X) := ⟨hX5, hA5⟩
           have HN5 : Hid (NumIs w5 kk (nmL σ (j2 + 1)) ∧ ∀ s', nmL σ (j2 + 1) <+: s' → can X = ap (nmOf (num s')) (ex σ 200 (vT ((j2 : Int) + 1)))) := ⟨hN5, hV5⟩
           have HK5 : Hid (w5.heap[s]? = wa.heap[s]? ∧ w5.heap[wr.heap.size]? = wa.heap[wr.heap.size]?) := ⟨HB5.out.block s (by have := HSa.out.blk.lt; omega) (by omega), HB5.out.block _ hza (by omega)⟩
           obtain ⟨q0, q1, q2, qf0, qf1, qf2⟩ := HCg.out w5 (HB5.out.block g (by omega) hgk)
           rw [show X.val = .agg #[.int .i64 X.v, .string X.nm, .slice X.a X.len X.cap] from rfl]
           clear hb5 hX5 hA5 hN5 hV5))
      all_goals
        have hXg : NB g X := HX5.out.2.nb (by omega)
        have hXk : NB kk X := HX5.out.2.nb (by omega)
        have HF6 : Hid (FL σ a w.heap.size (((w5.setCell ⟨g, j2 * 3, none⟩ (.int .i64 X.v)).setCell ⟨g, j2 * 3 + 1, none⟩ (.string X.nm)).setCell ⟨g, j2 * 3 + 2, none⟩ (.slice X.a X.len X.cap)) (.slice (some ⟨g, 0, none⟩) a vc) kk (j2 + 1) (ts.set j2 X)) := (HFa.out.bw HB5.out).put hlt HX5.out.1 (HX5.out.2.mono HBwa.out.size) hXk hXg HN5.out.2
        have hG6 : w5.grownBy (((w5.setCell ⟨g, j2 * 3, none⟩ (.int .i64 X.v)).setCell ⟨g, j2 * 3 + 1, none⟩ (.string X.nm)).setCell ⟨g, j2 * 3 + 2, none⟩ (.slice X.a X.len X.cap)) (some g) := G.trans (G.trans (grown_set g _ _) (grown_set g _ _)) (grown_set g _ _)
        have hz5 := HB5.out.size
        have HN6 : Hid (NumIs (((w5.setCell ⟨g, j2 * 3, none⟩ (.int .i64 X.v)).setCell ⟨g, j2 * 3 + 1, none⟩ (.string X.nm)).setCell ⟨g, j2 * 3 + 2, none⟩ (.slice X.a X.len X.cap)) kk (nmL σ (j2 + 1))) := HN5.out.1.kept (hG6.block kk (by omega) (by simpa using hgk.symm))
        have HO6 : Hid ((((w5.setCell ⟨g, j2 * 3, none⟩ (.int .i64 X.v)).setCell ⟨g, j2 * 3 + 1, none⟩ (.string X.nm)).setCell ⟨g, j2 * 3 + 2, none⟩ (.slice X.a X.len X.cap)).heap[kk + 1]? = some (.cells #[.map (some kk)] 124)) := by
          have hgk1 : g ≠ kk + 1 := fun e => by
            rcases HFL.out.own.2 with ⟨h, _⟩ | ⟨g', cp, cur, h, _, hgg, _⟩
            · simp at h
            · injection h with h1 _ _
              injection h1 with h1
              injection h1 with h1 _ _
              subst h1
              rw [e, HOb.out] at hgg
              injection hgg with hgg
              injection hgg with _ hgg
              exact absurd hgg (by decide)
          exact (hG6.block (kk + 1) (by omega) (by simpa using hgk1.symm)).trans ((HB5.out.block (kk + 1) (by omega) (by omega)).trans ((HBa.out.block (kk + 1) hzk).trans HOb.out))
        have HB6 : Hid (Below w.heap.size w (((w5.setCell ⟨g, j2 * 3, none⟩ (.int .i64 X.v)).setCell ⟨g, j2 * 3 + 1, none⟩ (.string X.nm)).setCell ⟨g, j2 * 3 + 2, none⟩ (.slice X.a X.len X.cap))) := by
          have h1 : Below w.heap.size wa w5 := ⟨HB5.out.os, HB5.out.tape, HB5.out.output, HB5.out.size, fun q hq => HB5.out.block q (by have := HBwa.out.size; omega) (by omega)⟩
          exact (HBwa.out.trans h1).grown hG6 (by have := HBwa.out.size; omega) (fun q hq => by have := Option.some.inj hq; omega)
        clear hXg hXk hG6 hz5 q0 q1 q2 qf0 qf1 qf2
        go_wp2_with fail
        go_roundw
        case rel => exact ⟨j2 + 1, ts.set j2 X, by omega, by go_num, HF6.out, HN6.out, HO6.out, HB6.out⟩
        case measure => simp [intOf]; omega
end Go.Proofs.Ytmggaclaoefdaaa
