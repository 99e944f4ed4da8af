/- anew: a term whose variables are numbered as they first stand, walked. -/
import Derived.Deep.RegionLaw
import Derived.Test.YtmggaclaoefdaaaHw4
import Derived.Test.YtmggaclaoefdaaaGAQ
namespace Go.Proofs.Ytmggaclaoefdaaa
open Go.RowKit
set_option linter.unusedVariables false
set_option linter.unusedSimpArgs false
attribute [local go_sem] Oper.semAt_some

def NmL (S : List Int) : List Value := (List.range 13).map fun i : Nat => Value.int .i64 (nfH S (i : Int))
structure SOk (S : List Int) : Prop where
  nd : S.Nodup
  rg : ∀ u ∈ S, 0 < u ∧ u ≤ 12
theorem SOk.one {S : List Int} (h : SOk S) {v : Int} (hv : 0 < v ∧ v ≤ 12) : SOk (addV S [v]) := by
  rw [addV_one]
  by_cases hm : v ∈ S
  · rw [if_pos hm]; exact h
  · rw [if_neg hm]
    refine ⟨?_, fun u hu => ?_⟩
    · rw [List.nodup_append]
      exact ⟨h.nd, by simp, fun a ha b hb => by simp at hb; subst hb; exact fun e => hm (e ▸ ha)⟩
    · simp at hu
      rcases hu with hu | hu
      · exact h.rg u hu
      · rw [hu]; exact hv
theorem SOk.more (l : List Int) : ∀ S : List Int, SOk S → (∀ u ∈ l, 0 < u ∧ u ≤ 12) → SOk (addV S l) := by
  induction l with
  | nil => intro S h _; rw [addV_nil]; exact h
  | cons x l ih =>
    intro S h hl
    have e1 : addV S (x :: l) = addV (addV S [x]) l := by rw [← addV_append]; rfl
    rw [e1]
    exact ih _ (h.one (hl x (by simp))) fun u hu => hl u (by simp [hu])
theorem SOk.few {S : List Int} (h : SOk S) : S.length ≤ 12 := by
  have hsub : S ⊆ (List.range 12).map fun i : Nat => (i : Int) + 1 := fun u hu => by
    have := h.rg u hu
    exact List.mem_map.2 ⟨u.toNat - 1, List.mem_range.2 (by omega), by omega⟩
  have := List.Nodup.length_le_of_subset h.nd hsub
  simpa using this
theorem nfH_le {S : List Int} (u : Int) : 0 ≤ nfH S u ∧ nfH S u ≤ S.length := by
  unfold nfH
  by_cases h : u ∈ S
  · rw [if_pos h]
    unfold num
    have := List.idxOf_lt_length_of_mem h
    omega
  · rw [if_neg h]
    omega
theorem nfH_max {S : List Int} (h : SOk S) {n : Int} (h1 : 1 ≤ n) (hn : ∀ j : Nat, j < 13 → nfH S (j : Int) < n) : (S.length : Int) + 1 ≤ n := by
  rcases List.eq_nil_or_concat S with e | ⟨S0, u, e⟩
  · subst e; simpa using h1
  · rw [List.concat_eq_append] at e
    subst e
    have hu := h.rg u (by simp)
    have hnot : ¬ u ∈ S0 := fun c => by
      have := h.nd
      rw [List.nodup_append] at this
      exact this.2.2 u c u (by simp) rfl
    have := hn u.toNat (by omega)
    rw [show ((u.toNat : Nat) : Int) = u by omega, (nfH_in (S := S0 ++ [u]) (u := u) (by simp)).1] at this
    unfold num at this
    rw [List.idxOf_append, if_neg hnot] at this
    simp at this ⊢
    omega
def AnP (w : World) (lo gn : Nat) (S : List Int) (T : Tm) (e : Ending) (w' : World) : Prop := ∃ X : Tm, e = .returned X.val ∧ w'.ownsRow lo 3 1 (.slice (some ⟨gn, 0, none⟩) 13 13) 13 (NmL (addV S (vsT T))) ∧ Bw (fun k => k = gn) w.heap.size w w' ∧ TIn w' X ∧ can X = ap (nmOf (num (addV S (vsT T)))) T ∧ ∀ k, k < w.heap.size → NB k X
def AnC (T : Tm) : Prop := ∀ (lo gn : Nat) (S : List Int) (w : World), Okv 12 T → TIn w T → NB gn T → SOk S → w.ownsRow lo 3 1 (.slice (some ⟨gn, 0, none⟩) 13 13) 13 (NmL S) → Calls Try.prog 49 #[T.val, .slice (some ⟨gn, 0, none⟩) 13 13] w (AnP w lo gn S T)
theorem NmL_get {w : World} {lo gn : Nat} {S : List Int} (h : w.ownsRow lo 3 1 (.slice (some ⟨gn, 0, none⟩) 13 13) 13 (NmL S)) {z : Nat} (hz : z < 13) : w.cell? ⟨gn, z, none⟩ = some (.int .i64 (nfH S (z : Int))) := by
  refine (h.cellAt z (by omega)).trans ?_
  unfold NmL
  rw [List.getElem?_eq_getElem (by simpa using hz)]
  simp
set_option maxRecDepth 100000 in
set_option maxHeartbeats 4000000 in
theorem anew_var {T : Tm} (hv : T.v ≠ 0) : AnC T := by
  intro lo gn S w hO hT hNB hS hR
  have ht := hO.top
  obtain ⟨z, hz⟩ : ∃ z : Nat, T.v = (z : Int) := ⟨T.v.toNat, by omega⟩
  have hz13 : z < 13 := by omega
  have hzI : (z : Int) < 13 := by omega
  have hz0 : (z : Int) ≠ 0 := by rw [← hz]; exact hv
  have hvb : ((z : Int) != 0) = true := bne_iff_ne.2 hz0
  have hgl := (hR.lt gn rfl)
  have hvs : vsT T = [(z : Int)] := by
    cases T with
    | nil => exact absurd rfl hv
    | mk v nm a len cap f =>
      have : v = (z : Int) := hz
      unfold vsT
      rw [if_neg (show ¬ v = 0 from hv), this]
  have HAp : Hid (∀ π : Int → Int, ap (nmOf π) T = can (vT (π z))) := fun π => by rw [ap_var _ hv, hz]; rfl
  have HR2 : Hid (((w.alloc (.cells #[.int .i64 z, .string T.nm, .slice T.a T.len T.cap] 24)).alloc (.cells #[.int .i64 0, .string ⟨#[]⟩, .slice none 0 0] 24)).ownsRow lo 3 1 (.slice (some ⟨gn, 0, none⟩) 13 13) 13 (NmL S)) := hR.kept (grown_of_below (((Below.refl _ _).alloc (Nat.le_refl _) _).alloc (by simp) _) none) (kept_none _)
  have HB2 : Hid (Below w.heap.size w ((w.alloc (.cells #[.int .i64 z, .string T.nm, .slice T.a T.len T.cap] 24)).alloc (.cells #[.int .i64 0, .string ⟨#[]⟩, .slice none 0 0] 24))) := ((Below.refl _ _).alloc (Nat.le_refl _) _).alloc (by simp) _
  have h12 := alloc2 w (.cells #[.int .i64 z, .string T.nm, .slice T.a T.len T.cap] 24) (.cells #[.int .i64 0, .string ⟨#[]⟩, .slice none 0 0] 24)
  have HX1 : Hid (((w.alloc (.cells #[.int .i64 z, .string T.nm, .slice T.a T.len T.cap] 24)).alloc (.cells #[.int .i64 0, .string ⟨#[]⟩, .slice none 0 0] 24)).heap[w.heap.size]? = some (.cells #[.int .i64 z, .string T.nm, .slice T.a T.len T.cap] 24)) := h12.1
  have HX2 : Hid (((w.alloc (.cells #[.int .i64 z, .string T.nm, .slice T.a T.len T.cap] 24)).alloc (.cells #[.int .i64 0, .string ⟨#[]⟩, .slice none 0 0] 24)).heap[w.heap.size + 1]? = some (.cells #[.int .i64 0, .string ⟨#[]⟩, .slice none 0 0] 24)) := h12.2
  have hs2 : ((w.alloc (.cells #[.int .i64 z, .string T.nm, .slice T.a T.len T.cap] 24)).alloc (.cells #[.int .i64 0, .string ⟨#[]⟩, .slice none 0 0] 24)).heap.size = w.heap.size + 2 := by simp
  have HS : Hid (SOk S) := hS
  have HSv : Hid (addV S (vsT T) = if (z : Int) ∈ S then S else S ++ [(z : Int)]) := by rw [Hid, hvs, addV_one]
  have n0 := NmL_get HR2.out hz13
  obtain ⟨b0, b1, b2, _⟩ := block_cells HX1.out
  obtain ⟨y0, y1, y2, f0, f1, f2⟩ := block_cells HX2.out
  have hfew := hS.few
  show Calls Try.prog 49 #[.agg #[.int .i64 T.v, .string T.nm, .slice T.a T.len T.cap], .slice (some ⟨gn, 0, none⟩) 13 13] w _
  rw [hz]
  clear hO hT hNB hS hR ht hv hvs h12 hz
  generalize hw2 : (w.alloc (.cells #[.int .i64 z, .string T.nm, .slice T.a T.len T.cap] 24)).alloc (.cells #[.int .i64 0, .string ⟨#[]⟩, .slice none 0 0] 24) = w2 at *
  -- the end, whatever the number is
  have HFin : Hid (∀ (W : World) (S' : List Int) (q : Int), W.heap[w.heap.size + 1]? = some (.cells #[.int .i64 0, .string ⟨#[]⟩, .slice none 0 0] 24) → Bw (fun k => k = gn) w.heap.size w W → W.ownsRow lo 3 1 (.slice (some ⟨gn, 0, none⟩) 13 13) 13 (NmL S') → addV S (vsT T) = S' → num S' z = q → w.heap.size + 1 < W.heap.size →
      AnP w lo gn S T (.returned (vT q).val) (((W.setCell ⟨w.heap.size + 1, 0, none⟩ (.int .i64 q)).setCell ⟨w.heap.size + 1, 1, none⟩ (.string ⟨#[]⟩)).setCell ⟨w.heap.size + 1, 2, none⟩ (.slice none 0 0))) := fun W S' q hX hB hR hS' hq hsz => by
    have hg1 : W.grownBy (((W.setCell ⟨w.heap.size + 1, 0, none⟩ (.int .i64 q)).setCell ⟨w.heap.size + 1, 1, none⟩ (.string ⟨#[]⟩)).setCell ⟨w.heap.size + 1, 2, none⟩ (.slice none 0 0)) (some (w.heap.size + 1)) := ((grown_set _ _ _).trans (grown_set _ _ _)).trans (grown_set _ _ _)
    refine ⟨vT q, rfl, ?_, ?_, ⟨Nat.zero_le _, Nat.zero_le _, fun j hj => absurd hj (Nat.not_lt_zero j)⟩, ?_, fun k _ => ⟨fun h => absurd h (Nat.lt_irrefl 0), fun i hi => absurd hi (Nat.not_lt_zero i)⟩⟩
    · rw [hS']
      exact hR.kept hg1 (.inr (fun e => by have : gn = w.heap.size + 1 := Option.some.inj e; omega))
    · exact hB.grown hg1 (by omega) (fun k e => .inl (by have := Option.some.inj e; omega))
    · rw [hS', HAp.out, hq]
  have HBw2 : Hid (Bw (fun k => k = gn) w.heap.size w w2) := Bw.ofBelow HB2.out
  by_cases hm : (z : Int) ∈ S
  case pos =>
    have hnz : (nfH S (z : Int) == 0) = false := beq_eq_false_iff_ne.2 (nfH_in hm).2
    have HEv : Hid (addV S (vsT T) = S) := by rw [Hid, HSv.out, if_pos hm]
    have HNq : Hid (num S z = nfH S z) := ((nfH_in hm).1).symm
    clear hm
    generalize nfH S (z : Int) = q at *
    go_enter Try.func49, Try.ntmps49
    go_wp2_with fail
    refine bodyPost_ret (v := (vT q).val) ?_ rfl (HFin.out w2 S q HX2.out HBw2.out HR2.out HEv.out HNq.out (by omega))
    obtain ⟨V', hV, z0, z1, z2, _⟩ := fin3n (w := w) (r := w.heap.size + 1) (by omega) HX2.out HB2.out (.int .i64 q) (.string ⟨#[]⟩) (.slice none 0 0)
    rw [hV]
    simp [results, Try.results49, go_sem, z0, z1, z2, Tm.val, vT, Tm.v, Tm.nm, Tm.a, Tm.len, Tm.cap]
  have hnz : (nfH S (z : Int) == 0) = true := beq_iff_eq.2 (nfH_out hm)
  have HEv : Hid (addV S (vsT T) = S ++ [(z : Int)]) := by rw [Hid, HSv.out, if_neg hm]
  have HNq : Hid (num (S ++ [(z : Int)]) z = (S.length : Int) + 1) := by
    rw [Hid]; unfold num
    rw [List.idxOf_append, if_neg hm]
    simp
  have HSet : Hid ((NmL S).set z (.int .i64 ((S.length : Int) + 1)) = NmL (S ++ [(z : Int)])) := nfH_set hm
  have HNl : Hid (∀ j : Nat, j < 13 → w2.cell? ⟨gn, j, none⟩ = some (.int .i64 (nfH S (j : Int)))) := fun j hj => NmL_get HR2.out hj
  clear hm
  go_enter Try.func49, Try.ntmps49
  go_wp2_with fail
  go_loopw [5, 6] (fun nv iv wq => ∃ (i : Nat) (n : Int), i ≤ 13 ∧ iv = .int .i64 i ∧ nv = .int .i64 n ∧ 1 ≤ n ∧ n ≤ (S.length : Int) + 1 ∧ (∀ j : Nat, j < i → nfH S (j : Int) < n) ∧ wq = w2) (fun _ v _ => 13 - (intOf v).toNat)
  case atStart => exact ⟨0, 1, Nat.zero_le _, rfl, rfl, Int.le_refl _, by omega, fun j hj => absurd hj (Nat.not_lt_zero j), by first | rfl | exact hw2⟩
  case round =>
    obtain ⟨i, n, hi13, rfl, rfl, hn1, hnS, hmx, hwr⟩ := hrel
    have HMx : Hid (∀ j : Nat, j < i → nfH S (j : Int) < n) := hmx
    rw [hwr]
    clear hmx hwr
    by_cases hil : i < 13
    case pos =>
      have hiI : (i : Int) < 13 := by omega
      have ci := HNl.out i hil
      have hr := nfH_le (S := S) (i : Int)
      have HI : Hid (nfH S (i : Int) = nfH S (i : Int)) := rfl
      generalize hq : nfH S (i : Int) = q at *
      by_cases hqn : q ≥ n
      case pos =>
        have hwq : IntKind.i64.wrap (q + 1) = q + 1 := by simp [IntKind.wrap, IntKind.bits, IntKind.signed]; omega
        have HNew : Hid (∀ j : Nat, j < i + 1 → nfH S (j : Int) < q + 1) := fun j hj => by
          by_cases e : j = i
          · subst e; rw [hq]; omega
          · have := HMx.out j (by omega); omega
        clear hq
        go_wp2_with fail
        go_roundw
        case rel => exact ⟨i + 1, q + 1, by omega, by go_num, by go_num, by omega, by omega, HNew.out, by trivial⟩
        case measure => simp [intOf]; omega
      have HNew : Hid (∀ j : Nat, j < i + 1 → nfH S (j : Int) < n) := fun j hj => by
        by_cases e : j = i
        · subst e; rw [hq]; omega
        · exact HMx.out j (by omega)
      clear hq
      go_wp2_with fail
      go_roundw
      case rel => exact ⟨i + 1, n, by omega, by go_num, rfl, hn1, hnS, HNew.out, by trivial⟩
      case measure => simp [intOf]; omega
    have hiI : ¬ ((i : Int) < 13) := by omega
    obtain rfl : i = 13 := by omega
    obtain rfl : n = (S.length : Int) + 1 := by have := nfH_max HS.out hn1 HMx.out; omega
    have hgs := grown_set (W := w2) gn z (.int .i64 ((S.length : Int) + 1))
    have nfz : w2.frozen? ⟨gn, z, none⟩ = false := by
      rcases HR2.out.2 with ⟨h', _⟩ | ⟨g'', cap'', cur, h', _, hg', _⟩
      · cases h'
      · cases h'; simp [World.frozen?, hg']
    have hR3 := owns_setH HR2.out z (.int .i64 ((S.length : Int) + 1))
    rw [HSet.out] at hR3
    have HR3 : Hid ((w2.setCell ⟨gn, z, none⟩ (.int .i64 ((S.length : Int) + 1))).ownsRow lo 3 1 (.slice (some ⟨gn, 0, none⟩) 13 13) 13 (NmL (S ++ [(z : Int)]))) := hR3
    have HX3 : Hid ((w2.setCell ⟨gn, z, none⟩ (.int .i64 ((S.length : Int) + 1))).heap[w.heap.size + 1]? = some (.cells #[.int .i64 0, .string ⟨#[]⟩, .slice none 0 0] 24)) := (hgs.block _ (by omega) (fun e => by have := Option.some.inj e; omega)).trans HX2.out
    have HX4 : Hid ((w2.setCell ⟨gn, z, none⟩ (.int .i64 ((S.length : Int) + 1))).heap[w.heap.size]? = some (.cells #[.int .i64 z, .string T.nm, .slice T.a T.len T.cap] 24)) := (hgs.block _ (by omega) (fun e => by have := Option.some.inj e; omega)).trans HX1.out
    have HB3 : Hid (Bw (fun k => k = gn) w.heap.size w (w2.setCell ⟨gn, z, none⟩ (.int .i64 ((S.length : Int) + 1)))) := HBw2.out.grown hgs (by omega) (fun k e => .inr (Option.some.inj e).symm)
    have n3 : (w2.setCell ⟨gn, z, none⟩ (.int .i64 ((S.length : Int) + 1))).cell? ⟨gn, z, none⟩ = some (.int .i64 ((S.length : Int) + 1)) := by
      have h9 := NmL_get HR3.out hz13
      rw [(nfH_in (S := S ++ [(z : Int)]) (u := (z : Int)) (by simp)).1, HNq.out] at h9
      exact h9
    have hs3 : w.heap.size + 1 < (w2.setCell ⟨gn, z, none⟩ (.int .i64 ((S.length : Int) + 1))).heap.size := by have := hgs.size; omega
    obtain ⟨x0, x1, x2, _⟩ := block_cells HX4.out
    obtain ⟨u0, u1, u2, v0, v1, v2⟩ := block_cells HX3.out
    have HGr : Hid (Below (w.heap.size + 1) (w2.setCell ⟨gn, z, none⟩ (.int .i64 ((S.length : Int) + 1))) (w2.setCell ⟨gn, z, none⟩ (.int .i64 ((S.length : Int) + 1)))) := Below.refl _ _
    clear hgs hR3
    go_wp2_with fail
    generalize hw4 : w2.setCell ⟨gn, z, none⟩ (.int .i64 ((S.length : Int) + 1)) = w4 at *
    refine bodyPost_ret (v := (vT ((S.length : Int) + 1)).val) ?_ rfl (HFin.out w4 (S ++ [(z : Int)]) ((S.length : Int) + 1) HX3.out HB3.out HR3.out HEv.out HNq.out hs3)
    have h9 := set3 (a := .int .i64 ((S.length : Int) + 1)) (b := .string ⟨#[]⟩) (c := .slice none 0 0) HX3.out
    obtain ⟨z0, z1, z2, _⟩ := block_cells h9
    simp [results, Try.results49, go_sem, z0, z1, z2, Tm.val, vT, Tm.v, Tm.nm, Tm.a, Tm.len, Tm.cap]
/-- Only the numbers turned, and what is new. -/
theorem LstQ.keepG {lo gn : Nat} {Y : Tm} {w w' : World} {v : Value} {ts us : List Tm} (h : LstQ lo Y w v ts us) (hY : NB gn Y) (hB : Bw (fun k => k = gn) w.heap.size w w') (hl : gn < lo) : LstQ lo Y w' v ts us := by
  have hg := Bw.g hB
  refine ⟨h.own.kept hg ?_, fun T hT => ⟨(h.all T hT).1.grown hg (fun k hk => by obtain rfl := Option.some.inj hk; exact (h.all T hT).2.1 _ hl hY), (h.all T hT).2⟩, h.len, h.sim⟩
  cases hv : v.ownBlock with
  | none => exact .inl rfl
  | some g => exact .inr (fun e => by have := (h.own.lt g hv).1; have := Option.some.inj e; omega)
def Sj (S : List Int) (T : Tm) (j : Nat) : List Int := addV S (flk T.f j)
theorem Sj_succ (S : List Int) (T : Tm) (j : Nat) : Sj S T (j + 1) = addV (Sj S T j) (vsT (T.f j)) := by unfold Sj; rw [flk_succ, addV_append]
theorem Sj_all (S : List Int) {T : Tm} (hv : T.v = 0) : addV S (vsT T) = Sj S T T.len := by
  cases T with
  | nil => rfl
  | mk v nm a len cap f =>
    unfold Sj
    have : vsT (.mk v nm a len cap f) = flk f len := by unfold vsT; rw [if_pos (show v = 0 from hv)]; rfl
    rw [this]
    rfl
theorem flk_mem {f : Nat → Tm} {i j : Nat} (h : i < j) {v : Int} (hv : v ∈ vsT (f i)) : v ∈ flk f j := List.mem_flatten.2 ⟨_, List.mem_map.2 ⟨i, List.mem_range.2 h, rfl⟩, hv⟩
def usj (S : List Int) (T : Tm) (j : Nat) : List Tm := (List.range j).map fun i => ap (nmOf (num (Sj S T j))) (T.f i)
theorem usj_succ (S : List Int) (T : Tm) (j : Nat) : usj S T (j + 1) = usj S T j ++ [ap (nmOf (num (Sj S T (j + 1)))) (T.f j)] := by
  unfold usj
  rw [List.range_succ, List.map_append]
  congr 1
  refine List.map_congr_left fun i hi => ap_vsH fun v hv => ?_
  have hi' := List.mem_range.1 hi
  rw [Sj_succ]
  exact num_pre (addV_pre _ _) (addV_mem _ _ _ (flk_mem hi' hv))
set_option maxRecDepth 100000 in
set_option maxHeartbeats 8000000 in
theorem anew_fn {T : Tm} (hv : T.v = 0) (hk : ∀ i, i < T.len → AnC (T.f i)) : AnC T := by
  intro lo gn S w hO hT hNB hS hR
  have hgl := (hR.lt gn rfl)
  have HC : Hid (∀ i, i < T.len → ∀ (S' : List Int) W, SOk S' → Bw (fun k => k = gn) w.heap.size w W → W.ownsRow lo 3 1 (.slice (some ⟨gn, 0, none⟩) 13 13) 13 (NmL S') → Calls Try.prog 49 #[.agg #[.int .i64 (T.f i).v, .string (T.f i).nm, .slice (T.f i).a (T.f i).len (T.f i).cap], .slice (some ⟨gn, 0, none⟩) 13 13] W (AnP W lo gn S' (T.f i))) := fun i hi S' W hS' hW hRW => hk i hi lo gn S' W (hO.kid hi) ((hT.kid hi).grown (Bw.g hW) (fun k hk => by obtain rfl := Option.some.inj hk; exact hNB.kid hi)) (hNB.kid hi) hS' hRW
  have HKid : Hid (∀ i, i < T.len → ∀ W, Bw (fun k => k = gn) w.heap.size w W → RowAt W T.a i (T.f i)) := fun i hi W hW => (hT.row hi).grown (Bw.g hW) (fun k hk => by obtain rfl := Option.some.inj hk; exact hNB.root (by omega))
  have HX : Hid (∀ π, ap (nmOf π) T = .mk 0 T.nm none T.len 0 (fun i => if i < T.len then ap (nmOf π) (T.f i) else .nil)) := fun π => ap_fn _ hv
  have HNY : Hid (∀ k, NB k (vT 0)) := fun k => nb0 k
  have HSo : Hid (∀ j, j ≤ T.len → SOk (Sj S T j)) := fun j hj => SOk.more _ _ hS (fun u hu => by
    obtain ⟨l, hl, hu⟩ := List.mem_flatten.1 hu
    obtain ⟨i, hi, rfl⟩ := List.mem_map.1 hl
    exact vsT_okv _ (hO.kid (by have := List.mem_range.1 hi; omega)) u hu)
  have HSall : Hid (addV S (vsT T) = Sj S T T.len) := Sj_all S hv
  have HR0 : Hid (w.ownsRow lo 3 1 (.slice (some ⟨gn, 0, none⟩) 13 13) 13 (NmL (Sj S T 0))) := by rw [Hid, show Sj S T 0 = S from addV_nil S]; exact hR
  have hlen : T.len ≤ 2 ^ 63 - 1 := hT.len
  have hlen4 : T.len ≤ 4 := hO.four
  have hnm := hT.name
  have hvb : (T.v != 0) = false := by rw [hv]; rfl
  obtain ⟨i0, hi, hz0, hz1, hz2⟩ := info_parts Try.info24
  clear hk hT hO hv hNB hS hR
  generalize hua : T.a = ua at *
  show Calls Try.prog 49 #[.agg #[.int .i64 T.v, .string T.nm, .slice T.a T.len T.cap], .slice (some ⟨gn, 0, none⟩) 13 13] w _
  rw [hua]
  go_enter Try.func49, Try.ntmps49
  go_wp2_with fail
  obtain ⟨a1, a2, aB⟩ := alloc3 w (.cells #[.int .i64 T.v, .string T.nm, .slice ua T.len T.cap] 24) (.cells #[.int .i64 0, .string ⟨#[]⟩, .slice none 0 0] 24) (.cells #[.int .i64 0, .string T.nm, .slice none 0 0] 24)
  have a0 := alloc3a w (.cells #[.int .i64 T.v, .string T.nm, .slice ua T.len T.cap] 24) (.cells #[.int .i64 0, .string ⟨#[]⟩, .slice none 0 0] 24) (.cells #[.int .i64 0, .string T.nm, .slice none 0 0] 24)
  go_loopw [8] (fun i wr => ∃ (j : Nat) (ts : List Tm) (v : Value), j ≤ T.len ∧ i = .int .i64 j ∧ LstQ (w.heap.size + 3) (vT 0) wr v ts (usj S T j) ∧ wr.heap[w.heap.size + 2]? = some (.cells #[.int .i64 0, .string T.nm, v] 24) ∧ wr.heap[w.heap.size + 1]? = some (.cells #[.int .i64 0, .string ⟨#[]⟩, .slice none 0 0] 24) ∧ wr.heap[w.heap.size]? = some (.cells #[.int .i64 T.v, .string T.nm, .slice ua T.len T.cap] 24) ∧ w.heap.size + 3 ≤ wr.heap.size ∧ Bw (fun k => k = gn) w.heap.size w wr ∧ wr.ownsRow lo 3 1 (.slice (some ⟨gn, 0, none⟩) 13 13) 13 (NmL (Sj S T j))) (fun i _ => T.len - (intOf i).toNat)
  case atStart => exact ⟨0, [], _, Nat.zero_le _, rfl, ⟨World.ownsRow_nil _ _ _ _, fun c hc => absurd hc (by simp), rfl, fun i hi => absurd hi (Nat.not_lt_zero i)⟩, a2, a1, a0, by simp, Bw.ofBelow aB, HR0.out.kept (grown_of_below aB none) (kept_none _)⟩
  case round =>
    clear a0 a1 a2 aB
    obtain ⟨j, ts, v, hj, rfl, hL, hC2, hZ1, hT0, hsz, hB, hRj⟩ := hrel
    have HL : Hid (LstQ (w.heap.size + 3) (vT 0) wr v ts (usj S T j)) := hL
    have HC2 : Hid (wr.heap[w.heap.size + 2]? = some (.cells #[.int .i64 0, .string T.nm, v] 24)) := hC2
    have HZ1 : Hid (wr.heap[w.heap.size + 1]? = some (.cells #[.int .i64 0, .string ⟨#[]⟩, .slice none 0 0] 24)) := hZ1
    have HT0 : Hid (wr.heap[w.heap.size]? = some (.cells #[.int .i64 T.v, .string T.nm, .slice ua T.len T.cap] 24)) := hT0
    have HB : Hid (Bw (fun k => k = gn) w.heap.size w wr) := hB
    have HRj : Hid (wr.ownsRow lo 3 1 (.slice (some ⟨gn, 0, none⟩) 13 13) 13 (NmL (Sj S T j))) := hRj
    have HTL : Hid (ts.length = j) := by have := hL.len; rw [Hid]; unfold usj at this; simpa using this
    have hts4 : ts.length ≤ 4 := by have := HTL.out; omega
    clear hL hC2 hZ1 hT0 hB hRj
    obtain ⟨b0, b1, b2, _, _, _⟩ := block_cells HT0.out
    by_cases hlt : j < T.len
    case neg =>
      have hje : j = T.len := by omega
      obtain ⟨Q, hvQ, hQ, hQN, hQL, hQS⟩ := HL.out.terms
      have HQ : Hid (TIn wr Q ∧ (∀ k, k < w.heap.size + 3 → NB k Q) ∧ Q.len = T.len ∧ ∀ i, i < Q.len → can (Q.f i) = ap (nmOf (num (Sj S T T.len))) (T.f i)) := by
        rw [hje] at hQL hQS
        have hl : Q.len = T.len := by unfold usj at hQL; simpa using hQL
        refine ⟨hQ, fun k hk => hQN k hk (HNY.out k), hl, fun i hi => ?_⟩
        rw [hQS i hi]
        unfold usj
        simp [List.getD, show i < T.len by omega]
      have HRe : Hid (wr.ownsRow lo 3 1 (.slice (some ⟨gn, 0, none⟩) 13 13) 13 (NmL (addV S (vsT T)))) := by rw [Hid, HSall.out, ← hje]; exact HRj.out
      subst hvQ
      clear hQ hQN hQL hQS hje
      obtain ⟨c0, c1, c2, _, _, _⟩ := block_cells HC2.out
      obtain ⟨y0, y1, y2, f0, f1, f2⟩ := block_cells HZ1.out
      go_wp2_with fail
      have hg1 : wr.grownBy (((wr.setCell ⟨w.heap.size + 1, 0, none⟩ (.int .i64 0)).setCell ⟨w.heap.size + 1, 1, none⟩ (.string T.nm)).setCell ⟨w.heap.size + 1, 2, none⟩ (.slice Q.a Q.len Q.cap)) (some (w.heap.size + 1)) := ((grown_set _ _ _).trans (grown_set _ _ _)).trans (grown_set _ _ _)
      have h9 := set3 (a := .int .i64 0) (b := .string T.nm) (c := .slice Q.a Q.len Q.cap) HZ1.out
      obtain ⟨z0, z1, z2, _⟩ := block_cells h9
      clear h9
      generalize ((wr.setCell ⟨w.heap.size + 1, 0, none⟩ (.int .i64 0)).setCell ⟨w.heap.size + 1, 1, none⟩ (.string T.nm)).setCell ⟨w.heap.size + 1, 2, none⟩ (.slice Q.a Q.len Q.cap) = W' at *
      have hT' := HQ.out.1.grown hg1 (fun k hk => by obtain rfl := Option.some.inj hk; exact HQ.out.2.1 _ (by omega))
      refine bodyPost_ret (v := Tm.val (.mk 0 T.nm Q.a Q.len Q.cap Q.f)) ?_ rfl ⟨.mk 0 T.nm Q.a Q.len Q.cap Q.f, rfl, HRe.out.kept hg1 (.inr (fun e => by have : gn = w.heap.size + 1 := Option.some.inj e; omega)), HB.out.grown hg1 (by omega) (fun k e => .inl (by have := Option.some.inj e; omega)), hT'.retop hnm, ?_, fun k hk => (HQ.out.2.1 k (by omega)).retop⟩
      · simp [results, Try.results49, go_sem, z0, z1, z2, Tm.val, Tm.v, Tm.nm, Tm.a, Tm.len, Tm.cap]
      · rw [HX.out, HSall.out]
        show Tm.mk 0 T.nm none Q.len 0 (fun i => if i < Q.len then can (Q.f i) else .nil) = _
        rw [HQ.out.2.2.1]
        congr 1
        funext i
        by_cases hi : i < T.len
        · rw [if_pos hi, if_pos hi]; exact HQ.out.2.2.2 i (by rw [HQ.out.2.2.1]; exact hi)
        · rw [if_neg hi, if_neg hi]
    have hr := HKid.out j hlt wr HB.out
    obtain ⟨bb, o, ha, c0, c1, c2⟩ := hr
    subst ha
    have hltI : (j : Int) < (T.len : Int) := by omega
    go_wp2_with fail
    obtain ⟨d0, d1, d2, k0, k1, k2⟩ := block_cells HC2.out
    have HgF : Hid (gn < w.heap.size) := hgl.2
    have tok1 : True := trivial
    go_region_law (first
      | (have _t := tok1
         go_simp
         go_at_call 49
         refine (HC.out j hlt (Sj S T j) _ (HSo.out j hj) (by repeat (first | exact HB.out | refine Bw.drew ?_)) (by repeat (first | exact HRj.out | exact ownsRow_drew HRj.out | refine ownsRow_drew ?_))).mono ?_
         rintro e w5 ⟨X, rfl, hR5, hb5, hX5, hS5, hN5⟩
         have HB5 : Hid (Bw (fun k => k = gn) wr.heap.size wr w5) := Bw.trans (by repeat (first | exact Bw.refl _ _ _ | refine Bw.drew ?_)) (hb5.mono (Nat.le_refl _))
         have HX5 : Hid (TIn w5 X ∧ can X = ap (nmOf (num (Sj S T (j + 1)))) (T.f j) ∧ ∀ k, k < wr.heap.size → NB k X) := ⟨hX5, by rw [Sj_succ]; exact hS5, hN5⟩
         have HR5 : Hid (w5.ownsRow lo 3 1 (.slice (some ⟨gn, 0, none⟩) 13 13) 13 (NmL (Sj S T (j + 1)))) := by rw [Hid, Sj_succ]; exact hR5
         have g2 : w5.cell? ⟨w.heap.size + 2, 2, none⟩ = some v := (HB5.out.cell (p := ⟨w.heap.size + 2, 2, none⟩) (by show w.heap.size + 2 < wr.heap.size; omega) (by show ¬ (w.heap.size + 2 = gn); have := HgF.out; omega)).trans d2
         have gf2 : w5.frozen? ⟨w.heap.size + 2, 2, none⟩ = false := (HB5.out.frozen (p := ⟨w.heap.size + 2, 2, none⟩) (by show w.heap.size + 2 < wr.heap.size; omega) (by show ¬ (w.heap.size + 2 = gn); have := HgF.out; omega)).trans k2
         have HL5 : Hid (LstQ (w.heap.size + 3) (vT 0) (w5.alloc (.cells #[.int .i64 X.v, .string X.nm, .slice X.a X.len X.cap] 24)) v ts (usj S T j)) := (HL.out.keepG (HNY.out _) HB5.out (by have := HgF.out; omega)).keep ((Below.refl _ _).alloc (Nat.le_refl _) _)
         rw [show X.val = .agg #[.int .i64 X.v, .string X.nm, .slice X.a X.len X.cap] from rfl]
         have g2b : (w5.alloc (.cells #[.int .i64 X.v, .string X.nm, .slice X.a X.len X.cap] 24)).cell? ⟨w.heap.size + 2, 2, none⟩ = some v := (((Below.refl _ w5).alloc (Nat.le_refl _) (.cells #[.int .i64 X.v, .string X.nm, .slice X.a X.len X.cap] 24)).cell (p := ⟨w.heap.size + 2, 2, none⟩) (lt_of_cell g2)).trans g2
         clear hb5 hX5 hS5 hN5 hR5 tok1)
      | (refine step_append_own_at rfl (.tmp 57) (.tmp 65) 22 rfl (w.heap.size + 3) 24 i0 (.agg #[.int .i64 0, .string ByteArray.empty, .slice none 0 0]) 3 48 Try.underlying22 hi hz0 hz1 hz2 rfl (by decide) v ts.length (flat ts) (by simp [Act.eval]) HL5.out.own ⟨w5.heap.size, 0, none⟩ 1 1 (flat [X]) (by simp [Act.eval]) rfl (news1 w5 X) (flat_one _) (by unfold maxLen; omega) (by omega) (by have := HB5.out.size; simp; omega) (by omega) ?_
         intro g cap' w6 hown6 hg6 hat6
         have HO6 : Hid (w6.ownsRow (w.heap.size + 3) 24 3 (.slice (some ⟨g, 0, none⟩) (ts.length + 1) cap') (ts.length + 1) (flat ts ++ flat [X])) := hown6
         have HG6 : Hid ((w5.alloc (.cells #[.int .i64 X.v, .string X.nm, .slice X.a X.len X.cap] 24)).grownBy w6 v.ownBlock) := hg6
         have HA6 : Hid (some g = v.ownBlock ∨ g = (w5.alloc (.cells #[.int .i64 X.v, .string X.nm, .slice X.a X.len X.cap] 24)).heap.size) := hat6
         have hne6 : some (w.heap.size + 2) ≠ v.ownBlock := fun e => by have := (HL.out.own.lt _ e.symm).1; omega
         have q2 : w6.cell? ⟨w.heap.size + 2, 2, none⟩ = some v := hg6.cell ((((Below.refl _ w5).alloc (Nat.le_refl _) (.cells #[.int .i64 X.v, .string X.nm, .slice X.a X.len X.cap] 24)).cell (p := ⟨w.heap.size + 2, 2, none⟩) (lt_of_cell g2)).trans g2) hne6
         have qf2 : w6.frozen? ⟨w.heap.size + 2, 2, none⟩ = false := (World.frozen?_of_block (hg6.block _ (by have := lt_of_cell g2; simp; have h : w.heap.size + 2 < w5.heap.size := this; omega) hne6)).trans ((((Below.refl _ w5).alloc (Nat.le_refl _) (.cells #[.int .i64 X.v, .string X.nm, .slice X.a X.len X.cap] 24)).frozen (p := ⟨w.heap.size + 2, 2, none⟩) (lt_of_cell g2)).trans gf2)
         clear hown6 hg6 hat6))
    all_goals
      have hgs := grown_set (W := w6) (w.heap.size + 2) 2 (.slice (some ⟨g, 0, none⟩) (ts.length + 1) cap')
      have hwr5 := HB5.out
      have h5s := hwr5.size
      have hB5a : Bw (fun k => k = gn) w.heap.size w (w5.alloc (.cells #[.int .i64 X.v, .string X.nm, .slice X.a X.len X.cap] 24)) := (HB.out.trans (hwr5.mono HB.out.size)).trans (Bw.ofBelow (((Below.refl w5.heap.size w5).alloc (Nat.le_refl _) _).mono (by omega)))
      have hB6 : Bw (fun k => k = gn) w.heap.size w w6 := hB5a.grown HG6.out (by simp; omega) (fun q hq => .inl (by have := (HL.out.own.lt q hq).1; omega))
      have hs6' := HG6.out.size
      have HBF : Hid (Bw (fun k => k = gn) w.heap.size w (w6.setCell ⟨w.heap.size + 2, 2, none⟩ (.slice (some ⟨g, 0, none⟩) (ts.length + 1) cap'))) := hB6.grown hgs (by simp at hs6'; omega) (fun q hq => .inl (by have := Option.some.inj hq; omega))
      have HRF : Hid ((w6.setCell ⟨w.heap.size + 2, 2, none⟩ (.slice (some ⟨g, 0, none⟩) (ts.length + 1) cap')).ownsRow lo 3 1 (.slice (some ⟨gn, 0, none⟩) 13 13) 13 (NmL (Sj S T (j + 1)))) := (((HR5.out.kept (grown_of_below ((Below.refl w5.heap.size w5).alloc (Nat.le_refl _) _) none) (kept_none _)).kept HG6.out (.inr (fun e => by have h1 := (HL.out.own.lt gn e.symm).1; have := HgF.out; omega)))).kept hgs (.inr (fun e => by have h1 : gn = w.heap.size + 2 := Option.some.inj e; have := HgF.out; omega))
      have hL6 : LstQ (w.heap.size + 3) (vT 0) w6 (.slice (some ⟨g, 0, none⟩) (ts.length + 1) cap') (ts ++ [X]) (usj S T j ++ [ap (nmOf (num (Sj S T (j + 1)))) (T.f j)]) := HL5.out.more (HX5.out.1.below ((Below.refl _ _).alloc (Nat.le_refl _) _)) (fun k hk hY => HX5.out.2.2 k (by omega)) (fun q hq => HX5.out.2.2 q (HL.out.own.lt q hq).2) HX5.out.2.1 HO6.out HG6.out (by
        rcases HA6.out with e | e
        · exact .inl e
        · exact .inr (by rw [e]; rfl))
      have HLF : Hid (LstQ (w.heap.size + 3) (vT 0) (w6.setCell ⟨w.heap.size + 2, 2, none⟩ (.slice (some ⟨g, 0, none⟩) (ts.length + 1) cap')) (.slice (some ⟨g, 0, none⟩) (ts.length + 1) cap') (ts ++ [X]) (usj S T (j + 1))) := by
        rw [Hid, usj_succ]
        refine ⟨hL6.own.kept hgs (.inr (fun e => by have h1 := (hL6.own.lt g rfl).1; have h2 : g = w.heap.size + 2 := Option.some.inj e; omega)), fun U hU => ?_, hL6.len, hL6.sim⟩
        obtain ⟨h1, h2, h3⟩ := hL6.all U hU
        exact ⟨h1.grown hgs (fun q hq => by obtain rfl := Option.some.inj hq; exact h2 _ (by omega) (HNY.out _)), h2, h3⟩
      have hneA : ∀ q, q < w.heap.size + 3 → some q ≠ v.ownBlock := fun q hq e => by have := (HL.out.own.lt _ e.symm).1; omega
      have h56 : ∀ q, q < wr.heap.size → q ≠ gn → some q ≠ v.ownBlock → w6.heap[q]? = wr.heap[q]? := fun q hq hqn hn => (HG6.out.block q (by simp; omega) hn).trans ((heapOld _ _ (by omega)).trans (hwr5.block q hq hqn))
      have hs6 : wr.heap.size ≤ w6.heap.size := by simp at hs6'; omega
      have hgF := HgF.out
      have HCF : Hid ((w6.setCell ⟨w.heap.size + 2, 2, none⟩ (.slice (some ⟨g, 0, none⟩) (ts.length + 1) cap')).heap[w.heap.size + 2]? = some (.cells #[.int .i64 0, .string T.nm, (.slice (some ⟨g, 0, none⟩) (ts.length + 1) cap')] 24)) := setL ((h56 _ (by omega) (by omega) (hneA _ (by omega))).trans HC2.out)
      have HZF : Hid ((w6.setCell ⟨w.heap.size + 2, 2, none⟩ (.slice (some ⟨g, 0, none⟩) (ts.length + 1) cap')).heap[w.heap.size + 1]? = some (.cells #[.int .i64 0, .string ⟨#[]⟩, .slice none 0 0] 24)) := (hgs.block _ (by omega) (by simp)).trans ((h56 _ (by omega) (by omega) (hneA _ (by omega))).trans HZ1.out)
      have HTF : Hid ((w6.setCell ⟨w.heap.size + 2, 2, none⟩ (.slice (some ⟨g, 0, none⟩) (ts.length + 1) cap')).heap[w.heap.size]? = some (.cells #[.int .i64 T.v, .string T.nm, .slice (some ⟨bb, o, none⟩) T.len T.cap] 24)) := (hgs.block _ (by omega) (by simp)).trans ((h56 _ (by omega) (by omega) (hneA _ (by omega))).trans HT0.out)
      have hszF : w.heap.size + 3 ≤ (w6.setCell ⟨w.heap.size + 2, 2, none⟩ (.slice (some ⟨g, 0, none⟩) (ts.length + 1) cap')).heap.size := by have := hgs.size; omega
      clear hgs hwr5 hB6 hL6 hneA h56 hs6 hB5a hs6'
      go_wp2_with fail
      go_roundw
      case rel => exact ⟨j + 1, ts ++ [X], _, by omega, by go_num, HLF.out, HCF.out, HZF.out, HTF.out, hszF, HBF.out, HRF.out⟩
      case measure => simp [intOf]; omega
theorem anew_all (T : Tm) : AnC T := by
  induction T with
  | nil => intro lo gn S w hO; exact hO.elim
  | mk v nm a len cap f ih =>
    by_cases hv : v = 0
    · exact anew_fn hv (fun i _ => ih i)
    · exact anew_var hv
end Go.Proofs.Ytmggaclaoefdaaa
