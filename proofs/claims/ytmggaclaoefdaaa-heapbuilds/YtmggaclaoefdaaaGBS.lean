/- Room: how many cells a term takes at least; and how many are laid. Room of the reference, walked. -/
import Derived.Test.YtmggaclaoefdaaaHp9
import Derived.Test.YtmggaclaoefdaaaHu1
import Derived.Test.YtmggaclaoefdaaaGAP
namespace Go.Proofs.Ytmggaclaoefdaaa
open Go.RowKit
set_option linter.unusedVariables false
set_option linter.unusedSimpArgs false

/-- Cells of all that is no variable. -/
def nvC : Tm → Nat
  | .nil => 0
  | .mk v _ _ len _ f => if v = 0 then 1 + len + sumTo (fun i => nvC (f i)) len else 0
def DomS (σ : Int → Option Int) (S : List Int) : Prop := ∀ v, (∃ c, σ v = some c) ↔ v ∈ S
def flk (f : Nat → Tm) (k : Nat) : List Int := ((List.range k).map fun i => vsT (f i)).flatten
theorem flk_succ (f : Nat → Tm) (k : Nat) : flk f (k + 1) = flk f k ++ vsT (f k) := by
  unfold flk
  rw [List.range_succ, List.map_append, List.flatten_append]
  simp
theorem putT_room (T : Tm) : Okv 12 T → ∀ (p : HSt) (S : List Int), DomS p.2 S → DomS (putT T p).1.2 (addV S (vsT T)) ∧ (putT T p).1.1.length + S.length = p.1.length + nvC T + (addV S (vsT T)).length := by
  induction T with
  | nil => intro h; exact h.elim
  | mk v nm a len cap f ih =>
    intro hT p S hS
    by_cases hv : v = 0
    · subst hv
      have hvs : vsT (.mk 0 nm a len cap f) = flk f len := by unfold vsT; rw [if_pos rfl]; rfl
      have hnv : nvC (.mk 0 nm a len cap f) = 1 + len + sumTo (fun i => nvC (f i)) len := by show (if (0 : Int) = 0 then 1 + len + sumTo (fun i => nvC (f i)) len else 0) = _; rw [if_pos rfl]
      have hK : ∀ k, k ≤ len → DomS (putK (fun i => putT (f i)) p.1.length k (p.1 ++ (⟨2, len, nm⟩ :: frs p.1.length len), p.2)).2 (addV S (flk f k)) ∧ (putK (fun i => putT (f i)) p.1.length k (p.1 ++ (⟨2, len, nm⟩ :: frs p.1.length len), p.2)).1.length + S.length = p.1.length + (1 + len + sumTo (fun i => nvC (f i)) k) + (addV S (flk f k)).length := by
        intro k
        induction k with
        | zero =>
          intro _
          have e : flk f 0 = [] := rfl
          rw [e, addV_nil]
          refine ⟨hS, ?_⟩
          show (p.1 ++ ((⟨2, len, nm⟩ : Cl) :: frs p.1.length len)).length + _ = _
          simp [frs, sumTo]
          omega
        | succ k ik =>
          intro hk
          obtain ⟨h1, h2⟩ := ik (by omega)
          obtain ⟨h3, h4⟩ := ih k (hT.2.2.2.2 k (by omega)) _ _ h1
          rw [flk_succ, addV_append]
          refine ⟨h3, ?_⟩
          have hs : sumTo (fun i => nvC (f i)) (k + 1) = sumTo (fun i => nvC (f i)) k + nvC (f k) := rfl
          rw [hs]
          have h5 : (putK (fun i => putT (f i)) p.1.length (k + 1) (p.1 ++ (⟨2, len, nm⟩ :: frs p.1.length len), p.2)).1.length = (putT (f k) (putK (fun i => putT (f i)) p.1.length k (p.1 ++ (⟨2, len, nm⟩ :: frs p.1.length len), p.2))).1.1.length := by simp [putK]
          rw [h5]
          omega
      obtain ⟨h1, h2⟩ := hK len (Nat.le_refl _)
      rw [hvs, hnv]
      unfold putT
      rw [if_neg (by simp)]
      exact ⟨h1, h2⟩
    · have hvs : vsT (.mk v nm a len cap f) = [v] := by unfold vsT; rw [if_neg hv]
      have hnv : nvC (.mk v nm a len cap f) = 0 := by unfold nvC; rw [if_neg hv]
      rw [hvs, hnv, addV_one]
      unfold putT
      rw [if_pos hv]
      unfold putV
      cases hσ : p.2 v with
      | some c =>
        have hm : v ∈ S := (hS v).1 ⟨c, hσ⟩
        rw [if_pos hm]
        exact ⟨hS, rfl⟩
      | none =>
        have hm : ¬ v ∈ S := fun h => by
          obtain ⟨c, hc⟩ := (hS v).2 h
          rw [hσ] at hc; cases hc
        rw [if_neg hm]
        refine ⟨fun u => ?_, by simp; omega⟩
        show (∃ c, updI p.2 v p.1.length u = some c) ↔ _
        unfold updI
        by_cases hu : u = v
        · subst hu
          simp
        · rw [if_neg hu]
          simp only [List.mem_append, List.mem_singleton]
          rw [hS u]
          exact ⟨.inl, fun h => h.resolve_right hu⟩
/-- What Room answers. -/
def roomT (T : Tm) : Nat := nvC T + (addV [] (vsT T)).length
def rmL (l : List Tm) : Nat := (l.map fun q => if q.v = 0 then 1 + q.len else 0).sum
theorem rmL_append (l r : List Tm) : rmL (l ++ r) = rmL l + rmL r := by unfold rmL; rw [List.map_append, List.sum_append]
theorem rmL_to (g : Nat → List Tm) (k : Nat) : rmL (preTo g k) = sumTo (fun i => rmL (g i)) k := by
  induction k with
  | zero => rfl
  | succ k ih => rw [preTo, rmL_append, ih]; rfl
theorem sumTo_congr {g h : Nat → Nat} {k : Nat} (e : ∀ i, i < k → g i = h i) : sumTo g k = sumTo h k := by
  induction k with
  | zero => rfl
  | succ k ih => rw [sumTo, sumTo, ih (fun i hi => e i (by omega)), e k (by omega)]
theorem rmL_pre {N : Int} (T : Tm) : Okv N T → rmL (pre T) = nvC T := by
  induction T with
  | nil => intro h; exact h.elim
  | mk v nm a len cap f ih =>
    intro hT
    have e : pre (.mk v nm a len cap f) = [.mk v nm a len cap f] ++ preTo (fun i => pre (f i)) len := rfl
    rw [e, rmL_append, rmL_to]
    by_cases hv : v = 0
    · have h1 : nvC (.mk v nm a len cap f) = 1 + len + sumTo (fun i => nvC (f i)) len := by show (if v = 0 then 1 + len + sumTo (fun i => nvC (f i)) len else 0) = _; rw [if_pos hv]
      have h2 : rmL [Tm.mk v nm a len cap f] = 1 + len := by unfold rmL; simp [Tm.v, Tm.len, hv]
      rw [h1, h2, sumTo_congr fun i hi => ih i (hT.2.2.2.2 i hi)]
    · have h1 : nvC (.mk v nm a len cap f) = 0 := by unfold nvC; rw [if_neg hv]
      have h2 : rmL [Tm.mk v nm a len cap f] = 0 := by unfold rmL; simp [Tm.v, hv]
      have h3 : len = 0 := (hT.2.2.1 hv).2
      subst h3
      rw [h1, h2]
      rfl
theorem rmL_one (t : Tm) : rmL [t] = if t.v = 0 then 1 + t.len else 0 := by unfold rmL; simp
end Go.Proofs.Ytmggaclaoefdaaa

namespace Go.Proofs.Ytmggaclaoefdaaa
open Go.RowKit
set_option linter.unusedVariables false
set_option linter.unusedSimpArgs false

theorem infoBool : (Try.prog.info? 4).map (fun i => (i.zero, i.size, i.bytes)) = some (some (.bool false), 1, 1) := by kernel_rfl
/-- Which variables were seen. -/
def seenL (S : List Int) : List Value := (List.range 13).map fun k : Nat => Value.bool (decide ((k : Int) ∈ S))
theorem seen_set {S : List Int} {z : Nat} (hz : z < 13) : (seenL S).set z (.bool true) = seenL (S ++ [(z : Int)]) := by
  unfold seenL
  refine List.ext_getElem (by simp) fun i h1 h2 => ?_
  rw [List.getElem_set]
  simp only [List.getElem_map, List.getElem_range]
  by_cases hi : z = i
  · subst hi; simp
  · rw [if_neg hi]
    congr 1
    have : ¬ (i : Int) = (z : Int) := by omega
    simp [this]
theorem seen_nil : seenL [] = (List.range 13).map fun _ : Nat => Value.bool false := by unfold seenL; simp
set_option maxRecDepth 100000 in
set_option maxHeartbeats 4000000 in
theorem rroom_any (T : Tm) (w : World) (hT : TIn w T) (hO : Okv 12 T) (hcn : cnt T ≤ 60) :
    Calls Try.prog 43 #[.agg #[.int .i64 T.v, .string T.nm, .slice T.a T.len T.cap]] w fun e w' => e = .returned (.int .i64 (roomT T : Nat)) ∧ Below w.heap.size w w' := by
  have HBa : Hid (Below w.heap.size w (w.alloc (.cells #[.int .i64 T.v, .string T.nm, .slice T.a T.len T.cap] 24))) := (Below.refl _ _).alloc (Nat.le_refl _) _
  have HXa : Hid ((w.alloc (.cells #[.int .i64 T.v, .string T.nm, .slice T.a T.len T.cap] 24)).heap[w.heap.size]? = some (.cells #[.int .i64 T.v, .string T.nm, .slice T.a T.len T.cap] 24)) := heap_alloc_new _ _
  have HTa : Hid (TIn (w.alloc (.cells #[.int .i64 T.v, .string T.nm, .slice T.a T.len T.cap] 24)) T) := hT.below HBa.out
  have HPa : Hid (Calls Try.prog 51 #[.agg #[.int .i64 T.v, .string T.nm, .slice T.a T.len T.cap]] (w.alloc (.cells #[.int .i64 T.v, .string T.nm, .slice T.a T.len T.cap] 24)) fun r w' => ∃ g cp : Nat, r = .returned (.slice (some ⟨g, 0, none⟩) (cnt T) cp) ∧ w'.ownsRow (w.alloc (.cells #[.int .i64 T.v, .string T.nm, .slice T.a T.len T.cap] 24)).heap.size 24 3 (.slice (some ⟨g, 0, none⟩) (cnt T) cp) (cnt T) (flat (pre T)) ∧ Below (w.alloc (.cells #[.int .i64 T.v, .string T.nm, .slice T.a T.len T.cap] 24)).heap.size (w.alloc (.cells #[.int .i64 T.v, .string T.nm, .slice T.a T.len T.cap] 24)) w') := partsOf_any T _ HTa.out hcn
  obtain ⟨x0, x1, x2, _⟩ := block_cells HXa.out
  have HPo : Hid (∀ q ∈ pre T, Okv 12 q) := pre_okvH hO
  have HPv : Hid (pvH (pre T) = vsT T) := pvH_pre hO
  have HPr : Hid (rmL (pre T) = nvC T) := rmL_pre T hO
  have hpl : (pre T).length = cnt T := pre_length T
  obtain ⟨j0, hj, hj0, hj1, hj2⟩ := info_parts infoBool
  clear hT hO
  go_enter Try.func43, Try.ntmps43
  go_wp2_with fail
  generalize w.alloc (.cells #[.int .i64 T.v, .string T.nm, .slice T.a T.len T.cap] 24) = wa at *
  refine HPa.out.mono ?_
  rintro e w1 ⟨gp, cp, rfl, hop, hb1⟩
  have hgp := (hop.lt gp rfl)
  have HP1 : Hid (w1.ownsRow wa.heap.size 24 3 (.slice (some ⟨gp, 0, none⟩) (cnt T) cp) (cnt T) (flat (pre T))) := hop
  have HB1 : Hid (Below w.heap.size w w1) := below_after2 HBa.out hb1
  generalize hc : cnt T = c at *
  clear hop hb1 HPa HTa HXa x0 x1 x2
  go_wp2_with (at_make; refine wpList_make_full _ rfl _ _ 135 rfl w1.heap.size 4 j0 (.bool false) 1 Try.underlying135 hj hj0 hj1 _ _ _ _ 13 rfl rfl rfl rfl (by rw [hj2]; omega) (by unfold maxLen; omega) (Nat.le_refl _) ?_; intro w2 ho2 hg2; rw [made1 _ rfl] at ho2; have HO2 : Hid (w2.ownsRow w1.heap.size 4 1 (.slice (some ⟨w1.heap.size, 0, none⟩) 13 13) 13 (seenL [])) := (by rw [Hid, seen_nil]; exact ho2); have HB2 : Hid (Below w1.heap.size w1 w2) := ⟨hg2.os, hg2.tape, hg2.output, hg2.size, fun k hk => hg2.block k hk (by simp)⟩; clear ho2 hg2)
  have hs2 := HB2.out.size
  go_loopw [3, 6] (fun nv iv wq => ∃ i : Nat, i ≤ c ∧ iv = .int .i64 i ∧ nv = .int .i64 ((rmL ((pre T).take i) + (addV [] (pvH ((pre T).take i))).length : Nat) : Int) ∧ rmL ((pre T).take i) + (addV [] (pvH ((pre T).take i))).length ≤ 6 * i ∧ wq.ownsRow w1.heap.size 4 1 (.slice (some ⟨w1.heap.size, 0, none⟩) 13 13) 13 (seenL (addV [] (pvH ((pre T).take i)))) ∧ Below w1.heap.size w1 wq) (fun _ v _ => c - (intOf v).toNat)
  case atStart => exact ⟨0, Nat.zero_le _, rfl, rfl, Nat.le_refl _, HO2.out, HB2.out⟩
  case round =>
    obtain ⟨i, hic, rfl, rfl, hSi, hO, hG⟩ := hrel
    have HO : Hid (wr.ownsRow w1.heap.size 4 1 (.slice (some ⟨w1.heap.size, 0, none⟩) 13 13) 13 (seenL (addV [] (pvH ((pre T).take i))))) := hO
    have HG : Hid (Below w1.heap.size w1 wr) := hG
    have hrowp : wr.heap[gp]? = w1.heap[gp]? := hG.block gp hgp.2
    clear hO hG HO2 HB2
    by_cases hil : i < c
    case pos =>
      have hiI : (i : Int) < (c : Int) := by omega
      obtain ⟨t, ht⟩ : ∃ t, (pre T)[i]? = some t := ⟨_, List.getElem?_eq_getElem (by omega)⟩
      obtain ⟨hi', hte⟩ := List.getElem?_eq_some_iff.1 ht
      have HTo : Hid (Okv 12 t) := HPo.out t (by rw [← hte]; exact List.getElem_mem _)
      have HTk : Hid ((pre T).take (i + 1) = (pre T).take i ++ [t]) := by rw [Hid, List.take_succ_eq_append_getElem hi', hte]
      have e02 : wr.cell? ⟨gp, i * 3, none⟩ = some (.int .i64 t.v) ∧ wr.cell? ⟨gp, i * 3 + 2, none⟩ = some (.slice t.a t.len t.cap) := by
        obtain ⟨f0, _, f2⟩ := flat_get (pre T) i hi'
        rw [hte] at f0 f2
        exact ⟨(World.cell?_of_block hrowp).trans ((HP1.out.cellAt (i * 3) (by omega)).trans f0), (World.cell?_of_block hrowp).trans ((HP1.out.cellAt (i * 3 + 2) (by omega)).trans f2)⟩
      obtain ⟨e0, e2⟩ := e02
      have htt := HTo.out.top
      have ht4 := HTo.out.four
      clear ht hte
      by_cases hv : t.v = 0
      case pos =>
        have hvb : (t.v == 0) = true := by rw [hv]; rfl
        have HS1 : Hid (addV [] (pvH ((pre T).take (i + 1))) = (addV [] (pvH ((pre T).take i)))) := by
          rw [Hid, HTk.out, pvH_append, show pvH [t] = [] from by unfold pvH; simp [hv], List.append_nil]
        have HR1 : Hid (rmL ((pre T).take (i + 1)) = rmL ((pre T).take i) + (1 + t.len)) := by
          rw [Hid, HTk.out, rmL_append, rmL_one, if_pos hv]
        generalize hRR : rmL ((pre T).take i) + (addV [] (pvH ((pre T).take i))).length = R at *
        clear hv htt
        go_wp2_with fail
        go_roundw
        case rel => exact ⟨i + 1, by omega, by go_num, by rw [HS1.out, HR1.out]; go_num, by rw [HS1.out, HR1.out]; omega, by rw [HS1.out]; exact HO.out, HG.out⟩
        case measure => simp [intOf]; omega
      have hvb : (t.v == 0) = false := beq_eq_false_iff_ne.2 hv
      obtain ⟨z, hz⟩ : ∃ z : Nat, t.v = z := ⟨t.v.toNat, by omega⟩
      have hzl : z < 13 := by omega
      have hone : addV [] (pvH ((pre T).take (i + 1))) = if (z : Int) ∈ (addV [] (pvH ((pre T).take i))) then (addV [] (pvH ((pre T).take i))) else (addV [] (pvH ((pre T).take i))) ++ [(z : Int)] := by
        rw [HTk.out, pvH_append, show pvH [t] = [(z : Int)] from by rw [← hz]; unfold pvH; rw [List.filter_cons_of_pos (by simpa using hv)]; rfl, addV_append, addV_one]
      have HR1 : Hid (rmL ((pre T).take (i + 1)) = rmL ((pre T).take i)) := by
        rw [Hid, HTk.out, rmL_append, rmL_one, if_neg hv]; rfl
      have n0 : wr.cell? ⟨w1.heap.size, z, none⟩ = some (.bool (decide ((z : Int) ∈ addV [] (pvH ((pre T).take i))))) := by
        refine (HO.out.cellAt z (by omega)).trans ?_
        unfold seenL
        rw [List.getElem?_eq_getElem (by simpa using hzl)]
        simp
      rw [hz] at e0 hvb
      by_cases hmem : (z : Int) ∈ (addV [] (pvH ((pre T).take i)))
      case pos =>
        have HS1 : Hid (addV [] (pvH ((pre T).take (i + 1))) = (addV [] (pvH ((pre T).take i)))) := by rw [Hid, hone, if_pos hmem]
        rw [decide_eq_true hmem] at n0
        clear hv htt hz hone hmem
        generalize hRR : rmL ((pre T).take i) + (addV [] (pvH ((pre T).take i))).length = R at *
        go_wp2_with fail
        go_roundw
        case rel => exact ⟨i + 1, by omega, by go_num, by rw [HS1.out, HR1.out, hRR], by rw [HS1.out, HR1.out]; omega, by rw [HS1.out]; exact HO.out, HG.out⟩
        case measure => simp [intOf]; omega
      rw [decide_eq_false hmem] at n0
      have HS1 : Hid (addV [] (pvH ((pre T).take (i + 1))) = (addV [] (pvH ((pre T).take i))) ++ [(z : Int)]) := by rw [Hid, hone, if_neg hmem]
      have hO7 := owns_setH HO.out z (.bool true)
      rw [seen_set hzl] at hO7
      have HO7 : Hid ((wr.setCell ⟨w1.heap.size, z, none⟩ (.bool true)).ownsRow w1.heap.size 4 1 (.slice (some ⟨w1.heap.size, 0, none⟩) 13 13) 13 (seenL ((addV [] (pvH ((pre T).take i))) ++ [(z : Int)]))) := hO7
      have HG7 : Hid (Below w1.heap.size w1 (wr.setCell ⟨w1.heap.size, z, none⟩ (.bool true))) := HG.out.grown (grown_set w1.heap.size z _) HG.out.size (fun k hk => by obtain rfl := Option.some.inj hk; omega)
      have nfz : wr.frozen? ⟨w1.heap.size, z, none⟩ = false := by
        rcases HO.out.2 with ⟨h', _⟩ | ⟨g'', cap'', cur, h', _, hg', _⟩
        · cases h'
        · cases h'; simp [World.frozen?, hg']
      clear hv htt hz hone hmem hO7
      generalize hRR : rmL ((pre T).take i) + (addV [] (pvH ((pre T).take i))).length = R at *
      go_wp2_with fail
      go_roundw
      case rel => exact ⟨i + 1, by omega, by go_num, by rw [HS1.out, HR1.out, List.length_append]; go_num, by rw [HS1.out, HR1.out, List.length_append]; simp; omega, by rw [HS1.out]; exact HO7.out, HG7.out⟩
      case measure => simp [intOf]; omega
    have hiI : ¬ ((i : Int) < (c : Int)) := by omega
    obtain rfl : i = c := by omega
    have hSe : pvH ((pre T).take i) = vsT T := by rw [List.take_of_length_le (by omega), HPv.out]
    have hRe : rmL ((pre T).take i) = nvC T := by rw [List.take_of_length_le (by omega), HPr.out]
    rw [hSe, hRe]
    clear HO hrowp
    go_wp2_with fail
    go_ret
    exact ⟨rfl, HB1.out.trans (HG.out.mono HB1.out.size)⟩
end Go.Proofs.Ytmggaclaoefdaaa
