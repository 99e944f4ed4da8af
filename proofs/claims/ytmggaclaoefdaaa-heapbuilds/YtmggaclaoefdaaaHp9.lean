/- The reference's ReadOf, walked. -/
import Derived.Test.YtmggaclaoefdaaaGBX
import Derived.Test.YtmggaclaoefdaaaGBN
import Derived.Test.YtmggaclaoefdaaaGBU
namespace Go.Proofs.Ytmggaclaoefdaaa
open Go.RowKit
set_option linter.unusedVariables false
set_option linter.unusedSimpArgs false

theorem okv_ofcan {N : Int} {T : Tm} (h : Okv N (can T)) (hT : ∃ w, TIn w T) : Okv N T := by
  induction T with
  | nil => obtain ⟨w, hT⟩ := hT; exact hT.elim
  | mk v nm a len cap f ih =>
    obtain ⟨w, hT⟩ := hT
    refine ⟨h.1, h.2.1, h.2.2.1, h.2.2.2.1, fun i hi => ih i ?_ ⟨w, (hT.2.2 i hi).2⟩⟩
    have h9 : Okv N (if i < len then can (f i) else .nil) := h.2.2.2.2 i hi
    rw [if_pos hi] at h9
    exact h9
theorem cnt_ofcan {T : Tm} : cnt (can T) = cnt T := by
  induction T with
  | nil => rfl
  | mk v nm a len cap f ih =>
    show 1 + sumTo (fun i => cnt (if i < len then can (f i) else .nil)) len = 1 + sumTo (fun i => cnt (f i)) len
    congr 1
    have : ∀ k, k ≤ len → sumTo (fun i => cnt (if i < len then can (f i) else .nil)) k = sumTo (fun i => cnt (f i)) k := by
      intro k
      induction k with
      | zero => intro _; rfl
      | succ k ihk =>
        intro hk
        show sumTo _ k + cnt (if k < len then can (f k) else .nil) = sumTo _ k + cnt (f k)
        rw [ihk (by omega), if_pos (by omega), ih k]
    exact this len (Nat.le_refl _)
theorem kept_none (v : Value) : v.ownBlock = none ∨ v.ownBlock ≠ none := by
  cases v.ownBlock with
  | none => exact .inl rfl
  | some g => exact .inr (by simp)
def RoR (h : Nat → Cl) (len i : Nat) (X : Tm) (l : List Int) (c : Int) : Prop :=
  (c = 2 ∧ 200 < cntA h len i ∧ can X = can zX ∧ l = []) ∨ (c = 0 ∧ cntA h len i ≤ 200 ∧ can X = ap (nmOf (num (addV [] (vsT (std h len i))))) (std h len i) ∧ l = (addV [] (vsT (std h len i))).map fun x => x - 1)
set_option maxRecDepth 100000 in
set_option maxHeartbeats 8000000 in
theorem readOf_any {a : Option Addr} {len cap : Nat} {h : Nat → Cl} {i0 : Nat} (w : World) (H : HG h len) (hlb : len ≤ 400000) (hi : i0 < len) (hh : HIn w a len h) :
    Calls Try.prog 38 #[.slice a len cap, .int .i64 (i0 : Int)] w fun e w' => ∃ (X : Tm) (L : Value) (l : List Int) (c : Int), e = T3v X L c ∧ RoR h len i0 X l c ∧ TIn w' X ∧ w'.ownsRow w.heap.size 3 1 L l.length (l.map (Value.int .i64)) ∧ (∀ k, k < w.heap.size → NB k X) ∧ Below w.heap.size w w' := by
  have HBa : Hid (Below w.heap.size w (w.alloc (.cells #[.int .i64 0, .string ⟨#[]⟩, .slice none 0 0] 24))) := (Below.refl _ _).alloc (Nat.le_refl _) _
  have HXa : Hid ((w.alloc (.cells #[.int .i64 0, .string ⟨#[]⟩, .slice none 0 0] 24)).heap[w.heap.size]? = some (.cells #[.int .i64 0, .string ⟨#[]⟩, .slice none 0 0] 24)) := heap_alloc_new _ _
  have hsa : (w.alloc (.cells #[.int .i64 0, .string ⟨#[]⟩, .slice none 0 0] 24)).heap.size = w.heap.size + 1 := by simp
  have HSt : Hid (Calls Try.prog 45 #[.slice a len cap, .int .i64 (i0 : Int), .int .i64 ((200 : Nat) : Int)] (w.alloc (.cells #[.int .i64 0, .string ⟨#[]⟩, .slice none 0 0] 24)) (SdP h len 200 i0 (w.alloc (.cells #[.int .i64 0, .string ⟨#[]⟩, .slice none 0 0] 24)))) := stood_all 200 (Nat.le_refl _) h len i0 a cap _ H (by omega) hi (hh.below HBa.out)
  have HOs : Hid (Okv len (std h len i0)) := std_okv H i0 hi
  have HVs : Hid (cntA h len i0 = cnt (std h len i0)) := rfl
  obtain ⟨j0, hj, hj0, hj1, hj2⟩ := info_parts Try.info3
  clear H hh
  go_enter Try.func38, Try.ntmps38
  go_wp2_with fail
  generalize w.alloc (.cells #[.int .i64 0, .string ⟨#[]⟩, .slice none 0 0] 24) = wa at *
  refine HSt.out.mono ?_
  rintro e w1 ⟨hb1, h1⟩
  have HB1 : Hid (Below w.heap.size w w1) := HBa.out.trans (hb1.mono HBa.out.size)
  have HX1 : Hid (w1.heap[w.heap.size]? = some (.cells #[.int .i64 0, .string ⟨#[]⟩, .slice none 0 0] 24)) := (hb1.block _ (by omega)).trans HXa.out
  have hs1 : w.heap.size + 1 ≤ w1.heap.size := by have := hb1.size; omega
  generalize hs : w.heap.size = s at *
  rcases h1 with ⟨hle, X0, rfl, hX0, hA0, hV0⟩ | ⟨hno, k, rfl, hk⟩
  case inr =>
    rw [show T3 (vT 0) (k : Int) false = .returned (.tuple #[.agg #[.int .i64 0, .string ⟨#[]⟩, .slice none 0 0], .int .i64 k, .bool false]) from rfl]
    have HBZ : Hid (Below s w (w1.alloc (.cells #[.int .i64 0, .string ⟨#[]⟩, .slice none 0 0] 24))) := HB1.out.alloc (by omega) _
    have HZ3 : Hid ((w1.alloc (.cells #[.int .i64 0, .string ⟨#[]⟩, .slice none 0 0] 24)).heap[s]? = some (.cells #[.int .i64 0, .string ⟨#[]⟩, .slice none 0 0] 24)) := by rw [Hid, heapOld _ _ (by omega)]; exact HX1.out
    obtain ⟨y0, y1, y2, f0, f1, f2⟩ := block_cells HZ3.out
    have HNo : Hid (200 < cntA h len i0) := hno
    clear hno hb1
    go_wp2_with fail
    obtain ⟨V', hV, z0, z1, z2, hBV, _⟩ := fin3n (w := w) (r := s) (by omega) HZ3.out (by rw [hs]; exact HBZ.out) (.int .i64 0) (.string ⟨#[]⟩) (.slice none 0 0)
    rw [hV]
    refine bodyPost_ret (v := .tuple #[zX.val, .slice none 0 0, .int .i64 2]) ?_ rfl ⟨zX, .slice none 0 0, [], 2, rfl, .inl ⟨rfl, HNo.out, rfl, rfl⟩, zX_in _, World.ownsRow_nil _ _ _ _, fun _ _ => ⟨fun h => absurd h (Nat.lt_irrefl 0), fun i hi => absurd hi (Nat.not_lt_zero i)⟩, hBV⟩
    simp [results, Try.results38, go_sem, z0, z1, z2, Tm.val, zX, Tm.v, Tm.nm, Tm.a, Tm.len, Tm.cap]
  rw [show T3 X0 (cntA h len i0 : Int) true = .returned (.tuple #[.agg #[.int .i64 X0.v, .string X0.nm, .slice X0.a X0.len X0.cap], .int .i64 (cntA h len i0), .bool true]) from rfl]
  have HOk : Hid (Okv len X0) := okv_ofcan (by rw [hV0]; exact HOs.out) ⟨_, hX0⟩
  have hcn : cnt X0 = cntA h len i0 := by rw [← cnt_ofcan, hV0]; rfl
  have HXX : Hid (can X0 = std h len i0) := hV0
  have HLe : Hid (cntA h len i0 ≤ 200) := hle
  have hc2 : cnt X0 ≤ 200 := by omega
  have HAb : Hid (Above (s + 1) X0) := hA0.mono (by omega)
  have HB2 : Hid (Below w1.heap.size w1 (w1.alloc (.cells #[.int .i64 X0.v, .string X0.nm, .slice X0.a X0.len X0.cap] 24))) := (Below.refl _ _).alloc (Nat.le_refl _) _
  have hY2 : (w1.alloc (.cells #[.int .i64 X0.v, .string X0.nm, .slice X0.a X0.len X0.cap] 24)).heap[w1.heap.size]? = some (.cells #[.int .i64 X0.v, .string X0.nm, .slice X0.a X0.len X0.cap] 24) := heap_alloc_new _ _
  have HY2 : Hid ((w1.alloc (.cells #[.int .i64 X0.v, .string X0.nm, .slice X0.a X0.len X0.cap] 24)).heap[w1.heap.size]? = some (.cells #[.int .i64 X0.v, .string X0.nm, .slice X0.a X0.len X0.cap] 24)) := hY2
  have HT0 : Hid (TIn w1 X0) := hX0
  have hs2 : (w1.alloc (.cells #[.int .i64 X0.v, .string X0.nm, .slice X0.a X0.len X0.cap] 24)).heap.size = w1.heap.size + 1 := by simp
  have hwl : IntKind.i64.wrap ((len : Int) + 1) = ((len + 1 : Nat) : Int) := by simp [IntKind.wrap, IntKind.bits, IntKind.signed]; omega
  generalize hck : cntA h len i0 = ck at *
  clear hb1 hX0 hA0 hV0 hY2 hle
  go_wp2_with (first
    | (at_make; refine wpList_make_full _ rfl _ _ 56 rfl (w1.heap.size + 1) 3 j0 (.int .i64 0) 1 Try.underlying56 hj hj0 hj1 _ _ _ _ (len + 1) rfl rfl rfl rfl (by rw [hj2]; omega) (by unfold maxLen; omega) (by omega) ?_
       intro w3 ho3 hg3
       rw [made1 _ rfl] at ho3
       have HO3 : Hid (w3.ownsRow (w1.heap.size + 1) 3 1 (.slice (some ⟨w1.heap.size + 1, 0, none⟩) (len + 1) (len + 1)) (len + 1) ((List.range (len + 1)).map fun _ : Nat => Value.int .i64 0)) := by rw [Hid, ← hs2]; exact (by rw [hs2] at ho3 ⊢; exact ho3)
       have HB3 : Hid (Below (w1.heap.size + 1) (w1.alloc (.cells #[.int .i64 X0.v, .string X0.nm, .slice X0.a X0.len X0.cap] 24)) w3) := ⟨hg3.os, hg3.tape, hg3.output, hg3.size, fun k hk => hg3.block k (by omega) (by simp)⟩
       have y3 := block_cells ((HB3.out.block w1.heap.size (by omega)).trans HY2.out)
       have y30 := y3.1
       have y31 := y3.2.1
       have y32 := y3.2.2.1
       clear ho3 hg3 y3))
  have HX3 : Hid (TIn w3 X0) := (HT0.out.below HB2.out).below (HB3.out.mono (by omega))
  have hs3 : w1.heap.size + 2 ≤ w3.heap.size := by have := (HO3.out.lt (w1.heap.size + 1) rfl).2; omega
  have HXN : Hid (NB (w1.heap.size + 1) X0) := HT0.out.nb (by omega)
  have HBw3 : Hid (Below s w w3) := (HB1.out.trans (HB2.out.mono (by omega))).trans (HB3.out.mono (by omega))
  have HRs3 : Hid (w3.heap[s]? = some (.cells #[.int .i64 0, .string ⟨#[]⟩, .slice none 0 0] 24)) := ((HB3.out.block s (by omega)).trans (HB2.out.block s (by omega))).trans HX1.out
  have HBx3 : Hid (w3.heap[w1.heap.size]? = some (.cells #[.int .i64 X0.v, .string X0.nm, .slice X0.a X0.len X0.cap] 24)) := (HB3.out.block w1.heap.size (by omega)).trans HY2.out
  refine (partsB_any X0 w3 HX3.out (by omega)).mono ?_
  rintro e w4 ⟨gp, cp, rfl, hop, hb4⟩
  have hgp := (hop.lt gp rfl)
  have hs4 : w3.heap.size ≤ w4.heap.size := hb4.size
  have HP4 : Hid (w4.ownsRow w3.heap.size 24 3 (.slice (some ⟨gp, 0, none⟩) (cnt X0) cp) (cnt X0) (flat (pre X0))) := hop
  have HO4 : Hid (w4.ownsRow (w1.heap.size + 1) 3 1 (.slice (some ⟨w1.heap.size + 1, 0, none⟩) (len + 1) (len + 1)) (len + 1) ((List.range (len + 1)).map fun _ : Nat => Value.int .i64 0)) := HO3.out.kept (grown_of_below hb4 none) (.inr (fun e => by cases e))
  have HX4 : Hid (TIn w4 X0) := HX3.out.below hb4
  have HBw4 : Hid (Below s w w4) := HBw3.out.trans (hb4.mono (by omega))
  have HRs4 : Hid (w4.heap[s]? = some (.cells #[.int .i64 0, .string ⟨#[]⟩, .slice none 0 0] 24)) := (hb4.block s (by omega)).trans HRs3.out
  have HBx4 : Hid (w4.heap[w1.heap.size]? = some (.cells #[.int .i64 X0.v, .string X0.nm, .slice X0.a X0.len X0.cap] 24)) := (hb4.block w1.heap.size (by omega)).trans HBx3.out
  have hpl : (pre X0).length = cnt X0 := pre_length X0
  have HPo : Hid (∀ q ∈ pre X0, Okv len q) := pre_okvH HOk.out
  have HPv : Hid (pvH (pre X0) = vsT X0) := pvH_pre HOk.out
  generalize hc : cnt X0 = c at *
  clear hop hb4 HO3 HB3 HX3 HBw3 HRs3 HBx3 HB2 HY2 y30 y31 y32 hs2
  go_wp2_with fail
  go_loopw [10, 13] (fun cv iv wq => ∃ i : Nat, i ≤ c ∧ iv = .int .i64 i ∧ wq.ownsRow w4.heap.size 3 1 cv (addV [] (pvH ((pre X0).take i))).length ((addV [] (pvH ((pre X0).take i))).map fun x => Value.int .i64 (x - 1)) ∧ wq.ownsRow (w1.heap.size + 1) 3 1 (.slice (some ⟨(w1.heap.size + 1), 0, none⟩) (len + 1) (len + 1)) (len + 1) ((List.range (len + 1)).map fun k : Nat => Value.int .i64 (nfH (addV [] (pvH ((pre X0).take i))) (k : Int))) ∧ (addV [] (pvH ((pre X0).take i))).length ≤ i ∧ Bw (fun k => k = (w1.heap.size + 1)) w4.heap.size w4 wq) (fun _ v _ => c - (intOf v).toNat)
  case atStart => exact ⟨0, Nat.zero_le _, rfl, World.ownsRow_nil _ _ _ _, HO4.out, Nat.le_refl _, Bw.refl _ _ _⟩
  case round =>
    obtain ⟨i, hic, rfl, hC, hO, hSi, hG⟩ := hrel
    have HC : Hid (wr.ownsRow w4.heap.size 3 1 u10 (addV [] (pvH ((pre X0).take i))).length ((addV [] (pvH ((pre X0).take i))).map fun x => Value.int .i64 (x - 1))) := hC
    have HO : Hid (wr.ownsRow (w1.heap.size + 1) 3 1 (.slice (some ⟨(w1.heap.size + 1), 0, none⟩) (len + 1) (len + 1)) (len + 1) ((List.range (len + 1)).map fun k : Nat => Value.int .i64 (nfH (addV [] (pvH ((pre X0).take i))) (k : Int)))) := hO
    have HG : Hid (Bw (fun k => k = (w1.heap.size + 1)) w4.heap.size w4 wr) := hG
    have hrowp : wr.heap[gp]? = w4.heap[gp]? := hG.block gp hgp.2 (by omega)
    have hzq := hG.size
    clear hC hO hG HO4
    by_cases hil : i < c
    case pos =>
      have hiI : (i : Int) < (c : Int) := by omega
      obtain ⟨t, ht⟩ : ∃ t, (pre X0)[i]? = some t := ⟨_, List.getElem?_eq_getElem (by omega)⟩
      obtain ⟨hi', hte⟩ := List.getElem?_eq_some_iff.1 ht
      have HTo : Hid (Okv len t) := HPo.out t (by rw [← hte]; exact List.getElem_mem _)
      have HTk : Hid ((pre X0).take (i + 1) = (pre X0).take i ++ [t]) := by rw [Hid, List.take_succ_eq_append_getElem hi', hte]
      have e0 : wr.cell? ⟨gp, i * 3, none⟩ = some (.int .i64 t.v) := by
        obtain ⟨f0, _, _⟩ := flat_get (pre X0) i hi'
        rw [hte] at f0
        exact (World.cell?_of_block hrowp).trans ((HP4.out.cellAt (i * 3) (by omega)).trans f0)
      have htt := HTo.out.top
      clear ht hte
      by_cases hv : t.v = 0
      case pos =>
        have hvb : (t.v != 0) = false := by rw [hv]; rfl
        have HS1 : Hid (addV [] (pvH ((pre X0).take (i + 1))) = (addV [] (pvH ((pre X0).take i)))) := by
          rw [Hid, HTk.out, pvH_append, show pvH [t] = [] from by unfold pvH; simp [hv], List.append_nil]
        clear hv htt
        go_wp2_with fail
        go_roundw
        case rel => exact ⟨i + 1, by omega, by go_num, by rw [HS1.out]; exact HC.out, by rw [HS1.out]; exact HO.out, by rw [HS1.out]; omega, HG.out⟩
        case measure => simp [intOf]; omega
      have hvb : (t.v != 0) = true := bne_iff_ne.2 hv
      obtain ⟨z, hz⟩ : ∃ z : Nat, t.v = z := ⟨t.v.toNat, by omega⟩
      have hzl : z < len + 1 := by omega
      have hzI : (z : Int) < ((len + 1 : Nat) : Int) := by omega
      have hone : addV [] (pvH ((pre X0).take (i + 1))) = if (z : Int) ∈ (addV [] (pvH ((pre X0).take i))) then (addV [] (pvH ((pre X0).take i))) else (addV [] (pvH ((pre X0).take i))) ++ [(z : Int)] := by
        rw [HTk.out, pvH_append, show pvH [t] = [(z : Int)] from by rw [← hz]; unfold pvH; rw [List.filter_cons_of_pos (by simpa using hv)]; rfl, addV_append, addV_one]
      have n0 : wr.cell? ⟨(w1.heap.size + 1), z, none⟩ = some (.int .i64 (nfH (addV [] (pvH ((pre X0).take i))) (z : Int))) := by
        refine (HO.out.cellAt z (by omega)).trans ?_
        rw [List.getElem?_eq_getElem (by simpa using hzl)]
        simp
      rw [hz] at e0 hvb
      by_cases hmem : (z : Int) ∈ (addV [] (pvH ((pre X0).take i)))
      case pos =>
        have hnz : (nfH (addV [] (pvH ((pre X0).take i))) (z : Int) == 0) = false := beq_eq_false_iff_ne.2 (nfH_in hmem).2
        have HS1 : Hid (addV [] (pvH ((pre X0).take (i + 1))) = (addV [] (pvH ((pre X0).take i)))) := by rw [Hid, hone, if_pos hmem]
        clear hv htt hz hone hmem
        generalize nfH (addV [] (pvH ((pre X0).take i))) (z : Int) = y at *
        go_wp2_with fail
        go_roundw
        case rel => exact ⟨i + 1, by omega, by go_num, by rw [HS1.out]; exact HC.out, by rw [HS1.out]; exact HO.out, by rw [HS1.out]; omega, HG.out⟩
        case measure => simp [intOf]; omega
      rw [nfH_out hmem] at n0
      have HS1 : Hid (addV [] (pvH ((pre X0).take (i + 1))) = (addV [] (pvH ((pre X0).take i))) ++ [(z : Int)]) := by rw [Hid, hone, if_neg hmem]
      have HSet : Hid (((List.range (len + 1)).map fun k : Nat => Value.int .i64 (nfH (addV [] (pvH ((pre X0).take i))) (k : Int))).set z (.int .i64 (((addV [] (pvH ((pre X0).take i))).length : Int) + 1)) = (List.range (len + 1)).map fun k : Nat => Value.int .i64 (nfH ((addV [] (pvH ((pre X0).take i))) ++ [(z : Int)]) (k : Int))) := nfH_set hmem
      have hz0 : (z : Int) ≠ 0 := by rw [← hz]; exact hv
      have hwz : IntKind.i64.wrap ((z : Int) - 1) = (z : Int) - 1 := by simp [IntKind.wrap, IntKind.bits, IntKind.signed]; omega
      clear hv htt hz hone hmem
      generalize (addV [] (pvH ((pre X0).take i))) = S at *
      have hgl := (HO.out.lt (w1.heap.size + 1) rfl).2
      have e0' : (wr.alloc (.cells #[.int .i64 ((z : Int) - 1)] 3)).cell? ⟨gp, i * 3, none⟩ = some (.int .i64 z) := (((Below.refl wr.heap.size wr).alloc (Nat.le_refl _) _).cell (p := ⟨gp, i * 3, none⟩) (by show gp < _; omega)).trans e0
      have HBa : Hid (Below wr.heap.size wr (wr.alloc (.cells #[.int .i64 ((z : Int) - 1)] 3))) := (Below.refl _ _).alloc (Nat.le_refl _) _
      have HVa : Hid ((wr.alloc (.cells #[.int .i64 ((z : Int) - 1)] 3)).ownsRow w4.heap.size 3 1 u10 S.length (S.map fun x => Value.int .i64 (x - 1))) := HC.out.kept (grown_of_below HBa.out none) (kept_none _)
      go_wp2_with (at_builtin; refine wpList_append_own_at _ rfl (.tmp 53) (.tmp 60) 56 rfl w4.heap.size 3 j0 (.int .i64 0) 1 8 Try.underlying56 hj hj0 hj1 hj2 rfl (by decide) u10 S.length (S.map fun x => Value.int .i64 (x - 1)) rfl HVa.out ⟨wr.heap.size, 0, none⟩ 1 1 [.int .i64 ((z : Int) - 1)] rfl rfl (cell_one_new _ _ _) (by simp [Value.oneCell']) (by unfold maxLen; omega) (by omega) (by simp; omega) ?_; intro v' w6 hown' hgrow hnil hat; have hv' : ∃ g' cap', v' = .slice (some ⟨g', 0, none⟩) (S.length + 1) cap' := (by rcases hown'.2 with ⟨_, h0⟩ | ⟨g', cap', _, h, _⟩; (· omega); (· exact ⟨g', cap', h⟩)); obtain ⟨g', cap', rfl⟩ := hv'; have hg6 : w6.heap[gp]? = (wr.alloc (.cells #[.int .i64 ((z : Int) - 1)] 3)).heap[gp]? := hgrow.block gp (by simp; omega) (fun e => by have := (HVa.out.lt gp e.symm).1; omega); have e6 : w6.cell? ⟨gp, i * 3, none⟩ = some (.int .i64 z) := (World.cell?_of_block hg6).trans e0'; have HO6 : Hid (w6.ownsRow (w1.heap.size + 1) 3 1 (.slice (some ⟨w1.heap.size + 1, 0, none⟩) (len + 1) (len + 1)) (len + 1) ((List.range (len + 1)).map fun k : Nat => Value.int .i64 (nfH S (k : Int)))) := ((HO.out.kept (grown_of_below HBa.out none) (kept_none _)).kept hgrow (.inr (fun e => by have h1 := (HVa.out.lt (w1.heap.size + 1) e.symm).1; omega))); have nfz : w6.frozen? ⟨w1.heap.size + 1, z, none⟩ = false := (by rcases HO6.out.2 with ⟨h', _⟩ | ⟨g'', cap'', cur, h', _, hg', _⟩; (· cases h'); (· cases h'; simp [World.frozen?, hg'])); have n6 : ∃ x6, w6.cell? ⟨w1.heap.size + 1, z, none⟩ = some x6 := (by refine ⟨_, (HO6.out.cellAt z (by omega)).trans (List.getElem?_eq_getElem (by simpa using hzl))⟩); obtain ⟨x6, n6⟩ := n6; have HW6 : Hid (Bw (fun k => k = (w1.heap.size + 1)) w4.heap.size w4 w6) := (HG.out.trans (Bw.ofBelow (HBa.out.mono hzq))).grown hgrow (by simp; omega) (fun k hk => .inl (HVa.out.lt k hk).1); have HC6 : Hid (w6.ownsRow w4.heap.size 3 1 (.slice (some ⟨g', 0, none⟩) (S.length + 1) cap') (S.length + 1) ((S ++ [(z : Int)]).map fun x => Value.int .i64 (x - 1))) := (by rw [Hid, List.map_append]; exact hown'); have hg'4 := (HC6.out.lt g' rfl).1; clear hown' hgrow hnil hat hg6)
      have hO7 := owns_setH HO6.out z (.int .i64 ((S.length : Int) + 1))
      rw [HSet.out] at hO7
      have hC7 := HC6.out.kept (grown_set (W := w6) (w1.heap.size + 1) z (.int .i64 ((S.length : Int) + 1))) (.inr (fun e => by have : g' = w1.heap.size + 1 := Option.some.inj e; omega))
      have hW7 : Bw (fun k => k = (w1.heap.size + 1)) w4.heap.size w4 (w6.setCell ⟨w1.heap.size + 1, z, none⟩ (.int .i64 ((S.length : Int) + 1))) := HW6.out.grown (grown_set (w1.heap.size + 1) z _) HW6.out.size (fun k hk => .inr (Option.some.inj hk).symm)
      go_roundw
      case rel => exact ⟨i + 1, by omega, by go_num, by rw [HS1.out]; simpa using hC7, by rw [HS1.out]; exact hO7, by rw [HS1.out]; simp; omega, hW7⟩
      case measure => simp [intOf]; omega
    have hiI : ¬ ((i : Int) < (c : Int)) := by omega
    obtain rfl : i = c := by omega
    have hSe : pvH ((pre X0).take i) = vsT X0 := by rw [List.take_of_length_le (by omega), HPv.out]
    have hvs : vsT X0 = vsT (std h len i0) := by rw [← vsT_can, HXX.out]
    rw [hSe, hvs] at HC HO hSi
    generalize hSS : addV [] (vsT (std h len i0)) = S at *
    have HNm : Hid (NmIs wr (w1.heap.size + 1) 0 (len + 1) (nfH S)) := fun k hk => by
      rw [Nat.zero_add]
      refine (HO.out.cellAt k (by omega)).trans ?_
      rw [List.getElem?_eq_getElem (by simpa using hk)]
      simp
    have HGg : Hid (w4.grownBy wr (some (w1.heap.size + 1))) := Bw.g HG.out
    have HXq : Hid (TIn wr X0) := HX4.out.grown HGg.out (fun k hk => by obtain rfl := Option.some.inj hk; exact HXN.out)
    have HBq : Hid (wr.heap[w1.heap.size]? = some (.cells #[.int .i64 X0.v, .string X0.nm, .slice X0.a X0.len X0.cap] 24)) := (HG.out.block w1.heap.size (by omega) (by omega)).trans HBx4.out
    have HRq : Hid (wr.heap[s]? = some (.cells #[.int .i64 0, .string ⟨#[]⟩, .slice none 0 0] 24)) := (HG.out.block s (by omega) (by omega)).trans HRs4.out
    have HBwq : Hid (Below s w wr) := HBw4.out.grown HGg.out (by omega) (fun k hk => by obtain rfl := Option.some.inj hk; omega)
    have HNamed : Hid (Calls Try.prog 69 #[.agg #[.int .i64 X0.v, .string X0.nm, .slice X0.a X0.len X0.cap], .slice (some ⟨w1.heap.size + 1, 0, none⟩) (len + 1) (len + 1)] wr (NP (nfH S) X0 wr)) := named_all len X0 (w1.heap.size + 1) 0 (len + 1) (len + 1) (nfH S) wr HNm.out (by omega) (by omega) HXq.out HOk.out
    have HApe : Hid (ap (nmOf (nfH S)) X0 = ap (nmOf (num S)) (std h len i0)) := by
      rw [Hid, ← ap_can, HXX.out]
      exact ap_vsH fun v hv => (nfH_in (by rw [← hSS]; exact mem_addVH _ _ hv)).1
    obtain ⟨b0, b1, b2, _, _, _⟩ := block_cells HBq.out
    clear HO HX4 HBx4 hrowp
    go_wp2_with fail
    refine HNamed.out.mono ?_
    rintro e w10 ⟨Z, rfl, hb10, hZ, hZc, hZN⟩
    rw [show Z.val = .agg #[.int .i64 Z.v, .string Z.nm, .slice Z.a Z.len Z.cap] from rfl]
    have hs10 : wr.heap.size ≤ w10.heap.size := hb10.size
    have HR10 : Hid (w10.heap[s]? = some (.cells #[.int .i64 0, .string ⟨#[]⟩, .slice none 0 0] 24)) := (hb10.block s (by omega)).trans HRq.out
    have HB10 : Hid (Below s w w10) := HBwq.out.trans (hb10.mono (by omega))
    have HC10 : Hid (w10.ownsRow w4.heap.size 3 1 u10 S.length (S.map fun x => Value.int .i64 (x - 1))) := HC.out.kept (grown_of_below hb10 none) (kept_none _)
    have HZa : Hid (∀ k, k < s → NB k Z) := fun k hk => hZN k (by omega) ⟨fun h => absurd h (Nat.lt_irrefl 0), fun i hi => absurd hi (Nat.not_lt_zero i)⟩
    have HZs : Hid (NB s Z) := hZN s (by omega) ⟨fun h => absurd h (Nat.lt_irrefl 0), fun i hi => absurd hi (Nat.not_lt_zero i)⟩
    obtain ⟨y0, y1, y2, f0, f1, f2⟩ := block_cells HR10.out
    go_wp2_with fail
    obtain ⟨V', hV, z0, z1, z2, hBV, hGV⟩ := fin3n (w := w) (r := s) (by omega) HR10.out (by rw [hs]; exact HB10.out) (.int .i64 Z.v) (.string Z.nm) (.slice Z.a Z.len Z.cap)
    rw [hV]
    refine bodyPost_ret (v := .tuple #[Z.val, u10, .int .i64 0]) ?_ rfl ⟨Z, u10, S.map fun x => x - 1, 0, rfl, .inr ⟨rfl, by rw [hck]; exact HLe.out, by rw [hSS]; exact hZc.trans HApe.out, by rw [hSS]⟩, hZ.grown hGV (fun k hk => by obtain rfl := Option.some.inj hk; exact HZs.out), ?_, fun k hk => HZa.out k (by omega), hBV⟩
    · simp [results, Try.results38, go_sem, z0, z1, z2, Tm.val]
    · have h9 := HC10.out.kept hGV (.inr (fun e => by have := (HC10.out.lt s e).1; omega))
      rw [List.length_map, List.map_map]
      exact ownsRow_mono h9 (by omega)
end Go.Proofs.Ytmggaclaoefdaaa
