/- What HeapBuilds says is true. -/
import Derived.Deep.RegionHeld3
import Derived.Test.YtmggaclaoefdaaaHb4
import Derived.Test.YtmggaclaoefdaaaHp6
import Derived.Test.YtmggaclaoefdaaaGAQ
import Derived.Test.YtmggaclaoefdaaaGBS
import Derived.Test.YtmggaclaoefdaaaHu4
import Derived.Test.YtmggaclaoefdaaaGAJ
import Derived.Test.YtmggaclaoefdaaaGAK
import Derived.Test.YtmggaclaoefdaaaHm7
import Derived.Test.YtmggaclaoefdaaaRefTerm
namespace Go.Proofs.Ytmggaclaoefdaaa
open Go.RowKit
set_option linter.unusedVariables false
set_option linter.unusedSimpArgs false
attribute [local go_sem] Oper.semAt_some

/-- The terms of the cells that were told, so far. -/
def byL (σ : Int → Option Int) (k : Nat) : List Tm := (List.range 12).map fun i : Nat => if i < k then vT (whI σ i + 1) else vT 0
theorem byL_set (σ : Int → Option Int) {k : Nat} (hk : k < 12) : (byL σ k).set k (vT (whI σ k + 1)) = byL σ (k + 1) := by
  unfold byL
  refine List.ext_getElem (by simp) fun i h1 h2 => ?_
  rw [List.getElem_set]
  simp only [List.getElem_map, List.getElem_range]
  by_cases hi : k = i
  · subst hi; rw [if_pos rfl, if_pos (by omega)]
  · rw [if_neg hi]
    by_cases h : i < k
    · rw [if_pos h, if_pos (by omega)]
    · rw [if_neg h, if_neg (by omega)]
theorem made12 : (madeCells (Value.agg #[.int .i64 0, .string ByteArray.empty, .slice none 0 0]).cells (12 * 3)).toList = flat (byL (fun _ => none) 0) := by kernel_rfl
theorem byL0 (σ : Int → Option Int) : byL σ 0 = byL (fun _ => none) 0 := by
  unfold byL
  refine List.map_congr_left fun i _ => ?_
  rw [if_neg (Nat.not_lt_zero i), if_neg (Nat.not_lt_zero i)]
theorem cr_of {w : World} {sa : Option Addr} {len : Nat} {h : Nat → Cl} (hh : ∀ i, i < len → CRow w sa i (h i)) : CR w sa ((List.range len).map h) := fun k hk => by
  have hk' : k < len := by simpa using hk
  have e : ((List.range len).map h)[k] = h k := by simp
  rw [e]
  exact hh k hk'
theorem whI_rng {σ : Int → Option Int} {n : Nat} (h : ∀ v c, σ v = some c → ∃ y : Nat, c = y ∧ y < n) (i : Nat) : -1 ≤ whI σ i ∧ whI σ i ≤ n := by
  unfold whI
  cases e : σ ((i : Int) + 1) with
  | none => exact ⟨by simp, by simp <;> omega⟩
  | some c =>
    obtain ⟨y, rfl, hy⟩ := h _ _ e
    exact ⟨by simp <;> omega, by simp <;> omega⟩
set_option maxRecDepth 100000 in
set_option maxHeartbeats 8000000 in
theorem law_builds {a : Option Addr} {len cap : Nat} {h : Nat → Cl} (T : Tm) (w : World) (hh : HIn w a len h) (hcap : len ≤ cap) (hn : a = none → len = 0 ∧ cap = 0) (hT : TIn w T) :
    Calls Try.prog 9 #[.slice a len cap, .agg #[.int .i64 T.v, .string T.nm, .slice T.a T.len T.cap]] w fun e w' => e = .returned (.bool true) ∧ Below w.heap.size w w' := by
  have HBa : Hid (Below w.heap.size w (w.alloc (.cells #[.int .i64 T.v, .string T.nm, .slice T.a T.len T.cap] 24))) := (Below.refl _ _).alloc (Nat.le_refl _) _
  have HXa : Hid ((w.alloc (.cells #[.int .i64 T.v, .string T.nm, .slice T.a T.len T.cap] 24)).heap[w.heap.size]? = some (.cells #[.int .i64 T.v, .string T.nm, .slice T.a T.len T.cap] 24)) := heap_alloc_new _ _
  have hsa : (w.alloc (.cells #[.int .i64 T.v, .string T.nm, .slice T.a T.len T.cap] 24)).heap.size = w.heap.size + 1 := by simp
  obtain ⟨x0, x1, x2, _⟩ := block_cells HXa.out
  have HH : Hid (∀ W, Below w.heap.size w W → HIn W a len h) := fun W hW => hh.below hW
  have HT : Hid (∀ W, Below w.heap.size w W → TIn W T) := fun W hW => hT.below hW
  have HBu : Hid (Calls Try.prog 42 #[.slice a len cap, .agg #[.int .i64 T.v, .string T.nm, .slice T.a T.len T.cap]] (w.alloc (.cells #[.int .i64 T.v, .string T.nm, .slice T.a T.len T.cap] 24)) (BuR h len T (w.alloc (.cells #[.int .i64 T.v, .string T.nm, .slice T.a T.len T.cap] 24)))) := build_any T _ (HH.out _ HBa.out) hcap hn (HT.out _ HBa.out)
  clear hh hT hn
  go_enter Try.func9, Try.ntmps9
  go_wp2_with fail
  generalize w.alloc (.cells #[.int .i64 T.v, .string T.nm, .slice T.a T.len T.cap] 24) = wa at *
  refine HBu.out.mono ?_
  rintro e w1 ⟨c, hc, hb1, hcs⟩
  have HCk : Hid (ChkR h len c) := hc
  have HB1 : Hid (Below w.heap.size w w1) := below_after2 HBa.out hb1
  have HX1 : Hid (∀ W, Below w1.heap.size w1 W → W.cell? ⟨w.heap.size, 0, none⟩ = some (.int .i64 T.v) ∧ W.cell? ⟨w.heap.size, 1, none⟩ = some (.string T.nm) ∧ W.cell? ⟨w.heap.size, 2, none⟩ = some (.slice T.a T.len T.cap)) := fun W hW => by
    have hb := (hW.block w.heap.size (by have := hb1.size; omega)).trans ((hb1.block w.heap.size (by omega)).trans HXa.out)
    exact ⟨(block_cells hb).1, (block_cells hb).2.1, (block_cells hb).2.2.1⟩
  have hs1 : w.heap.size + 1 ≤ w1.heap.size := by have := hb1.size; omega
  have HC2 : Hid (Calls Try.prog 36 #[.slice a len cap] w1 fun e w' => ∃ c : Int, e = .returned (.int .i64 c) ∧ ChkR h len c ∧ Below w1.heap.size w1 w') := checkHeap_any _ (HH.out _ HB1.out)
  have HCT : Hid (∀ W, Below w1.heap.size w1 W → Calls Try.prog 17 #[.agg #[.int .i64 T.v, .string T.nm, .slice T.a T.len T.cap]] W fun e w' => e = .returned (.int .i64 (checkV T)) ∧ Below W.heap.size W w') := fun W hW => checkTerm_any T W (HT.out _ (below_after2 HB1.out hW))
  clear hc HBu x0 x1 x2
  rcases hcs with ⟨hc0, rfl⟩ | ⟨rfl, ht0, rfl⟩ | ⟨rfl, ht0, ⟨hbig, rfl⟩ | ⟨hfew, v, g, rfl, hv, hg⟩⟩
  · -- the heap is wrong
    rw [show B4 (.slice none 0 0) 0 (.slice none 0 0) c = .returned (.tuple #[.slice none 0 0, .int .i64 0, .slice none 0 0, .int .i64 c]) from rfl]
    have hcb : (c == 0) = false := beq_eq_false_iff_ne.2 hc0
    have hcb' : (c != 0) = true := bne_iff_ne.2 hc0
    have hcc : (c != c) = false := by simp
    clear hb1
    go_wp2_with fail
    refine HC2.out.mono ?_
    rintro e w2 ⟨c2, rfl, hc2, hb2⟩
    obtain rfl : c2 = c := hc2.same HCk.out
    have HB2 : Hid (Below w.heap.size w w2) := below_after2 HB1.out hb2
    clear hb2 hc2
    go_wp2_with fail
    refine (begunH _).mono ?_
    rintro e w3 ⟨rfl, hb3⟩
    have HB3 : Hid (Below w.heap.size w w3) := below_after2 HB2.out hb3
    clear hb3
    go_wp2_with fail
    go_ret
    exact ⟨rfl, HB3.out⟩
  · -- the term is wrong
    generalize hcv : checkV T = cv at *
    rw [show B4 (.slice none 0 0) 0 (.slice none 0 0) cv = .returned (.tuple #[.slice none 0 0, .int .i64 0, .slice none 0 0, .int .i64 cv]) from rfl]
    have hcb : (cv == 0) = false := beq_eq_false_iff_ne.2 ht0
    have hcb' : (cv != 0) = true := bne_iff_ne.2 ht0
    have hcc : (cv != cv) = false := by simp
    clear hb1
    go_wp2_with fail
    refine HC2.out.mono ?_
    rintro e w2 ⟨c2, rfl, hc2, hb2⟩
    obtain rfl : c2 = 0 := hc2.same HCk.out
    have HB2 : Hid (Below w.heap.size w w2) := below_after2 HB1.out hb2
    obtain ⟨x0, x1, x2⟩ := HX1.out _ hb2
    have HT2 : Hid (Calls Try.prog 17 #[.agg #[.int .i64 T.v, .string T.nm, .slice T.a T.len T.cap]] w2 fun e w' => e = .returned (.int .i64 cv) ∧ Below w2.heap.size w2 w') := HCT.out _ hb2
    clear hb2 hc2
    go_wp2_with fail
    refine HT2.out.mono ?_
    rintro e w3 ⟨rfl, hb3⟩
    have HB3 : Hid (Below w.heap.size w w3) := below_after2 HB2.out hb3
    clear hb3 x0 x1 x2
    go_wp2_with fail
    refine (begunH _).mono ?_
    rintro e w4 ⟨rfl, hb4⟩
    have HB4 : Hid (Below w.heap.size w w4) := below_after2 HB3.out hb4
    clear hb4
    go_wp2_with fail
    go_ret
    exact ⟨rfl, HB4.out⟩
  · -- too many cells
    have HOk : Hid (Okv 12 T) := okv_of_err T (checkV_err ht0)
    have hcn : cnt T ≤ 60 := checkV_cnt ht0
    have hle := putH_len (h := h) (len := len) HOk.out
    have hl4 := (ChkR.good HCk.out).2
    rw [hle] at hbig
    have hwr : IntKind.i64.wrap ((len : Int) + (roomT T : Nat)) = (len : Int) + (roomT T : Nat) := by
      have h5 := (putT_len HOk.out ((List.range len).map h, fun _ => none)).2
      have h6 : (putH h len T).1.1.length + 1 ≤ ((List.range len).map h).length + 2 * cnt T := h5
      rw [hle] at h6
      simp at h6
      simp [IntKind.wrap, IntKind.bits, IntKind.signed]; omega
    have hgt : decide ((len : Int) + (roomT T : Nat) > 400000) = true := decide_eq_true (by omega)
    rw [show B4 (.slice none 0 0) 0 (.slice none 0 0) 2 = .returned (.tuple #[.slice none 0 0, .int .i64 0, .slice none 0 0, .int .i64 2]) from rfl]
    clear hb1 hle hbig
    go_wp2_with fail
    refine HC2.out.mono ?_
    rintro e w2 ⟨c2, rfl, hc2, hb2⟩
    obtain rfl : c2 = 0 := hc2.same HCk.out
    have HB2 : Hid (Below w.heap.size w w2) := below_after2 HB1.out hb2
    have HB12 : Hid (Below w1.heap.size w1 w2) := hb2
    obtain ⟨x0, x1, x2⟩ := HX1.out _ hb2
    have HT2 : Hid (Calls Try.prog 17 #[.agg #[.int .i64 T.v, .string T.nm, .slice T.a T.len T.cap]] w2 fun e w' => e = .returned (.int .i64 0) ∧ Below w2.heap.size w2 w') := by rw [Hid]; have := HCT.out _ hb2; rw [ht0] at this; exact this
    clear hb2 hc2
    go_wp2_with fail
    refine HT2.out.mono ?_
    rintro e w3 ⟨rfl, hb3⟩
    have HB3 : Hid (Below w.heap.size w w3) := below_after2 HB2.out hb3
    clear x0 x1 x2
    obtain ⟨x0, x1, x2⟩ := HX1.out _ (below_after2 HB12.out hb3)
    have HR3 : Hid (Calls Try.prog 43 #[.agg #[.int .i64 T.v, .string T.nm, .slice T.a T.len T.cap]] w3 fun e w' => e = .returned (.int .i64 (roomT T : Nat)) ∧ Below w3.heap.size w3 w') := rroom_any T w3 (HT.out _ HB3.out) HOk.out hcn
    clear hb3
    generalize roomT T = rm at *
    go_wp2_with fail
    refine HR3.out.mono ?_
    rintro e w4 ⟨rfl, hb4⟩
    have HB4 : Hid (Below w.heap.size w w4) := below_after2 HB3.out hb4
    clear hb4 x0 x1 x2
    go_wp2_with fail
    refine (begunH _).mono ?_
    rintro e w5 ⟨rfl, hb5⟩
    have HB5 : Hid (Below w.heap.size w w5) := below_after2 HB4.out hb5
    clear hb5
    go_wp2_with fail
    go_ret
    exact ⟨rfl, HB5.out⟩
  · -- it is built
    have HOk : Hid (Okv 12 T) := okv_of_err T (checkV_err ht0)
    have hcn : cnt T ≤ 60 := checkV_cnt ht0
    have hle := putH_len (h := h) (len := len) HOk.out
    obtain ⟨hG0, hl4⟩ := ChkR.good HCk.out
    obtain ⟨t, hat, hBG⟩ := build_good hG0 ht0 hfew
    have HBG : Hid (BuG h len T (putH h len T).1.1 (putH h len T).1.2 t) := hBG
    have hwr : IntKind.i64.wrap ((len : Int) + (roomT T : Nat)) = (len : Int) + (roomT T : Nat) := by
      simp [IntKind.wrap, IntKind.bits, IntKind.signed]; omega
    have hgt : decide ((len : Int) + (roomT T : Nat) > 400000) = false := decide_eq_false (by omega)
    have hvr : ∀ v c, (putH h len T).1.2 v = some c → ∃ y : Nat, c = y ∧ y < (putH h len T).1.1.length := fun v c hvc => by
      obtain ⟨y, e, hy, _⟩ := (putT_po T (checkV_err ht0) _ (pi_begin h len)).inv.var v c hvc
      exact ⟨y, e, hy⟩
    have HWr : Hid (∀ i, -1 ≤ whI (putH h len T).1.2 i ∧ whI (putH h len T).1.2 i ≤ 400000) := fun i => by
      have := whI_rng hvr i; omega
    obtain ⟨sv, cv, rfl, hcv, _⟩ := CRw.form hv
    rw [hat]
    have HRw : Hid (∀ W, Below w1.heap.size w1 W → HIn W sv (putH h len T).1.1.length (hOf (putH h len T).1.1)) := fun W hW => CRw.hin (hv.below hW) rfl hBG.hg.nmL
    have HGr : Hid (∀ W, Below w1.heap.size w1 W → W.ownsRow wa.heap.size 3 1 (.slice (some ⟨g, 0, none⟩) 12 12) 12 ((List.range 12).map fun i : Nat => Value.int .i64 (whI (putH h len T).1.2 i))) := fun W hW => hg.kept (grown_of_below hW none) (kept_none _)
    have hgl := (hg.lt g rfl)
    have hlel := hBG.le
    have htl := hBG.tl
    clear hb1 hle hG0 hat hBG hvr hv hg
    generalize (putH h len T).1.1 = lq at *
    generalize (putH h len T).1.2 = σ at *
    rw [show B4 (.slice sv lq.length cv) (t : Int) (.slice (some ⟨g, 0, none⟩) 12 12) 0 = .returned (.tuple #[.slice sv lq.length cv, .int .i64 (t : Int), .slice (some ⟨g, 0, none⟩) 12 12, .int .i64 0]) from rfl]
    go_wp2_with fail
    refine HC2.out.mono ?_
    rintro e w2 ⟨c2, rfl, hc2, hb2⟩
    obtain rfl : c2 = 0 := hc2.same HCk.out
    have HB2 : Hid (Below w.heap.size w w2) := below_after2 HB1.out hb2
    have HB12 : Hid (Below w1.heap.size w1 w2) := hb2
    obtain ⟨x0, x1, x2⟩ := HX1.out _ hb2
    have HT2 : Hid (Calls Try.prog 17 #[.agg #[.int .i64 T.v, .string T.nm, .slice T.a T.len T.cap]] w2 fun e w' => e = .returned (.int .i64 0) ∧ Below w2.heap.size w2 w') := by rw [Hid]; have := HCT.out _ hb2; rw [ht0] at this; exact this
    clear hb2 hc2
    go_wp2_with fail
    refine HT2.out.mono ?_
    rintro e w3 ⟨rfl, hb3⟩
    have HB3 : Hid (Below w.heap.size w w3) := below_after2 HB2.out hb3
    have HB13 : Hid (Below w1.heap.size w1 w3) := below_after2 HB12.out hb3
    clear x0 x1 x2
    obtain ⟨x0, x1, x2⟩ := HX1.out _ HB13.out
    have HR3 : Hid (Calls Try.prog 43 #[.agg #[.int .i64 T.v, .string T.nm, .slice T.a T.len T.cap]] w3 fun e w' => e = .returned (.int .i64 (roomT T : Nat)) ∧ Below w3.heap.size w3 w') := rroom_any T w3 (HT.out _ HB3.out) HOk.out hcn
    clear hb3
    generalize roomT T = rm at *
    go_wp2_with fail
    refine HR3.out.mono ?_
    rintro e w4 ⟨rfl, hb4⟩
    have HB14 : Hid (Below w1.heap.size w1 w4) := below_after2 HB13.out hb4
    clear hb4 x0 x1 x2
    go_wp2_with fail
    refine (begunH _).mono ?_
    rintro e w5 ⟨rfl, hb5⟩
    have HB15 : Hid (Below w1.heap.size w1 w5) := below_after2 HB14.out hb5
    have HC5 : Hid (Calls Try.prog 36 #[.slice sv lq.length cv] w5 fun e w' => ∃ c : Int, e = .returned (.int .i64 c) ∧ ChkR (hOf lq) lq.length c ∧ Below w5.heap.size w5 w') := checkHeap_any _ (HRw.out _ HB15.out)
    clear hb5
    have hto := to_runH sv lq.length cv len hlel hcv
    have hlt1 : ¬ ((lq.length : Int) < (len : Int)) := by omega
    have htn : ¬ ((t : Int) < 0) := by omega
    have htg : ¬ ((t : Int) ≥ (lq.length : Int)) := by omega
    go_wp2_with fail
    refine HC5.out.mono ?_
    rintro e w6 ⟨c6, rfl, hc6, hb6⟩
    obtain rfl : c6 = 0 := hc6.same HBG.out.hg.chk
    have HB16 : Hid (Below w1.heap.size w1 w6) := below_after2 HB15.out hb6
    have HSH : Hid (Calls Try.prog 44 #[.slice sv len cv, .slice a len cap] w6 fun e w' => ∃ ok : Bool, e = .returned (.bool ok) ∧ (ok = true ↔ (List.range len).map h = (List.range len).map h) ∧ Below w6.heap.size w6 w') := by
      have h9 := sameHeap_any (sa := sv) (sb := a) (ca := cv) (cb := cap) ((List.range len).map h) ((List.range len).map h) w6 (cr_of fun i hi => by rw [← HBG.out.old i hi]; exact (HRw.out _ HB16.out).row i (by omega)) (cr_of fun i hi => (HH.out _ (below_after2 HB1.out HB16.out)).row i hi) (by simp; omega)
      rw [List.length_map, List.length_range] at h9
      exact h9
    clear hb6 hc6
    go_wp2_with fail
    refine HSH.out.mono ?_
    rintro e w7 ⟨ok, rfl, hok, hb7⟩
    obtain rfl : ok = true := hok.2 (by trivial)
    have HB17 : Hid (Below w1.heap.size w1 w7) := below_after2 HB16.out hb7
    have HSt : Hid (Calls Try.prog 45 #[.slice sv lq.length cv, .int .i64 (t : Int), .int .i64 ((200 : Nat) : Int)] w7 (SdP (hOf lq) lq.length 200 t w7)) := stood_all 200 (Nat.le_refl _) (hOf lq) lq.length t sv cv _ HBG.out.hg (by omega) htl (HRw.out _ HB17.out)
    clear hb7 hok hto
    go_wp2_with fail
    refine HSt.out.mono ?_
    rintro e w8 ⟨hb8, h8⟩
    rcases h8 with ⟨_, X0, rfl, hX0, _, hV0⟩ | ⟨hno, _⟩
    case inr => exact absurd hno (by have := HBG.out.cn; omega)
    rw [show T3 X0 (cntA (hOf lq) lq.length t : Int) true = .returned (.tuple #[.agg #[.int .i64 X0.v, .string X0.nm, .slice X0.a X0.len X0.cap], .int .i64 (cntA (hOf lq) lq.length t), .bool true]) from rfl]
    generalize cntA (hOf lq) lq.length t = ck at *
    have HXc : Hid (can X0 = ap (toldV σ) T) := hV0.trans HBG.out.std
    have HB18 : Hid (Below w1.heap.size w1 w8) := below_after2 HB17.out hb8
    have HB9 : Hid (Below w8.heap.size w8 (w8.alloc (.cells #[.int .i64 X0.v, .string X0.nm, .slice X0.a X0.len X0.cap] 24))) := (Below.refl _ _).alloc (Nat.le_refl _) _
    have HX9 : Hid ((w8.alloc (.cells #[.int .i64 X0.v, .string X0.nm, .slice X0.a X0.len X0.cap] 24)).heap[w8.heap.size]? = some (.cells #[.int .i64 X0.v, .string X0.nm, .slice X0.a X0.len X0.cap] 24)) := heap_alloc_new _ _
    have HT9 : Hid (TIn (w8.alloc (.cells #[.int .i64 X0.v, .string X0.nm, .slice X0.a X0.len X0.cap] 24)) X0) := hX0.below HB9.out
    have hs9 : (w8.alloc (.cells #[.int .i64 X0.v, .string X0.nm, .slice X0.a X0.len X0.cap] 24)).heap.size = w8.heap.size + 1 := by simp
    obtain ⟨i0, hi, hi0, hi1, hi2⟩ := info_parts Try.info24
    clear hb8 hX0 hV0
    go_wp2_with (at_make; refine wpList_make_full _ rfl _ _ 22 rfl (w8.heap.size + 1) 24 i0 (.agg #[.int .i64 0, .string ByteArray.empty, .slice none 0 0]) 3 Try.underlying22 hi hi0 hi1 _ _ _ _ 12 rfl rfl rfl rfl (by rw [hi2]; omega) (by unfold maxLen; omega) (by omega) ?_; intro w10 ho10 hg10; rw [made12] at ho10; have HO10 : Hid (w10.ownsRow (w8.heap.size + 1) 24 3 (.slice (some ⟨w8.heap.size + 1, 0, none⟩) 12 12) 12 (flat (byL σ 0))) := (by rw [Hid, byL0, ← hs9]; exact (by rw [hs9] at ho10 ⊢; exact ho10)); have HB10 : Hid (Below (w8.heap.size + 1) (w8.alloc (.cells #[.int .i64 X0.v, .string X0.nm, .slice X0.a X0.len X0.cap] 24)) w10) := ⟨hg10.os, hg10.tape, hg10.output, hg10.size, fun k hk => hg10.block k (by omega) (by simp)⟩; clear ho10 hg10)
    have hs10 := HB10.out.size
    have hs18 := HB18.out.size
    have HBw : Hid (∀ W, Below (w8.heap.size + 1) w10 W → Below w1.heap.size w1 W ∧ W.heap[w8.heap.size]? = some (.cells #[.int .i64 X0.v, .string X0.nm, .slice X0.a X0.len X0.cap] 24) ∧ TIn W X0) := fun W hW => by
      have h9 := HB10.out.trans hW
      rw [← hs9] at h9
      have h9' := h9
      rw [hs9] at h9'
      exact ⟨below_after2 (below_after2 HB18.out HB9.out) h9, (h9'.block _ (by omega)).trans HX9.out, HT9.out.below h9⟩
    clear HB9 HX9 HT9 HB10
    generalize hw8 : w8.heap.size = s8 at *
    go_loopw [14] (fun iv wq => ∃ i : Nat, i ≤ 12 ∧ iv = .int .i64 i ∧ wq.ownsRow (s8 + 1) 24 3 (.slice (some ⟨s8 + 1, 0, none⟩) 12 12) 12 (flat (byL σ i)) ∧ Below (s8 + 1) w10 wq) (fun v _ => 12 - (intOf v).toNat)
    case atStart => exact ⟨0, Nat.zero_le _, rfl, HO10.out, Below.refl _ _⟩
    case round =>
      obtain ⟨i, hi12, rfl, hO, hG⟩ := hrel
      have HO : Hid (wr.ownsRow (s8 + 1) 24 3 (.slice (some ⟨s8 + 1, 0, none⟩) 12 12) 12 (flat (byL σ i))) := hO
      have HG : Hid (Below (s8 + 1) w10 wr) := hG
      clear hO hG HO10
      by_cases hil : i < 12
      case pos =>
        have hiI : (i : Int) < 12 := by omega
        have hg0 : wr.cell? ⟨g, i, none⟩ = some (.int .i64 (whI σ i)) := by
          refine ((HGr.out _ (HBw.out _ HG.out).1).cellAt i (by omega)).trans ?_
          rw [List.getElem?_eq_getElem (by simpa using hil)]
          simp
        have hww : IntKind.i64.wrap (whI σ i + 1) = whI σ i + 1 := by
          have := HWr.out i
          simp [IntKind.wrap, IntKind.bits, IntKind.signed]; omega
        have hbl : (byL σ i).length = 12 := by unfold byL; simp
        obtain ⟨f0, f1, f2⟩ := flat_get (byL σ i) i (by omega)
        have e0 := (HO.out.cellAt (i * 3) (by omega)).trans f0
        have e1 := (HO.out.cellAt (i * 3 + 1) (by omega)).trans f1
        have e2 := (HO.out.cellAt (i * 3 + 2) (by omega)).trans f2
        generalize (byL σ i)[i]'(by omega) = bb at e0 e1 e2
        have nfz : ∀ j, wr.frozen? ⟨s8 + 1, j, none⟩ = false := fun j => by
          rcases HO.out.2 with ⟨h', _⟩ | ⟨g'', cap'', cur, h', _, hg', _⟩
          · cases h'
          · cases h'; simp [World.frozen?, hg']
        have z0 := nfz (i * 3)
        have z1 := nfz (i * 3 + 1)
        have z2 := nfz (i * 3 + 2)
        have hO7 := owns_set HO.out hbl hil (vT (whI σ i + 1))
        rw [byL_set σ hil] at hO7
        have HO7 : Hid ((((wr.setCell ⟨s8 + 1, i * 3, none⟩ (.int .i64 (whI σ i + 1))).setCell ⟨s8 + 1, i * 3 + 1, none⟩ (.string ⟨#[]⟩)).setCell ⟨s8 + 1, i * 3 + 2, none⟩ (.slice none 0 0)).ownsRow (s8 + 1) 24 3 (.slice (some ⟨s8 + 1, 0, none⟩) 12 12) 12 (flat (byL σ (i + 1)))) := hO7
        have HG7 : Hid (Below (s8 + 1) w10 (((wr.setCell ⟨s8 + 1, i * 3, none⟩ (.int .i64 (whI σ i + 1))).setCell ⟨s8 + 1, i * 3 + 1, none⟩ (.string ⟨#[]⟩)).setCell ⟨s8 + 1, i * 3 + 2, none⟩ (.slice none 0 0))) := below_setC (below_setC (below_setC HG.out (Nat.le_refl _)) (Nat.le_refl _)) (Nat.le_refl _)
        clear nfz f0 f1 f2 hO7 hbl
        generalize whI σ i = wi at *
        go_wp2_with fail
        go_roundw
        case rel => exact ⟨i + 1, by omega, by go_num, HO7.out, HG7.out⟩
        case measure => simp [intOf]; omega
      have hiI : ¬ ((i : Int) < 12) := by omega
      obtain rfl : i = 12 := by omega
      have HYt : Hid (TIn wr (.mk 0 ⟨#[]⟩ (some ⟨s8 + 1, 0, none⟩) 12 12 (fun i => (byL σ 12).getD i .nil))) := (own_list HO.out (by unfold byL; simp) (fun U hU => by
        unfold byL at hU
        obtain ⟨j, hj, rfl⟩ := List.mem_map.1 hU
        rw [if_pos (List.mem_range.1 hj)]
        exact ⟨Nat.zero_le _, Nat.zero_le _, fun j hj => absurd hj (Nat.not_lt_zero j)⟩)).1
      have HAp : Hid (ap (byOf (.mk 0 ⟨#[]⟩ (some ⟨s8 + 1, 0, none⟩) 12 12 (fun i => (byL σ 12).getD i .nil))) T = ap (toldV σ) T) := ap_vsG T fun v hv => by
        have hvp := vsT_okv T HOk.out v hv
        unfold byOf toldV
        show can ((byL σ 12).getD (v.toNat - 1) .nil) = _
        have hj : v.toNat - 1 < 12 := by omega
        unfold byL
        rw [List.getD_eq_getElem?_getD, List.getElem?_map, List.getElem?_range hj]
        show can (if v.toNat - 1 < 12 then _ else _) = _
        rw [if_pos hj]
      have HKp : Hid (∀ W, Below wr.heap.size wr W → (W.cell? ⟨w.heap.size, 0, none⟩ = some (.int .i64 T.v) ∧ W.cell? ⟨w.heap.size, 1, none⟩ = some (.string T.nm) ∧ W.cell? ⟨w.heap.size, 2, none⟩ = some (.slice T.a T.len T.cap)) ∧ W.cell? ⟨s8, 0, none⟩ = some (.int .i64 X0.v) ∧ W.cell? ⟨s8, 1, none⟩ = some (.string X0.nm) ∧ W.cell? ⟨s8, 2, none⟩ = some (.slice X0.a X0.len X0.cap)) := fun W hW => by
        have h9 := HG.out.trans (hW.mono (by have := HG.out.size; omega))
        have h8 := HBw.out _ h9
        exact ⟨HX1.out _ h8.1, (block_cells h8.2.1).1, (block_cells h8.2.1).2.1, (block_cells h8.2.1).2.2.1⟩
      have HB1r : Hid (Below w.heap.size w wr) := below_after2 HB1.out (HBw.out _ HG.out).1
      have HPu : Hid (∀ W, Below wr.heap.size wr W → Calls Try.prog 26 #[.agg #[.int .i64 T.v, .string T.nm, .slice T.a T.len T.cap], .slice (some ⟨s8 + 1, 0, none⟩) 12 12] W fun e w' => ∃ X : Tm, e = .returned (.agg #[.int .i64 X.v, .string X.nm, .slice X.a X.len X.cap]) ∧ Below W.heap.size W w' ∧ TIn w' X ∧ can X = ap (toldV σ) T) := fun W hW => by
        refine (putIn_all T (.mk 0 ⟨#[]⟩ (some ⟨s8 + 1, 0, none⟩) 12 12 (fun i => (byL σ 12).getD i .nil)) W (HYt.out.below hW) rfl (HT.out _ (below_after2 HB1r.out hW)) HOk.out).mono ?_
        rintro e w' ⟨X, rfl, h1, h2, h3, _⟩
        exact ⟨X, rfl, h1, h2, h3.trans HAp.out⟩
      have HX0r : Hid (∀ W, Below wr.heap.size wr W → TIn W X0) := fun W hW => (HBw.out _ (HG.out.trans (hW.mono (by have := HG.out.size; omega)))).2.2
      clear HO HG HYt HAp
      obtain ⟨⟨x0, x1, x2⟩, y0, y1, y2⟩ := HKp.out wr (Below.refl _ _)
      have HB0 : Hid (Below wr.heap.size wr wr) := Below.refl _ _
      go_wp2_with fail
      go_region_held3 (fun W => (W.cell? ⟨w.heap.size, 0, none⟩ = some (.int .i64 T.v) ∧ W.cell? ⟨w.heap.size, 1, none⟩ = some (.string T.nm) ∧ W.cell? ⟨w.heap.size, 2, none⟩ = some (.slice T.a T.len T.cap)) ∧ W.cell? ⟨s8, 0, none⟩ = some (.int .i64 X0.v) ∧ W.cell? ⟨s8, 1, none⟩ = some (.string X0.nm) ∧ W.cell? ⟨s8, 2, none⟩ = some (.slice X0.a X0.len X0.cap)) ((refine HKp.out _ ?_; repeat (first | exact HB0.out | refine Below.drew ?_))) (first
        | (go_at_call 26
           refine (HPu.out _ (by repeat (first | exact HB0.out | refine Below.drew ?_))).mono ?_
           rintro e wp ⟨X, rfl, hbp, hXp, hXc⟩
           have HXp : Hid (TIn wp X) := hXp
           have HXq : Hid (can X = ap (toldV σ) T) := hXc
           replace HB0 : Hid (Below wr.heap.size wr wp) := Below.trans (by repeat (first | exact HB0.out | refine Below.drew ?_)) (hbp.mono HB0.out.size)
           clear hbp hXp hXc)
        | (go_at_call 25
           refine (same36 X0 X _ (HX0r.out _ (by repeat (first | exact HB0.out | refine Below.drew ?_))) (by first | exact HXp.out | exact HXp.out.below ((Below.refl _ _).drew))).mono ?_
           rintro e wk ⟨rfl, hb⟩
           rw [(same_can X0 X).2 (HXc.out.trans HXq.out.symm)]
           replace HB0 : Hid (Below wr.heap.size wr wk) := Below.trans (by repeat (first | exact HB0.out | refine Below.drew ?_)) (hb.mono HB0.out.size)
           clear hb))
      all_goals
        go_wp2_with fail
        go_ret
        exact ⟨rfl, below_after2 HB1r.out (by repeat (first | exact HB0.out | refine Below.drew ?_))⟩
end Go.Proofs.Ytmggaclaoefdaaa
