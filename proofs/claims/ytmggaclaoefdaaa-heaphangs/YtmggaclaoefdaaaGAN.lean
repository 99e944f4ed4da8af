/- Unify: what it answers. What is put in: over terms alone. -/
import Derived.Test.YtmggaclaoefdaaaGAL
import Derived.Test.YtmggaclaoefdaaaBnd5
namespace Go.Proofs.Ytmggaclaoefdaaa
open Go.RowKit

def σ0 : Sg := fun _ => none
theorem okv_of_err (T : Tm) : err T = 0 → Okv 12 T := by
  induction T with
  | nil => intro h; exact absurd h (by decide +kernel)
  | mk v nm a len cap f ih =>
    intro h
    have hp : partE v nm len = 0 := by
      by_cases hp : partE v nm len = 0
      · exact hp
      · rw [err, if_neg hp] at h; exact h
    rw [err, if_pos hp] at h
    have hk : ∀ i, i < len → err (f i) = 0 := by
      intro i hi
      have h0 := fst_zero (fun i => err (f i)) (Nat.le_of_lt hi) h
      have h1 := fst_zero (fun i => err (f i)) (show i + 1 ≤ len from hi) h
      rw [fst, if_pos h0] at h1
      exact h1
    by_cases hv : v = 0
    · rw [partE, if_neg (by simpa using hv)] at hp
      split at hp
      · omega
      · split at hp
        · omega
        · exact ⟨by omega, by omega, fun h => absurd hv h, by omega, fun i hi => ih i (hk i hi)⟩
    · rw [partE, if_pos hv, varE] at hp
      split at hp
      · omega
      · split at hp
        · omega
        · split at hp
          · rename_i hn
            split at hp
            · omega
            · refine ⟨by omega, by omega, fun _ => ⟨?_, by omega⟩, by omega, fun i hi => ih i (hk i hi)⟩
              rw [ByteArray.toList_eq] at hn
              cases nm
              simp at hn
              simp [hn]
          · omega
theorem checkV_err {T : Tm} (h : checkV T = 0) : err T = 0 := by
  by_cases hc : cnt T ≤ 60
  · rw [checkV, if_pos hc] at h; exact h
  · rw [checkV, if_neg hc] at h; omega
def R4 (l : Value) (ok : Bool) (n e : Int) : Ending := .returned (.tuple #[l, .bool ok, .int .i64 n, .int .i64 e])
def UP (A B : Tm) (w : World) (e : Ending) (w' : World) : Prop := Below w.heap.size w w' ∧ (
  (checkV A ≠ 0 ∧ e = R4 (.slice none 0 0) false 0 (checkV A)) ∨ (checkV A = 0 ∧ checkV B ≠ 0 ∧ e = R4 (.slice none 0 0) false 0 (checkV B)) ∨ (checkV A = 0 ∧ checkV B = 0 ∧ (
    (meetF 4001 σ0 4000 [(A, B)] = .over ∧ e = R4 (.slice none 0 0) false 0 2) ∨
    (∃ k : Nat, k ≤ 4000 ∧ meetF 4001 σ0 4000 [(A, B)] = .no k ∧ e = R4 (.slice none 0 0) false (4000 - (k : Int)) 0) ∨
    (∃ (k : Nat) (σ : Sg), k ≤ 4000 ∧ meetF 4001 σ0 4000 [(A, B)] = .yes k σ ∧ Dec σ ∧ (∀ v T, σ v = some T → Okv 12 T) ∧ (
      ((∃ i : Nat, i < 12 ∧ roomF σ 200 [vT ((i : Int) + 1)] = none) ∧ e = R4 (.slice none 0 0) false 0 2) ∨
      ((∀ i : Nat, i < 12 → ∃ k, roomF σ 200 [vT ((i : Int) + 1)] = some k) ∧ ∃ (g cp : Nat) (ts : List Tm), LstR w.heap.size w' (.slice (some ⟨g, 0, none⟩) 12 cp) ts ((List.range 12).map fun i : Nat => ex σ 200 (vT ((i : Int) + 1))) ∧ e = R4 (.slice (some ⟨g, 0, none⟩) 12 cp) true (4000 - (k : Int)) 0))))))

theorem eqSl (x : Option Addr) (n c : Nat) (w : World) : (binOp .eql 22 (.slice x n c) (.slice none 0 0)).run Try.prog w = .ok (.bool x.isNone) w := by
  cases x <;> kernel_rfl
theorem eqSlG (x : Option Addr) (n c : Nat) (w : World) (p q : Operand) : (eqGuard .eql 22 p q (.slice x n c) (.slice none 0 0)).run Try.prog w = .ok () w := by
  cases x <;> kernel_rfl
theorem LstR.mono {lo lo' : Nat} {w : World} {v : Value} {ts us : List Tm} (h : LstR lo w v ts us) (hl : lo' ≤ lo) : LstR lo' w v ts us :=
  ⟨ownsRow_mono h.own hl, fun T hT => ⟨(h.all T hT).1, (h.all T hT).2.1.mono hl, (h.all T hT).2.2⟩, h.len, h.sim⟩

set_option maxRecDepth 100000 in
set_option maxHeartbeats 4000000 in
theorem unify_any (A B : Tm) (w : World) (hA : TIn w A) (hB : TIn w B) :
    Calls Try.prog 21 #[A.val, B.val] w (UP A B w) := by
  have HA : Hid (∀ W, Below w.heap.size w W → TIn W A ∧ TIn W B) := fun W hW => ⟨hA.below hW, hB.below hW⟩
  clear hA hB
  show Calls Try.prog 21 #[.agg #[.int .i64 A.v, .string A.nm, .slice A.a A.len A.cap], .agg #[.int .i64 B.v, .string B.nm, .slice B.a B.len B.cap]] w _
  go_enter Try.func21, Try.ntmps21
  go_wp2_with fail
  have HBx : Hid (Below w.heap.size w ((w.alloc (.cells #[.int .i64 A.v, .string A.nm, .slice A.a A.len A.cap] 24)).alloc (.cells #[.int .i64 B.v, .string B.nm, .slice B.a B.len B.cap] 24))) := ((Below.refl _ _).alloc (Nat.le_refl _) _).alloc (by simp) _
  have HX0 : Hid (((w.alloc (.cells #[.int .i64 A.v, .string A.nm, .slice A.a A.len A.cap] 24)).alloc (.cells #[.int .i64 B.v, .string B.nm, .slice B.a B.len B.cap] 24)).heap[w.heap.size]? = some (.cells #[.int .i64 A.v, .string A.nm, .slice A.a A.len A.cap] 24)) := by
    rw [Hid, heapOld _ _ (by simp)]; exact heap_alloc_new w _
  have HT0 : Hid (((w.alloc (.cells #[.int .i64 A.v, .string A.nm, .slice A.a A.len A.cap] 24)).alloc (.cells #[.int .i64 B.v, .string B.nm, .slice B.a B.len B.cap] 24)).heap[w.heap.size + 1]? = some (.cells #[.int .i64 B.v, .string B.nm, .slice B.a B.len B.cap] 24)) := by
    have := heap_alloc_new (w.alloc (.cells #[.int .i64 A.v, .string A.nm, .slice A.a A.len A.cap] 24)) (.cells #[.int .i64 B.v, .string B.nm, .slice B.a B.len B.cap] 24)
    rwa [show (w.alloc (.cells #[.int .i64 A.v, .string A.nm, .slice A.a A.len A.cap] 24)).heap.size = w.heap.size + 1 from by simp] at this
  generalize (w.alloc (.cells #[.int .i64 A.v, .string A.nm, .slice A.a A.len A.cap] 24)).alloc (.cells #[.int .i64 B.v, .string B.nm, .slice B.a B.len B.cap] 24) = wb at *
  have hsb : w.heap.size + 1 < wb.heap.size := (Array.getElem?_eq_some_iff.1 HT0.out).1
  have HCx : Hid (∀ W, Below wb.heap.size wb W → W.heap[w.heap.size]? = some (.cells #[.int .i64 A.v, .string A.nm, .slice A.a A.len A.cap] 24) ∧ W.heap[w.heap.size + 1]? = some (.cells #[.int .i64 B.v, .string B.nm, .slice B.a B.len B.cap] 24)) := fun W hW => ⟨(hW.block _ (by omega)).trans HX0.out, (hW.block _ (by omega)).trans HT0.out⟩
  have HK1 : Hid (Calls Try.prog 16 #[.agg #[.int .i64 A.v, .string A.nm, .slice A.a A.len A.cap]] wb fun e w' => e = .returned (.int .i64 (checkV A)) ∧ Below wb.heap.size wb w') := check_any A wb (HA.out _ HBx.out).1
  refine HK1.out.mono ?_
  rintro e w1 ⟨rfl, hb1⟩
  have HB1 : Hid (Below wb.heap.size wb w1) := hb1
  obtain ⟨x0, x1, x2, f0, f1, f2⟩ := block_cells (HCx.out _ hb1).1
  obtain ⟨t0, t1, t2, g0, g1, g2⟩ := block_cells (HCx.out _ hb1).2
  clear hb1
  by_cases hcA : checkV A = 0
  case neg =>
    have hcb : (checkV A != 0) = true := bne_iff_ne.2 hcA
    have HcA : Hid (checkV A ≠ 0) := hcA
    clear hcA
    go_wp2_with fail
    refine bodyPost_ret (v := .tuple #[.slice none 0 0, .bool false, .int .i64 0, .int .i64 (checkV A)]) ?_ rfl ⟨HBx.out.trans (HB1.out.mono HBx.out.size), .inl ⟨HcA.out, rfl⟩⟩
    simp [results, Try.results21, go_sem]
  have HcA : Hid (checkV A = 0) := hcA
  rw [hcA]
  clear hcA
  have HK2 : Hid (Calls Try.prog 16 #[.agg #[.int .i64 B.v, .string B.nm, .slice B.a B.len B.cap]] w1 fun e w' => e = .returned (.int .i64 (checkV B)) ∧ Below w1.heap.size w1 w') := check_any B w1 (HA.out _ (HBx.out.trans (HB1.out.mono HBx.out.size))).2
  go_wp2_with fail
  refine HK2.out.mono ?_
  rintro e w2 ⟨rfl, hb2⟩
  have HB2 : Hid (Below wb.heap.size wb w2) := HB1.out.trans (hb2.mono HB1.out.size)
  clear hb2 x0 x1 x2 f0 f1 f2 t0 t1 t2 g0 g1 g2
  by_cases hcB : checkV B = 0
  case neg =>
    have hcb : (checkV B != 0) = true := bne_iff_ne.2 hcB
    have HcB : Hid (checkV B ≠ 0) := hcB
    clear hcB
    go_wp2_with fail
    refine bodyPost_ret (v := .tuple #[.slice none 0 0, .bool false, .int .i64 0, .int .i64 (checkV B)]) ?_ rfl ⟨HBx.out.trans (HB2.out.mono HBx.out.size), .inr (.inl ⟨HcA.out, HcB.out, rfl⟩)⟩
    simp [results, Try.results21, go_sem]
  have HcB : Hid (checkV B = 0) := hcB
  rw [hcB]
  clear hcB
  go_wp2_with fail
  refine (new_any w2 12 (by omega)).mono ?_
  rintro e w3 ⟨b, m, rfl, hS3, hb3⟩
  have HS3 : Hid (VS w3 b m (.slice none 0 0) 12 w2.heap.size 0 σ0 (4000 : Nat)) := hS3
  have HB3 : Hid (Below wb.heap.size wb w3) := HB2.out.trans (hb3.mono HB2.out.size)
  have hlob := hS3.lob
  have hw23 := HB2.out.size
  have HGA : Hid (Good w3 b m (.slice none 0 0) 12 A ∧ Good w3 b m (.slice none 0 0) 12 B) := by
    have h2 := HA.out _ (HBx.out.trans (HB2.out.mono HBx.out.size))
    have h3 := HA.out _ (HBx.out.trans (HB3.out.mono HBx.out.size))
    exact ⟨⟨h3.1, okv_of_err A (checkV_err HcA.out), h2.1.nb hlob.1, h2.1.nb hlob.2, fun g hg => by simp [Value.ownBlock] at hg⟩, ⟨h3.2, okv_of_err B (checkV_err HcB.out), h2.2.nb hlob.1, h2.2.nb hlob.2, fun g hg => by simp [Value.ownBlock] at hg⟩⟩
  obtain ⟨x0, x1, x2, f0, f1, f2⟩ := block_cells (HCx.out _ HB3.out).1
  obtain ⟨t0, t1, t2, g0, g1, g2⟩ := block_cells (HCx.out _ HB3.out).2
  have HSa : Hid (Calls Try.prog 61 #[.pointer (some ⟨b, 0, none⟩), .agg #[.int .i64 A.v, .string A.nm, .slice A.a A.len A.cap], .agg #[.int .i64 B.v, .string B.nm, .slice B.a B.len B.cap]] w3 (SP w3 b m (.slice none 0 0) 12 w2.heap.size 0 σ0 4000 A B)) :=
    same_all 4000 b m (.slice none 0 0) 12 w2.heap.size 0 σ0 A B w3 HS3.out (by omega) (by omega) HGA.out.1 HGA.out.2
  clear hS3 hb3
  go_wp2_with fail
  refine HSa.out.mono ?_
  intro e w4 h4
  have HGF : Hid (Below w2.heap.size w3 w4) := by
    have hg := h4.gf
    exact ⟨hg.os, hg.tape, hg.output, hg.size, fun k hk => hg.block k (Nat.lt_of_lt_of_le hk (by have := HS3.out.lt; omega)) (by omega) (by omega) (fun g hg => by simp [Value.ownBlock] at hg)⟩
  have HB4 : Hid (Below w.heap.size w w4) := (HBx.out.trans (HB3.out.mono HBx.out.size)).trans (HGF.out.mono (by have := HBx.out.size; omega))
  clear x0 x1 x2 f0 f1 f2 t0 t1 t2 g0 g1 g2
  rcases h4 with ⟨rfl, k, σ, tv, n, hk, hS4, _, _, _, hM⟩ | ⟨rfl, L', σ, tv, n, hS4, _, _, _, hM⟩
  case inr =>
    have HS4 : Hid (VS w4 b m tv 12 w2.heap.size n σ L') := hS4
    rcases hM with ⟨rfl, hM⟩ | ⟨k, rfl, hk, hM⟩
    · have HM : Hid (meetF 4001 σ0 4000 [(A, B)] = .over) := hM 4001 [] (by omega)
      clear hM hS4
      go_wp2_with fail
      refine (over_any w4 HS4.out).mono ?_
      rintro e w5 ⟨rfl, rfl⟩
      rw [show decide ((-1 : Int) < 0) = true from rfl]
      go_wp2_with fail
      refine bodyPost_ret (v := .tuple #[.slice none 0 0, .bool false, .int .i64 0, .int .i64 2]) ?_ rfl ⟨HB4.out, .inr (.inr ⟨HcA.out, HcB.out, .inl ⟨HM.out, rfl⟩⟩)⟩
      simp [results, Try.results21, go_sem]
    · have HM : Hid (meetF 4001 σ0 4000 [(A, B)] = .no k) := hM 4001 [] (by omega)
      clear hM hS4
      go_wp2_with fail
      refine (over_any w4 HS4.out).mono ?_
      rintro e w5 ⟨rfl, rfl⟩
      rw [show decide ((k : Int) < 0) = false from decide_eq_false (by omega)]
      go_wp2_with fail
      refine (work_any _ HS4.out (by omega)).mono ?_
      rintro e w6 ⟨rfl, rfl⟩
      go_wp2_with fail
      refine bodyPost_ret (v := .tuple #[.slice none 0 0, .bool false, .int .i64 (4000 - (k : Int)), .int .i64 0]) ?_ rfl ⟨HB4.out, .inr (.inr ⟨HcA.out, HcB.out, .inr (.inl ⟨k, by omega, HM.out, rfl⟩)⟩)⟩
      simp [results, Try.results21, go_sem]
  have HS4 : Hid (VS w4 b m tv 12 w2.heap.size n σ k) := hS4
  have HM : Hid (meetF 4001 σ0 4000 [(A, B)] = .yes k σ) := by
    obtain ⟨F', h1, h2⟩ := hM 4001 [] (by omega)
    rw [Hid, h2]
    obtain ⟨F2, rfl⟩ : ∃ F2, F' = F2 + 1 := ⟨F' - 1, by omega⟩
    cases k <;> rfl
  clear hM hS4
  go_wp2_with fail
  refine (over_any w4 HS4.out).mono ?_
  rintro e w5 ⟨rfl, rfl⟩
  rw [show decide ((k : Int) < 0) = false from decide_eq_false (by omega)]
  go_wp2_with fail
  refine (all_any _ HS4.out).mono ?_
  rintro e w6 ⟨hb6, (⟨g, cp, ts, rfl, hL, hR⟩ | ⟨rfl, hR⟩)⟩
  case inr =>
    have HR : Hid (∃ i : Nat, i < 12 ∧ roomF σ 200 [vT ((i : Int) + 1)] = none) := hR
    have HB6 : Hid (Below w.heap.size w w6) := HB4.out.trans (hb6.mono HB4.out.size)
    clear hb6 hR
    have hq1 := fun W => eqSl none 0 0 W
    have hq2 := fun W => eqSlG none 0 0 W
    go_wp2_with fail
    refine bodyPost_ret (v := .tuple #[.slice none 0 0, .bool false, .int .i64 0, .int .i64 2]) ?_ rfl ⟨HB6.out, .inr (.inr ⟨HcA.out, HcB.out, .inr (.inr ⟨k, σ, by omega, HM.out, HS4.out.dec, fun v T h => (HS4.out.trm v T h).2.1, .inl ⟨HR.out, rfl⟩⟩)⟩)⟩
    simp [results, Try.results21, go_sem]
  have HR : Hid (∀ i : Nat, i < 12 → ∃ k, roomF σ 200 [vT ((i : Int) + 1)] = some k) := hR
  have HB6 : Hid (Below w.heap.size w w6) := HB4.out.trans (hb6.mono HB4.out.size)
  have HS6 : Hid (VS w6 b m tv 12 w2.heap.size n σ k) := HS4.out.below hb6
  have HL6 : Hid (LstR w.heap.size w6 (.slice (some ⟨g, 0, none⟩) 12 cp) ts ((List.range 12).map fun i : Nat => ex σ 200 (vT ((i : Int) + 1)))) := hL.mono HB4.out.size
  clear hb6 hR hL
  have hq1 := fun W => eqSl (some ⟨g, 0, none⟩) 12 cp W
  have hq2 := fun W => eqSlG (some ⟨g, 0, none⟩) 12 cp W
  go_wp2_with fail
  refine (work_any _ HS6.out (by omega)).mono ?_
  rintro e w7 ⟨rfl, rfl⟩
  go_wp2_with fail
  refine bodyPost_ret (v := .tuple #[.slice (some ⟨g, 0, none⟩) 12 cp, .bool true, .int .i64 (4000 - (k : Int)), .int .i64 0]) ?_ rfl ⟨HB6.out, .inr (.inr ⟨HcA.out, HcB.out, .inr (.inr ⟨k, σ, by omega, HM.out, HS6.out.dec, fun v T h => (HS6.out.trm v T h).2.1, .inr ⟨HR.out, g, cp, ts, HL6.out, rfl⟩⟩)⟩)⟩
  simp [results, Try.results21, go_sem]
end Go.Proofs.Ytmggaclaoefdaaa

namespace Go.Proofs.Ytmggaclaoefdaaa
open Go.RowKit

/-- A term without its places. -/
def can : Tm → Tm
  | .nil => .mk 0 ⟨#[]⟩ none 0 0 (fun _ => .nil)
  | .mk v nm _ len _ f => .mk v nm none len 0 (fun i => if i < len then can (f i) else .nil)
theorem can_eq (T : Tm) : can T = .mk T.v T.nm none T.len 0 (fun i => if i < T.len then can (T.f i) else .nil) := by
  cases T with
  | nil =>
    show Tm.mk 0 ⟨#[]⟩ none 0 0 (fun _ => .nil) = Tm.mk 0 ⟨#[]⟩ none 0 0 _
    congr 1
  | mk => rfl
theorem can_ext {T U : Tm} (h1 : T.v = U.v) (h2 : T.nm = U.nm) (h3 : T.len = U.len) (h4 : ∀ i, i < T.len → can (T.f i) = can (U.f i)) : can T = can U := by
  rw [can_eq T, can_eq U, h1, h2, h3]
  congr 1
  funext i
  by_cases hi : i < U.len
  · rw [if_pos hi, if_pos hi]; exact h4 i (by omega)
  · rw [if_neg hi, if_neg hi]
theorem can_inj {T U : Tm} (h : can T = can U) : T.v = U.v ∧ T.nm = U.nm ∧ T.len = U.len ∧ ∀ i, i < T.len → can (T.f i) = can (U.f i) := by
  rw [can_eq T, can_eq U] at h
  injection h with h1 h2 _ h3 _ h4
  refine ⟨h1, h2, h3, fun i hi => ?_⟩
  have := congrFun h4 i
  rwa [if_pos hi, if_pos (by omega)] at this
theorem sim_can {T U : Tm} (h : Sim T U) : can T = can U := by
  induction T generalizing U with
  | nil => exact can_ext h.1.symm h.2.1.symm h.2.2.symm (fun i hi => absurd hi (Nat.not_lt_zero i))
  | mk v nm a len cap f ih => exact can_ext h.1 h.2.1 h.2.2.1 (fun i hi => ih i (h.2.2.2 i hi))
theorem same_can (T : Tm) : ∀ U, sameT T U = true ↔ can T = can U := by
  induction T with
  | nil =>
    intro U
    rw [sameT_eq]
    constructor
    · intro h
      simp only [Bool.and_eq_true, beq_iff_eq, sameTs] at h
      obtain ⟨h1, h2, h3, _⟩ := h
      exact can_ext h1 (nm_eq h2) (by omega) (fun i hi => absurd hi (Nat.not_lt_zero i))
    · intro h
      obtain ⟨h1, h2, h3, _⟩ := can_inj h
      simp only [Bool.and_eq_true, beq_iff_eq, sameTs]
      exact ⟨h1, by rw [h2], by rw [h3], rfl⟩
  | mk v nm a len cap f ih =>
    intro U
    rw [sameT_eq]
    constructor
    · intro h
      simp only [Bool.and_eq_true, beq_iff_eq, sameTs] at h
      obtain ⟨h1, h2, h3, h4⟩ := h
      exact can_ext h1 (nm_eq h2) (by omega) (fun i hi => (ih i _).1 (allTo_iff.1 h4 i hi))
    · intro h
      obtain ⟨h1, h2, h3, h4⟩ := can_inj h
      simp only [Bool.and_eq_true, beq_iff_eq, sameTs]
      exact ⟨h1, by rw [h2], by rw [h3], allTo_iff.2 (fun i hi => (ih i _).2 (h4 i hi))⟩
where
  nm_eq {a b : ByteArray} (h : a.toList = b.toList) : a = b := by
    rw [ByteArray.toList_eq, ByteArray.toList_eq] at h
    cases a; cases b
    simp at h
    simp [h]
/-- Each variable of a term is what θ says. -/
def ap (θ : Int → Tm) : Tm → Tm
  | .nil => .mk 0 ⟨#[]⟩ none 0 0 (fun _ => .nil)
  | .mk v nm _ len _ f => if v = 0 then .mk 0 nm none len 0 (fun i => if i < len then ap θ (f i) else .nil) else θ v
theorem ap_var (θ : Int → Tm) {T : Tm} (h : T.v ≠ 0) : ap θ T = θ T.v := by
  cases T with
  | nil => exact absurd rfl h
  | mk v nm a len cap f =>
    have h : ¬ v = 0 := h
    rw [ap, if_neg h]; rfl
theorem ap_fn (θ : Int → Tm) {T : Tm} (h : T.v = 0) : ap θ T = .mk 0 T.nm none T.len 0 (fun i => if i < T.len then ap θ (T.f i) else .nil) := by
  cases T with
  | nil =>
    show Tm.mk 0 ⟨#[]⟩ none 0 0 (fun _ => .nil) = Tm.mk 0 ⟨#[]⟩ none 0 0 _
    congr 1
  | mk v nm a len cap f =>
    have h : v = 0 := h
    rw [ap, if_pos h]; rfl
theorem ap_can (θ : Int → Tm) (T : Tm) : ap θ (can T) = ap θ T := by
  induction T with
  | nil =>
    show (if (0 : Int) = 0 then Tm.mk 0 ⟨#[]⟩ none 0 0 (fun i => if i < 0 then ap θ .nil else .nil) else θ 0) = Tm.mk 0 ⟨#[]⟩ none 0 0 (fun _ => .nil)
    rw [if_pos rfl]
    congr 1
  | mk v nm a len cap f ih =>
    show ap θ (.mk v nm none len 0 _) = _
    rw [ap, ap]
    split
    · congr 1
      funext i
      by_cases hi : i < len
      · rw [if_pos hi, if_pos hi, if_pos hi]; exact ih i
      · rw [if_neg hi, if_neg hi]
    · rfl
theorem ap_ext {θ : Int → Tm} {T U : Tm} (h1 : T.v = 0) (h2 : U.v = 0) (h3 : T.nm = U.nm) (h4 : T.len = U.len) (h5 : ∀ i, i < T.len → ap θ (T.f i) = ap θ (U.f i)) : ap θ T = ap θ U := by
  rw [ap_fn θ h1, ap_fn θ h2, h3, h4]
  congr 1
  funext i
  by_cases hi : i < U.len
  · rw [if_pos hi, if_pos hi]; exact h5 i (by omega)
  · rw [if_neg hi, if_neg hi]
/-- θ does what σ says. -/
def Resp (θ : Int → Tm) (σ : Sg) : Prop := ∀ v U, σ v = some U → θ v = ap θ U
theorem ap_wh {θ : Int → Tm} {σ : Sg} (h : Resp θ σ) : ∀ (k : Nat) (T : Tm), ap θ (wh σ k T) = ap θ T := by
  intro k
  induction k with
  | zero => intro T; rfl
  | succ k ih =>
    intro T
    rw [wh]
    by_cases hv : T.v = 0
    · rw [if_pos hv]
    · rw [if_neg hv]
      cases hs : σ T.v with
      | none => rfl
      | some U => simp only; rw [ih U, ap_var θ hv, h _ _ hs]
theorem ap_wha {θ : Int → Tm} {σ : Sg} (h : Resp θ σ) (T : Tm) : ap θ (wha σ T) = ap θ T := ap_wh h _ T

/-- What is known of a state. -/
structure Inv (σ : Sg) : Prop where
  dec : Dec σ
  key : ∀ v T, σ v = some T → 0 < v ∧ v ≤ 12
  ok : ∀ v T, σ v = some T → Okv 12 T
theorem Inv.what {σ : Sg} (h : Inv σ) {T : Tm} (hT : Okv 12 T) : Okv 12 (wha σ T) := by
  rcases wh_from σ (T.v.toNat + 1) T with e | ⟨v, e⟩
  · unfold wha; rw [e]; exact hT
  · exact h.ok v _ e
/-- A variable that a term is, is nothing. -/
theorem Inv.root {σ : Sg} (h : Inv σ) {T : Tm} (hT : Okv 12 T) (hv : (wha σ T).v ≠ 0) : σ (wha σ T).v = none := wh_root h.dec _ T hT.top.1 (by omega) hv
theorem Inv.put {σ : Sg} (h : Inv σ) {X T : Tm} (hX : Okv 12 X) (hT : Okv 12 T) (hne : X.v ≠ T.v) : Inv (put σ X T) := by
  have hx := hX.top
  have ht := hT.top
  unfold Go.Proofs.Ytmggaclaoefdaaa.put
  by_cases hlt : X.v < T.v
  · rw [if_pos hlt]
    refine ⟨fun v U hU => ?_, fun v U hU => ?_, fun v U hU => ?_⟩
    · unfold upd at hU
      split at hU
      · rename_i e; obtain rfl := Option.some.inj hU; omega
      · exact h.dec v U hU
    · unfold upd at hU
      split at hU
      · rename_i e; omega
      · exact h.key v U hU
    · unfold upd at hU
      split at hU
      · obtain rfl := Option.some.inj hU; exact hX
      · exact h.ok v U hU
  · rw [if_neg hlt]
    refine ⟨fun v U hU => ?_, fun v U hU => ?_, fun v U hU => ?_⟩
    · unfold upd at hU
      split at hU
      · rename_i e; obtain rfl := Option.some.inj hU; omega
      · exact h.dec v U hU
    · unfold upd at hU
      split at hU
      · rename_i e; omega
      · exact h.key v U hU
    · unfold upd at hU
      split at hU
      · obtain rfl := Option.some.inj hU; exact hT
      · exact h.ok v U hU
theorem Inv.start : Inv σ0 := ⟨fun v U h => by simp [σ0] at h, fun v U h => by simp [σ0] at h, fun v U h => by simp [σ0] at h⟩
/-- To do what the greater state says: what the lesser says, and the pair is the same. -/
theorem resp_put {θ : Int → Tm} {σ : Sg} {X T : Tm} (hX : X.v ≠ 0) (hX0 : 0 ≤ X.v) (h1 : σ X.v = none) (h2 : T.v ≠ 0 → σ T.v = none) : Resp θ (put σ X T) ↔ Resp θ σ ∧ θ X.v = ap θ T := by
  unfold put
  by_cases hlt : X.v < T.v
  · have hTz : T.v ≠ 0 := by omega
    rw [if_pos hlt]
    constructor
    · intro h
      refine ⟨fun v U hU => h v U ?_, ?_⟩
      · unfold upd
        by_cases e : v = T.v
        · rw [e, h2 hTz] at hU; simp at hU
        · rw [if_neg e]; exact hU
      · have := h T.v X (by unfold upd; rw [if_pos rfl])
        rw [ap_var θ hTz, this, ap_var θ hX]
    · rintro ⟨h3, h4⟩ v U hU
      unfold upd at hU
      split at hU
      · rename_i e
        obtain rfl := Option.some.inj hU
        rw [e, ap_var θ hX, h4, ap_var θ hTz]
      · exact h3 v U hU
  · rw [if_neg hlt]
    constructor
    · intro h
      refine ⟨fun v U hU => h v U ?_, ?_⟩
      · unfold upd
        by_cases e : v = X.v
        · rw [e, h1] at hU; simp at hU
        · rw [if_neg e]; exact hU
      · exact h X.v T (by unfold upd; rw [if_pos rfl])
    · rintro ⟨h3, h4⟩ v U hU
      unfold upd at hU
      split at hU
      · rename_i e
        obtain rfl := Option.some.inj hU
        rw [e]; exact h4
      · exact h3 v U hU
end Go.Proofs.Ytmggaclaoefdaaa
