/- What HeapReads says is true. -/
import Derived.Test.YtmggaclaoefdaaaHb4
import Derived.Test.YtmggaclaoefdaaaHp9
namespace Go.Proofs.Ytmggaclaoefdaaa
open Go.RowKit
set_option linter.unusedVariables false
set_option linter.unusedSimpArgs false

theorem rowIR {w : World} {lo : Nat} {L : Value} {l : List Int} (h : w.ownsRow lo 3 1 L l.length (l.map (Value.int .i64))) : ∃ sa cp, L = .slice sa l.length cp ∧ IR w sa l ∧ l.length ≤ 2 ^ 63 - 1 := by
  rcases h.2 with ⟨hv, h0⟩ | ⟨g, cp, cur, hv, _, hg, hn, hm, _⟩
  · exact ⟨none, 0, by rw [hv, h0], fun k hk => by omega, by omega⟩
  · refine ⟨some ⟨g, 0, none⟩, cp, hv, fun k hk => ⟨g, 0, rfl, ?_⟩, by unfold maxLen at hm; omega⟩
    subst hv
    rw [Nat.zero_add]
    exact (World.ownsRow.cellAt h k (by omega)).trans (by simp [hk])
theorem chk_ne {h : Nat → Cl} {len : Nat} {u c : Int} (hu : ChkR h len u) (h0 : u ≠ 0) (hc : ChkR h len 0) : False := h0 (hu.same hc)
set_option maxRecDepth 100000 in
set_option maxHeartbeats 8000000 in
theorem law_reads {a : Option Addr} {len cap : Nat} {h : Nat → Cl} (n : Int) (w : World) (hh : HIn w a len h) (hcap : len ≤ cap) :
    Calls Try.prog 8 #[.slice a len cap, .int .i64 n] w fun e w' => e = .returned (.bool true) ∧ Below w.heap.size w w' := by
  have HH : Hid (∀ W, Below w.heap.size w W → HIn W a len h) := fun W hW => hh.below hW
  have HD : Hid (Calls Try.prog 34 #[.slice a len cap, .int .i64 n] w fun e w' => ∃ r c : Int, e = .returned (.tuple #[.int .i64 r, .int .i64 c]) ∧ ((c ≠ 0 ∧ ChkR h len c ∧ r = 0) ∨ (ChkR h len 0 ∧ c = 5 ∧ noneB len n = true ∧ r = 0) ∨ (ChkR h len 0 ∧ c = 0 ∧ noneB len n = false ∧ r = (endA h len n.toNat : Int))) ∧ Below w.heap.size w w') := hderef_any n w hh hcap
  clear hh
  go_enter Try.func8, Try.ntmps8
  go_wp2_with fail
  refine HD.out.mono ?_
  rintro e w1 ⟨r, c, rfl, hR1, hb⟩
  have HB1 : Hid (Below w.heap.size w w1) := hb
  have HR1 : Hid ((c ≠ 0 ∧ ChkR h len c ∧ r = 0) ∨ (ChkR h len 0 ∧ c = 5 ∧ noneB len n = true ∧ r = 0) ∨ (ChkR h len 0 ∧ c = 0 ∧ noneB len n = false ∧ r = (endA h len n.toNat : Int))) := hR1
  have HRd : Hid (Calls Try.prog 35 #[.slice a len cap, .int .i64 n] w1 fun e w' => ∃ (X : Tm) (L : Value) (l : List Int) (c : Int), e = T3v X L c ∧ RdR h len n X l c ∧ TIn w' X ∧ w'.ownsRow w1.heap.size 3 1 L l.length (l.map (Value.int .i64)) ∧ Below w1.heap.size w1 w') := hread_any n w1 (HH.out _ hb) hcap
  clear hb hR1 HD
  go_wp2_with fail
  refine HRd.out.mono ?_
  rintro e w2 ⟨X, L, l, c2, he, hR2, hX, hO, hb⟩
  obtain ⟨sl, cl, rfl, hIR, hll⟩ := rowIR hO
  rw [show e = .returned (.tuple #[.agg #[.int .i64 X.v, .string X.nm, .slice X.a X.len X.cap], .slice sl l.length cl, .int .i64 c2]) from he]
  have HB2 : Hid (Below w.heap.size w w2) := below_after2 HB1.out hb
  have hBx : Below w2.heap.size w2 (w2.alloc (.cells #[.int .i64 X.v, .string X.nm, .slice X.a X.len X.cap] 24)) := (Below.refl _ _).alloc (Nat.le_refl _) _
  have HX3 : Hid ((w2.alloc (.cells #[.int .i64 X.v, .string X.nm, .slice X.a X.len X.cap] 24)).heap[w2.heap.size]? = some (.cells #[.int .i64 X.v, .string X.nm, .slice X.a X.len X.cap] 24)) := heap_alloc_new _ _
  have HB3 : Hid (Below w.heap.size w (w2.alloc (.cells #[.int .i64 X.v, .string X.nm, .slice X.a X.len X.cap] 24))) := below_after2 HB2.out hBx
  have HK3 : Hid (∀ W, Below (w2.alloc (.cells #[.int .i64 X.v, .string X.nm, .slice X.a X.len X.cap] 24)).heap.size (w2.alloc (.cells #[.int .i64 X.v, .string X.nm, .slice X.a X.len X.cap] 24)) W → TIn W X ∧ IR W sl l) := fun W hW => ⟨(hX.below hBx).below hW, (hIR.below hBx).below hW⟩
  have HR2 : Hid (RdR h len n X l c2) := hR2
  have hs3 : (w2.alloc (.cells #[.int .i64 X.v, .string X.nm, .slice X.a X.len X.cap] 24)).heap.size = w2.heap.size + 1 := by simp
  have HCk : Hid (Calls Try.prog 36 #[.slice a len cap] (w2.alloc (.cells #[.int .i64 X.v, .string X.nm, .slice X.a X.len X.cap] 24)) fun e w' => ∃ c : Int, e = .returned (.int .i64 c) ∧ ChkR h len c ∧ Below (w2.alloc (.cells #[.int .i64 X.v, .string X.nm, .slice X.a X.len X.cap] 24)).heap.size (w2.alloc (.cells #[.int .i64 X.v, .string X.nm, .slice X.a X.len X.cap] 24)) w') := checkHeap_any _ (HH.out _ HB3.out)
  clear hb he hR2 hX hO hIR hBx HRd
  go_wp2_with fail
  generalize w2.alloc (.cells #[.int .i64 X.v, .string X.nm, .slice X.a X.len X.cap] 24) = w3 at *
  refine HCk.out.mono ?_
  rintro e w4 ⟨u, rfl, hu, hb⟩
  have Hu : Hid (ChkR h len u) := hu
  have HB4 : Hid (Below w3.heap.size w3 w4) := hb
  clear hb hu HCk
  by_cases hu0 : u = 0
  case neg =>
    have hub : (u == 0) = false := beq_eq_false_iff_ne.2 hu0
    have hcu : c = u ∧ r = 0 := by
      rcases HR1.out with ⟨h1, h2, h3⟩ | ⟨h1, _⟩ | ⟨h1, _⟩
      · exact ⟨h2.same Hu.out, h3⟩
      · exact (hu0 (Hu.out.same h1)).elim
      · exact (hu0 (Hu.out.same h1)).elim
    have hc2 : c2 = u ∧ can X = can zX ∧ l = [] := by
      rcases HR2.out with ⟨h1, h2, h3⟩ | ⟨h1, _⟩ | ⟨h1, _⟩ | ⟨h1, _⟩
      · exact ⟨h2.same Hu.out, h3⟩
      · exact (hu0 (Hu.out.same h1)).elim
      · exact (hu0 (Hu.out.same h1)).elim
      · exact (hu0 (Hu.out.same h1)).elim
    obtain ⟨rfl, rfl⟩ := hcu
    obtain ⟨rfl, hXe, rfl⟩ := hc2
    have HXe : Hid (can X = can zX) := hXe
    clear hXe HR1 HR2
    have hz5 : Below w4.heap.size w4 (w4.alloc (.cells #[.int .i64 0, .string ⟨#[]⟩, .slice none 0 0] 24)) := (Below.refl _ _).alloc (Nat.le_refl _) _
    have HB5 : Hid (Below w3.heap.size w3 (w4.alloc (.cells #[.int .i64 0, .string ⟨#[]⟩, .slice none 0 0] 24))) := below_after2 HB4.out hz5
    have HXz : Hid ((w4.alloc (.cells #[.int .i64 0, .string ⟨#[]⟩, .slice none 0 0] 24)).heap[w4.heap.size]? = some (.cells #[.int .i64 0, .string ⟨#[]⟩, .slice none 0 0] 24)) := heap_alloc_new _ _
    have hs5 : (w4.alloc (.cells #[.int .i64 0, .string ⟨#[]⟩, .slice none 0 0] 24)).heap.size = w4.heap.size + 1 := by simp
    have hs4 := HB4.out.size
    go_wp2_with fail
    generalize w4.alloc (.cells #[.int .i64 0, .string ⟨#[]⟩, .slice none 0 0] 24) = w5 at *
    refine (begunH _).mono ?_
    rintro e w6 ⟨rfl, hb6⟩
    have HB6 : Hid (Below w3.heap.size w3 w6) := below_after2 HB5.out hb6
    have HC6 : Hid (Calls Try.prog 40 #[.slice a len cap] w6 fun e w' => ∃ c : Int, e = .returned (.int .i64 c) ∧ ChkR h len c ∧ Below w6.heap.size w6 w') := hcheck_any w6 (HH.out _ (below_after2 HB3.out HB6.out)) hcap
    have HXz6 : Hid (w6.heap[w4.heap.size]? = some (.cells #[.int .i64 0, .string ⟨#[]⟩, .slice none 0 0] 24)) := (hb6.block _ (by omega)).trans HXz.out
    have hs6 := hb6.size
    clear hb6 hz5
    go_wp2_with fail
    refine HC6.out.mono ?_
    rintro e w7 ⟨c7, rfl, hc7, hb7⟩
    obtain rfl : c7 = c2 := hc7.same Hu.out
    have HB7 : Hid (Below w3.heap.size w3 w7) := below_after2 HB6.out hb7
    obtain ⟨z0, z1, z2, _⟩ := block_cells ((hb7.block _ (by omega)).trans HXz6.out)
    obtain ⟨x0, x1, x2, _⟩ := block_cells ((HB7.out.block w2.heap.size (by omega)).trans HX3.out)
    have HSm : Hid (Calls Try.prog 25 #[.agg #[.int .i64 X.v, .string X.nm, .slice X.a X.len X.cap], .agg #[.int .i64 0, .string ⟨#[]⟩, .slice none 0 0]] w7 fun e w' => e = .returned (.bool true) ∧ Below w7.heap.size w7 w') := by
      refine (same36 X zX w7 (HK3.out _ HB7.out).1 (zX_in _)).mono ?_
      rintro e w' ⟨rfl, hb⟩
      rw [(same_can X zX).2 HXe.out]
      exact ⟨rfl, hb⟩
    clear hb7 hc7
    go_wp2_with fail
    refine HSm.out.mono ?_
    rintro e w8 ⟨rfl, hb8⟩
    have HB8 : Hid (Below w.heap.size w w8) := below_after2 (below_after2 HB3.out HB7.out) hb8
    have HSi : Hid (Calls Try.prog 41 #[.slice sl 0 cl, .slice none 0 0] w8 fun e w' => ∃ ok : Bool, e = .returned (.bool ok) ∧ (ok = true ↔ ([] : List Int) = []) ∧ Below w8.heap.size w8 w') := sameInts_any [] [] w8 (fun k hk => absurd hk (Nat.not_lt_zero k)) (fun k hk => absurd hk (Nat.not_lt_zero k)) (by simp)
    clear hb8
    go_wp2_with fail
    refine HSi.out.mono ?_
    rintro e w9 ⟨ok, rfl, hok, hb9⟩
    obtain rfl : ok = true := hok.2 (by trivial)
    have HB9 : Hid (Below w.heap.size w w9) := below_after2 HB8.out hb9
    clear hb9
    go_wp2_with fail
    go_ret
    exact ⟨rfl, HB9.out⟩
  subst hu0
  by_cases hno : noneB len n = true
  case pos =>
    have hcu : c = 5 ∧ r = 0 := by
      rcases HR1.out with ⟨h1, h2, h3⟩ | ⟨_, h2, _, h3⟩ | ⟨_, _, h1, _⟩
      · exact (h1 (h2.same Hu.out)).elim
      · exact ⟨h2, h3⟩
      · rw [hno] at h1; cases h1
    have hc2 : c2 = 5 ∧ can X = can zX ∧ l = [] := by
      rcases HR2.out with ⟨h1, h2, h3⟩ | ⟨_, h2, _, h3⟩ | ⟨_, h1, _⟩ | ⟨_, h1, _⟩
      · exact (h1 (h2.same Hu.out)).elim
      · exact ⟨h2, h3⟩
      · rw [hno] at h1; cases h1
      · rw [hno] at h1; cases h1
    obtain ⟨rfl, rfl⟩ := hcu
    obtain ⟨rfl, hXe, rfl⟩ := hc2
    have HXe : Hid (can X = can zX) := hXe
    have hn5 : n < 0 ∨ n ≥ (len : Int) := by
      unfold noneB at hno
      simp at hno
      exact hno
    clear hXe HR1 HR2 hno
    rcases hn5 with hn5 | hn5
    all_goals
      have hz5 : Below w4.heap.size w4 (w4.alloc (.cells #[.int .i64 0, .string ⟨#[]⟩, .slice none 0 0] 24)) := (Below.refl _ _).alloc (Nat.le_refl _) _
      have HB5 : Hid (Below w3.heap.size w3 (w4.alloc (.cells #[.int .i64 0, .string ⟨#[]⟩, .slice none 0 0] 24))) := below_after2 HB4.out hz5
      have HXz : Hid ((w4.alloc (.cells #[.int .i64 0, .string ⟨#[]⟩, .slice none 0 0] 24)).heap[w4.heap.size]? = some (.cells #[.int .i64 0, .string ⟨#[]⟩, .slice none 0 0] 24)) := heap_alloc_new _ _
      have hs5 : (w4.alloc (.cells #[.int .i64 0, .string ⟨#[]⟩, .slice none 0 0] 24)).heap.size = w4.heap.size + 1 := by simp
      have hs4 := HB4.out.size
      go_wp2_with fail
      generalize w4.alloc (.cells #[.int .i64 0, .string ⟨#[]⟩, .slice none 0 0] 24) = w5 at *
      refine (begunH _).mono ?_
      rintro e w6 ⟨rfl, hb6⟩
      have HB6 : Hid (Below w3.heap.size w3 w6) := below_after2 HB5.out hb6
      have HC6 : Hid (Calls Try.prog 40 #[.slice a len cap] w6 fun e w' => ∃ c : Int, e = .returned (.int .i64 c) ∧ ChkR h len c ∧ Below w6.heap.size w6 w') := hcheck_any w6 (HH.out _ (below_after2 HB3.out HB6.out)) hcap
      have HXz6 : Hid (w6.heap[w4.heap.size]? = some (.cells #[.int .i64 0, .string ⟨#[]⟩, .slice none 0 0] 24)) := (hb6.block _ (by omega)).trans HXz.out
      have hs6 := hb6.size
      clear hb6 hz5
      go_wp2_with fail
      refine HC6.out.mono ?_
      rintro e w7 ⟨c7, rfl, hc7, hb7⟩
      obtain rfl : c7 = 0 := hc7.same Hu.out
      have HB7 : Hid (Below w3.heap.size w3 w7) := below_after2 HB6.out hb7
      obtain ⟨z0, z1, z2, _⟩ := block_cells ((hb7.block _ (by omega)).trans HXz6.out)
      obtain ⟨x0, x1, x2, _⟩ := block_cells ((HB7.out.block w2.heap.size (by omega)).trans HX3.out)
      have HSm : Hid (Calls Try.prog 25 #[.agg #[.int .i64 X.v, .string X.nm, .slice X.a X.len X.cap], .agg #[.int .i64 0, .string ⟨#[]⟩, .slice none 0 0]] w7 fun e w' => e = .returned (.bool true) ∧ Below w7.heap.size w7 w') := by
        refine (same36 X zX w7 (HK3.out _ HB7.out).1 (zX_in _)).mono ?_
        rintro e w' ⟨rfl, hb⟩
        rw [(same_can X zX).2 HXe.out]
        exact ⟨rfl, hb⟩
      clear hb7 hc7
      go_wp2_with fail
      refine HSm.out.mono ?_
      rintro e w8 ⟨rfl, hb8⟩
      have HB8 : Hid (Below w.heap.size w w8) := below_after2 (below_after2 HB3.out HB7.out) hb8
      have HSi : Hid (Calls Try.prog 41 #[.slice sl 0 cl, .slice none 0 0] w8 fun e w' => ∃ ok : Bool, e = .returned (.bool ok) ∧ (ok = true ↔ ([] : List Int) = []) ∧ Below w8.heap.size w8 w') := sameInts_any [] [] w8 (fun k hk => absurd hk (Nat.not_lt_zero k)) (fun k hk => absurd hk (Nat.not_lt_zero k)) (by simp)
      clear hb8
      go_wp2_with fail
      refine HSi.out.mono ?_
      rintro e w9 ⟨ok, rfl, hok, hb9⟩
      obtain rfl : ok = true := hok.2 (by trivial)
      have HB9 : Hid (Below w.heap.size w w9) := below_after2 HB8.out hb9
      clear hb9
      go_wp2_with fail
      go_ret
      exact ⟨rfl, HB9.out⟩
  have hnf : noneB len n = false := by simpa using hno
  have hrng : 0 ≤ n ∧ n < (len : Int) := by
    have h9 := hnf
    unfold noneB at h9
    simp at h9
    omega
  obtain ⟨na, hna⟩ : ∃ na : Nat, n = (na : Int) := ⟨n.toNat, by omega⟩
  subst hna
  have hnl : na < len := by omega
  obtain ⟨hG, hl4⟩ := ChkR.good Hu.out
  have hcr : c = 0 ∧ r = (endA h len na : Int) := by
    rcases HR1.out with ⟨h1, h2, h3⟩ | ⟨_, _, h1, _⟩ | ⟨_, h2, _, h3⟩
    · exact (h1 (h2.same Hu.out)).elim
    · exact (hno h1).elim
    · exact ⟨h2, h3⟩
  have HX2 : Hid ((c2 = 2 ∧ 200 < cntA h len na ∧ can X = can zX ∧ l = []) ∨ (c2 = 0 ∧ cntA h len na ≤ 200 ∧ can X = ap (nmOf (num (addV [] (vsT (std h len na))))) (std h len na) ∧ l = (addV [] (vsT (std h len na))).map fun x => x - 1)) := by
    rcases HR2.out with ⟨h1, h2, h3⟩ | ⟨_, _, h1, _⟩ | ⟨_, _, h2, h3⟩ | ⟨_, _, h2, h3⟩
    · exact (h1 (h2.same Hu.out)).elim
    · exact (hno h1).elim
    · exact .inl ⟨h2, h3⟩
    · exact .inr ⟨h2, h3⟩
  obtain ⟨rfl, rfl⟩ := hcr
  have hz5 : Below w4.heap.size w4 (w4.alloc (.cells #[.int .i64 0, .string ⟨#[]⟩, .slice none 0 0] 24)) := (Below.refl _ _).alloc (Nat.le_refl _) _
  have HB5 : Hid (Below w3.heap.size w3 (w4.alloc (.cells #[.int .i64 0, .string ⟨#[]⟩, .slice none 0 0] 24))) := below_after2 HB4.out hz5
  have HXz : Hid ((w4.alloc (.cells #[.int .i64 0, .string ⟨#[]⟩, .slice none 0 0] 24)).heap[w4.heap.size]? = some (.cells #[.int .i64 0, .string ⟨#[]⟩, .slice none 0 0] 24)) := heap_alloc_new _ _
  have hs5 : (w4.alloc (.cells #[.int .i64 0, .string ⟨#[]⟩, .slice none 0 0] 24)).heap.size = w4.heap.size + 1 := by simp
  have hs4 := HB4.out.size
  have HEn : Hid (Calls Try.prog 37 #[.slice a len cap, .int .i64 na] (w4.alloc (.cells #[.int .i64 0, .string ⟨#[]⟩, .slice none 0 0] 24)) fun e w' => e = .returned (.int .i64 (endA h len na : Nat)) ∧ w' = (w4.alloc (.cells #[.int .i64 0, .string ⟨#[]⟩, .slice none 0 0] 24))) := endOf_any (hG.endR hnl) _ (HH.out _ (below_after2 HB3.out HB5.out))
  have HRo : Hid (Calls Try.prog 38 #[.slice a len cap, .int .i64 (na : Int)] (w4.alloc (.cells #[.int .i64 0, .string ⟨#[]⟩, .slice none 0 0] 24)) fun e w' => ∃ (X : Tm) (L : Value) (l : List Int) (c : Int), e = T3v X L c ∧ RoR h len na X l c ∧ TIn w' X ∧ w'.ownsRow (w4.alloc (.cells #[.int .i64 0, .string ⟨#[]⟩, .slice none 0 0] 24)).heap.size 3 1 L l.length (l.map (Value.int .i64)) ∧ (∀ k, k < (w4.alloc (.cells #[.int .i64 0, .string ⟨#[]⟩, .slice none 0 0] 24)).heap.size → NB k X) ∧ Below (w4.alloc (.cells #[.int .i64 0, .string ⟨#[]⟩, .slice none 0 0] 24)).heap.size (w4.alloc (.cells #[.int .i64 0, .string ⟨#[]⟩, .slice none 0 0] 24)) w') := readOf_any _ hG hl4 hnl (HH.out _ (below_after2 HB3.out HB5.out))
  have hlt0 : ¬ ((na : Int) < 0) := by omega
  have hge0 : ¬ ((na : Int) ≥ (len : Int)) := by omega
  clear hz5 HR1 HR2 hno hnf hG
  generalize endA h len na = z at *
  go_wp2_with fail
  generalize w4.alloc (.cells #[.int .i64 0, .string ⟨#[]⟩, .slice none 0 0] 24) = w5 at *
  refine HEn.out.mono ?_
  rintro e w5' ⟨rfl, hw5⟩
  rw [hw5]
  go_wp2_with fail
  refine HRo.out.mono ?_
  rintro e w6 ⟨Y, L, l', c', he, hRo, hY, hO, hNB, hb6⟩
  obtain ⟨sl', cl', rfl, hIR', _⟩ := rowIR hO
  rw [show e = .returned (.tuple #[.agg #[.int .i64 Y.v, .string Y.nm, .slice Y.a Y.len Y.cap], .slice sl' l'.length cl', .int .i64 c']) from he]
  have HXz6 : Hid (w6.heap[w4.heap.size]? = some (.cells #[.int .i64 0, .string ⟨#[]⟩, .slice none 0 0] 24)) := (hb6.block _ (by omega)).trans HXz.out
  obtain ⟨y0, y1, y2, f0, f1, f2⟩ := block_cells HXz6.out
  have HB6 : Hid (Below w3.heap.size w3 w6) := below_after2 HB5.out hb6
  have hs6 := hb6.size
  have HEq : Hid (c2 = c' ∧ can X = can Y ∧ l = l') := by
    rcases HX2.out with ⟨h1, h2, h3, h4⟩ | ⟨h1, h2, h3, h4⟩ <;> rcases hRo with ⟨g1, g2, g3, g4⟩ | ⟨g1, g2, g3, g4⟩
    · exact ⟨by rw [h1, g1], by rw [h3, g3], by rw [h4, g4]⟩
    · omega
    · omega
    · exact ⟨by rw [h1, g1], by rw [h3, g3], by rw [h4, g4]⟩
  obtain ⟨rfl, hXY, rfl⟩ := HEq.out
  obtain ⟨V, hV, v0, v1, v2, hBV, hGV⟩ := fin3n (w := w3) (r := w4.heap.size) hs4 HXz6.out HB6.out (.int .i64 Y.v) (.string Y.nm) (.slice Y.a Y.len Y.cap)
  have hYV : TIn V Y := hY.grown hGV (fun k hk => by have : w4.heap.size = k := Option.some.inj hk; exact hNB k (by omega))
  have hIV : IR V sl' l := fun k hk => by
    obtain ⟨b, o, e, hc⟩ := hIR' k hk
    rcases hO.2 with ⟨hv, h0⟩ | ⟨g, cg, cur, hv, hlo, _⟩
    · omega
    · injection hv with e1
      rw [e1] at e
      cases e
      exact ⟨_, _, e1, hGV.cell hc (by intro e; have h8 := Option.some.inj e; simp at h8; omega)⟩
  have hsV := hGV.size
  clear he hRo hO hb6 hNB HEq HX2
  go_wp2_with fail
  refine (begunH _).mono ?_
  rintro e w7 ⟨rfl, hb7⟩
  have HB7 : Hid (Below w3.heap.size w3 w7) := below_after2 hBV hb7
  have HC7 : Hid (Calls Try.prog 40 #[.slice a len cap] w7 fun e w' => ∃ c : Int, e = .returned (.int .i64 c) ∧ ChkR h len c ∧ Below w7.heap.size w7 w') := hcheck_any w7 (HH.out _ (below_after2 HB3.out HB7.out)) hcap
  have HV7 : Hid (∀ W, Below w7.heap.size w7 W → (W.cell? ⟨w4.heap.size, 0, none⟩ = some (.int .i64 Y.v) ∧ W.cell? ⟨w4.heap.size, 1, none⟩ = some (.string Y.nm) ∧ W.cell? ⟨w4.heap.size, 2, none⟩ = some (.slice Y.a Y.len Y.cap)) ∧ TIn W Y ∧ IR W sl' l) := fun W hW => by
    have hVW : Below V.heap.size V W := below_after2 hb7 hW
    exact ⟨⟨(hVW.cell (lt_of_cell v0)).trans v0, (hVW.cell (lt_of_cell v1)).trans v1, (hVW.cell (lt_of_cell v2)).trans v2⟩, hYV.below hVW, hIV.below hVW⟩
  have HXY : Hid (can X = can Y) := hXY
  clear hb7 v0 v1 v2 hYV hIV hXY hV hGV hBV hY hIR' y0 y1 y2 f0 f1 f2
  go_wp2_with fail
  refine HC7.out.mono ?_
  rintro e w8 ⟨c8, rfl, hc8, hb8⟩
  obtain rfl : c8 = 0 := hc8.same Hu.out
  have HB8 : Hid (Below w3.heap.size w3 w8) := below_after2 HB7.out hb8
  obtain ⟨⟨z0, z1, z2⟩, hY8, _⟩ := HV7.out w8 hb8
  obtain ⟨x0, x1, x2, _⟩ := block_cells ((HB8.out.block w2.heap.size (by omega)).trans HX3.out)
  have HSm : Hid (Calls Try.prog 25 #[.agg #[.int .i64 X.v, .string X.nm, .slice X.a X.len X.cap], .agg #[.int .i64 Y.v, .string Y.nm, .slice Y.a Y.len Y.cap]] w8 fun e w' => e = .returned (.bool true) ∧ Below w8.heap.size w8 w') := by
    refine (same36 X Y w8 (HK3.out _ HB8.out).1 hY8).mono ?_
    rintro e w' ⟨rfl, hb⟩
    rw [(same_can X Y).2 HXY.out]
    exact ⟨rfl, hb⟩
  have HBx : Hid (Below w7.heap.size w7 w8) := hb8
  clear hb8 hc8 hY8
  go_wp2_with fail
  refine HSm.out.mono ?_
  rintro e w9 ⟨rfl, hb9⟩
  have HB9 : Hid (Below w3.heap.size w3 w9) := below_after2 HB8.out hb9
  have HSi : Hid (Calls Try.prog 41 #[.slice sl l.length cl, .slice sl' l.length cl'] w9 fun e w' => ∃ ok : Bool, e = .returned (.bool ok) ∧ (ok = true ↔ l = l) ∧ Below w9.heap.size w9 w') := sameInts_any l l w9 (HK3.out _ HB9.out).2 (HV7.out _ (below_after2 HBx.out hb9)).2.2 hll
  clear hb9
  go_wp2_with fail
  refine HSi.out.mono ?_
  rintro e w10 ⟨ok, rfl, hok, hb10⟩
  obtain rfl : ok = true := hok.2 (by trivial)
  have HB10 : Hid (Below w.heap.size w w10) := below_after2 (below_after2 HB3.out HB9.out) hb10
  clear hb10
  go_wp2_with fail
  go_ret
  exact ⟨rfl, HB10.out⟩
end Go.Proofs.Ytmggaclaoefdaaa
