/- The program's heap: Read. From what an argument reads as to a heap that lies in memory. -/
import Derived.Test.YtmggaclaoefdaaaHr8
import Derived.Test.YtmggaclaoefdaaaGAE
import Derived.Test.YtmggaclaoefdaaaGAL
namespace Go.Proofs.Ytmggaclaoefdaaa
open Go.RowKit
set_option linter.unusedVariables false
set_option linter.unusedSimpArgs false

def T3v (X : Tm) (L : Value) (c : Int) : Ending := .returned (.tuple #[X.val, L, .int .i64 c])
def zX : Tm := .mk 0 ⟨#[]⟩ none 0 0 (fun _ => .nil)
/-- What Read answers. -/
def RdR (h : Nat → Cl) (len : Nat) (n : Int) (X : Tm) (l : List Int) (c : Int) : Prop :=
  (c ≠ 0 ∧ ChkR h len c ∧ can X = can zX ∧ l = []) ∨ (ChkR h len 0 ∧ c = 5 ∧ noneB len n = true ∧ can X = can zX ∧ l = []) ∨
  (ChkR h len 0 ∧ noneB len n = false ∧ c = 2 ∧ 200 < cntA h len n.toNat ∧ can X = can zX ∧ l = []) ∨
  (ChkR h len 0 ∧ noneB len n = false ∧ c = 0 ∧ cntA h len n.toNat ≤ 200 ∧ can X = ap (nmOf (num (addV [] (vsT (std h len n.toNat))))) (std h len n.toNat) ∧ l = (addV [] (vsT (std h len n.toNat))).map fun x => x - 1)
theorem zX_in (w : World) : TIn w zX := ⟨Nat.zero_le _, Nat.zero_le _, fun j hj => absurd hj (Nat.not_lt_zero j)⟩
set_option maxRecDepth 100000 in
set_option maxHeartbeats 8000000 in
/-- WHAT Read ANSWERS. -/
theorem hread_any {a : Option Addr} {len cap : Nat} {h : Nat → Cl} (n : Int) (w : World) (hh : HIn w a len h) (hcap : len ≤ cap) :
    Calls Try.prog 35 #[.slice a len cap, .int .i64 n] w fun e w' => ∃ (X : Tm) (L : Value) (l : List Int) (c : Int), e = T3v X L c ∧ RdR h len n X l c ∧ TIn w' X ∧ w'.ownsRow w.heap.size 3 1 L l.length (l.map (Value.int .i64)) ∧ Below w.heap.size w w' := by
  obtain ⟨W0, hW0⟩ : ∃ W0, w.alloc (.cells #[.int .i64 0, .string ⟨#[]⟩, .slice none 0 0] 24) = W0 := ⟨_, rfl⟩
  have hB0 : Below w.heap.size w W0 := by rw [← hW0]; exact (Below.refl _ _).alloc (Nat.le_refl _) _
  have hs0 : W0.heap.size = w.heap.size + 1 := by rw [← hW0]; simp
  have x0 : W0.heap[w.heap.size]? = some (.cells #[.int .i64 0, .string ⟨#[]⟩, .slice none 0 0] 24) := by rw [← hW0]; exact heap_alloc_new w _
  have hBt : Below w.heap.size w (W0.alloc (.cells #[.int .i64 n] 3)) := hB0.alloc (by omega) _
  have HT : Hid (Calls Try.prog 75 #[.slice a len cap, .slice (some ⟨w.heap.size + 1, 0, none⟩) 1 1] (W0.alloc (.cells #[.int .i64 n] 3)) fun e w' => ∃ c : Int, e = .returned (.int .i64 c) ∧ ((c ≠ 0 ∧ ChkR h len c) ∨ (ChkR h len 0 ∧ c = 5 ∧ ∃ x ∈ [n], noneB len x = true) ∨ (ChkR h len 0 ∧ c = 0 ∧ ∀ x ∈ [n], noneB len x = false)) ∧ Below (W0.alloc (.cells #[.int .i64 n] 3)).heap.size (W0.alloc (.cells #[.int .i64 n] 3)) w') :=
    by
    have ht := there_any (cap := cap) (sc := 1) (sa := some ⟨W0.heap.size, 0, none⟩) [n] (W0.alloc (.cells #[.int .i64 n] 3)) (hh.below hBt) hcap (fun k hk => by
      have : k = 0 := by simp at hk; exact hk
      subst this
      exact ⟨_, _, rfl, cell_of_block (heap_alloc_new W0 _)⟩) (by simp)
    rw [hs0] at ht
    exact ht
  have HBt : Hid (Below w.heap.size w (W0.alloc (.cells #[.int .i64 n] 3))) := hBt
  have HX0 : Hid ((W0.alloc (.cells #[.int .i64 n] 3)).heap[w.heap.size]? = some (.cells #[.int .i64 0, .string ⟨#[]⟩, .slice none 0 0] 24)) := (heapOld _ _ (by omega)).trans x0
  have HH : Hid (∀ W, Below w.heap.size w W → HIn W a len h) := fun W hW => hh.below hW
  have hsT : (W0.alloc (.cells #[.int .i64 n] 3)).heap.size = w.heap.size + 2 := by simp; omega
  clear hh hB0 hBt x0
  go_enter Try.func35, Try.ntmps35
  go_wp2_with fail
  try rw [hW0]
  refine HT.out.mono ?_
  rintro e w1 ⟨c, rfl, hc, hb1⟩
  have HB1 : Hid (Below w.heap.size w w1) := HBt.out.trans (hb1.mono HBt.out.size)
  have hX1 : w1.heap[w.heap.size]? = some (.cells #[.int .i64 0, .string ⟨#[]⟩, .slice none 0 0] 24) := (hb1.block _ (by omega)).trans HX0.out
  have HX1 : Hid (w1.heap[w.heap.size]? = some (.cells #[.int .i64 0, .string ⟨#[]⟩, .slice none 0 0] 24)) := hX1
  have hs1 : w.heap.size + 2 ≤ w1.heap.size := by have := hb1.size; omega
  obtain ⟨g0, g1, g2, gf0, gf1, gf2⟩ := block_cells hX1
  clear hb1 HT HBt HX0 hX1
  by_cases hc0 : c = 0
  case neg =>
    have hcb : (c != 0) = true := bne_iff_ne.2 hc0
    have HR : Hid ((c ≠ 0 ∧ ChkR h len c) ∨ (ChkR h len 0 ∧ c = 5 ∧ noneB len n = true)) := by
      rcases hc with h1 | ⟨h1, h2, x, hx, h3⟩ | ⟨_, h2, _⟩
      · exact .inl h1
      · rw [List.mem_singleton] at hx
        subst hx
        exact .inr ⟨h1, h2, h3⟩
      · exact absurd h2 hc0
    clear hc hc0
    go_wp2_with fail
    obtain ⟨W', hW', z0, z1, z2, hB', hgr⟩ := fin3n (r := w.heap.size) (Nat.le_refl _) HX1.out HB1.out (.int .i64 0) (.string ⟨#[]⟩) (.slice none 0 0)
    rw [hW']
    refine bodyPost_ret (v := .tuple #[zX.val, .slice none 0 0, .int .i64 c]) ?_ rfl ⟨zX, .slice none 0 0, [], c, rfl, ?_, zX_in _, World.ownsRow_nil _ _ _ _, hB'⟩
    · simp [results, Try.results35, go_sem, z0, z1, z2, Tm.val, zX, Tm.v, Tm.nm, Tm.a, Tm.len, Tm.cap]
    · rcases HR.out with h1 | h1
      · exact .inl ⟨h1.1, h1.2, rfl, rfl⟩
      · exact .inr (.inl ⟨h1.1, h1.2.1, h1.2.2, rfl, rfl⟩)
  have HR : Hid (ChkR h len 0 ∧ noneB len n = false) := by
    rcases hc with h1 | ⟨_, h2, _⟩ | ⟨h1, _, h3⟩
    · exact absurd hc0 h1.1
    · omega
    · exact ⟨h1, h3 n (by simp)⟩
  subst hc0
  obtain ⟨i, hi⟩ : ∃ i : Nat, n = (i : Int) := by
    have := HR.out.2
    unfold noneB at this
    simp at this
    exact ⟨n.toNat, by omega⟩
  have hil : i < len := by
    have := HR.out.2
    unfold noneB at this
    simp at this
    omega
  obtain ⟨hG, hl4⟩ := HR.out.1.good
  have HOn : Hid (Calls Try.prog 76 #[.slice a len cap] w1 fun e w' => ∃ vb m, e = .returned (.pointer (some ⟨vb, 0, none⟩)) ∧ VW w' vb m a len cap h (fun _ => none) ∧ w1.heap.size ≤ vb ∧ w1.heap.size ≤ m ∧ Below w1.heap.size w1 w') := on_any w1 (HH.out w1 HB1.out)
  have HVa : Hid (∀ (sa : Option Addr) (k cp : Nat) (W : World), Calls Try.prog 79 #[.slice sa k cp] W fun e w' => e = .returned (.func (.func 109) #[] #[.pointer (some ⟨W.heap.size, 0, none⟩)]) ∧ w' = W.alloc (.cells #[.slice sa k cp] 56)) := fun sa k cp W => values_any sa k cp W
  have HGd : Hid (HG h len) := hG
  clear hc hG
  subst hi
  have HM : Hid ((i : Int).toNat = i) := rfl
  go_wp2_with fail
  refine HOn.out.mono ?_
  rintro e w2 ⟨vb, m, rfl, hV, hvb, hmm, hb2⟩
  have HB2 : Hid (Below w.heap.size w w2) := HB1.out.trans (hb2.mono HB1.out.size)
  have HV : Hid (VW w2 vb m a len cap h (fun _ => none)) := hV
  have HX2 : Hid (w2.heap[w.heap.size]? = some (.cells #[.int .i64 0, .string ⟨#[]⟩, .slice none 0 0] 24)) := (hb2.block _ (by omega)).trans HX1.out
  have hs2 : w1.heap.size ≤ w2.heap.size := hb2.size
  have hml : m < w2.heap.size := hV.lt.2
  clear hV hb2 HOn
  go_wp2_with fail
  refine (HVa.out _ 1 1 _).mono ?_
  rintro e w3 ⟨rfl, hw3⟩
  have hs3 : w3.heap.size = w2.heap.size + 2 := by rw [hw3]; simp
  have hb3 : Below w2.heap.size w2 w3 := by rw [hw3]; exact ((Below.refl _ _).alloc (Nat.le_refl _) _).alloc (by simp) _
  have hx3 := alloc2 w2 (.cells #[.int .i64 (i : Int)] 3) (.cells #[.slice (some ⟨w2.heap.size, 0, none⟩) 1 1] 56)
  rw [← hw3] at hx3
  have HSq : Hid (SeqL 109 #[.pointer (some ⟨w2.heap.size + 1, 0, none⟩)] len [i] w2.heap.size w3) := values_seq (w2.heap.size + 1) w2.heap.size (some ⟨w2.heap.size, 0, none⟩) 1 [i] (by simpa using hil) (by simp) w3 hx3.2 (fun k hk => by
    have : k = 0 := by simp at hk; exact hk
    subst this
    refine ⟨0, rfl, ?_⟩
    rw [cell_of_block hx3.1]
    rfl)
  have HV3 : Hid (VW w3 vb m a len cap h (fun _ => none)) := HV.out.below hb3
  have HRo : Hid (Calls Try.prog 78 #[.pointer (some ⟨vb, 0, none⟩), .int .i64 ((200 : Nat) : Int), .func (.func 109) #[] #[.pointer (some ⟨w2.heap.size + 1, 0, none⟩)]] w3 fun e w' => e = .returned (.int .i64 (roomV ((200 : Nat) : Int) (sumC h len [i]))) ∧ (∃ σ', VW w' vb m a len cap h σ') ∧ w3.grownBy w' (some m)) :=
    vroom_all 200 (Nat.le_refl _) vb m a len cap h _ _ _ [i] w2.heap.size w3 HGd.out (by omega) HV3.out (enters_of Try.func109 (by kernel_rfl) rfl) (by omega) (by omega) HSq.out
  have HB3 : Hid (Below w.heap.size w w3) := HB2.out.trans (hb3.mono HB2.out.size)
  have HX3 : Hid (w3.heap[w.heap.size]? = some (.cells #[.int .i64 0, .string ⟨#[]⟩, .slice none 0 0] 24)) := (hb3.block _ (by omega)).trans HX2.out
  have HSc : Hid (sumC h len [i] = cntA h len i) := by unfold sumC; simp [Hid]
  clear hx3 hb3 hw3 HVa HSq HX2 HB2 HV
  go_wp2_with fail
  refine HRo.out.mono ?_
  rintro e w4 ⟨rfl, ⟨σ4, hV4⟩, hg4⟩
  have HV4 : Hid (VW w4 vb m a len cap h σ4) := hV4
  have HB4 : Hid (Below w.heap.size w w4) := HB3.out.grown hg4 (by omega) (fun k e => by cases e; omega)
  have hX4 : w4.heap[w.heap.size]? = some (.cells #[.int .i64 0, .string ⟨#[]⟩, .slice none 0 0] 24) := (hg4.block _ (by omega) (fun e => by have := Option.some.inj e; omega)).trans HX3.out
  have HX4 : Hid (w4.heap[w.heap.size]? = some (.cells #[.int .i64 0, .string ⟨#[]⟩, .slice none 0 0] 24)) := hX4
  obtain ⟨k0, k1, k2, kf0, kf1, kf2⟩ := block_cells hX4
  have hs4 : w3.heap.size ≤ w4.heap.size := hg4.size
  rw [HSc.out]
  clear hV4 hg4 HRo hX4 g0 g1 g2 gf0 gf1 gf2
  by_cases hbig : 200 < cntA h len i
  · have hrv : roomV ((200 : Nat) : Int) (cntA h len i) = -1 := roomV_lt hbig
    have HBg : Hid (200 < cntA h len i) := hbig
    rw [hrv]
    clear hbig hrv
    go_wp2_with fail
    obtain ⟨W', hW', z0, z1, z2, hB', hgr⟩ := fin3n (r := w.heap.size) (Nat.le_refl _) HX4.out HB4.out (.int .i64 0) (.string ⟨#[]⟩) (.slice none 0 0)
    rw [hW']
    refine bodyPost_ret (v := .tuple #[zX.val, .slice none 0 0, .int .i64 2]) ?_ rfl ⟨zX, .slice none 0 0, [], 2, rfl, .inr (.inr (.inl ⟨HR.out.1, HR.out.2, rfl, by rw [HM.out]; exact HBg.out, rfl, rfl⟩)), zX_in _, World.ownsRow_nil _ _ _ _, hB'⟩
    simp [results, Try.results35, go_sem, z0, z1, z2, Tm.val, zX, Tm.v, Tm.nm, Tm.a, Tm.len, Tm.cap]
  · obtain ⟨rr, hrr⟩ : ∃ rr : Nat, rr + cntA h len i = 200 := ⟨200 - cntA h len i, by omega⟩
    have hrv : roomV ((200 : Nat) : Int) (cntA h len i) = (rr : Int) := roomV_le hrr
    have HBg : Hid (cntA h len i ≤ 200) := by rw [Hid]; omega
    have hrn : ¬ ((rr : Int) < 0) := by omega
    have HNn : Hid (Calls Try.prog 80 #[] w4 fun e w' => ∃ nb nm, e = .returned (.pointer (some ⟨nb, 0, none⟩)) ∧ NMs w' w4.heap.size nb nm (.slice none 0 0) [] ∧ Below w4.heap.size w4 w') := newNames_any w4
    rw [hrv]
    clear hbig hrv hrr
    go_wp2_with fail
    refine HNn.out.mono ?_
    rintro e w5 ⟨nb, nm, rfl, hN5, hb5⟩
    have HRd : Hid (Calls Try.prog 81 #[.pointer (some ⟨vb, 0, none⟩), .int .i64 (i : Int), .func (.func 82) #[.pointer (some ⟨nb, 0, none⟩)] #[]] w5 (RdP vb m a len cap h w4.heap.size nb nm (.slice none 0 0) [] i w5)) := by
      exact vread_all HGd.out (by omega) i hil vb m a cap σ4 σ4 w4.heap.size nb nm _ [] w5 w4 HV4.out (Nat.le_refl _) (HV4.out.below hb5) hN5 hb5.size
    have HB5 : Hid (Below w.heap.size w w5) := HB4.out.trans (hb5.mono HB4.out.size)
    have HX5 : Hid (w5.heap[w.heap.size]? = some (.cells #[.int .i64 0, .string ⟨#[]⟩, .slice none 0 0] 24)) := (hb5.block _ (by omega)).trans HX4.out
    have hlo5 := hN5.lo
    have hs5 : w4.heap.size ≤ w5.heap.size := hb5.size
    clear hN5 hb5 HNn k0 k1 k2 kf0 kf1 kf2
    go_wp2_with fail
    refine HRd.out.mono ?_
    rintro e w6 ⟨X, v', σ', rfl, hX6, hA6, hV6, hN6, hb6, ho6, hn6, hval6⟩
    have hMw : ∀ k, Mr m nb nm (.slice none 0 0) k → w.heap.size + 1 ≤ k := fun k hk => by
      rcases hk with e | e | e | e
      · omega
      · omega
      · omega
      · cases e
    have HB6 : Hid (Below w.heap.size w w6) := HB5.out.trans ⟨hb6.os, hb6.tape, hb6.output, hb6.size, fun k hk => hb6.block k (by omega) (fun e => by have := hMw k e; omega)⟩
    have hX6' : w6.heap[w.heap.size]? = some (.cells #[.int .i64 0, .string ⟨#[]⟩, .slice none 0 0] 24) := (hb6.block _ (by omega) (fun e => by have := hMw _ e; omega)).trans HX5.out
    have hs6 : w5.heap.size ≤ w6.heap.size := hb6.size
    have HN6 : Hid (NMs w6 w4.heap.size nb nm v' (addV [] (vsT (std h len i)))) := hN6
    have HXX : Hid (TIn w6 X ∧ Above w5.heap.size X ∧ can X = ap (nmOf (num (addV [] (vsT (std h len i))))) (std h len i)) := ⟨hX6, hA6, hval6 _ (List.prefix_refl _)⟩
    have hBa : Below w6.heap.size w6 (w6.alloc (.cells #[.int .i64 X.v, .string X.nm, .slice X.a X.len X.cap] 24)) := (Below.refl _ _).alloc (Nat.le_refl _) _
    have hNa := hN6.below hBa
    have n1 : (w6.alloc (.cells #[.int .i64 X.v, .string X.nm, .slice X.a X.len X.cap] 24)).cell? ⟨nb, 1, none⟩ = some v' := by simp [World.cell?, hNa.blk]
    have hXa := heap_alloc_new w6 (.cells #[.int .i64 X.v, .string X.nm, .slice X.a X.len X.cap] 24)
    obtain ⟨xa0, xa1, xa2, _, _, _⟩ := block_cells hXa
    have hZa : (w6.alloc (.cells #[.int .i64 X.v, .string X.nm, .slice X.a X.len X.cap] 24)).heap[w.heap.size]? = some (.cells #[.int .i64 0, .string ⟨#[]⟩, .slice none 0 0] 24) := (hBa.block _ (by omega)).trans hX6'
    obtain ⟨za0, za1, za2, zf0, zf1, zf2⟩ := block_cells hZa
    have HZa : Hid ((w6.alloc (.cells #[.int .i64 X.v, .string X.nm, .slice X.a X.len X.cap] 24)).heap[w.heap.size]? = some (.cells #[.int .i64 0, .string ⟨#[]⟩, .slice none 0 0] 24)) := hZa
    have HBa : Hid (Below w.heap.size w (w6.alloc (.cells #[.int .i64 X.v, .string X.nm, .slice X.a X.len X.cap] 24))) := HB6.out.trans (hBa.mono HB6.out.size)
    have HNa : Hid (NMs (w6.alloc (.cells #[.int .i64 X.v, .string X.nm, .slice X.a X.len X.cap] 24)) w4.heap.size nb nm v' (addV [] (vsT (std h len i)))) := hNa
    have HXa : Hid (TIn (w6.alloc (.cells #[.int .i64 X.v, .string X.nm, .slice X.a X.len X.cap] 24)) X) := hX6.below hBa
    rw [show X.val = .agg #[.int .i64 X.v, .string X.nm, .slice X.a X.len X.cap] from rfl]
    clear hX6 hA6 hV6 hN6 hb6 ho6 hn6 hval6 hMw hX6' hBa hNa hXa hZa HRd
    go_wp2_with fail
    go_region
    all_goals
      obtain ⟨W', hW', z0, z1, z2, hB', hgr⟩ := fin3n (r := w.heap.size) (Nat.le_refl _) HZa.out HBa.out (.int .i64 X.v) (.string X.nm) (.slice X.a X.len X.cap)
      have hTX : TIn W' X := HXa.out.grown hgr (fun k hk => by obtain rfl := Option.some.inj hk; exact HXX.out.2.1.nb (by omega))
      have hRw : W'.ownsRow w.heap.size 3 1 v' (addV [] (vsT (std h len i))).length ((addV [] (vsT (std h len i))).map fun x : Int => Value.int .i64 (x - 1)) := by
        refine ownsRow_mono (HNa.out.row.kept hgr ?_) (by omega : w.heap.size ≤ w4.heap.size)
        cases hv : v'.ownBlock with
        | none => exact .inl rfl
        | some g => exact .inr (fun e => by have h1 := (HNa.out.row.lt g hv).1; have h2 := Option.some.inj e; omega)
      go_wp2_with fail
      rw [hW']
      refine bodyPost_ret (v := .tuple #[X.val, v', .int .i64 0]) ?_ rfl ⟨X, v', (addV [] (vsT (std h len i))).map fun x => x - 1, 0, rfl, .inr (.inr (.inr ⟨HR.out.1, HR.out.2, rfl, HBg.out, HXX.out.2.2, rfl⟩)), hTX.below (Below.refl _ _).drew, ?_, hB'.drew⟩
      · simp [results, Try.results35, go_sem, z0, z1, z2, Tm.val]
      · rw [List.length_map, List.map_map]
        exact owns_block hRw (fun _ _ => rfl)
end Go.Proofs.Ytmggaclaoefdaaa

namespace Go.Proofs.Ytmggaclaoefdaaa
open Go.RowKit Go.ChangeShapes Go.WideShapes

instance : Inhabited Cl := ⟨⟨0, 0, ⟨#[]⟩⟩⟩
def cellsC (c : Cl) : List Value := [.int .i64 c.k, .int .i64 c.n, .string c.nm]
section
variable {H : Type} {enc : TypeId × Value → H} {W : World} {spare : Nat → Bool} {held : Bool}
end
end Go.Proofs.Ytmggaclaoefdaaa
