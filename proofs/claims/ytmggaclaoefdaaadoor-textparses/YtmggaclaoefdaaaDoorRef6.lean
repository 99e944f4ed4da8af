/- The reference's reader: termAt, listAt. -/
import Derived.Test.YtmggaclaoefdaaaDoorRef5
namespace Go.Proofs.YtmggaclaoefdaaaDoor
open Go.RowKit

theorem termAt_of (n : Nat) (hts : RC n) (s : ByteArray) (p : Nat) (w : World) (hs : s.size ≤ 6000) (hp : p ≤ s.size) (hf : s.size ≤ n + p) :
    Calls Tryd.prog 32 #[.string s, .int .i64 p] w (RT n s p w) := by
  by_cases hv : s.data.toList[p]? = some 86
  · exact termAt_var n s p w hs hv
  · by_cases hc : s.data.toList[p]? = some 33
    · exact termAt_cut n hts s p w hs hf hv hc
    · exact termAt_word n hts s p w hs hp hf hv hc

/-- A list of terms that is being built: not begun, or in its own memory. -/
structure LstR (lo : Nat) (w : World) (v : Value) (ts us : List Tm) : Prop where
  own : w.ownsRow lo 48 3 v ts.length (flat ts)
  all : ∀ T ∈ ts, TIn w T ∧ Above lo T ∧ ∀ k, v.ownBlock = some k → NB k T
  len : ts.length = us.length
  sim : ∀ i, i < ts.length → Sim (ts.getD i .nil) (us.getD i .nil)
theorem LstR.keep {lo : Nat} {w w' : World} {v : Value} {ts us : List Tm} (h : LstR lo w v ts us) (hB : Below w.heap.size w w') : LstR lo w' v ts us := by
  refine ⟨h.own.kept (grown_of_below hB none) ?_, fun T hT => ⟨(h.all T hT).1.below hB, (h.all T hT).2⟩, h.len, h.sim⟩
  cases v.ownBlock with
  | none => exact .inl rfl
  | some g => exact .inr (by simp)
theorem LstR.more {lo : Nat} {w4 w5 : World} {v v' : Value} {ts us : List Tm} {T U : Tm} (h : LstR lo w4 v ts us) (hT : TIn w4 T) (hA : Above lo T)
    (hN : ∀ g, v.ownBlock = some g → NB g T) (hS : Sim T U)
    (hown : w5.ownsRow lo 48 3 v' (ts.length + 1) (flat ts ++ flat [T])) (hg : w4.grownBy w5 v.ownBlock) (hat : v'.ownBlock = v.ownBlock ∨ v'.ownBlock = some w4.heap.size) : LstR lo w5 v' (ts ++ [T]) (us ++ [U]) := by
  have hnb : ∀ X : Tm, TIn w4 X → (∀ g, v.ownBlock = some g → NB g X) → ∀ g, v'.ownBlock = some g → NB g X := fun X h1 h2 g hg => by
    rcases hat with e | e
    · exact h2 g (by rw [← e]; exact hg)
    · have : g = w4.heap.size := by rw [e] at hg; exact (Option.some.inj hg).symm
      exact h1.nb (by omega)
  refine ⟨?_, ?_, ?_, ?_⟩
  · rw [flat_append, List.length_append]; exact hown
  · intro X hX
    rcases List.mem_append.1 hX with hX | hX
    · obtain ⟨h1, h2, h3⟩ := h.all X hX
      exact ⟨h1.grown hg h3, h2, hnb _ h1 h3⟩
    · rw [List.mem_singleton] at hX
      subst hX
      exact ⟨hT.grown hg hN, hA, hnb _ hT hN⟩
  · rw [List.length_append, List.length_append, h.len]; rfl
  · intro i hi
    rw [List.length_append] at hi
    by_cases hl : i < ts.length
    · have h1 := h.sim i hl
      simpa [List.getD, List.getElem?_append_left hl, List.getElem?_append_left (show i < us.length by rw [← h.len]; exact hl)] using h1
    · have hi' : i = ts.length := by simp at hi; omega
      subst hi'
      have e : us.length = ts.length := h.len.symm
      simpa [List.getD, List.getElem?_append_right, e] using hS
theorem LstR.terms {lo : Nat} {w : World} {v : Value} {ts us : List Tm} (h : LstR lo w v ts us) :
    ∃ T : Tm, v = .slice T.a T.len T.cap ∧ TIn w T ∧ Above lo T ∧ BSim T us := by
  have hget : ∀ i (hi : i < ts.length), ts.getD i .nil = ts[i] := fun i hi => by simp [List.getD, List.getElem?_eq_getElem hi]
  rcases h.own.2 with ⟨rfl, h0⟩ | ⟨g, cap, cur, rfl, hlo, hgg, hnc, hcm, hsz, htk⟩
  · refine ⟨.mk 0 ⟨#[]⟩ none 0 0 (fun _ => .nil), rfl, ⟨Nat.zero_le _, Nat.zero_le _, fun i hi => absurd hi (Nat.not_lt_zero i)⟩, ⟨fun h => absurd h (Nat.lt_irrefl 0), fun i hi => absurd hi (Nat.not_lt_zero i)⟩, ?_, fun i hi => absurd hi (Nat.not_lt_zero i)⟩
    show 0 = us.length
    rw [← h.len, h0]
  · refine ⟨.mk 0 ⟨#[]⟩ (some ⟨g, 0, none⟩) ts.length cap (fun i => ts.getD i .nil), rfl, ⟨Nat.zero_le _, (show ts.length ≤ maxLen from Nat.le_trans hnc hcm), fun i hi => ?_⟩, ⟨fun _ => ⟨g, 0, rfl, hlo⟩, fun i hi => ?_⟩, h.len, fun i hi => h.sim i hi⟩
    · obtain ⟨f0, f1, f2⟩ := flat_get ts i hi
      have hm := h.all _ (List.getElem_mem hi)
      show RowAt w _ i (ts.getD i .nil) ∧ TIn w (ts.getD i .nil)
      rw [hget i hi]
      refine ⟨⟨g, 0, rfl, ?_, ?_, ?_⟩, hm.1⟩
      · rw [Nat.zero_add]; exact (h.own.cellAt (i * 3) (by omega)).trans f0
      · rw [Nat.zero_add]; exact (h.own.cellAt (i * 3 + 1) (by omega)).trans f1
      · rw [Nat.zero_add]; exact (h.own.cellAt (i * 3 + 2) (by omega)).trans f2
    · show Above lo (ts.getD i .nil)
      rw [hget i hi]; exact (h.all _ (List.getElem_mem hi)).2.1

set_option maxRecDepth 100000 in
set_option maxHeartbeats 4000000 in
theorem listAt_step (n : Nat) (hall : ∀ m, m < n → RC m) : RC n := by
  intro s p w hs hp hf
  have HAll : Hid (∀ m, m < n → RC m) := hall
  obtain ⟨m, rfl⟩ : ∃ m, n = m + 1 := ⟨n - 1, by omega⟩
  obtain ⟨i0, hi, hz0, hz1, hz2⟩ := info_parts Tryd.info48
  clear hall
  go_enter Tryd.func35, Tryd.ntmps35
  go_wp2_with fail
  go_loopg [1, 7] m (fun fu a v wr => ∃ (ts us : List Tm) (q : Nat), a = .int .i64 (q : Nat) ∧ LstR w.heap.size wr v ts us ∧ ts.length ≤ q ∧ pTerms s.data.toList (m + 1) p = prep us (pTerms s.data.toList (fu + 1) q) ∧ fu ≤ m ∧ q ≤ s.size ∧ p ≤ q ∧ s.size < fu + 1 + q ∧ Below w.heap.size w wr)
  case atStart =>
    refine ⟨[], [], p, rfl, ⟨World.ownsRow_nil _ _ _ _, fun c hc => absurd hc (by simp), rfl, fun i hi => absurd hi (Nat.not_lt_zero i)⟩, Nat.zero_le _, ?_, Nat.le_refl _, hp, Nat.le_refl _, by omega, Below.refl _ _⟩
    cases pTerms s.data.toList (m + 1) p <;> simp [prep]
  case round =>
    obtain ⟨ts, us, q, rfl, hL, htq, hpt, hfm, hq1, hq2, hfu, hB⟩ := hrel
    have HL : Hid (LstR w.heap.size wr u7 ts us) := hL
    have HPt : Hid (pTerms s.data.toList (m + 1) p = prep us (match pTermW (pTerms s.data.toList gk) s.data.toList q with
      | .no r => .no r
      | .ok t q => prep [t] (pTailW (pTerms s.data.toList gk) s.data.toList q))) := hpt
    have HB : Hid (Below w.heap.size w wr) := hB
    have HT : Hid (Calls Tryd.prog 32 #[.string s, .int .i64 q] wr (RT gk s q wr)) := termAt_of gk (HAll.out gk (by omega)) s q wr hs hq1 (by omega)
    clear hL hpt hB
    go_wp2_with fail
    refine HT.out.mono ?_
    rintro e w1 ⟨hb1, (⟨T, U, r, hpt, hsim, rfl, hT1, hA1, hr1, hr2⟩ | ⟨X, r, hpt, rfl⟩)⟩
    case inr =>
      have HP1 : Hid (pTerms s.data.toList (m + 1) p = .no r) := by rw [Hid, HPt.out, hpt]; rfl
      have HB1 : Hid (Below w.heap.size w (w1.alloc (.cells #[.int .i64 X.v, .string X.nm, .slice X.a X.len X.cap] 48))) := (HB.out.trans (hb1.mono HB.out.size)).alloc (Nat.le_trans HB.out.size hb1.size) _
      rw [show X.val = .agg #[.int .i64 X.v, .string X.nm, .slice X.a X.len X.cap] from rfl]
      clear hpt hb1
      go_wp2_with fail
      go_ret3
      exact ⟨HB1.out, .inr ⟨r, HP1.out, rfl⟩⟩
    have HP1 : Hid (pTerms s.data.toList (m + 1) p = prep (us ++ [U]) (pTailW (pTerms s.data.toList gk) s.data.toList r)) := by rw [Hid, HPt.out, hpt, ← prep_prep]
    rw [show T.val = .agg #[.int .i64 T.v, .string T.nm, .slice T.a T.len T.cap] from rfl]
    have HS : Hid (Sim T U) := hsim
    have hsz0 : w.heap.size ≤ w1.heap.size := Nat.le_trans HB.out.size hb1.size
    have HBx : Hid (Below w1.heap.size w1 ((w1.alloc (.cells #[.int .i64 T.v, .string T.nm, .slice T.a T.len T.cap] 48)).alloc (.cells #[.int .i64 T.v, .string T.nm, .slice T.a T.len T.cap] 48))) := ((Below.refl _ _).alloc (Nat.le_refl _) _).alloc (by simp) _
    have HB3 : Hid (Below w.heap.size w ((w1.alloc (.cells #[.int .i64 T.v, .string T.nm, .slice T.a T.len T.cap] 48)).alloc (.cells #[.int .i64 T.v, .string T.nm, .slice T.a T.len T.cap] 48))) := (HB.out.trans (hb1.mono HB.out.size)).trans (HBx.out.mono hsz0)
    have HT3 : Hid (TIn ((w1.alloc (.cells #[.int .i64 T.v, .string T.nm, .slice T.a T.len T.cap] 48)).alloc (.cells #[.int .i64 T.v, .string T.nm, .slice T.a T.len T.cap] 48)) T) := hT1.below HBx.out
    have HA3 : Hid (Above wr.heap.size T) := hA1
    have HL3 : Hid (LstR w.heap.size ((w1.alloc (.cells #[.int .i64 T.v, .string T.nm, .slice T.a T.len T.cap] 48)).alloc (.cells #[.int .i64 T.v, .string T.nm, .slice T.a T.len T.cap] 48)) u7 ts us) := (HL.out.keep hb1).keep HBx.out
    have HNB : Hid (∀ g, u7.ownBlock = some g → NB g T) := fun g hg => hA1.nb (HL.out.own.lt g hg).2
    have HN3 : Hid (∀ j u, (flat [T])[j]? = some u → ((w1.alloc (.cells #[.int .i64 T.v, .string T.nm, .slice T.a T.len T.cap] 48)).alloc (.cells #[.int .i64 T.v, .string T.nm, .slice T.a T.len T.cap] 48)).cell? ((⟨w1.heap.size + 1, 0, none⟩ : Addr).add j) = some u) := by
      intro j u hj
      have hb := heap_alloc_new (w1.alloc (.cells #[.int .i64 T.v, .string T.nm, .slice T.a T.len T.cap] 48)) (.cells #[.int .i64 T.v, .string T.nm, .slice T.a T.len T.cap] 48)
      rw [show (w1.alloc (.cells #[.int .i64 T.v, .string T.nm, .slice T.a T.len T.cap] 48)).heap.size = w1.heap.size + 1 from by simp] at hb
      have hadd : (⟨w1.heap.size + 1, 0, none⟩ : Addr).add j = ⟨w1.heap.size + 1, j, none⟩ := by unfold Addr.add; split <;> simp_all
      rw [hadd, cell_of_row _ _ _ _ _ _ hb]
      simpa [flat, cells3] using hj
    have hl0 : w.heap.size ≤ wr.heap.size := HB.out.size
    have hsz3 : w.heap.size ≤ ((w1.alloc (.cells #[.int .i64 T.v, .string T.nm, .slice T.a T.len T.cap] 48)).alloc (.cells #[.int .i64 T.v, .string T.nm, .slice T.a T.len T.cap] 48)).heap.size := HB3.out.size
    clear hpt hsim hT1 hA1 hb1
    go_wp2_with (at_builtin; refine wpList_append_own_at _ rfl (.tmp 21) (.tmp 23) 24 rfl w.heap.size 48 i0 (.agg #[.int .i64 0, .string ByteArray.empty, .slice none 0 0]) 3 48 Tryd.underlying24 hi hz0 hz1 hz2 rfl (by decide) u7 ts.length (flat ts) rfl HL3.out.own ⟨w1.heap.size + 1, 0, none⟩ 1 1 (flat [T]) rfl rfl HN3.out (flat_one _) (by unfold maxLen; omega) (by omega) hsz3 ?_; intro v' w6 hown' hgrow hnil hat)
    have HB6 : Hid (Below w.heap.size w w6) := by
      have hgl : ∀ g, u7.ownBlock = some g → w.heap.size ≤ g := fun g hg => (HL3.out.own.lt g hg).1
      exact ⟨hgrow.os.trans HB3.out.os, hgrow.tape.trans HB3.out.tape, hgrow.output.trans HB3.out.output, Nat.le_trans HB3.out.size hgrow.size, fun k hk => (hgrow.block k (Nat.lt_of_lt_of_le hk HB3.out.size) (fun e => by have := hgl k e.symm; omega)).trans (HB3.out.block k hk)⟩
    have HL6 : Hid (LstR w.heap.size w6 v' (ts ++ [T]) (us ++ [U])) := HL3.out.more HT3.out (HA3.out.mono hl0) HNB.out HS.out hown' hgrow hat
    clear hown' hgrow hnil hat
    have ir : sgnI s (r : Int) = sgn s r := rfl
    refine (signAt_any s r w6).mono ?_
    rintro e w7 ⟨rfl, rfl⟩
    by_cases h44 : s.data.toList[r]? = some 44
    case neg =>
      have HP2 : Hid (pTerms s.data.toList (m + 1) p = .ok (us ++ [U]) r) := by rw [Hid, HP1.out, pTailW, if_neg h44]; simp [prep]
      have hb2 : (sgn s r != 44) = true := bne_iff_ne.2 (fun e => h44 ((sgn_at s r 44 (by decide)).2 e))
      clear h44
      go_wp2_with fail
      go_ret3
      obtain ⟨Q, hv, hQ, hQA, hQS⟩ := HL6.out.terms
      exact ⟨HB6.out, .inl ⟨Q, us ++ [U], r, HP2.out, hQS, by rw [hv]; rfl, hQ, hQA, hr1, by omega⟩⟩
    have HP2 : Hid (pTerms s.data.toList (m + 1) p = prep (us ++ [U]) (match mAt s.data.toList r [44, 32] with
      | some r => .no r
      | none => pTerms s.data.toList gk (r + 2))) := by rw [Hid, HP1.out, pTailW, if_pos h44] <;> rfl
    have hb2 : (sgn s r != 44) = false := by rw [(sgn_at s r 44 (by decide)).1 h44]; rfl
    clear h44
    go_wp2_with fail
    refine (mustAt_any s ⟨#[44, 32]⟩ r _ hs hr1 (show 2 ≤ 6000 by omega)).mono ?_
    rintro e w8 ⟨(⟨hm, rfl⟩ | ⟨r', hm, rfl⟩), hb8⟩
    · have hm' : mAt s.data.toList r [44, 32] = none := hm
      have hrs : r + 2 ≤ s.size := mAt_size (x := [44, 32]) hm' hr1
      obtain ⟨f, hf'⟩ : ∃ f, gk = f + 1 := ⟨gk - 1, by omega⟩
      have HP3 : Hid (pTerms s.data.toList (m + 1) p = prep (us ++ [U]) (pTerms s.data.toList (f + 1) (r + 2))) := by rw [Hid, HP2.out, hm', hf']
      have HL8 : Hid (LstR w.heap.size w8 v' (ts ++ [T]) (us ++ [U])) := HL6.out.keep hb8
      have HB8 : Hid (Below w.heap.size w w8) := HB6.out.trans (hb8.mono HB6.out.size)
      have hfk : f < gk := by omega
      have hfs : s.size < f + 1 + (r + 2) := by omega
      have hfm2 : f ≤ m := by omega
      clear hm hm' hb8 hf'
      go_wp2_with fail
      go_roundg f
      case measure => exact hfk
      case rel => exact ⟨ts ++ [T], us ++ [U], r + 2, rfl, HL8.out, by simp; omega, HP3.out, hfm2, hrs, by omega, hfs, HB8.out⟩
    · have HP3 : Hid (pTerms s.data.toList (m + 1) p = .no r') := by
        have hm' : mAt s.data.toList r [44, 32] = some r' := hm
        rw [Hid, HP2.out, hm']; rfl
      have HB8 : Hid (Below w.heap.size w w8) := HB6.out.trans (hb8.mono HB6.out.size)
      clear hm hb8
      go_wp2_with fail
      go_ret3
      exact ⟨HB8.out, .inr ⟨r', HP3.out, rfl⟩⟩
theorem listAt_all : ∀ n, RC n := by
  intro n
  induction n using Nat.strongRecOn with
  | _ n ih => exact listAt_step n ih
end Go.Proofs.YtmggaclaoefdaaaDoor
