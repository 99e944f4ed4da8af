/- The reader: lists of terms. -/
import Derived.Test.YtmggaclaoefdaaaDoorRd7
namespace Go.Proofs.YtmggaclaoefdaaaDoor
open Go.RowKit

theorem ownsRow_heap {w w' : World} (h : w'.heap = w.heap) {base : Nat} {e : TypeId} {size : Nat} {v : Value} {n : Nat} {xs : List Value} (ho : w.ownsRow base e size v n xs) : w'.ownsRow base e size v n xs := by
  unfold World.ownsRow at ho ⊢; rw [h]; exact ho

/-- A list of terms that is being built: in block g, all arguments elsewhere, all in new memory. -/
structure Lst (lo : Nat) (w : World) (g cp : Nat) (ts us : List Tm) : Prop where
  own : w.ownsRow lo 48 3 (.slice (some ⟨g, 0, none⟩) ts.length cp) ts.length (flat ts)
  low : lo ≤ g
  lt : g < w.heap.size
  all : ∀ T ∈ ts, TIn w T ∧ Above lo T ∧ NB g T
  len : ts.length = us.length
  sim : ∀ i, i < ts.length → Sim (ts.getD i .nil) (us.getD i .nil)
theorem Lst.keep {lo : Nat} {w w' : World} {g cp b : Nat} {ts us : List Tm} (h : Lst lo w g cp ts us) (hG : G b w w') (hb : b < lo) : Lst lo w' g cp ts us :=
  ⟨h.own.kept hG (Or.inr (by simp [Value.ownBlock]; have := h.low; omega)), h.low, Nat.lt_of_lt_of_le h.lt hG.size,
    fun T hT => ⟨(h.all T hT).1.grown hG (fun k hk => by obtain rfl := Option.some.inj hk; exact (h.all T hT).2.1.nb hb), (h.all T hT).2⟩, h.len, h.sim⟩
theorem Lst.slice {lo : Nat} {w : World} {g cp : Nat} {ts us : List Tm} (h : Lst lo w g cp ts us) (hb : ts.length ≤ 6000) :
    TIn w (.mk 0 ⟨#[]⟩ (some ⟨g, 0, none⟩) ts.length cp (fun i => ts.getD i .nil)) ∧ Above lo (.mk 0 ⟨#[]⟩ (some ⟨g, 0, none⟩) ts.length cp (fun i => ts.getD i .nil)) := by
  have hget : ∀ i (hi : i < ts.length), ts.getD i .nil = ts[i] := fun i hi => by simp [List.getD, List.getElem?_eq_getElem hi]
  refine ⟨⟨Nat.zero_le _, by unfold maxLen; omega, fun i hi => ?_⟩, fun _ => ⟨g, 0, rfl, h.low⟩, fun i hi => ?_⟩
  · obtain ⟨f0, f1, f2⟩ := flat_get ts i hi
    show RowAt w _ i (ts.getD i .nil) ∧ TIn w (ts.getD i .nil)
    rw [hget i hi]
    refine ⟨⟨g, 0, rfl, ?_, ?_, ?_⟩, (h.all _ (List.getElem_mem hi)).1⟩
    · rw [Nat.zero_add]; exact (h.own.cellAt (i * 3) (by omega)).trans f0
    · rw [Nat.zero_add]; exact (h.own.cellAt (i * 3 + 1) (by omega)).trans f1
    · rw [Nat.zero_add]; exact (h.own.cellAt (i * 3 + 2) (by omega)).trans f2
  · show Above lo (ts.getD i .nil)
    rw [hget i hi]; exact (h.all _ (List.getElem_mem hi)).2.1
/-- One more, by append. -/
theorem Lst.more {lo : Nat} {w4 w5 : World} {g cp g' cp' : Nat} {ts us : List Tm} {T U : Tm} (h : Lst lo w4 g cp ts us) (hT : TIn w4 T) (hA : Above lo T) (hN : NB g T) (hS : Sim T U)
    (hown : w5.ownsRow lo 48 3 (.slice (some ⟨g', 0, none⟩) (ts.length + 1) cp') (ts.length + 1) (flat ts ++ flat [T])) (hg : w4.grownBy w5 (some g)) (hat : g' = g ∨ g' = w4.heap.size) : Lst lo w5 g' cp' (ts ++ [T]) (us ++ [U]) := by
  have hnb : ∀ X : Tm, TIn w4 X → NB g X → NB g' X := fun X h1 h2 => by
    rcases hat with rfl | rfl
    · exact h2
    · exact h1.nb (Nat.le_refl _)
  refine ⟨?_, ?_, ?_, ?_, ?_, ?_⟩
  · rw [flat_append, List.length_append]; exact hown
  · exact (hown.lt g' rfl).1
  · exact (hown.lt g' rfl).2
  · intro X hX
    rcases List.mem_append.1 hX with hX | hX
    · obtain ⟨h1, h2, h3⟩ := h.all X hX
      exact ⟨h1.grown hg (fun k hk => by obtain rfl := Option.some.inj hk; exact h3), h2, hnb X h1 h3⟩
    · rw [List.mem_singleton] at hX
      subst hX
      exact ⟨hT.grown hg (fun k hk => by obtain rfl := Option.some.inj hk; exact hN), hA, hnb X hT hN⟩
  · rw [List.length_append, List.length_append, h.len]; rfl
  · intro i hi
    rw [List.length_append] at hi
    by_cases hl : i < ts.length
    · have h1 := h.sim i hl
      simpa [List.getD, List.getElem?_append_left hl, List.getElem?_append_left (show i < us.length by rw [← h.len]; exact hl)] using h1
    · have hi' : i = ts.length := by simp at hi; omega
      subst hi'
      have e : us.length = ts.length := h.len.symm
      simpa [List.getD, List.getElem?_append_right, e] using hS
theorem prep_prep (a b : List Tm) (r : R (List Tm)) : prep a (prep b r) = prep (a ++ b) r := by cases r <;> simp [prep]

set_option maxRecDepth 100000 in
set_option maxHeartbeats 4000000 in
theorem terms_step (n : Nat) (hall : ∀ m, m < n → TC m) : TC n := by
  intro b s p w hr hs hp hf
  have HAll : Hid (∀ m, m < n → TC m) := hall
  obtain ⟨m, rfl⟩ : ∃ m, n = m + 1 := ⟨n - 1, by omega⟩
  have hbl := hr.lt
  have HT0 := term_of m (hall m (by omega)) b s p w hr hs hp (by omega)
  have HT : Hid (Calls Tryd.prog 59 #[.pointer (some ⟨b, 0, none⟩)] w fun e w' => (∃ T U q, pTermW (pTerms s.data.toList m) s.data.toList p = .ok U q ∧ Sim T U ∧ e = .returned T.val ∧ TIn w' T ∧ Above w.heap.size T ∧ q ≤ s.size ∧ p < q ∧ RS b s q w' ∧ G b w w') ∨ (∃ q, pTermW (pTerms s.data.toList m) s.data.toList p = .no q ∧ e = .panicked [pent q] ∧ G b w w')) := HT0
  have HP : Hid (pTerms s.data.toList (m + 1) p = match pTermW (pTerms s.data.toList m) s.data.toList p with
    | .no r => .no r
    | .ok t q => prep [t] (pTailW (pTerms s.data.toList m) s.data.toList q)) := rfl
  obtain ⟨i0, hi, hz0, hz1, hz2⟩ := info_parts Tryd.info48
  clear hall hr HT0
  go_enter Tryd.func51, Tryd.ntmps51
  go_wp2_with fail
  refine HT.out.mono ?_
  rintro e w1 (⟨T, U, q, hpt, hsim, rfl, hT1, hA1, hq1, hq2, hR1, hG1⟩ | ⟨q, hpt, rfl, hG1⟩)
  case inr => exact ⟨rfl, .inr ⟨q, by rw [HP.out, hpt], rfl, hG1⟩⟩
  have HP1 : Hid (pTerms s.data.toList (m + 1) p = prep [U] (pTailW (pTerms s.data.toList m) s.data.toList q)) := by rw [Hid, HP.out, hpt]
  have HL1 : Hid (Lst w.heap.size (w1.alloc (.cells #[.int .i64 T.v, .string T.nm, .slice T.a T.len T.cap] 48)) w1.heap.size 1 [T] [U]) := by
    have hTa := hT1.below ((Below.refl _ _).alloc (Nat.le_refl _) (.cells #[.int .i64 T.v, .string T.nm, .slice T.a T.len T.cap] 48))
    refine ⟨?_, hG1.size, by simp, fun X hX => ?_, rfl, fun i hi => ?_⟩
    · have := World.ownsRow_lit (base := w.heap.size) (e := 48) (size := 3) w1 #[.int .i64 T.v, .string T.nm, .slice T.a T.len T.cap] 1 hG1.size (by unfold maxLen; omega) rfl
      simpa [flat, cells3] using this
    · rw [List.mem_singleton] at hX
      subst hX
      exact ⟨hTa, hA1, hT1.nb (Nat.le_refl _)⟩
    · have hi0 : i = 0 := by simpa using hi
      subst hi0; exact hsim
  have HR1 : Hid (RS b s q (w1.alloc (.cells #[.int .i64 T.v, .string T.nm, .slice T.a T.len T.cap] 48))) := hR1.keep ((Below.refl _ _).alloc (Nat.le_refl _) _)
  have HG1 : Hid (G b w (w1.alloc (.cells #[.int .i64 T.v, .string T.nm, .slice T.a T.len T.cap] 48))) := hG1.trans (G.alloc b w1 _)
  clear hpt hsim hT1 hA1 hR1 hG1
  rw [show T.val = .agg #[.int .i64 T.v, .string T.nm, .slice T.a T.len T.cap] from rfl]
  go_wp2_with fail
  generalize w1.alloc (.cells #[.int .i64 T.v, .string T.nm, .slice T.a T.len T.cap] 48) = w2 at *
  go_loopg [3] m (fun fu v wr => ∃ (ts us : List Tm) (q g cp : Nat), v = .slice (some ⟨g, 0, none⟩) ts.length cp ∧ Lst w.heap.size wr g cp ts us ∧ 1 ≤ ts.length ∧ ts.length ≤ q ∧ pTerms s.data.toList (m + 1) p = prep us (pTailW (pTerms s.data.toList fu) s.data.toList q) ∧ fu ≤ m ∧ q ≤ s.size ∧ p < q ∧ s.size ≤ fu + q ∧ RS b s q wr ∧ G b w wr)
  case atStart => exact ⟨[T], [U], q, w1.heap.size, 1, rfl, HL1.out, Nat.le_refl _, show 1 ≤ q by omega, HP1.out, Nat.le_refl _, hq1, hq2, by omega, HR1.out, HG1.out⟩
  case round =>
    clear HL1 HP1 HR1 HG1 hq1 hq2
    obtain ⟨ts, us, q, g, cp, rfl, hL, ht1, htq, hpt, hfm, hq1, hq2, hfu, hR, hG⟩ := hrel
    have HL : Hid (Lst w.heap.size wr g cp ts us) := hL
    have HPt : Hid (pTerms s.data.toList (m + 1) p = prep us (pTailW (pTerms s.data.toList gk) s.data.toList q)) := hpt
    have HR : Hid (RS b s q wr) := hR
    have HG : Hid (G b w wr) := hG
    clear hL hpt hR hG
    go_wp2_with fail
    refine (ahead_any b s q 44 wr HR.out hq1).mono ?_
    rintro e w3 ⟨rfl, n3, rfl⟩
    have HR3 : Hid (RS b s q (wr.drewN n3)) := HR.out.drew n3
    have HG3 : Hid (G b w (wr.drewN n3)) := HG.out.trans (G.drewN b wr n3)
    have HL3 : Hid (Lst w.heap.size (wr.drewN n3) g cp ts us) := HL.out.keep (G.drewN b wr n3) hbl
    generalize wr.drewN n3 = w3 at *
    by_cases hc : s.data.toList[q]? = some 44
    case neg =>
      have HP2 : Hid (pTerms s.data.toList (m + 1) p = .ok us q) := by rw [Hid, HPt.out, pTailW, if_neg hc]; simp [prep]
      rw [show atC s q 44 = false from by unfold atC; exact beq_eq_false_iff_ne.2 hc]
      clear hc
      go_wp2_with fail
      go_ret
      obtain ⟨h1, h2⟩ := HL3.out.slice (by omega)
      exact .inl ⟨.mk 0 ⟨#[]⟩ (some ⟨g, 0, none⟩) ts.length cp (fun i => ts.getD i .nil), us, q, HP2.out, HL3.out.len, ht1, HL3.out.sim, rfl, h1, h2, hq1, hq2, HR3.out, HG3.out⟩
    have HP2 : Hid (pTerms s.data.toList (m + 1) p = prep us (match mAt s.data.toList q [44, 32] with
      | some r => .no r
      | none => pTerms s.data.toList gk (q + 2))) := by rw [Hid, HPt.out, pTailW, if_pos hc]; rfl
    rw [show atC s q 44 = true from by unfold atC; rw [hc]; rfl]
    clear hc
    go_wp2_with fail
    refine (must_any b s q ⟨#[44, 32]⟩ _ HR3.out hq1 hs (show 2 ≤ 6000 by omega)).mono ?_
    rintro e w4 (⟨hm, rfl, hR4, hG4⟩ | ⟨r, hm, rfl, hG4⟩)
    case inr => exact ⟨rfl, .inr ⟨r, by rw [HP2.out]; rw [show (⟨#[44, 32]⟩ : ByteArray).data.toList = [44, 32] from rfl] at hm; rw [hm]; rfl, rfl, HG3.out.trans hG4⟩⟩
    have hm' : mAt s.data.toList q [44, 32] = none := hm
    have hqs : q + 2 ≤ s.size := by
      rw [mAt] at hm'
      split at hm'
      · rw [mAt] at hm'
        split at hm'
        · rename_i h
          by_cases h2 : q + 1 < s.size
          · omega
          · rw [get_none s _ h2] at h; exact absurd h (by simp)
        · exact absurd hm' (by simp)
      · exact absurd hm' (by simp)
    obtain ⟨f, hf'⟩ : ∃ f, gk = f + 1 := ⟨gk - 1, by omega⟩
    have HP3 : Hid (pTerms s.data.toList (m + 1) p = prep us (match pTermW (pTerms s.data.toList f) s.data.toList (q + 2) with
      | .no r => .no r
      | .ok t q' => prep [t] (pTailW (pTerms s.data.toList f) s.data.toList q'))) := by rw [Hid, HP2.out, hm', hf']; rfl
    have HF : Hid (gk = f + 1) := hf'
    have hfk : f < gk := by omega
    have HR4 : Hid (RS b s (q + 2) w4) := hR4
    have HG4 : Hid (G b w w4) := HG3.out.trans hG4
    have HL4 : Hid (Lst w.heap.size w4 g cp ts us) := HL3.out.keep hG4 hbl
    have hTC := HAll.out f (by omega)
    have hfs : s.size ≤ f + (q + 2) := by omega
    clear hm hm' hR4 hG4 hf'
    have HT4 : Hid (Calls Tryd.prog 59 #[.pointer (some ⟨b, 0, none⟩)] w4 fun e w' => (∃ T U r, pTermW (pTerms s.data.toList f) s.data.toList (q + 2) = .ok U r ∧ Sim T U ∧ e = .returned T.val ∧ TIn w' T ∧ Above w4.heap.size T ∧ r ≤ s.size ∧ q + 2 < r ∧ RS b s r w' ∧ G b w4 w') ∨ (∃ r, pTermW (pTerms s.data.toList f) s.data.toList (q + 2) = .no r ∧ e = .panicked [pent r] ∧ G b w4 w')) := term_of f hTC b s (q + 2) w4 HR4.out hs hqs hfs
    clear hTC
    go_wp2_with fail
    refine HT4.out.mono ?_
    rintro e w5 (⟨T, U, r, hpt, hsim, rfl, hT5, hA5, hr1, hr2, hR5, hG5⟩ | ⟨r, hpt, rfl, hG5⟩)
    case inr => exact ⟨rfl, .inr ⟨r, by rw [HP3.out, hpt]; rfl, rfl, HG4.out.trans hG5⟩⟩
    rw [show T.val = .agg #[.int .i64 T.v, .string T.nm, .slice T.a T.len T.cap] from rfl]
    have HP5 : Hid (pTerms s.data.toList (m + 1) p = prep (us ++ [U]) (pTailW (pTerms s.data.toList f) s.data.toList r)) := by rw [Hid, HP3.out, hpt, ← prep_prep]
    have HS5 : Hid (Sim T U) := hsim
    have hg4 := HL4.out.lt
    have hl4 := HL4.out.low
    have HB : Hid (Below w5.heap.size w5 (w5.alloc (.cells #[.int .i64 T.v, .string T.nm, .slice T.a T.len T.cap] 48))) := (Below.refl _ _).alloc (Nat.le_refl _) _
    have HT5 : Hid (TIn (w5.alloc (.cells #[.int .i64 T.v, .string T.nm, .slice T.a T.len T.cap] 48)) T) := hT5.below HB.out
    have HA5 : Hid (Above w4.heap.size T) := hA5
    have HR5 : Hid (RS b s r (w5.alloc (.cells #[.int .i64 T.v, .string T.nm, .slice T.a T.len T.cap] 48))) := hR5.keep HB.out
    have HG5 : Hid (G b w (w5.alloc (.cells #[.int .i64 T.v, .string T.nm, .slice T.a T.len T.cap] 48))) := (HG4.out.trans hG5).trans (G.below HB.out)
    have HL5 : Hid (Lst w.heap.size (w5.alloc (.cells #[.int .i64 T.v, .string T.nm, .slice T.a T.len T.cap] 48)) g cp ts us) := (HL4.out.keep hG5 hbl).keep (G.below (b := b) HB.out) hbl
    have HN5 : Hid (∀ j u, (flat [T])[j]? = some u → (w5.alloc (.cells #[.int .i64 T.v, .string T.nm, .slice T.a T.len T.cap] 48)).cell? ((⟨w5.heap.size, 0, none⟩ : Addr).add j) = some u) := by
      intro j u hj
      have hb := heap_alloc_new w5 (.cells #[.int .i64 T.v, .string T.nm, .slice T.a T.len T.cap] 48)
      have hadd : (⟨w5.heap.size, 0, none⟩ : Addr).add j = ⟨w5.heap.size, j, none⟩ := by unfold Addr.add; split <;> simp_all
      rw [hadd, cell_of_row _ _ _ _ _ _ hb]
      simpa [flat, cells3] using hj
    have hlt5 : w4.heap.size ≤ w5.heap.size := hG5.size
    clear hpt hsim hT5 hA5 hR5 hG5
    have hsz5 : w.heap.size ≤ (w5.alloc (.cells #[.int .i64 T.v, .string T.nm, .slice T.a T.len T.cap] 48)).heap.size := by simp; omega
    have hsz6 : (w5.alloc (.cells #[.int .i64 T.v, .string T.nm, .slice T.a T.len T.cap] 48)).heap.size = w5.heap.size + 1 := by simp
    go_wp2_with (at_builtin; refine wpList_append_own_at _ rfl (.tmp 12) (.tmp 15) 24 rfl w.heap.size 48 i0 (.agg #[.int .i64 0, .string ByteArray.empty, .slice none 0 0]) 3 48 Tryd.underlying24 hi hz0 hz1 hz2 rfl (by decide) (.slice (some ⟨g, 0, none⟩) ts.length cp) ts.length (flat ts) rfl HL5.out.own ⟨w5.heap.size, 0, none⟩ 1 1 (flat [T]) rfl rfl HN5.out (flat_one _) (by unfold maxLen; omega) (by omega) hsz5 ?_; intro v' w6 hown' hgrow hnil hat)
    have HB6 : Hid (G b w w6 ∧ RS b s r w6) := by
      refine ⟨⟨hgrow.os.trans HG5.out.os, hgrow.tape.trans HG5.out.tape, hgrow.output.trans HG5.out.output, Nat.le_trans HG5.out.size hgrow.size, fun k hk hb => ?_⟩, ?_⟩
      · exact (hgrow.block k (Nat.lt_of_lt_of_le hk HG5.out.size) (by simp [Value.ownBlock]; omega)).trans (HG5.out.block k hk hb)
      · exact (hgrow.block b HR5.out.lt (by simp [Value.ownBlock]; omega)).trans HR5.out
    rcases hown'.2 with ⟨hv', _⟩ | ⟨g', cap', cur, hv', _⟩
    · exact absurd (hnil.1 hv').1 (by simp)
    subst hv'
    have HL6 : Hid (Lst w.heap.size w6 g' cap' (ts ++ [T]) (us ++ [U])) := HL5.out.more HT5.out (HA5.out.mono (by omega)) (HA5.out.nb hg4) HS5.out hown' hgrow (by
      rcases hat with h | h
      · exact .inl (by simpa [Value.ownBlock] using h)
      · exact .inr (by simpa [Value.ownBlock] using h))
    clear hown' hgrow hnil hat
    go_roundg f
    case measure => exact hfk
    case rel => exact ⟨ts ++ [T], us ++ [U], r, g', cap', by simp, HL6.out, by simp, by simp; omega, HP5.out, by omega, hr1, by omega, by omega, HB6.out.2, HB6.out.1⟩

theorem terms_all : ∀ n, TC n := by
  intro n
  induction n using Nat.strongRecOn with
  | _ n ih => exact terms_step n ih
end Go.Proofs.YtmggaclaoefdaaaDoor
