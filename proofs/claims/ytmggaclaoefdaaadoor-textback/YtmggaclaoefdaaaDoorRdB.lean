/- The reader: a program; goals. -/
import Derived.Test.YtmggaclaoefdaaaDoorRdA
namespace Go.Proofs.YtmggaclaoefdaaaDoor
open Go.RowKit

set_option maxRecDepth 100000 in
set_option maxHeartbeats 4000000 in
theorem program_rd (n : Nat) (b : Nat) (s : ByteArray) (w : World) (hr : RS b s 0 w) (hs : s.size ≤ 6000) (hn : s.size ≤ n) :
    Calls Tryd.prog 29 #[.pointer (some ⟨b, 0, none⟩)] w fun e w' => (∃ P ds q, pProg s.data.toList n (s.size + 1) 0 = .ok ds q ∧ PSim P ds ∧ e = .returned (.slice P.a P.len P.cap) ∧ PIn w' P ∧ PAbove w.heap.size P ∧ G b w w') ∨ (∃ q, pProg s.data.toList n (s.size + 1) 0 = .no q ∧ e = .panicked [pent q] ∧ G b w w') := by
  have hbl := hr.lt
  have HR0 : Hid (RS b s 0 w) := hr
  obtain ⟨i0, hi, hz0, hz1, hz2⟩ := info_parts Tryd.info50
  have hll : s.data.toList.length = s.size := (size_list s).symm
  have HLL : Hid (s.data.toList.length = s.size) := hll
  clear hr hll
  go_enter Tryd.func29, Tryd.ntmps29
  go_wp2_with fail
  go_loopg [3] (s.size + 1) (fun fu v wr => ∃ (cs : List (Tm × Tm)) (ds : List Cl) (q : Nat), LstC w.heap.size wr v cs ds ∧ cs.length ≤ q ∧ pProg s.data.toList n (s.size + 1) 0 = prepC ds (pProg s.data.toList n fu q) ∧ q ≤ s.size ∧ s.size < fu + q ∧ RS b s q wr ∧ G b w wr)
  case atStart =>
    refine ⟨[], [], 0, ⟨World.ownsRow_nil _ _ _ _, fun c hc => absurd hc (by simp), rfl, fun i hi => absurd hi (Nat.not_lt_zero i)⟩, Nat.le_refl _, ?_, Nat.zero_le _, by omega, HR0.out, G.refl _ _⟩
    cases pProg s.data.toList n (s.size + 1) 0 <;> simp [prepC]
  case round =>
    obtain ⟨cs, ds, q, hL, hcq, hpt, hq1, hfu, hR, hG⟩ := hrel
    have HL : Hid (LstC w.heap.size wr u3 cs ds) := hL
    have HPt : Hid (pProg s.data.toList n (s.size + 1) 0 = prepC ds (pProg s.data.toList n gk q)) := hpt
    have HR : Hid (RS b s q wr) := hR
    have HG : Hid (G b w wr) := hG
    clear hL hpt hR hG
    obtain ⟨f, hf'⟩ : ∃ f, gk = f + 1 := ⟨gk - 1, by omega⟩
    have HP0 : Hid (pProg s.data.toList n gk q = if q < s.size then
      match pClause s.data.toList n q with
      | .no r => .no r
      | .ok c q => prepC [c] (pProg s.data.toList n f q)
    else .ok [] q) := by rw [Hid, hf', ← HLL.out]; rfl
    have hfk : f < gk := by omega
    have hff : s.size ≤ f + q := by omega
    clear hf'
    have c0 := HR.out.c0
    have c1 := HR.out.c1
    by_cases hlt : q < s.size
    case neg =>
      have HP2 : Hid (pProg s.data.toList n (s.size + 1) 0 = .ok ds q) := by rw [Hid, HPt.out, HP0.out, if_neg hlt]; simp [prepC]
      have hd : decide ((q : Int) < (s.size : Int)) = false := by simpa using hlt
      go_wp2_with fail
      go_quiet (fail)
      go_wp2_with fail
      go_ret
      obtain ⟨P, hv, hP, hA, hS⟩ := (HL.out.keep (G.drewN b wr nq) hbl).prog
      exact .inl ⟨P, ds, q, HP2.out, hS, by rw [← hv]; rfl, hP, hA, HG.out.trans (G.drewN b wr nq)⟩
    have HP2 : Hid (pProg s.data.toList n (s.size + 1) 0 = prepC ds (match pClause s.data.toList n q with
      | .no r => .no r
      | .ok c q => prepC [c] (pProg s.data.toList n f q))) := by rw [Hid, HPt.out, HP0.out, if_pos hlt]
    have hd : decide ((q : Int) < (s.size : Int)) = true := by simpa using hlt
    go_wp2_with fail
    go_quiet (fail)
    have HR3 : Hid (RS b s q (wr.drewN nq)) := HR.out.drew nq
    have HG3 : Hid (G b w (wr.drewN nq)) := HG.out.trans (G.drewN b wr nq)
    have HL3 : Hid (LstC w.heap.size (wr.drewN nq) u3 cs ds) := HL.out.keep (G.drewN b wr nq) hbl
    generalize wr.drewN nq = w4 at *
    clear c0 c1
    go_wp2_with fail
    refine (clause_rd n b s q w4 HR3.out hs hq1 (by omega)).mono ?_
    rintro e w5 (⟨T, B, U, us, r, hpt, hsim, hbs, rfl, hT5, hB5, hA5, hAB5, hr1, hr2, hR5, hG5⟩ | ⟨r, hpt, rfl, hG5⟩)
    case inr => exact ⟨rfl, .inr ⟨r, by rw [HP2.out, hpt]; rfl, rfl, HG3.out.trans hG5⟩⟩
    rw [show clVal T B = .agg #[.int .i64 T.v, .string T.nm, .slice T.a T.len T.cap, .slice B.a B.len B.cap] from rfl]
    have HP5 : Hid (pProg s.data.toList n (s.size + 1) 0 = prepC (ds ++ [(U, us)]) (pProg s.data.toList n f r)) := by rw [Hid, HP2.out, hpt, ← prepC_prep]
    have HS5 : Hid (CSim (T, B) (U, us)) := ⟨hsim, hbs⟩
    have HB : Hid (Below w5.heap.size w5 (w5.alloc (.cells #[.int .i64 T.v, .string T.nm, .slice T.a T.len T.cap, .slice B.a B.len B.cap] 50))) := (Below.refl _ _).alloc (Nat.le_refl _) _
    have HT5 : Hid (TIn (w5.alloc (.cells #[.int .i64 T.v, .string T.nm, .slice T.a T.len T.cap, .slice B.a B.len B.cap] 50)) T) := hT5.below HB.out
    have HB5 : Hid (TIn (w5.alloc (.cells #[.int .i64 T.v, .string T.nm, .slice T.a T.len T.cap, .slice B.a B.len B.cap] 50)) B) := hB5.below HB.out
    have HA5 : Hid (Above w4.heap.size T ∧ Above w4.heap.size B) := ⟨hA5, hAB5⟩
    have HR5 : Hid (RS b s r (w5.alloc (.cells #[.int .i64 T.v, .string T.nm, .slice T.a T.len T.cap, .slice B.a B.len B.cap] 50))) := hR5.keep HB.out
    have HG5 : Hid (G b w (w5.alloc (.cells #[.int .i64 T.v, .string T.nm, .slice T.a T.len T.cap, .slice B.a B.len B.cap] 50))) := (HG3.out.trans hG5).trans (G.below HB.out)
    have HL5 : Hid (LstC w.heap.size (w5.alloc (.cells #[.int .i64 T.v, .string T.nm, .slice T.a T.len T.cap, .slice B.a B.len B.cap] 50)) u3 cs ds) := (HL3.out.keep hG5 hbl).keep (G.below (b := b) HB.out) hbl
    have HN5 : Hid (∀ j u, (flat4 [(T, B)])[j]? = some u → (w5.alloc (.cells #[.int .i64 T.v, .string T.nm, .slice T.a T.len T.cap, .slice B.a B.len B.cap] 50)).cell? ((⟨w5.heap.size, 0, none⟩ : Addr).add j) = some u) := by
      intro j u hj
      have hb := heap_alloc_new w5 (.cells #[.int .i64 T.v, .string T.nm, .slice T.a T.len T.cap, .slice B.a B.len B.cap] 50)
      have hadd : (⟨w5.heap.size, 0, none⟩ : Addr).add j = ⟨w5.heap.size, j, none⟩ := by unfold Addr.add; split <;> simp_all
      rw [hadd, cell_of_row _ _ _ _ _ _ hb]
      simpa [flat4, cells4] using hj
    have HNB : Hid (∀ g, u3.ownBlock = some g → NB g T ∧ NB g B) := fun g hg => by
      have := (HL3.out.own.lt g hg).2
      exact ⟨hA5.nb this, hAB5.nb this⟩
    have hl4 : w.heap.size ≤ w4.heap.size := HG3.out.size
    have hsz5 : w.heap.size ≤ (w5.alloc (.cells #[.int .i64 T.v, .string T.nm, .slice T.a T.len T.cap, .slice B.a B.len B.cap] 50)).heap.size := HG5.out.size
    clear hpt hsim hbs hT5 hB5 hA5 hAB5 hR5 hG5
    go_wp2_with (at_builtin; refine wpList_append_own_at _ rfl (.tmp 14) (.tmp 17) 23 rfl w.heap.size 50 i0 (.agg #[.int .i64 0, .string ByteArray.empty, .slice none 0 0, .slice none 0 0]) 4 72 Tryd.underlying23 hi hz0 hz1 hz2 rfl (by decide) u3 cs.length (flat4 cs) rfl HL5.out.own ⟨w5.heap.size, 0, none⟩ 1 1 (flat4 [(T, B)]) rfl rfl HN5.out (flat4_one _) (by unfold maxLen; omega) (by omega) hsz5 ?_; intro v' w6 hown' hgrow hnil hat)
    have HB6 : Hid (G b w w6 ∧ RS b s r w6) := by
      have hgl : ∀ g, u3.ownBlock = some g → w.heap.size ≤ g := fun g hg => (HL5.out.own.lt g hg).1
      refine ⟨⟨hgrow.os.trans HG5.out.os, hgrow.tape.trans HG5.out.tape, hgrow.output.trans HG5.out.output, Nat.le_trans HG5.out.size hgrow.size, fun k hk hb => ?_⟩, ?_⟩
      · exact (hgrow.block k (Nat.lt_of_lt_of_le hk HG5.out.size) (fun e => by have := hgl k e.symm; omega)).trans (HG5.out.block k hk hb)
      · exact (hgrow.block b HR5.out.lt (fun e => by have := hgl b e.symm; omega)).trans HR5.out
    have HL6 : Hid (LstC w.heap.size w6 v' (cs ++ [(T, B)]) (ds ++ [(U, us)])) := HL5.out.more HT5.out HB5.out (HA5.out.1.mono hl4) (HA5.out.2.mono hl4) HNB.out HS5.out hown' hgrow hat
    clear hown' hgrow hnil hat
    go_roundg f
    case measure => exact hfk
    case rel => exact ⟨cs ++ [(T, B)], ds ++ [(U, us)], r, HL6.out, by simp; omega, HP5.out, hr1, by omega, HB6.out.2, HB6.out.1⟩

/-- Goals of a text: all of it. -/
def pGoals (l : List UInt8) (n : Nat) : R (List Tm) :=
  if l = [116, 114, 117, 101] then .ok [] 4
  else match pTerms l n 0 with
    | .no q => .no q
    | .ok us q => if q < l.length then .no q else .ok us q

set_option maxRecDepth 100000 in
set_option maxHeartbeats 4000000 in
theorem goals_rd (n : Nat) (b : Nat) (s : ByteArray) (w : World) (hr : RS b s 0 w) (hs : s.size ≤ 6000) (hn : s.size < n) :
    Calls Tryd.prog 31 #[.pointer (some ⟨b, 0, none⟩)] w fun e w' => (∃ T us q, pGoals s.data.toList n = .ok us q ∧ BSim T us ∧ e = .returned (.slice T.a T.len T.cap) ∧ TIn w' T ∧ Above w.heap.size T ∧ G b w w') ∨ (∃ q, pGoals s.data.toList n = .no q ∧ e = .panicked [pent q] ∧ G b w w') := by
  have HR : Hid (RS b s 0 w) := hr
  have c0 := hr.c0
  have c1 := hr.c1
  have HLL : Hid (s.data.toList.length = s.size) := (size_list s).symm
  have HL : Hid (s.toList = s.data.toList) := ByteArray.toList_eq s
  clear hr
  cases ht : (s.toList == [116, 114, 117, 101])
  case true =>
    have HP : Hid (pGoals s.data.toList n = .ok [] 4) := by rw [Hid, pGoals, if_pos (by rw [← HL.out]; exact beq_iff_eq.1 ht)]
    go_enter Tryd.func31, Tryd.ntmps31
    go_wp2_with fail
    go_ret
    exact .inl ⟨leafT 0 ⟨#[]⟩, [], 4, HP.out, ⟨rfl, fun i hi => absurd hi (Nat.not_lt_zero i)⟩, rfl, leaf_in _ _ _ (size2 _ (by decide)), ⟨fun h => absurd h (Nat.lt_irrefl 0), fun i hi => absurd hi (Nat.not_lt_zero i)⟩, G.refl _ _⟩
  have HP : Hid (pGoals s.data.toList n = match pTerms s.data.toList n 0 with
    | .no q => .no q
    | .ok us q => if q < s.size then .no q else .ok us q) := by rw [Hid, pGoals, if_neg (by rw [← HL.out]; exact beq_eq_false_iff_ne.1 ht), HLL.out]
  go_enter Tryd.func31, Tryd.ntmps31
  go_wp2_with fail
  refine (terms_all n b s 0 w HR.out hs (Nat.zero_le _) (by omega)).mono ?_
  rintro e w5 (⟨B, us, r, hpt, hlen, hpos, hsim, rfl, hB5, hA5, hr1, hr2, hR5, hG5⟩ | ⟨r, hpt, rfl, hG5⟩)
  case inr => exact ⟨rfl, .inr ⟨r, by rw [HP.out, hpt], rfl, hG5⟩⟩
  have HP1 : Hid (pGoals s.data.toList n = if r < s.size then .no r else .ok us r) := by rw [Hid, HP.out, hpt]
  have HBS : Hid (BSim B us) := ⟨hlen, hsim⟩
  have HB5 : Hid (TIn w5 B) := hB5
  have HA5 : Hid (Above w.heap.size B) := hA5
  have HR5 : Hid (RS b s r w5) := hR5
  have HG5 : Hid (G b w w5) := hG5
  have hbl := HR.out.lt
  clear hpt hlen hpos hsim hB5 hA5 hR5 hG5 c0 c1
  have c0 := HR5.out.c0
  have c1 := HR5.out.c1
  by_cases hlt : r < s.size
  · have HP2 : Hid (pGoals s.data.toList n = .no r) := by rw [Hid, HP1.out, if_pos hlt]
    have hd : decide ((r : Int) < (s.size : Int)) = true := by simpa using hlt
    go_wp2_with fail
    go_quiet (fail)
    go_wp2_with fail
    refine (giveUp_any b s r _ (HR5.out.drew nq)).mono ?_
    rintro e w6 ⟨rfl, rfl⟩
    exact ⟨rfl, .inr ⟨r, HP2.out, rfl, HG5.out.trans (G.drewN b w5 nq)⟩⟩
  · have HP2 : Hid (pGoals s.data.toList n = .ok us r) := by rw [Hid, HP1.out, if_neg hlt]
    have hd : decide ((r : Int) < (s.size : Int)) = false := by simpa using hlt
    go_wp2_with fail
    go_quiet (fail)
    go_wp2_with fail
    go_ret
    exact .inl ⟨B, us, r, HP2.out, HBS.out, rfl, HB5.out.grown (G.drewN b w5 nq) (fun k hk => by obtain rfl := Option.some.inj hk; exact HA5.out.nb hbl), HA5.out, HG5.out.trans (G.drewN b w5 nq)⟩
end Go.Proofs.YtmggaclaoefdaaaDoor
