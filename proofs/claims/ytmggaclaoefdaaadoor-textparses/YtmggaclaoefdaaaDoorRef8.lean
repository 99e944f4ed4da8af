/- The reference's reader: ReadProgram. -/
import Derived.Test.YtmggaclaoefdaaaDoorRef7
namespace Go.Proofs.YtmggaclaoefdaaaDoor
open Go.RowKit

theorem addr_add (b j : Nat) : (⟨b, 0, none⟩ : Addr).add j = ⟨b, j, none⟩ := by unfold Addr.add; split <;> simp_all
theorem LstC.keepB {lo : Nat} {w w' : World} {v : Value} {cs : List (Tm × Tm)} {ds : List Cl} (h : LstC lo w v cs ds) (hB : Below w.heap.size w w') : LstC lo w' v cs ds := by
  refine ⟨h.own.kept (grown_of_below hB none) ?_, fun c hc => ?_, h.len, h.sim⟩
  · cases v.ownBlock with
    | none => exact .inl rfl
    | some g => exact .inr (by simp)
  · obtain ⟨h1, h2, h3⟩ := h.all c hc
    exact ⟨h1.below hB, h2.below hB, h3⟩
theorem LstC.keepG {lo : Nat} {w w' : World} {v : Value} {b : Nat} {cs : List (Tm × Tm)} {ds : List Cl} (h : LstC lo w v cs ds) (hG : w.grownBy w' (some b)) (hb : ∀ g, v.ownBlock = some g → g ≠ b) (hc : ∀ c ∈ cs, NB b c.1 ∧ NB b c.2) : LstC lo w' v cs ds := by
  refine ⟨h.own.kept hG ?_, fun c hc' => ?_, h.len, h.sim⟩
  · cases hv : v.ownBlock with
    | none => exact .inl rfl
    | some g => exact .inr (by simpa using hb g hv)
  · obtain ⟨h1, h2, h3⟩ := h.all c hc'
    exact ⟨h1.grown hG (fun k hk => by obtain rfl := Option.some.inj hk; exact (hc c hc').1), h2.grown hG (fun k hk => by obtain rfl := Option.some.inj hk; exact (hc c hc').2), h3⟩
def ansP (n : Nat) (s : ByteArray) (w : World) (e : Ending) (w' : World) : Prop :=
  Below w.heap.size w w' ∧ ((6000 < s.size ∧ e = .returned (.tuple #[.slice none 0 0, .int .i64 0, .int .i64 2])) ∨ (s.size ≤ 6000 ∧ ∃ q : Nat, pProg s.data.toList n (s.size + 1) 0 = .no q ∧ e = .returned (.tuple #[.slice none 0 0, .int .i64 q, .int .i64 1])) ∨ (s.size ≤ 6000 ∧ ∃ P ds q, pProg s.data.toList n (s.size + 1) 0 = .ok ds q ∧ PSim P ds ∧ PIn w' P ∧ ((progV P = 0 ∧ e = .returned (.tuple #[.slice P.a P.len P.cap, .int .i64 0, .int .i64 0])) ∨ (progV P ≠ 0 ∧ e = .returned (.tuple #[.slice none 0 0, .int .i64 0, .int .i64 (progV P)])))))

set_option maxRecDepth 100000 in
set_option maxHeartbeats 8000000 in
theorem readProgram_any (n : Nat) (s : ByteArray) (w : World) (hs : s.size ≤ maxLen) (hn : s.size < n) :
    Calls Tryd.prog 15 #[.string s] w (ansP n s w) := by
  have hs2 : s.size ≤ 2 ^ 63 - 1 := hs
  by_cases hz : 6000 < s.size
  · have hd : decide ((s.size : Int) > 6000) = true := decide_eq_true (by omega)
    have HZ : Hid (6000 < s.size) := hz
    clear hz hs hn
    go_enter Tryd.func15, Tryd.ntmps15
    go_wp2_with fail
    go_ret3
    exact ⟨Below.refl _ _, .inl ⟨HZ.out, rfl⟩⟩
  have hd : decide ((s.size : Int) > 6000) = false := decide_eq_false (by omega)
  have HZ : Hid (s.size ≤ 6000) := Nat.le_of_not_lt hz
  have h6 : s.size ≤ 6000 := HZ.out
  have HLL : Hid (s.data.toList.length = s.size) := (size_list s).symm
  obtain ⟨i0, hi, hz0, hz1, hz2⟩ := info_parts Tryd.info50
  clear hz hs
  go_enter Tryd.func15, Tryd.ntmps15
  go_wp2_with fail
  go_loopg [5, 6] (s.size + 1) (fun fu v a wr => ∃ (cs : List (Tm × Tm)) (ds : List Cl) (q : Nat), a = .int .i64 (q : Nat) ∧ LstC w.heap.size wr v cs ds ∧ cs.length ≤ q ∧ pProg s.data.toList n (s.size + 1) 0 = prepC ds (pProg s.data.toList n fu q) ∧ q ≤ s.size ∧ s.size < fu + q ∧ Below w.heap.size w wr)
  case atStart =>
    refine ⟨[], [], 0, rfl, ⟨World.ownsRow_nil _ _ _ _, fun c hc => absurd hc (by simp), rfl, fun i hi => absurd hi (Nat.not_lt_zero i)⟩, Nat.le_refl _, ?_, Nat.zero_le _, by omega, Below.refl _ _⟩
    cases pProg s.data.toList n (s.size + 1) 0 <;> simp [prepC]
  case round =>
    obtain ⟨cs, ds, q, rfl, hL, hcq, hpt, hq1, hfu, hB⟩ := hrel
    have HL : Hid (LstC w.heap.size wr u5 cs ds) := hL
    have HPt : Hid (pProg s.data.toList n (s.size + 1) 0 = prepC ds (pProg s.data.toList n gk q)) := hpt
    have HB : Hid (Below w.heap.size w wr) := hB
    obtain ⟨f, hf'⟩ : ∃ f, gk = f + 1 := ⟨gk - 1, by omega⟩
    have HP0 : Hid (pProg s.data.toList n gk q = if q < s.size then
      match pClause s.data.toList n q with
      | .no r => .no r
      | .ok c q => prepC [c] (pProg s.data.toList n f q)
    else .ok [] q) := by rw [Hid, hf', ← HLL.out]; rfl
    have hfk : f < gk := by omega
    have hff : s.size ≤ f + q := by omega
    clear hf' hL hpt hB
    by_cases hlt : q < s.size
    case neg =>
      have HP2 : Hid (pProg s.data.toList n (s.size + 1) 0 = .ok ds q) := by rw [Hid, HPt.out, HP0.out, if_neg hlt]; simp [prepC]
      have hd2 : decide ((q : Int) < (s.size : Int)) = false := by simpa using hlt
      obtain ⟨P, hv, hP, _, hS⟩ := HL.out.prog
      have HPI : Hid (PIn wr P) := hP
      have HS : Hid (PSim P ds) := hS
      have HVV : Hid (u5 = .slice P.a P.len P.cap) := hv
      subst hv
      clear hP hS
      go_wp2_with fail
      refine (checkProgram_any P _ HPI.out).mono ?_
      rintro e w2 ⟨rfl, hb2⟩
      have HB2 : Hid (Below w.heap.size w w2) := HB.out.trans (hb2.mono HB.out.size)
      have HPI2 : Hid (PIn w2 P) := HPI.out.below hb2
      clear hb2
      by_cases hv : progV P = 0
      · have HV : Hid (progV P = 0) := hv
        rw [hv]
        clear hv
        go_wp2_with fail
        go_ret3
        exact ⟨HB2.out, .inr (.inr ⟨HZ.out, P, ds, q, HP2.out, HS.out, HPI2.out, .inl ⟨HV.out, rfl⟩⟩)⟩
      · have HV : Hid (progV P ≠ 0) := hv
        have hvb : (progV P != 0) = true := bne_iff_ne.2 hv
        clear hv
        go_wp2_with fail
        go_ret3
        exact ⟨HB2.out, .inr (.inr ⟨HZ.out, P, ds, q, HP2.out, HS.out, HPI2.out, .inr ⟨HV.out, rfl⟩⟩)⟩
    have HP2 : Hid (pProg s.data.toList n (s.size + 1) 0 = prepC ds (match pClause s.data.toList n q with
      | .no r => .no r
      | .ok c q => prepC [c] (pProg s.data.toList n f q))) := by rw [Hid, HPt.out, HP0.out, if_pos hlt]
    have hd2 : decide ((q : Int) < (s.size : Int)) = true := by simpa using hlt
    have HT : Hid (Calls Tryd.prog 32 #[.string s, .int .i64 q] wr (RT n s q wr)) := termAt_of n (listAt_all n) s q wr h6 hq1 (by omega)
    go_wp2_with fail
    refine HT.out.mono ?_
    rintro e w1 ⟨hb1, (⟨T, U, r, hpt, hsim, rfl, hT1, hA1, hr1, hr2⟩ | ⟨X, r, hpt, rfl⟩)⟩
    case inr =>
      have HP3 : Hid (pProg s.data.toList n (s.size + 1) 0 = .no r) := by rw [Hid, HP2.out, pClause, hpt]; rfl
      have HB1 : Hid (Below w.heap.size w (w1.alloc (.cells #[.int .i64 X.v, .string X.nm, .slice X.a X.len X.cap] 48))) := (HB.out.trans (hb1.mono HB.out.size)).alloc (Nat.le_trans HB.out.size hb1.size) _
      rw [show X.val = .agg #[.int .i64 X.v, .string X.nm, .slice X.a X.len X.cap] from rfl]
      clear hpt hb1
      go_wp2_with fail
      go_ret3
      exact ⟨HB1.out, .inr (.inl ⟨HZ.out, r, HP3.out, rfl⟩)⟩
    have HP3 : Hid (pProg s.data.toList n (s.size + 1) 0 = prepC ds (match (if s.data.toList[r]? = some 32 then
      match mAt s.data.toList r [32, 58, 45, 32] with
      | some r => .no r
      | none =>
        match pTerms s.data.toList n (r + 4) with
        | .no r => .no r
        | .ok us r => pFin s.data.toList U us r
    else pFin s.data.toList U [] r : R (Tm × List Tm)) with
      | .no r => .no r
      | .ok c q => prepC [c] (pProg s.data.toList n f q))) := by rw [Hid, HP2.out, pClause, hpt] <;> rfl
    rw [show T.val = .agg #[.int .i64 T.v, .string T.nm, .slice T.a T.len T.cap] from rfl]
    have HS : Hid (Sim T U) := hsim
    have hsz0 : w.heap.size ≤ w1.heap.size := Nat.le_trans HB.out.size hb1.size
    have hszr : wr.heap.size ≤ w1.heap.size := hb1.size
    have HBx : Hid (Below w1.heap.size w1 ((w1.alloc (.cells #[.int .i64 T.v, .string T.nm, .slice T.a T.len T.cap] 48)).alloc (.cells #[.int .i64 T.v, .string T.nm, .slice T.a T.len T.cap, .slice none 0 0] 50))) := ((Below.refl _ _).alloc (Nat.le_refl _) _).alloc (by simp) _
    have HB3 : Hid (Below w.heap.size w ((w1.alloc (.cells #[.int .i64 T.v, .string T.nm, .slice T.a T.len T.cap] 48)).alloc (.cells #[.int .i64 T.v, .string T.nm, .slice T.a T.len T.cap, .slice none 0 0] 50))) := (HB.out.trans (hb1.mono HB.out.size)).trans (HBx.out.mono hsz0)
    have HT3 : Hid (TIn ((w1.alloc (.cells #[.int .i64 T.v, .string T.nm, .slice T.a T.len T.cap] 48)).alloc (.cells #[.int .i64 T.v, .string T.nm, .slice T.a T.len T.cap, .slice none 0 0] 50)) T) := hT1.below HBx.out
    have HA1 : Hid (Above wr.heap.size T) := hA1
    have HL3 : Hid (LstC w.heap.size ((w1.alloc (.cells #[.int .i64 T.v, .string T.nm, .slice T.a T.len T.cap] 48)).alloc (.cells #[.int .i64 T.v, .string T.nm, .slice T.a T.len T.cap, .slice none 0 0] 50)) u5 cs ds) := (HL.out.keepB hb1).keepB HBx.out
    have HNT : Hid (∀ g, u5.ownBlock = some g → g < wr.heap.size ∧ NB g T) := fun g hg => ⟨(HL.out.own.lt g hg).2, hA1.nb (HL.out.own.lt g hg).2⟩
    have HY3 : Hid (((w1.alloc (.cells #[.int .i64 T.v, .string T.nm, .slice T.a T.len T.cap] 48)).alloc (.cells #[.int .i64 T.v, .string T.nm, .slice T.a T.len T.cap, .slice none 0 0] 50)).heap[w1.heap.size + 1]? = some (.cells #[.int .i64 T.v, .string T.nm, .slice T.a T.len T.cap, .slice none 0 0] 50)) := by
      have := heap_alloc_new (w1.alloc (.cells #[.int .i64 T.v, .string T.nm, .slice T.a T.len T.cap] 48)) (.cells #[.int .i64 T.v, .string T.nm, .slice T.a T.len T.cap, .slice none 0 0] 50)
      rwa [show (w1.alloc (.cells #[.int .i64 T.v, .string T.nm, .slice T.a T.len T.cap] 48)).heap.size = w1.heap.size + 1 from by simp] at this
    have hs3 : ((w1.alloc (.cells #[.int .i64 T.v, .string T.nm, .slice T.a T.len T.cap] 48)).alloc (.cells #[.int .i64 T.v, .string T.nm, .slice T.a T.len T.cap, .slice none 0 0] 50)).heap.size = w1.heap.size + 2 := by simp
    have hl0 : w.heap.size ≤ wr.heap.size := HB.out.size
    have HTN : Hid (NB (w1.heap.size + 1) T) := hT1.nb (by omega)
    have HKN : Hid (∀ c ∈ cs, NB (w1.heap.size + 1) c.1 ∧ NB (w1.heap.size + 1) c.2) := fun c hc => ⟨(HL.out.all c hc).1.nb (by omega), (HL.out.all c hc).2.1.nb (by omega)⟩
    clear hpt hsim hT1 hA1 hb1
    go_wp2_with fail
    generalize (w1.alloc (.cells #[.int .i64 T.v, .string T.nm, .slice T.a T.len T.cap] 48)).alloc (.cells #[.int .i64 T.v, .string T.nm, .slice T.a T.len T.cap, .slice none 0 0] 50) = w3 at *
    refine (signAt_any s r w3).mono ?_
    rintro e w4 ⟨rfl, rfl⟩
    by_cases h32 : s.data.toList[r]? = some 32
    case neg =>
      have HP5 : Hid (pProg s.data.toList n (s.size + 1) 0 = prepC ds (match pFin s.data.toList U [] r with
        | .no r => .no r
        | .ok c q => prepC [c] (pProg s.data.toList n f q))) := by rw [Hid, HP3.out, if_neg h32]
      have hb2 : (sgn s r == 32) = false := beq_eq_false_iff_ne.2 (fun e => h32 ((sgn_at s r 32 (by decide)).2 e))
      have HY6 : Hid (w4.heap[w1.heap.size + 1]? = some (.cells #[.int .i64 T.v, .string T.nm, .slice T.a T.len T.cap, .slice none 0 0] 50)) := HY3.out
      have HL6 : Hid (LstC w.heap.size w4 u5 cs ds) := HL3.out
      have HT6 : Hid (TIn w4 T) := HT3.out
      have HV6 : Hid (TIn w4 (.mk 0 ⟨#[]⟩ none 0 0 (fun _ => .nil))) := ⟨Nat.zero_le _, Nat.zero_le _, fun i hi => absurd hi (Nat.not_lt_zero i)⟩
      have HB6 : Hid (Below w.heap.size w w4) := HB3.out
      have HVA : Hid (Above w.heap.size (.mk 0 ⟨#[]⟩ none 0 0 (fun _ => .nil))) := ⟨fun h => absurd h (Nat.lt_irrefl 0), fun i hi => absurd hi (Nat.not_lt_zero i)⟩
      have HNB : Hid (∀ g, u5.ownBlock = some g → NB g T ∧ NB g (.mk 0 ⟨#[]⟩ none 0 0 (fun _ => .nil))) := fun g hg => ⟨(HNT.out g hg).2, ⟨fun h => absurd h (Nat.lt_irrefl 0), fun i hi => absurd hi (Nat.not_lt_zero i)⟩⟩
      have HCS : Hid (CSim (T, .mk 0 ⟨#[]⟩ none 0 0 (fun _ => .nil)) (U, [])) := ⟨HS.out, rfl, fun i hi => absurd hi (Nat.not_lt_zero i)⟩
      clear h32
      go_wp2_with fail
      refine (mustAt_any s ⟨#[46, 10]⟩ r w4 HZ.out hr1 (show 2 ≤ 6000 by omega)).mono ?_
      rintro e w8 ⟨(⟨hm, rfl⟩ | ⟨r', hm, rfl⟩), hb8⟩
      case inr =>
        have HP6 : Hid (pProg s.data.toList n (s.size + 1) 0 = .no r') := by
          have hm' : mAt s.data.toList r [46, 10] = some r' := hm
          rw [Hid, HP5.out, pFin, hm']; rfl
        have HB8 : Hid (Below w.heap.size w w8) := HB6.out.trans (hb8.mono HB6.out.size)
        clear hm hb8
        go_wp2_with fail
        go_ret3
        exact ⟨HB8.out, .inr (.inl ⟨HZ.out, r', HP6.out, rfl⟩)⟩
      have hm' : mAt s.data.toList r [46, 10] = none := hm
      have hrs : r + 2 ≤ s.size := mAt_size (x := [46, 10]) hm' hr1
      have HP6 : Hid (pProg s.data.toList n (s.size + 1) 0 = prepC (ds ++ [(U, [])]) (pProg s.data.toList n f (r + 2))) := by rw [Hid, HP5.out, pFin, hm', ← prepC_prep]
      have hl8 : w4.heap.size ≤ w8.heap.size := hb8.size
      have HY8 : Hid (w8.heap[w1.heap.size + 1]? = some (.cells #[.int .i64 T.v, .string T.nm, .slice T.a T.len T.cap, .slice none 0 0] 50)) := (hb8.block _ (by omega)).trans HY6.out
      have HL8 : Hid (LstC w.heap.size w8 u5 cs ds) := HL6.out.keepB hb8
      have HT8 : Hid (TIn w8 T) := HT6.out.below hb8
      have HV8 : Hid (TIn w8 (.mk 0 ⟨#[]⟩ none 0 0 (fun _ => .nil))) := HV6.out.below hb8
      have HB8 : Hid (Below w.heap.size w w8) := HB6.out.trans (hb8.mono HB6.out.size)
      obtain ⟨z0, z1, z2, z3, _, _, _, _⟩ := block_cells4 HY8.out
      clear hm hm' hb8
      have HBx : Hid (Below w8.heap.size w8 (w8.alloc (.cells #[.int .i64 T.v, .string T.nm, .slice T.a T.len T.cap, .slice none 0 0] 50))) := (Below.refl _ _).alloc (Nat.le_refl _) _
      have HB9 : Hid (Below w.heap.size w (w8.alloc (.cells #[.int .i64 T.v, .string T.nm, .slice T.a T.len T.cap, .slice none 0 0] 50))) := HB8.out.trans (HBx.out.mono HB8.out.size)
      have HL9 : Hid (LstC w.heap.size (w8.alloc (.cells #[.int .i64 T.v, .string T.nm, .slice T.a T.len T.cap, .slice none 0 0] 50)) u5 cs ds) := HL8.out.keepB HBx.out
      have HT9 : Hid (TIn (w8.alloc (.cells #[.int .i64 T.v, .string T.nm, .slice T.a T.len T.cap, .slice none 0 0] 50)) T) := HT8.out.below HBx.out
      have HV9 : Hid (TIn (w8.alloc (.cells #[.int .i64 T.v, .string T.nm, .slice T.a T.len T.cap, .slice none 0 0] 50)) (.mk 0 ⟨#[]⟩ none 0 0 (fun _ => .nil))) := HV8.out.below HBx.out
      have HN9 : Hid (∀ j u, (flat4 [(T, (.mk 0 ⟨#[]⟩ none 0 0 (fun _ => .nil)))])[j]? = some u → (w8.alloc (.cells #[.int .i64 T.v, .string T.nm, .slice T.a T.len T.cap, .slice none 0 0] 50)).cell? ((⟨w8.heap.size, 0, none⟩ : Addr).add j) = some u) := by
        intro j u hj
        have hb := heap_alloc_new w8 (.cells #[.int .i64 T.v, .string T.nm, .slice T.a T.len T.cap, .slice none 0 0] 50)
        have hadd : (⟨w8.heap.size, 0, none⟩ : Addr).add j = ⟨w8.heap.size, j, none⟩ := addr_add _ _
        rw [hadd, cell_of_row _ _ _ _ _ _ hb]
        simpa [flat4, cells4, Tm.a, Tm.len, Tm.cap] using hj
      have hsz9 : w.heap.size ≤ (w8.alloc (.cells #[.int .i64 T.v, .string T.nm, .slice T.a T.len T.cap, .slice none 0 0] 50)).heap.size := HB9.out.size
      go_wp2_with (at_builtin; refine wpList_append_own_at _ rfl (.tmp 64) (.tmp 66) 23 rfl w.heap.size 50 i0 (.agg #[.int .i64 0, .string ByteArray.empty, .slice none 0 0, .slice none 0 0]) 4 72 Tryd.underlying23 hi hz0 hz1 hz2 rfl (by decide) u5 cs.length (flat4 cs) rfl HL9.out.own ⟨w8.heap.size, 0, none⟩ 1 1 (flat4 [(T, (.mk 0 ⟨#[]⟩ none 0 0 (fun _ => .nil)))]) rfl rfl HN9.out (flat4_one _) (by unfold maxLen; omega) (by omega) hsz9 ?_; intro v' w10 hown' hgrow hnil hat)
      have HB10 : Hid (Below w.heap.size w w10) := by
        have hgl : ∀ g, u5.ownBlock = some g → w.heap.size ≤ g := fun g hg => (HL9.out.own.lt g hg).1
        exact ⟨hgrow.os.trans HB9.out.os, hgrow.tape.trans HB9.out.tape, hgrow.output.trans HB9.out.output, Nat.le_trans HB9.out.size hgrow.size, fun k hk => (hgrow.block k (Nat.lt_of_lt_of_le hk HB9.out.size) (fun e => by have := hgl k e.symm; omega)).trans (HB9.out.block k hk)⟩
      have HL10 : Hid (LstC w.heap.size w10 v' (cs ++ [(T, (.mk 0 ⟨#[]⟩ none 0 0 (fun _ => .nil)))]) (ds ++ [(U, [])])) := HL9.out.more HT9.out HV9.out (HA1.out.mono hl0) HVA.out HNB.out HCS.out hown' hgrow hat
      clear hown' hgrow hnil hat
      have hcl : cs.length + 1 ≤ r + 2 := by omega
      have hfl : s.size < f + (r + 2) := by omega
      go_roundg f
      case measure => exact hfk
      case rel => exact ⟨cs ++ [(T, (.mk 0 ⟨#[]⟩ none 0 0 (fun _ => .nil)))], ds ++ [(U, [])], r + 2, rfl, HL10.out, by rw [List.length_append]; exact hcl, HP6.out, hrs, hfl, HB10.out⟩

    have HP4 : Hid (pProg s.data.toList n (s.size + 1) 0 = prepC ds (match (match mAt s.data.toList r [32, 58, 45, 32] with
      | some r => .no r
      | none =>
        match pTerms s.data.toList n (r + 4) with
        | .no r => .no r
        | .ok us r => pFin s.data.toList U us r : R (Tm × List Tm)) with
      | .no r => .no r
      | .ok c q => prepC [c] (pProg s.data.toList n f q))) := by rw [Hid, HP3.out, if_pos h32]
    have hb2 : (sgn s r == 32) = true := beq_iff_eq.2 ((sgn_at s r 32 (by decide)).1 h32)
    clear h32
    go_wp2_with fail
    refine (mustAt_any s ⟨#[32, 58, 45, 32]⟩ r _ h6 hr1 (show 4 ≤ 6000 by omega)).mono ?_
    rintro e w5 ⟨(⟨hm, rfl⟩ | ⟨r', hm, rfl⟩), hb5⟩
    case inr =>
      have HP6 : Hid (pProg s.data.toList n (s.size + 1) 0 = .no r') := by
        have hm' : mAt s.data.toList r [32, 58, 45, 32] = some r' := hm
        rw [Hid, HP4.out, hm']; rfl
      have HB8 : Hid (Below w.heap.size w w5) := HB3.out.trans (hb5.mono HB3.out.size)
      clear hm hb5
      go_wp2_with fail
      go_ret3
      exact ⟨HB8.out, .inr (.inl ⟨HZ.out, r', HP6.out, rfl⟩)⟩
    have hm' : mAt s.data.toList r [32, 58, 45, 32] = none := hm
    have hrs4 : r + 4 ≤ s.size := mAt_size (x := [32, 58, 45, 32]) hm' hr1
    have HP4b : Hid (pProg s.data.toList n (s.size + 1) 0 = prepC ds (match (match pTerms s.data.toList n (r + 4) with
        | .no r => .no r
        | .ok us r => pFin s.data.toList U us r : R (Tm × List Tm)) with
      | .no r => .no r
      | .ok c q => prepC [c] (pProg s.data.toList n f q))) := by rw [Hid, HP4.out, hm']
    have hl5 : w4.heap.size ≤ w5.heap.size := hb5.size
    have HY5 : Hid (w5.heap[w1.heap.size + 1]? = some (.cells #[.int .i64 T.v, .string T.nm, .slice T.a T.len T.cap, .slice none 0 0] 50)) := (hb5.block _ (by omega)).trans HY3.out
    have HL5 : Hid (LstC w.heap.size w5 u5 cs ds) := HL3.out.keepB hb5
    have HT5 : Hid (TIn w5 T) := HT3.out.below hb5
    have HB5 : Hid (Below w.heap.size w w5) := HB3.out.trans (hb5.mono HB3.out.size)
    clear hm hm' hb5
    have HLc : Hid (Calls Tryd.prog 35 #[.string s, .int .i64 ((r + 4 : Nat) : Int)] w5 fun e w' => Below w5.heap.size w5 w' ∧ ((∃ T us q, pTerms s.data.toList n (r + 4) = .ok us q ∧ BSim T us ∧ e = .returned (.tuple #[.slice T.a T.len T.cap, .int .i64 (q : Nat), .bool true]) ∧ TIn w' T ∧ Above w5.heap.size T ∧ q ≤ s.size ∧ r + 4 < q) ∨ (∃ q, pTerms s.data.toList n (r + 4) = .no q ∧ e = .returned (.tuple #[.slice none 0 0, .int .i64 (q : Nat), .bool false])))) := listAt_all n s (r + 4) w5 h6 hrs4 (by omega)
    go_wp2_with fail
    refine HLc.out.mono ?_
    rintro e w6 ⟨hb6, (⟨V, us, x, hpt, hsim, rfl, hV6, hAV, hx1, hx2⟩ | ⟨x, hpt, rfl⟩)⟩
    all_goals
      have hl6 : w5.heap.size ≤ w6.heap.size := hb6.size
      have HY6' : Hid (w6.heap[w1.heap.size + 1]? = some (.cells #[.int .i64 T.v, .string T.nm, .slice T.a T.len T.cap, .slice none 0 0] 50)) := (hb6.block _ (by omega)).trans HY5.out
      obtain ⟨y0, y1, y2, y3, g0, g1, g2, g3⟩ := block_cells4 HY6'.out
    case inr =>
      have HP6 : Hid (pProg s.data.toList n (s.size + 1) 0 = .no x) := by rw [Hid, HP4b.out, hpt]; rfl
      have HB8 : Hid (Below w.heap.size w (w6.setCell ⟨w1.heap.size + 1, 3, none⟩ (.slice none 0 0))) := by
        have hgs := grown_set (W := w6) (w1.heap.size + 1) 3 (.slice none 0 0)
        have HB6 := HB5.out.trans (hb6.mono HB5.out.size)
        exact ⟨hgs.os.trans HB6.os, hgs.tape.trans HB6.tape, hgs.output.trans HB6.output, Nat.le_trans HB6.size hgs.size, fun k hk => (hgs.block k (Nat.lt_of_lt_of_le hk HB6.size) (by simp; omega)).trans (HB6.block k hk)⟩
      clear hpt hb6
      go_wp2_with fail
      go_ret3
      exact ⟨HB8.out, .inr (.inl ⟨HZ.out, x, HP6.out, rfl⟩)⟩
    have HP5 : Hid (pProg s.data.toList n (s.size + 1) 0 = prepC ds (match pFin s.data.toList U us x with
        | .no r => .no r
        | .ok c q => prepC [c] (pProg s.data.toList n f q))) := by rw [Hid, HP4b.out, hpt]
    have hgs := grown_set (W := w6) (w1.heap.size + 1) 3 (.slice V.a V.len V.cap)
    have HB6' : Hid (Below w.heap.size w w6) := HB5.out.trans (hb6.mono HB5.out.size)
    have HB6 : Hid (Below w.heap.size w (w6.setCell ⟨w1.heap.size + 1, 3, none⟩ (.slice V.a V.len V.cap))) := ⟨hgs.os.trans HB6'.out.os, hgs.tape.trans HB6'.out.tape, hgs.output.trans HB6'.out.output, Nat.le_trans HB6'.out.size hgs.size, fun k hk => (hgs.block k (Nat.lt_of_lt_of_le hk HB6'.out.size) (by simp; omega)).trans (HB6'.out.block k hk)⟩
    have HY6 : Hid ((w6.setCell ⟨w1.heap.size + 1, 3, none⟩ (.slice V.a V.len V.cap)).heap[w1.heap.size + 1]? = some (.cells #[.int .i64 T.v, .string T.nm, .slice T.a T.len T.cap, .slice V.a V.len V.cap] 50)) := by
      have h5 := HY6'.out
      rw [Hid]
      simp only [World.setCell, Array.getElem?_modify]
      simp [h5]
    have HL6 : Hid (LstC w.heap.size (w6.setCell ⟨w1.heap.size + 1, 3, none⟩ (.slice V.a V.len V.cap)) u5 cs ds) := (HL5.out.keepB hb6).keepG hgs (fun g hg => by have := (HNT.out g hg).1; omega) HKN.out
    have HT6 : Hid (TIn (w6.setCell ⟨w1.heap.size + 1, 3, none⟩ (.slice V.a V.len V.cap)) T) := (HT5.out.below hb6).grown hgs (fun k hk => by obtain rfl := Option.some.inj hk; exact HTN.out)
    have HV6 : Hid (TIn (w6.setCell ⟨w1.heap.size + 1, 3, none⟩ (.slice V.a V.len V.cap)) V) := hV6.grown hgs (fun k hk => by obtain rfl := Option.some.inj hk; exact hAV.nb (by omega))
    have HVA : Hid (Above w.heap.size V) := hAV.mono (by omega)
    have HNB : Hid (∀ g, u5.ownBlock = some g → NB g T ∧ NB g V) := fun g hg => ⟨(HNT.out g hg).2, hAV.nb (by have := (HNT.out g hg).1; omega)⟩
    have HCS : Hid (CSim (T, V) (U, us)) := ⟨HS.out, hsim⟩
    have hl7 : (w6.setCell ⟨w1.heap.size + 1, 3, none⟩ (.slice V.a V.len V.cap)).heap.size = w6.heap.size := by simp [World.setCell]
    clear hpt hsim hV6 hAV hgs hb6
    go_wp2_with fail
    generalize w6.setCell ⟨w1.heap.size + 1, 3, none⟩ (.slice V.a V.len V.cap) = w7 at *
    refine (mustAt_any s ⟨#[46, 10]⟩ x w7 HZ.out hx1 (show 2 ≤ 6000 by omega)).mono ?_
    rintro e w8 ⟨(⟨hm, rfl⟩ | ⟨r', hm, rfl⟩), hb8⟩
    case inr =>
      have HP6 : Hid (pProg s.data.toList n (s.size + 1) 0 = .no r') := by
        have hm' : mAt s.data.toList x [46, 10] = some r' := hm
        rw [Hid, HP5.out, pFin, hm']; rfl
      have HB8 : Hid (Below w.heap.size w w8) := HB6.out.trans (hb8.mono HB6.out.size)
      clear hm hb8
      go_wp2_with fail
      go_ret3
      exact ⟨HB8.out, .inr (.inl ⟨HZ.out, r', HP6.out, rfl⟩)⟩
    have hm' : mAt s.data.toList x [46, 10] = none := hm
    have hrs : x + 2 ≤ s.size := mAt_size (x := [46, 10]) hm' hx1
    have HP6 : Hid (pProg s.data.toList n (s.size + 1) 0 = prepC (ds ++ [(U, us)]) (pProg s.data.toList n f (x + 2))) := by rw [Hid, HP5.out, pFin, hm', ← prepC_prep]
    have hl8 : w7.heap.size ≤ w8.heap.size := hb8.size
    have HY8 : Hid (w8.heap[w1.heap.size + 1]? = some (.cells #[.int .i64 T.v, .string T.nm, .slice T.a T.len T.cap, .slice V.a V.len V.cap] 50)) := (hb8.block _ (by omega)).trans HY6.out
    have HL8 : Hid (LstC w.heap.size w8 u5 cs ds) := HL6.out.keepB hb8
    have HT8 : Hid (TIn w8 T) := HT6.out.below hb8
    have HV8 : Hid (TIn w8 V) := HV6.out.below hb8
    have HB8 : Hid (Below w.heap.size w w8) := HB6.out.trans (hb8.mono HB6.out.size)
    obtain ⟨z0, z1, z2, z3, _, _, _, _⟩ := block_cells4 HY8.out
    clear hm hm' hb8
    have HBx : Hid (Below w8.heap.size w8 (w8.alloc (.cells #[.int .i64 T.v, .string T.nm, .slice T.a T.len T.cap, .slice V.a V.len V.cap] 50))) := (Below.refl _ _).alloc (Nat.le_refl _) _
    have HB9 : Hid (Below w.heap.size w (w8.alloc (.cells #[.int .i64 T.v, .string T.nm, .slice T.a T.len T.cap, .slice V.a V.len V.cap] 50))) := HB8.out.trans (HBx.out.mono HB8.out.size)
    have HL9 : Hid (LstC w.heap.size (w8.alloc (.cells #[.int .i64 T.v, .string T.nm, .slice T.a T.len T.cap, .slice V.a V.len V.cap] 50)) u5 cs ds) := HL8.out.keepB HBx.out
    have HT9 : Hid (TIn (w8.alloc (.cells #[.int .i64 T.v, .string T.nm, .slice T.a T.len T.cap, .slice V.a V.len V.cap] 50)) T) := HT8.out.below HBx.out
    have HV9 : Hid (TIn (w8.alloc (.cells #[.int .i64 T.v, .string T.nm, .slice T.a T.len T.cap, .slice V.a V.len V.cap] 50)) V) := HV8.out.below HBx.out
    have HN9 : Hid (∀ j u, (flat4 [(T, V)])[j]? = some u → (w8.alloc (.cells #[.int .i64 T.v, .string T.nm, .slice T.a T.len T.cap, .slice V.a V.len V.cap] 50)).cell? ((⟨w8.heap.size, 0, none⟩ : Addr).add j) = some u) := by
      intro j u hj
      have hb := heap_alloc_new w8 (.cells #[.int .i64 T.v, .string T.nm, .slice T.a T.len T.cap, .slice V.a V.len V.cap] 50)
      have hadd : (⟨w8.heap.size, 0, none⟩ : Addr).add j = ⟨w8.heap.size, j, none⟩ := addr_add _ _
      rw [hadd, cell_of_row _ _ _ _ _ _ hb]
      simpa [flat4, cells4, Tm.a, Tm.len, Tm.cap] using hj
    have hsz9 : w.heap.size ≤ (w8.alloc (.cells #[.int .i64 T.v, .string T.nm, .slice T.a T.len T.cap, .slice V.a V.len V.cap] 50)).heap.size := HB9.out.size
    go_wp2_with (at_builtin; refine wpList_append_own_at _ rfl (.tmp 64) (.tmp 66) 23 rfl w.heap.size 50 i0 (.agg #[.int .i64 0, .string ByteArray.empty, .slice none 0 0, .slice none 0 0]) 4 72 Tryd.underlying23 hi hz0 hz1 hz2 rfl (by decide) u5 cs.length (flat4 cs) rfl HL9.out.own ⟨w8.heap.size, 0, none⟩ 1 1 (flat4 [(T, V)]) rfl rfl HN9.out (flat4_one _) (by unfold maxLen; omega) (by omega) hsz9 ?_; intro v' w10 hown' hgrow hnil hat)
    have HB10 : Hid (Below w.heap.size w w10) := by
      have hgl : ∀ g, u5.ownBlock = some g → w.heap.size ≤ g := fun g hg => (HL9.out.own.lt g hg).1
      exact ⟨hgrow.os.trans HB9.out.os, hgrow.tape.trans HB9.out.tape, hgrow.output.trans HB9.out.output, Nat.le_trans HB9.out.size hgrow.size, fun k hk => (hgrow.block k (Nat.lt_of_lt_of_le hk HB9.out.size) (fun e => by have := hgl k e.symm; omega)).trans (HB9.out.block k hk)⟩
    have HL10 : Hid (LstC w.heap.size w10 v' (cs ++ [(T, V)]) (ds ++ [(U, us)])) := HL9.out.more HT9.out HV9.out (HA1.out.mono hl0) HVA.out HNB.out HCS.out hown' hgrow hat
    clear hown' hgrow hnil hat
    have hcl : cs.length + 1 ≤ x + 2 := by omega
    have hfl : s.size < f + (x + 2) := by omega
    go_roundg f
    case measure => exact hfk
    case rel => exact ⟨cs ++ [(T, V)], ds ++ [(U, us)], x + 2, rfl, HL10.out, by rw [List.length_append]; exact hcl, HP6.out, hrs, hfl, HB10.out⟩

end Go.Proofs.YtmggaclaoefdaaaDoor
