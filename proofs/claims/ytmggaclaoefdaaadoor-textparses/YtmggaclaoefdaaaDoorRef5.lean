/- The reference's reader: termAt of words. -/
import Derived.Test.YtmggaclaoefdaaaDoorRef4
namespace Go.Proofs.YtmggaclaoefdaaaDoor
open Go.RowKit

set_option maxRecDepth 100000 in
set_option maxHeartbeats 4000000 in
theorem termAt_word (n : Nat) (hts : RC n) (s : ByteArray) (p : Nat) (w : World) (hs : s.size ≤ 6000) (hp : p ≤ s.size) (hf : s.size ≤ n + p) (hv : ¬ s.data.toList[p]? = some 86) (hc : ¬ s.data.toList[p]? = some 33) :
    Calls Tryd.prog 32 #[.string s, .int .i64 p] w (RT n s p w) := by
  have HTC : Hid (RC n) := hts
  have e0 : ¬ sgnI s (p : Int) = 86 := fun e => hv ((sgn_at s p 86 (by decide)).2 e)
  have hb0 : (sgnI s (p : Int) == 86) = false := beq_eq_false_iff_ne.2 e0
  have hb1 : (sgnI s (p : Int) == 33) = false := beq_eq_false_iff_ne.2 (fun e => hc ((sgn_at s p 33 (by decide)).2 e))
  have HM : Hid ((nw s p = 0 → pTermW (pTerms s.data.toList n) s.data.toList p = .no p) ∧ (0 < nw s p → p + nw s p ≤ s.size ∧ pTermW (pTerms s.data.toList n) s.data.toList p = pRest s.data.toList n (s.extract p (p + nw s p)) (p + nw s p))) := by
    refine ⟨fun h => pTermW_noname hv (nw_zero hc h), fun h => ?_⟩
    obtain ⟨h1, h2⟩ := nw_pos hc h
    refine ⟨h1, ?_⟩
    rw [pTermW_rest hv h2]
    congr 1
    refine (bytes_of ?_).symm
    rw [extract_list, Nat.add_sub_cancel_left]
  have HOn : Hid (∀ k, k < nw s p → innerI (sgn s (p + k)) = true ∧ (k = 0 → btw (sgn s (p + k)) 97 122 = true)) := fun k h => nw_on h
  have HOff : Hid (btw (sgn s (p + nw s p)) 97 122 = false ∧ (0 < nw s p → innerI (sgn s (p + nw s p)) = false)) := nw_off
  have hpm : p + nw s p ≤ s.size := by
    by_cases h : 0 < nw s p
    · exact (HM.out.2 h).1
    · omega
  clear hts hv e0 hc
  generalize nw s p = m at *
  go_enter Tryd.func32, Tryd.ntmps32
  go_wp2_with (first | (go_at_call 33; refine (signAt_i s _ _ (by omega)).mono ?_; rintro e w' ⟨rfl, rfl⟩) | (go_at_call 43; refine (between_any _ _ _ _).mono ?_; rintro e w' ⟨rfl, rfl⟩))
  go_loop [1] (fun i => ∃ k : Nat, k ≤ m ∧ i = .int .i64 ((p : Int) + (k : Int))) (fun i => p + m - (intOf i).toNat)
  case atStart => exact ⟨0, Nat.zero_le _, by simp⟩
  case round =>
    obtain ⟨k, hk, rfl⟩ := hrel
    have ik : sgnI s ((p : Int) + (k : Int)) = sgn s (p + k) := rfl
    obtain ⟨a1, a2⟩ := sgn_lt s (p + k)
    by_cases hlt : k < m
    · obtain ⟨hi, h0⟩ := HOn.out k hlt
      cases hL : btw (sgn s (p + k)) 97 122
      · have hk0 : 0 < k := by
          by_cases e : k = 0
          · rw [h0 e] at hL; exact absurd hL (by simp)
          · omega
        have hg : decide ((p : Int) + (k : Int) > (p : Int)) = true := decide_eq_true (by omega)
        cases hD : btw (sgn s (p + k)) 48 57
        · have hU : (sgn s (p + k) == 95) = true := by rw [innerI, hL, hD] at hi; simpa using hi
          clear hi h0
          go_wp2_with (first | (go_at_call 33; refine (signAt_i s _ _ (by omega)).mono ?_; rintro e w' ⟨rfl, rfl⟩) | (go_at_call 43; refine (between_any _ _ _ _).mono ?_; rintro e w' ⟨rfl, rfl⟩))
          go_round
          case rel => exact ⟨k + 1, by omega, by go_num⟩
          case measure => simp [intOf]; omega
        · clear hi h0
          go_wp2_with (first | (go_at_call 33; refine (signAt_i s _ _ (by omega)).mono ?_; rintro e w' ⟨rfl, rfl⟩) | (go_at_call 43; refine (between_any _ _ _ _).mono ?_; rintro e w' ⟨rfl, rfl⟩))
          go_round
          case rel => exact ⟨k + 1, by omega, by go_num⟩
          case measure => simp [intOf]; omega
      · clear hi h0
        go_wp2_with (first | (go_at_call 33; refine (signAt_i s _ _ (by omega)).mono ?_; rintro e w' ⟨rfl, rfl⟩) | (go_at_call 43; refine (between_any _ _ _ _).mono ?_; rintro e w' ⟨rfl, rfl⟩))
        go_round
        case rel => exact ⟨k + 1, by omega, by go_num⟩
        case measure => simp [intOf]; omega
    · obtain rfl : k = m := by omega
      have hL : btw (sgn s (p + k)) 97 122 = false := HOff.out.1
      by_cases hk0 : k = 0
      · have HP1 : Hid (pTermW (pTerms s.data.toList n) s.data.toList p = .no p) := HM.out.1 hk0
        subst hk0
        have i0 : sgnI s (p : Int) = sgn s p := rfl
        have hL0 : btw (sgn s p) 97 122 = false := hL
        obtain ⟨c1, c2⟩ := sgn_lt s p
        have hg : decide ((p : Int) > (p : Int)) = false := by simp
        clear ik hL hlt
        go_wp2_with (first | (go_at_call 33; refine (signAt_i s _ _ (by omega)).mono ?_; rintro e w' ⟨rfl, rfl⟩) | (go_at_call 43; refine (between_any _ _ _ _).mono ?_; rintro e w' ⟨rfl, rfl⟩))
        refine bodyPost_ret (v := .tuple #[Tm.val (.mk 0 ⟨#[]⟩ none 0 0 (fun _ => .nil)), .int .i64 (p : Nat), .bool false]) ?_ rfl ⟨((Below.refl _ _).alloc (Nat.le_refl _) _).alloc (by simp) _, .inr ⟨.mk 0 ⟨#[]⟩ none 0 0 (fun _ => .nil), p, HP1.out, rfl⟩⟩
        simp [results, Tryd.results32, go_sem, Tm.val, Tm.v, Tm.nm, Tm.a, Tm.len, Tm.cap]
      · have hi : innerI (sgn s (p + k)) = false := HOff.out.2 (by omega)
        have hD : btw (sgn s (p + k)) 48 57 = false := by simp [innerI] at hi; exact hi.1.2
        have hU : (sgn s (p + k) == 95) = false := by simp [innerI] at hi; simpa using hi.2
        have hg : decide ((p : Int) + (k : Int) > (p : Int)) = true := decide_eq_true (by omega)
        have he : ((p : Int) + (k : Int) == (p : Int)) = false := beq_eq_false_iff_ne.2 (by omega)
        obtain ⟨hqs, hP0⟩ := HM.out.2 (by omega)
        have HP1 : Hid (pTermW (pTerms s.data.toList n) s.data.toList p = pRest s.data.toList n (s.extract p (p + k)) (p + k)) := hP0
        have HMX : Hid ((s.extract p (p + k)).size ≤ maxLen) := by rw [Hid]; unfold maxLen; simp; omega
        have iq : sgnI s ((p : Int) + (k : Int)) = sgn s (p + k) := rfl
        have hpk : ((p : Int) + (k : Int)) ≤ (s.size : Int) := by omega
        have h0p : (0 : Int) ≤ (p : Int) := by omega
        have hpp : (p : Int) ≤ (p : Int) + (k : Int) := by omega
        have h0k : (0 : Int) ≤ (p : Int) + (k : Int) := by omega
        clear hi hP0 hlt hk
        have hmx : ((s.extract p (p + k)) : ByteArray).size ≤ maxLen := HMX.out
        by_cases h40 : s.data.toList[p + k]? = some 40
        case neg =>
          have HP2 : Hid (pTermW (pTerms s.data.toList n) s.data.toList p = .ok (.mk 0 (s.extract p (p + k)) none 0 0 (fun _ => .nil)) (p + k)) := by rw [Hid, HP1.out, pRest, if_neg h40]
          have hb2 : (sgnI s ((p : Int) + (k : Int)) != 40) = true := by rw [iq]; exact bne_iff_ne.2 (fun e => h40 ((sgn_at s (p + k) 40 (by decide)).2 e))
          clear h40
          go_wp2_with (first | (go_at_call 33; refine (signAt_i s _ _ (by omega)).mono ?_; rintro e w' ⟨rfl, rfl⟩) | (go_at_call 43; refine (between_any _ _ _ _).mono ?_; rintro e w' ⟨rfl, rfl⟩))
          refine bodyPost_ret (v := .tuple #[Tm.val (.mk 0 (s.extract p (p + k)) none 0 0 (fun _ => .nil)), .int .i64 (p + k : Nat), .bool true]) ?_ rfl ⟨((Below.refl _ _).alloc (Nat.le_refl _) _).alloc (by simp) _, .inl ⟨.mk 0 (s.extract p (p + k)) none 0 0 (fun _ => .nil), _, p + k, HP2.out, ⟨rfl, rfl, rfl, fun i hi => absurd hi (Nat.not_lt_zero i)⟩, rfl, ⟨hmx, Nat.zero_le _, fun i hi => absurd hi (Nat.not_lt_zero i)⟩, ⟨fun h => absurd h (Nat.lt_irrefl 0), fun i hi => absurd hi (Nat.not_lt_zero i)⟩, hqs, by omega⟩⟩
          simp [results, Tryd.results32, go_sem, Tm.val, Tm.v, Tm.nm, Tm.a, Tm.len, Tm.cap]
        have HP2 : Hid (pTermW (pTerms s.data.toList n) s.data.toList p = match pTerms s.data.toList n (p + k + 1) with
            | .no r => .no r
            | .ok us r =>
              match mAt s.data.toList r [41] with
              | some r' => .no r'
              | none => .ok (.mk 0 (s.extract p (p + k)) none us.length 0 (fun i => us.getD i .nil)) (r + 1)) := by rw [Hid, HP1.out, pRest, if_pos h40] <;> rfl
        have hb2 : (sgnI s ((p : Int) + (k : Int)) != 40) = false := by rw [iq, (sgn_at s (p + k) 40 (by decide)).1 h40]; rfl
        have hql : p + k < s.size := by
          by_cases h : p + k < s.size
          · exact h
          · rw [get_none s _ h] at h40; exact absurd h40 (by simp)
        clear h40
        go_wp2_with (first | (go_at_call 33; refine (signAt_i s _ _ (by omega)).mono ?_; rintro e w' ⟨rfl, rfl⟩) | (go_at_call 43; refine (between_any _ _ _ _).mono ?_; rintro e w' ⟨rfl, rfl⟩))
        have HB2 : Hid (Below w.heap.size w ((w.alloc (.cells #[.int .i64 0, .string ⟨#[]⟩, .slice none 0 0] 48)).alloc (.cells #[.int .i64 0, .string (s.extract p (p + k)), .slice none 0 0] 48))) := ((Below.refl _ _).alloc (Nat.le_refl _) _).alloc (by simp) _
        have HX2 : Hid (((w.alloc (.cells #[.int .i64 0, .string ⟨#[]⟩, .slice none 0 0] 48)).alloc (.cells #[.int .i64 0, .string (s.extract p (p + k)), .slice none 0 0] 48)).heap[w.heap.size]? = some (.cells #[.int .i64 0, .string ⟨#[]⟩, .slice none 0 0] 48)) := by rw [Hid, heap_alloc_old _ _ (by simp)]; exact heap_alloc_new w _
        have HY2 : Hid (((w.alloc (.cells #[.int .i64 0, .string ⟨#[]⟩, .slice none 0 0] 48)).alloc (.cells #[.int .i64 0, .string (s.extract p (p + k)), .slice none 0 0] 48)).heap[w.heap.size + 1]? = some (.cells #[.int .i64 0, .string (s.extract p (p + k)), .slice none 0 0] 48)) := by
          have := heap_alloc_new (w.alloc (.cells #[.int .i64 0, .string ⟨#[]⟩, .slice none 0 0] 48)) (.cells #[.int .i64 0, .string (s.extract p (p + k)), .slice none 0 0] 48)
          rwa [show (w.alloc (.cells #[.int .i64 0, .string ⟨#[]⟩, .slice none 0 0] 48)).heap.size = w.heap.size + 1 from by simp] at this
        have hs2 : ((w.alloc (.cells #[.int .i64 0, .string ⟨#[]⟩, .slice none 0 0] 48)).alloc (.cells #[.int .i64 0, .string (s.extract p (p + k)), .slice none 0 0] 48)).heap.size = w.heap.size + 2 := by simp
        generalize (w.alloc (.cells #[.int .i64 0, .string ⟨#[]⟩, .slice none 0 0] 48)).alloc (.cells #[.int .i64 0, .string (s.extract p (p + k)), .slice none 0 0] 48) = w2 at *
        rw [show ((p : Int) + (k : Int) + 1 : Int) = ((p + k + 1 : Nat) : Int) from by omega]
        refine (HTC.out s (p + k + 1) w2 hs (by omega) (by omega)).mono ?_
        rintro e w5 ⟨hb5, (⟨T, us, r, hpt, hsim, rfl, hT5, hA5, hr1, hr2⟩ | ⟨r, hpt, rfl⟩)⟩
        case inr =>
          have HP3 : Hid (pTermW (pTerms s.data.toList n) s.data.toList p = .no r) := by rw [Hid, HP2.out, hpt]
          have HX5 : Hid (w5.heap[w.heap.size]? = some (.cells #[.int .i64 0, .string ⟨#[]⟩, .slice none 0 0] 48)) := (hb5.block _ (by omega)).trans HX2.out
          have HB5 : Hid (Below w.heap.size w w5) := HB2.out.trans (hb5.mono (by omega))
          obtain ⟨x0, x1, x2, f0, f1, f2⟩ := block_cells HX5.out
          clear hpt hb5
          go_wp2_with (first | (go_at_call 33; refine (signAt_i s _ _ (by omega)).mono ?_; rintro e w' ⟨rfl, rfl⟩) | (go_at_call 43; refine (between_any _ _ _ _).mono ?_; rintro e w' ⟨rfl, rfl⟩))
          obtain ⟨W', hW, y0, y1, y2, hB', _⟩ := fin3n (Nat.le_refl _) HX5.out HB5.out (.int .i64 0) (.string ⟨#[]⟩) (.slice none 0 0)
          rw [hW]
          refine bodyPost_ret (v := .tuple #[Tm.val (.mk 0 ⟨#[]⟩ none 0 0 (fun _ => .nil)), .int .i64 (r : Nat), .bool false]) ?_ rfl ⟨hB', .inr ⟨.mk 0 ⟨#[]⟩ none 0 0 (fun _ => .nil), r, HP3.out, rfl⟩⟩
          simp [results, Tryd.results32, go_sem, y0, y1, y2, Tm.val, Tm.v, Tm.nm, Tm.a, Tm.len, Tm.cap]
        have HP3 : Hid (pTermW (pTerms s.data.toList n) s.data.toList p = match mAt s.data.toList r [41] with
              | some r' => .no r'
              | none => .ok (.mk 0 (s.extract p (p + k)) none us.length 0 (fun i => us.getD i .nil)) (r + 1)) := by rw [Hid, HP2.out, hpt]
        have HSim : Hid (BSim T us) := hsim
        have HA5 : Hid (Above w2.heap.size T) := hA5
        have HX5 : Hid (w5.heap[w.heap.size]? = some (.cells #[.int .i64 0, .string ⟨#[]⟩, .slice none 0 0] 48)) := (hb5.block _ (by omega)).trans HX2.out
        have HY5 : Hid (w5.heap[w.heap.size + 1]? = some (.cells #[.int .i64 0, .string (s.extract p (p + k)), .slice none 0 0] 48)) := (hb5.block _ (by omega)).trans HY2.out
        have HB5 : Hid (Below w.heap.size w w5) := HB2.out.trans (hb5.mono (by omega))
        have hl5 : w2.heap.size ≤ w5.heap.size := hb5.size
        have hgs := grown_set (W := w5) (w.heap.size + 1) 2 (.slice T.a T.len T.cap)
        have HT6 : Hid (TIn (w5.setCell ⟨w.heap.size + 1, 2, none⟩ (.slice T.a T.len T.cap)) T) := hT5.grown hgs (fun k hk => by obtain rfl := Option.some.inj hk; exact HA5.out.nb (by omega))
        have HX6 : Hid ((w5.setCell ⟨w.heap.size + 1, 2, none⟩ (.slice T.a T.len T.cap)).heap[w.heap.size]? = some (.cells #[.int .i64 0, .string ⟨#[]⟩, .slice none 0 0] 48)) := (hgs.block _ (by omega) (by simp)).trans HX5.out
        have HY6 : Hid ((w5.setCell ⟨w.heap.size + 1, 2, none⟩ (.slice T.a T.len T.cap)).heap[w.heap.size + 1]? = some (.cells #[.int .i64 0, .string (s.extract p (p + k)), .slice T.a T.len T.cap] 48)) := by
          have h5 := HY5.out
          rw [Hid]
          simp only [World.setCell, Array.getElem?_modify]
          simp [h5]
        have HB6 : Hid (Below w.heap.size w (w5.setCell ⟨w.heap.size + 1, 2, none⟩ (.slice T.a T.len T.cap))) :=
          ⟨hgs.os.trans HB5.out.os, hgs.tape.trans HB5.out.tape, hgs.output.trans HB5.out.output, Nat.le_trans HB5.out.size hgs.size, fun k hk => (hgs.block k (Nat.lt_of_lt_of_le hk HB5.out.size) (by simp; omega)).trans (HB5.out.block k hk)⟩
        have hl6 : (w5.setCell ⟨w.heap.size + 1, 2, none⟩ (.slice T.a T.len T.cap)).heap.size = w5.heap.size := by simp [World.setCell]
        obtain ⟨z0, z1, z2, g0, g1, g2⟩ := block_cells HY5.out
        clear hpt hsim hT5 hA5 hb5 hgs
        go_wp2_with (first | (go_at_call 33; refine (signAt_i s _ _ (by omega)).mono ?_; rintro e w' ⟨rfl, rfl⟩) | (go_at_call 43; refine (between_any _ _ _ _).mono ?_; rintro e w' ⟨rfl, rfl⟩))
        generalize w5.setCell ⟨w.heap.size + 1, 2, none⟩ (.slice T.a T.len T.cap) = w6 at *
        refine (mustAt_any s ⟨#[41]⟩ r w6 hs hr1 (show 1 ≤ 6000 by omega)).mono ?_
        rintro e w7 ⟨(⟨hm, rfl⟩ | ⟨r', hm, rfl⟩), hb7⟩
        all_goals
          have HX7 : Hid (w7.heap[w.heap.size]? = some (.cells #[.int .i64 0, .string ⟨#[]⟩, .slice none 0 0] 48)) := (hb7.block _ (by omega)).trans HX6.out
          have HY7 : Hid (w7.heap[w.heap.size + 1]? = some (.cells #[.int .i64 0, .string (s.extract p (p + k)), .slice T.a T.len T.cap] 48)) := (hb7.block _ (by omega)).trans HY6.out
          have HT7 : Hid (TIn w7 T) := HT6.out.below hb7
          have HB7 : Hid (Below w.heap.size w w7) := HB6.out.trans (hb7.mono (by omega))
          clear z0 z1 z2 g0 g1 g2 hb7
          obtain ⟨x0, x1, x2, f0, f1, f2⟩ := block_cells HX7.out
          obtain ⟨z0, z1, z2, _, _, _⟩ := block_cells HY7.out
        · have hm' : mAt s.data.toList r [41] = none := hm
          have hrs : r + 1 ≤ s.size := mAt_size (x := [41]) hm' hr1
          have HP4 : Hid (pTermW (pTerms s.data.toList n) s.data.toList p = .ok (.mk 0 (s.extract p (p + k)) none us.length 0 (fun i => us.getD i .nil)) (r + 1)) := by rw [Hid, HP3.out, hm']
          clear hm hm'
          go_wp2_with (first | (go_at_call 33; refine (signAt_i s _ _ (by omega)).mono ?_; rintro e w' ⟨rfl, rfl⟩) | (go_at_call 43; refine (between_any _ _ _ _).mono ?_; rintro e w' ⟨rfl, rfl⟩))
          obtain ⟨W', hW, y0, y1, y2, hB', hgr⟩ := fin3n (Nat.le_refl _) HX7.out HB7.out (.int .i64 0) (.string (s.extract p (p + k))) (.slice T.a T.len T.cap)
          rw [hW]
          have hT' : TIn W' T := HT7.out.grown hgr (fun k hk => by obtain rfl := Option.some.inj hk; exact HA5.out.nb (by omega))
          refine bodyPost_ret (v := .tuple #[Tm.val (.mk 0 (s.extract p (p + k)) T.a T.len T.cap T.f), .int .i64 (r + 1 : Nat), .bool true]) ?_ rfl ⟨hB', .inl ⟨.mk 0 (s.extract p (p + k)) T.a T.len T.cap T.f, _, r + 1, HP4.out, ⟨rfl, rfl, HSim.out.1, HSim.out.2⟩, rfl, hT'.retop hmx, (HA5.out.mono (by omega)).retop, hrs, by omega⟩⟩
          simp [results, Tryd.results32, go_sem, y0, y1, y2, Tm.val, Tm.v, Tm.nm, Tm.a, Tm.len, Tm.cap]
        · have HP4 : Hid (pTermW (pTerms s.data.toList n) s.data.toList p = .no r') := by
            have hm' : mAt s.data.toList r [41] = some r' := hm
            rw [Hid, HP3.out, hm']
          clear hm
          go_wp2_with (first | (go_at_call 33; refine (signAt_i s _ _ (by omega)).mono ?_; rintro e w' ⟨rfl, rfl⟩) | (go_at_call 43; refine (between_any _ _ _ _).mono ?_; rintro e w' ⟨rfl, rfl⟩))
          obtain ⟨W', hW, y0, y1, y2, hB', hgr⟩ := fin3n (Nat.le_refl _) HX7.out HB7.out (.int .i64 0) (.string (s.extract p (p + k))) (.slice T.a T.len T.cap)
          rw [hW]
          refine bodyPost_ret (v := .tuple #[Tm.val (.mk 0 (s.extract p (p + k)) T.a T.len T.cap T.f), .int .i64 (r' : Nat), .bool false]) ?_ rfl ⟨hB', .inr ⟨.mk 0 (s.extract p (p + k)) T.a T.len T.cap T.f, r', HP4.out, rfl⟩⟩
          simp [results, Tryd.results32, go_sem, y0, y1, y2, Tm.val, Tm.v, Tm.nm, Tm.a, Tm.len, Tm.cap]

end Go.Proofs.YtmggaclaoefdaaaDoor
