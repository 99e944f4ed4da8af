/- The reference's reader: termAt of names. -/
import Derived.Test.YtmggaclaoefdaaaDoorRef3
namespace Go.Proofs.YtmggaclaoefdaaaDoor
open Go.RowKit

def pRest (l : List UInt8) (n : Nat) (nm : ByteArray) (q : Nat) : R Tm :=
  if l[q]? = some 40 then
    match pTerms l n (q + 1) with
    | .no r => .no r
    | .ok us r =>
      match mAt l r [41] with
      | some r' => .no r'
      | none => .ok (.mk 0 nm none us.length 0 (fun i => us.getD i .nil)) (r + 1)
  else .ok (.mk 0 nm none 0 0 (fun _ => .nil)) q
theorem pTermW_rest {l : List UInt8} {n p q : Nat} {nm : List UInt8} (hv : ¬ l[p]? = some 86) (h : pName l p = .ok nm q) : pTermW (pTerms l n) l p = pRest l n ⟨nm.toArray⟩ q := by
  rw [pTermW, if_neg hv, h]; rfl
theorem pTermW_noname {l : List UInt8} {n p q : Nat} (hv : ¬ l[p]? = some 86) (h : pName l p = .no q) : pTermW (pTerms l n) l p = .no q := by
  rw [pTermW, if_neg hv, h]

set_option maxRecDepth 100000 in
set_option maxHeartbeats 4000000 in
theorem termAt_cut (n : Nat) (hts : RC n) (s : ByteArray) (p : Nat) (w : World) (hs : s.size ≤ 6000) (hf : s.size ≤ n + p) (hv : ¬ s.data.toList[p]? = some 86) (hc : s.data.toList[p]? = some 33) :
    Calls Tryd.prog 32 #[.string s, .int .i64 p] w (RT n s p w) := by
  have HTC : Hid (RC n) := hts
  have e0 : ¬ sgnI s (p : Int) = 86 := fun e => hv ((sgn_at s p 86 (by decide)).2 e)
  have hb0 : (sgnI s (p : Int) == 86) = false := beq_eq_false_iff_ne.2 e0
  have hb1 : (sgnI s (p : Int) == 33) = true := beq_iff_eq.2 ((sgn_at s p 33 (by decide)).1 hc)
  have hqs : p + 1 ≤ s.size := by
    by_cases h : p < s.size
    · exact h
    · rw [get_none s _ h] at hc; exact absurd hc (by simp)
  have HP1 : Hid (pTermW (pTerms s.data.toList n) s.data.toList p = pRest s.data.toList n ⟨#[33]⟩ (p + 1)) := pTermW_rest hv (by rw [pName, if_pos hc])
  have iq : sgnI s ((p : Int) + 1) = sgn s (p + 1) := rfl
  have HMX : Hid ((⟨#[33]⟩ : ByteArray).size ≤ maxLen) := by show 1 ≤ maxLen; unfold maxLen; omega
  clear hts hv e0 hc
  have hmx : (⟨#[33]⟩ : ByteArray).size ≤ maxLen := HMX.out
  by_cases h40 : s.data.toList[p + 1]? = some 40
  case neg =>
    have HP2 : Hid (pTermW (pTerms s.data.toList n) s.data.toList p = .ok (.mk 0 ⟨#[33]⟩ none 0 0 (fun _ => .nil)) (p + 1)) := by rw [Hid, HP1.out, pRest, if_neg h40]
    have hb2 : (sgnI s ((p : Int) + 1) != 40) = true := by rw [iq]; exact bne_iff_ne.2 (fun e => h40 ((sgn_at s (p + 1) 40 (by decide)).2 e))
    clear h40
    go_enter Tryd.func32, Tryd.ntmps32
    go_wp2_with (first | (go_at_call 33; refine (signAt_i s _ _ (by omega)).mono ?_; rintro e w' ⟨rfl, rfl⟩) | (go_at_call 43; refine (between_any _ _ _ _).mono ?_; rintro e w' ⟨rfl, rfl⟩))
    refine bodyPost_ret (v := .tuple #[Tm.val (.mk 0 ⟨#[33]⟩ none 0 0 (fun _ => .nil)), .int .i64 (p + 1 : Nat), .bool true]) ?_ rfl ⟨((Below.refl _ _).alloc (Nat.le_refl _) _).alloc (by simp) _, .inl ⟨.mk 0 ⟨#[33]⟩ none 0 0 (fun _ => .nil), _, p + 1, HP2.out, ⟨rfl, rfl, rfl, fun i hi => absurd hi (Nat.not_lt_zero i)⟩, rfl, ⟨hmx, Nat.zero_le _, fun i hi => absurd hi (Nat.not_lt_zero i)⟩, ⟨fun h => absurd h (Nat.lt_irrefl 0), fun i hi => absurd hi (Nat.not_lt_zero i)⟩, hqs, by omega⟩⟩
    simp [results, Tryd.results32, go_sem, Tm.val, Tm.v, Tm.nm, Tm.a, Tm.len, Tm.cap]
  have HP2 : Hid (pTermW (pTerms s.data.toList n) s.data.toList p = match pTerms s.data.toList n (p + 1 + 1) with
      | .no r => .no r
      | .ok us r =>
        match mAt s.data.toList r [41] with
        | some r' => .no r'
        | none => .ok (.mk 0 ⟨#[33]⟩ none us.length 0 (fun i => us.getD i .nil)) (r + 1)) := by rw [Hid, HP1.out, pRest, if_pos h40] <;> rfl
  have hb2 : (sgnI s ((p : Int) + 1) != 40) = false := by rw [iq, (sgn_at s (p + 1) 40 (by decide)).1 h40]; rfl
  have hql : p + 1 < s.size := by
    by_cases h : p + 1 < s.size
    · exact h
    · rw [get_none s _ h] at h40; exact absurd h40 (by simp)
  clear h40
  go_enter Tryd.func32, Tryd.ntmps32
  go_wp2_with (first | (go_at_call 33; refine (signAt_i s _ _ (by omega)).mono ?_; rintro e w' ⟨rfl, rfl⟩) | (go_at_call 43; refine (between_any _ _ _ _).mono ?_; rintro e w' ⟨rfl, rfl⟩))
  have HB2 : Hid (Below w.heap.size w ((w.alloc (.cells #[.int .i64 0, .string ⟨#[]⟩, .slice none 0 0] 48)).alloc (.cells #[.int .i64 0, .string ⟨#[33]⟩, .slice none 0 0] 48))) := ((Below.refl _ _).alloc (Nat.le_refl _) _).alloc (by simp) _
  have HX2 : Hid (((w.alloc (.cells #[.int .i64 0, .string ⟨#[]⟩, .slice none 0 0] 48)).alloc (.cells #[.int .i64 0, .string ⟨#[33]⟩, .slice none 0 0] 48)).heap[w.heap.size]? = some (.cells #[.int .i64 0, .string ⟨#[]⟩, .slice none 0 0] 48)) := by rw [Hid, heap_alloc_old _ _ (by simp)]; exact heap_alloc_new w _
  have HY2 : Hid (((w.alloc (.cells #[.int .i64 0, .string ⟨#[]⟩, .slice none 0 0] 48)).alloc (.cells #[.int .i64 0, .string ⟨#[33]⟩, .slice none 0 0] 48)).heap[w.heap.size + 1]? = some (.cells #[.int .i64 0, .string ⟨#[33]⟩, .slice none 0 0] 48)) := by
    have := heap_alloc_new (w.alloc (.cells #[.int .i64 0, .string ⟨#[]⟩, .slice none 0 0] 48)) (.cells #[.int .i64 0, .string ⟨#[33]⟩, .slice none 0 0] 48)
    rwa [show (w.alloc (.cells #[.int .i64 0, .string ⟨#[]⟩, .slice none 0 0] 48)).heap.size = w.heap.size + 1 from by simp] at this
  have hs2 : ((w.alloc (.cells #[.int .i64 0, .string ⟨#[]⟩, .slice none 0 0] 48)).alloc (.cells #[.int .i64 0, .string ⟨#[33]⟩, .slice none 0 0] 48)).heap.size = w.heap.size + 2 := by simp
  generalize (w.alloc (.cells #[.int .i64 0, .string ⟨#[]⟩, .slice none 0 0] 48)).alloc (.cells #[.int .i64 0, .string ⟨#[33]⟩, .slice none 0 0] 48) = w2 at *
  rw [show ((p : Int) + 1 + 1 : Int) = ((p + 1 + 1 : Nat) : Int) from by omega]
  refine (HTC.out s (p + 1 + 1) w2 hs (by omega) (by omega)).mono ?_
  rintro e w5 ⟨hb5, (⟨T, us, r, hpt, hsim, rfl, hT5, hA5, hr1, hr2⟩ | ⟨r, hpt, rfl⟩)⟩
  case inr =>
    have HP3 : Hid (pTermW (pTerms s.data.toList n) s.data.toList p = .no r) := by rw [Hid, HP2.out, hpt]
    have HX5 : Hid (w5.heap[w.heap.size]? = some (.cells #[.int .i64 0, .string ⟨#[]⟩, .slice none 0 0] 48)) := (hb5.block _ (by omega)).trans HX2.out
    have HB5 : Hid (Below w.heap.size w w5) := HB2.out.trans (hb5.mono (by omega))
    obtain ⟨x0, x1, x2, f0, f1, f2⟩ := block_cells HX5.out
    clear hpt hb5
    go_wp2_with (first | (go_at_call 33; refine (signAt_i s _ _ (by omega)).mono ?_; rintro e w' ⟨rfl, rfl⟩) | (go_at_call 43; refine (between_any _ _ _ _).mono ?_; rintro e w' ⟨rfl, rfl⟩))
    obtain ⟨W', hW, y0, y1, y2, hB', _⟩ := fin3n (Nat.le_refl _) HX5.out HB5.out (.int .i64 0) (.string ⟨#[]⟩) (.slice none 0 0)
    rw [hW]
    refine bodyPost_ret (v := .tuple #[Tm.val (.mk 0 ⟨#[]⟩ none 0 0 (fun _ => .nil)), .int .i64 (r : Nat), .bool false]) ?_ rfl ⟨hB', .inr ⟨.mk 0 ⟨#[]⟩ none 0 0 (fun _ => .nil), r, HP3.out, rfl⟩⟩
    simp [results, Tryd.results32, go_sem, y0, y1, y2, Tm.val, Tm.v, Tm.nm, Tm.a, Tm.len, Tm.cap]
  have HP3 : Hid (pTermW (pTerms s.data.toList n) s.data.toList p = match mAt s.data.toList r [41] with
        | some r' => .no r'
        | none => .ok (.mk 0 ⟨#[33]⟩ none us.length 0 (fun i => us.getD i .nil)) (r + 1)) := by rw [Hid, HP2.out, hpt]
  have HSim : Hid (BSim T us) := hsim
  have HA5 : Hid (Above w2.heap.size T) := hA5
  have HX5 : Hid (w5.heap[w.heap.size]? = some (.cells #[.int .i64 0, .string ⟨#[]⟩, .slice none 0 0] 48)) := (hb5.block _ (by omega)).trans HX2.out
  have HY5 : Hid (w5.heap[w.heap.size + 1]? = some (.cells #[.int .i64 0, .string ⟨#[33]⟩, .slice none 0 0] 48)) := (hb5.block _ (by omega)).trans HY2.out
  have HB5 : Hid (Below w.heap.size w w5) := HB2.out.trans (hb5.mono (by omega))
  have hl5 : w2.heap.size ≤ w5.heap.size := hb5.size
  have hgs := grown_set (W := w5) (w.heap.size + 1) 2 (.slice T.a T.len T.cap)
  have HT6 : Hid (TIn (w5.setCell ⟨w.heap.size + 1, 2, none⟩ (.slice T.a T.len T.cap)) T) := hT5.grown hgs (fun k hk => by obtain rfl := Option.some.inj hk; exact HA5.out.nb (by omega))
  have HX6 : Hid ((w5.setCell ⟨w.heap.size + 1, 2, none⟩ (.slice T.a T.len T.cap)).heap[w.heap.size]? = some (.cells #[.int .i64 0, .string ⟨#[]⟩, .slice none 0 0] 48)) := (hgs.block _ (by omega) (by simp)).trans HX5.out
  have HY6 : Hid ((w5.setCell ⟨w.heap.size + 1, 2, none⟩ (.slice T.a T.len T.cap)).heap[w.heap.size + 1]? = some (.cells #[.int .i64 0, .string ⟨#[33]⟩, .slice T.a T.len T.cap] 48)) := by
    have h5 := HY5.out
    rw [Hid]
    simp only [World.setCell, Array.getElem?_modify]
    simp [h5]
  have HB6 : Hid (Below w.heap.size w (w5.setCell ⟨w.heap.size + 1, 2, none⟩ (.slice T.a T.len T.cap))) :=
    ⟨hgs.os.trans HB5.out.os, hgs.tape.trans HB5.out.tape, hgs.output.trans HB5.out.output, Nat.le_trans HB5.out.size hgs.size, fun k hk => (hgs.block k (Nat.lt_of_lt_of_le hk HB5.out.size) (by simp; omega)).trans (HB5.out.block k hk)⟩
  have hl6 : (w5.setCell ⟨w.heap.size + 1, 2, none⟩ (.slice T.a T.len T.cap)).heap.size = w5.heap.size := by simp [World.setCell]
  obtain ⟨z0, z1, z2, g0, g1, g2⟩ := block_cells HY5.out
  clear hpt hsim hT5 hA5 hb5 hgs
  go_wp2_with (first | (go_at_call 33; refine (signAt_i s _ _ (by omega)).mono ?_; rintro e w' ⟨rfl, rfl⟩) | (go_at_call 43; refine (between_any _ _ _ _).mono ?_; rintro e w' ⟨rfl, rfl⟩))
  generalize w5.setCell ⟨w.heap.size + 1, 2, none⟩ (.slice T.a T.len T.cap) = w6 at *
  refine (mustAt_any s ⟨#[41]⟩ r w6 hs hr1 (show 1 ≤ 6000 by omega)).mono ?_
  rintro e w7 ⟨(⟨hm, rfl⟩ | ⟨r', hm, rfl⟩), hb7⟩
  all_goals
    have HX7 : Hid (w7.heap[w.heap.size]? = some (.cells #[.int .i64 0, .string ⟨#[]⟩, .slice none 0 0] 48)) := (hb7.block _ (by omega)).trans HX6.out
    have HY7 : Hid (w7.heap[w.heap.size + 1]? = some (.cells #[.int .i64 0, .string ⟨#[33]⟩, .slice T.a T.len T.cap] 48)) := (hb7.block _ (by omega)).trans HY6.out
    have HT7 : Hid (TIn w7 T) := HT6.out.below hb7
    have HB7 : Hid (Below w.heap.size w w7) := HB6.out.trans (hb7.mono (by omega))
    clear z0 z1 z2 g0 g1 g2 hb7
    obtain ⟨x0, x1, x2, f0, f1, f2⟩ := block_cells HX7.out
    obtain ⟨z0, z1, z2, _, _, _⟩ := block_cells HY7.out
  · have hm' : mAt s.data.toList r [41] = none := hm
    have hrs : r + 1 ≤ s.size := mAt_size (x := [41]) hm' hr1
    have HP4 : Hid (pTermW (pTerms s.data.toList n) s.data.toList p = .ok (.mk 0 ⟨#[33]⟩ none us.length 0 (fun i => us.getD i .nil)) (r + 1)) := by rw [Hid, HP3.out, hm']
    clear hm hm'
    go_wp2_with (first | (go_at_call 33; refine (signAt_i s _ _ (by omega)).mono ?_; rintro e w' ⟨rfl, rfl⟩) | (go_at_call 43; refine (between_any _ _ _ _).mono ?_; rintro e w' ⟨rfl, rfl⟩))
    obtain ⟨W', hW, y0, y1, y2, hB', hgr⟩ := fin3n (Nat.le_refl _) HX7.out HB7.out (.int .i64 0) (.string ⟨#[33]⟩) (.slice T.a T.len T.cap)
    rw [hW]
    have hT' : TIn W' T := HT7.out.grown hgr (fun k hk => by obtain rfl := Option.some.inj hk; exact HA5.out.nb (by omega))
    refine bodyPost_ret (v := .tuple #[Tm.val (.mk 0 ⟨#[33]⟩ T.a T.len T.cap T.f), .int .i64 (r + 1 : Nat), .bool true]) ?_ rfl ⟨hB', .inl ⟨.mk 0 ⟨#[33]⟩ T.a T.len T.cap T.f, _, r + 1, HP4.out, ⟨rfl, rfl, HSim.out.1, HSim.out.2⟩, rfl, hT'.retop hmx, (HA5.out.mono (by omega)).retop, hrs, by omega⟩⟩
    simp [results, Tryd.results32, go_sem, y0, y1, y2, Tm.val, Tm.v, Tm.nm, Tm.a, Tm.len, Tm.cap]
  · have HP4 : Hid (pTermW (pTerms s.data.toList n) s.data.toList p = .no r') := by
      have hm' : mAt s.data.toList r [41] = some r' := hm
      rw [Hid, HP3.out, hm']
    clear hm
    go_wp2_with (first | (go_at_call 33; refine (signAt_i s _ _ (by omega)).mono ?_; rintro e w' ⟨rfl, rfl⟩) | (go_at_call 43; refine (between_any _ _ _ _).mono ?_; rintro e w' ⟨rfl, rfl⟩))
    obtain ⟨W', hW, y0, y1, y2, hB', hgr⟩ := fin3n (Nat.le_refl _) HX7.out HB7.out (.int .i64 0) (.string ⟨#[33]⟩) (.slice T.a T.len T.cap)
    rw [hW]
    refine bodyPost_ret (v := .tuple #[Tm.val (.mk 0 ⟨#[33]⟩ T.a T.len T.cap T.f), .int .i64 (r' : Nat), .bool false]) ?_ rfl ⟨hB', .inr ⟨.mk 0 ⟨#[33]⟩ T.a T.len T.cap T.f, r', HP4.out, rfl⟩⟩
    simp [results, Tryd.results32, go_sem, y0, y1, y2, Tm.val, Tm.v, Tm.nm, Tm.a, Tm.len, Tm.cap]
end Go.Proofs.YtmggaclaoefdaaaDoor
