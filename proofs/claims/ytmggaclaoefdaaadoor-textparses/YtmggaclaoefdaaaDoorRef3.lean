/- The reference's reader: termAt. -/
import Derived.Test.YtmggaclaoefdaaaDoorRef2
namespace Go.Proofs.YtmggaclaoefdaaaDoor
open Go.RowKit

/-- The byte at a place that is a number. -/
def sgnI (s : ByteArray) (i : Int) : Int := sgn s i.toNat
theorem signAt_i (s : ByteArray) (i : Int) (w : World) (h : 0 ≤ i) :
    Calls Tryd.prog 33 #[.string s, .int .i64 i] w fun e w' => e = .returned (.int .u8 (sgnI s i)) ∧ w' = w := by
  have := signAt_any s i.toNat w
  rw [show ((i.toNat : Nat) : Int) = i from by omega] at this
  exact this
theorem sgn_lt (s : ByteArray) (p : Nat) : 0 ≤ sgn s p ∧ sgn s p < 256 := by
  unfold sgn
  split
  · have := s[p].toNat_lt; omega
  · omega
theorem sgn_at (s : ByteArray) (p : Nat) (c : UInt8) (hc : 0 < c.toNat) : (s.data.toList[p]? = some c) ↔ sgn s p = (c.toNat : Int) := by
  unfold sgn
  split
  · rename_i h
    rw [get_of s p h]
    constructor
    · intro e; have := Option.some.inj e; rw [this]
    · intro e; have : s[p].toNat = c.toNat := by omega
      rw [UInt8.toNat_inj.1 this]
  · rename_i h
    rw [get_none s p h]
    constructor
    · intro e; exact absurd e (by simp)
    · intro e; omega
theorem sgn_in {s : ByteArray} {p : Nat} (h : p < s.size) : sgn s p = (s[p].toNat : Int) := by rw [sgn, dif_pos h]
theorem sgn_out {s : ByteArray} {p : Nat} (h : ¬ p < s.size) : sgn s p = 0 := by rw [sgn, dif_neg h]

/-- A variable, by the bytes. -/
theorem pVar_no {s : ByteArray} {p : Nat} (h : btw (sgn s (p + 1)) 49 57 = false) : pVar s.data.toList p = .no (p + 1) := by
  unfold pVar
  by_cases h1 : p + 1 < s.size
  · rw [get_of s _ h1]
    rw [sgn_in h1] at h
    have hd : dig0 (s[p + 1].toNat : Int) = false := by
      simp [btw] at h
      cases hd : dig0 (s[p + 1].toNat : Int) with
      | false => rfl
      | true => simp [dig0, btw] at hd; omega
    simp [hd]
  · rw [get_none s _ h1]
theorem pVar_one {s : ByteArray} {p : Nat} (h : btw (sgn s (p + 1)) 49 57 = true) (h2 : btw (sgn s (p + 2)) 48 57 = false) : p + 1 < s.size ∧ pVar s.data.toList p = .ok ((sgn s (p + 1)).toNat - 48) (p + 2) := by
  have h1 : p + 1 < s.size := by
    by_cases h1 : p + 1 < s.size
    · exact h1
    · rw [sgn_out h1] at h; simp [btw] at h
  refine ⟨h1, ?_⟩
  unfold pVar
  rw [get_of s _ h1]
  rw [sgn_in h1] at h ⊢
  have hd : dig0 (s[p + 1].toNat : Int) = true := by simp [btw] at h; simp [dig0, btw]; omega
  simp only [hd, if_true]
  by_cases h3 : p + 2 < s.size
  · rw [get_of s _ h3]
    rw [sgn_in h3] at h2
    simp [h2]
  · rw [get_none s _ h3]; simp
theorem pVar_two {s : ByteArray} {p : Nat} (h : btw (sgn s (p + 1)) 49 57 = true) (h2 : btw (sgn s (p + 2)) 48 57 = true) : p + 2 < s.size ∧ pVar s.data.toList p = .ok (10 * ((sgn s (p + 1)).toNat - 48) + ((sgn s (p + 2)).toNat - 48)) (p + 3) := by
  have h3 : p + 2 < s.size := by
    by_cases h1 : p + 2 < s.size
    · exact h1
    · rw [sgn_out h1] at h2; simp [btw] at h2
  have h1 : p + 1 < s.size := by omega
  refine ⟨h3, ?_⟩
  unfold pVar
  rw [get_of s _ h1]
  rw [sgn_in h1] at h ⊢
  have hd : dig0 (s[p + 1].toNat : Int) = true := by simp [btw] at h; simp [dig0, btw]; omega
  simp only [hd, if_true]
  rw [get_of s _ h3]
  rw [sgn_in h3] at h2 ⊢
  simp [h2]
/-- How long the word is that stands at p, if its first sign may be. -/
def nw (s : ByteArray) (p : Nat) : Nat := if btw (sgn s p) 97 122 = true then wl s.data.toList p else 0
theorem nw_zero {s : ByteArray} {p : Nat} (h33 : ¬ s.data.toList[p]? = some 33) (h : nw s p = 0) : pName s.data.toList p = .no p := by
  rw [pName, if_neg h33]
  by_cases h1 : p < s.size
  · rw [get_of s _ h1]
    have hb : btw (s[p].toNat : Int) 97 122 = false := by
      cases hb : btw (s[p].toNat : Int) 97 122 with
      | false => rfl
      | true =>
        rw [nw, sgn_in h1, if_pos hb] at h
        have := wl_pos h1 hb
        omega
    simp [hb]
  · rw [get_none s _ h1]
theorem nw_pos {s : ByteArray} {p : Nat} (h33 : ¬ s.data.toList[p]? = some 33) (h : 0 < nw s p) : p + nw s p ≤ s.size ∧ pName s.data.toList p = .ok ((s.data.toList.drop p).take (nw s p)) (p + nw s p) := by
  have hb : btw (sgn s p) 97 122 = true := by
    cases hb : btw (sgn s p) 97 122 with
    | true => rfl
    | false => rw [nw, hb] at h; simp at h
  have h1 : p < s.size := by
    by_cases h1 : p < s.size
    · exact h1
    · rw [sgn_out h1] at hb; simp [btw] at hb
  have e : nw s p = wl s.data.toList p := by rw [nw, if_pos hb]
  rw [e]
  refine ⟨wl_le s p (by omega), ?_⟩
  rw [pName, if_neg h33, get_of s _ h1]
  rw [sgn_in h1] at hb
  simp [hb]
/-- The sign at p + k goes on with the word. -/
theorem nw_on {s : ByteArray} {p k : Nat} (h : k < nw s p) : innerI (sgn s (p + k)) = true ∧ (k = 0 → btw (sgn s (p + k)) 97 122 = true) := by
  have hb : btw (sgn s p) 97 122 = true := by
    cases hb : btw (sgn s p) 97 122 with
    | true => rfl
    | false => rw [nw, hb] at h; simp at h
  rw [nw, if_pos hb] at h
  obtain ⟨h1, h2⟩ := wl_in h
  rw [sgn_in h1]
  exact ⟨h2, fun e => by subst e; rw [← sgn_in h1]; exact hb⟩
theorem nw_off {s : ByteArray} {p : Nat} : btw (sgn s (p + nw s p)) 97 122 = false ∧ (0 < nw s p → innerI (sgn s (p + nw s p)) = false) := by
  have key : 0 < nw s p → innerI (sgn s (p + nw s p)) = false := by
    intro h
    have hb : btw (sgn s p) 97 122 = true := by
      cases hb : btw (sgn s p) 97 122 with
      | true => rfl
      | false => rw [nw, hb] at h; simp at h
    rw [nw, if_pos hb]
    by_cases h1 : p + wl s.data.toList p < s.size
    · rw [sgn_in h1]; exact wl_end h1
    · rw [sgn_out h1]; decide
  refine ⟨?_, key⟩
  by_cases h : 0 < nw s p
  · have := key h
    simp [innerI] at this
    exact this.1.1
  · have h0 : nw s p = 0 := by omega
    rw [h0, Nat.add_zero]
    cases hb : btw (sgn s p) 97 122 with
    | false => rfl
    | true =>
      have h1 : p < s.size := by
        by_cases h1 : p < s.size
        · exact h1
        · rw [sgn_out h1] at hb; simp [btw] at hb
      have := wl_pos (s := s) (p := p) h1 (by rw [← sgn_in h1]; exact hb)
      rw [nw, if_pos hb] at h0
      omega

/-- Three cells of a new block are stored. -/
theorem fin3n {w W : World} {r : Nat} {x y z : Value} (hr : w.heap.size ≤ r) (hX : W.heap[r]? = some (.cells #[x, y, z] 48)) (hB : Below w.heap.size w W) (a c d : Value) :
    ∃ W', ((W.setCell ⟨r, 0, none⟩ a).setCell ⟨r, 1, none⟩ c).setCell ⟨r, 2, none⟩ d = W' ∧ W'.cell? ⟨r, 0, none⟩ = some a ∧ W'.cell? ⟨r, 1, none⟩ = some c ∧ W'.cell? ⟨r, 2, none⟩ = some d ∧ Below w.heap.size w W' ∧ W.grownBy W' (some r) := by
  have h3 : W.grownBy (((W.setCell ⟨r, 0, none⟩ a).setCell ⟨r, 1, none⟩ c).setCell ⟨r, 2, none⟩ d) (some r) := G.trans (G.trans (grown_set r 0 a) (grown_set r 1 c)) (grown_set r 2 d)
  have hc := set3 (a := a) (b := c) (c := d) hX
  refine ⟨_, rfl, by simp [World.cell?, hc], by simp [World.cell?, hc], by simp [World.cell?, hc], ?_, h3⟩
  exact ⟨h3.os.trans hB.os, h3.tape.trans hB.tape, h3.output.trans hB.output, Nat.le_trans hB.size h3.size, fun k hk => (h3.block k (Nat.lt_of_lt_of_le hk hB.size) (by simp; omega)).trans (hB.block k hk)⟩

/-- What listAt does, at fuel n. -/
def RC (n : Nat) : Prop := ∀ (s : ByteArray) (p : Nat) (w : World), s.size ≤ 6000 → p ≤ s.size → s.size < n + p →
    Calls Tryd.prog 35 #[.string s, .int .i64 p] w fun e w' => Below w.heap.size w w' ∧ ((∃ T us q, pTerms s.data.toList n p = .ok us q ∧ BSim T us ∧ e = .returned (.tuple #[.slice T.a T.len T.cap, .int .i64 (q : Nat), .bool true]) ∧ TIn w' T ∧ Above w.heap.size T ∧ q ≤ s.size ∧ p < q) ∨ (∃ q, pTerms s.data.toList n p = .no q ∧ e = .returned (.tuple #[.slice none 0 0, .int .i64 (q : Nat), .bool false])))
/-- What termAt answers. -/
def RT (n : Nat) (s : ByteArray) (p : Nat) (w : World) (e : Ending) (w' : World) : Prop :=
  Below w.heap.size w w' ∧ ((∃ T U q, pTermW (pTerms s.data.toList n) s.data.toList p = .ok U q ∧ Sim T U ∧ e = .returned (.tuple #[T.val, .int .i64 (q : Nat), .bool true]) ∧ TIn w' T ∧ Above w.heap.size T ∧ q ≤ s.size ∧ p < q) ∨ (∃ (X : Tm) (q : Nat), pTermW (pTerms s.data.toList n) s.data.toList p = .no q ∧ e = .returned (.tuple #[X.val, .int .i64 (q : Nat), .bool false])))

set_option maxRecDepth 100000 in
set_option maxHeartbeats 4000000 in
/-- .. a variable. -/
theorem termAt_var (n : Nat) (s : ByteArray) (p : Nat) (w : World) (hs : s.size ≤ 6000) (hv : s.data.toList[p]? = some 86) :
    Calls Tryd.prog 32 #[.string s, .int .i64 p] w (RT n s p w) := by
  have HP : Hid (pTermW (pTerms s.data.toList n) s.data.toList p = match pVar s.data.toList p with
      | .ok n q => .ok (.mk n ⟨#[]⟩ none 0 0 (fun _ => .nil)) q
      | .no q => .no q) := by rw [Hid, pTermW, if_pos hv]; rfl
  have e0 : sgnI s (p : Int) = 86 := (sgn_at s p 86 (by decide)).1 hv
  have hb0 : (sgnI s (p : Int) == 86) = true := by rw [e0]; rfl
  have hlt : p < s.size := by
    by_cases h : p < s.size
    · exact h
    · rw [get_none s _ h] at hv; exact absurd hv (by simp)
  have i1 : sgnI s ((p : Int) + 1) = sgn s (p + 1) := rfl
  have i2 : sgnI s ((p : Int) + 2) = sgn s (p + 2) := rfl
  obtain ⟨a1, a2⟩ := sgn_lt s (p + 1)
  obtain ⟨b1, b2⟩ := sgn_lt s (p + 2)
  have HXa : Hid ((w.alloc (.cells #[.int .i64 0, .string ⟨#[]⟩, .slice none 0 0] 48)).heap[w.heap.size]? = some (.cells #[.int .i64 0, .string ⟨#[]⟩, .slice none 0 0] 48)) := heap_alloc_new w _
  have HBa : Hid (Below w.heap.size w (w.alloc (.cells #[.int .i64 0, .string ⟨#[]⟩, .slice none 0 0] 48))) := (Below.refl _ _).alloc (Nat.le_refl _) _
  clear hv e0
  have z0 := block_cells HXa.out
  cases h1 : btw (sgn s (p + 1)) 49 57
  · have HP1 : Hid (pTermW (pTerms s.data.toList n) s.data.toList p = .no (p + 1)) := by rw [Hid, HP.out, pVar_no h1]
    go_enter Tryd.func32, Tryd.ntmps32
    go_wp2_with (first | (go_at_call 33; refine (signAt_i s _ _ (by omega)).mono ?_; rintro e w' ⟨rfl, rfl⟩) | (go_at_call 43; refine (between_any _ _ _ _).mono ?_; rintro e w' ⟨rfl, rfl⟩))
    obtain ⟨y0, y1, y2, _⟩ := z0
    refine bodyPost_ret (v := .tuple #[Tm.val (.mk 0 ⟨#[]⟩ none 0 0 (fun _ => .nil)), .int .i64 (p + 1 : Nat), .bool false]) ?_ rfl ⟨HBa.out, .inr ⟨_, p + 1, HP1.out, rfl⟩⟩
    simp [results, Tryd.results32, go_sem, y0, y1, y2, Tm.val, Tm.v, Tm.nm, Tm.a, Tm.len, Tm.cap]
  · have hd1 : 49 ≤ sgn s (p + 1) ∧ sgn s (p + 1) ≤ 57 := by simp [btw] at h1; omega
    obtain ⟨d1, d2⟩ := hd1
    cases h2 : btw (sgn s (p + 2)) 48 57
    · obtain ⟨hl, hq⟩ := pVar_one h1 h2
      have HP1 : Hid (pTermW (pTerms s.data.toList n) s.data.toList p = .ok (.mk ((sgn s (p + 1)).toNat - 48 : Nat) ⟨#[]⟩ none 0 0 (fun _ => .nil)) (p + 2)) := by rw [Hid, HP.out, hq]
      clear hq
      go_enter Tryd.func32, Tryd.ntmps32
      go_wp2_with (first | (go_at_call 33; refine (signAt_i s _ _ (by omega)).mono ?_; rintro e w' ⟨rfl, rfl⟩) | (go_at_call 43; refine (between_any _ _ _ _).mono ?_; rintro e w' ⟨rfl, rfl⟩))
      have hB' : Below w.heap.size w (w.alloc (.cells #[.int .i64 (sgn s (p + 1) - 48), .string ⟨#[]⟩, .slice none 0 0] 48)) := (Below.refl _ _).alloc (Nat.le_refl _) _
      have ei : sgn s (p + 1) - 48 = (((sgn s (p + 1)).toNat - 48 : Nat) : Int) := by omega
      refine bodyPost_ret (v := .tuple #[Tm.val (.mk ((sgn s (p + 1)).toNat - 48 : Nat) ⟨#[]⟩ none 0 0 (fun _ => .nil)), .int .i64 (p + 2 : Nat), .bool true]) ?_ rfl ⟨hB', .inl ⟨.mk ((sgn s (p + 1)).toNat - 48 : Nat) ⟨#[]⟩ none 0 0 (fun _ => .nil), _, p + 2, HP1.out, ⟨rfl, rfl, rfl, fun i hi => absurd hi (Nat.not_lt_zero i)⟩, rfl, ⟨Nat.zero_le _, Nat.zero_le _, fun i hi => absurd hi (Nat.not_lt_zero i)⟩, ⟨fun h => absurd h (Nat.lt_irrefl 0), fun i hi => absurd hi (Nat.not_lt_zero i)⟩, hl, by omega⟩⟩
      simp [results, Tryd.results32, go_sem, Tm.val, Tm.v, Tm.nm, Tm.a, Tm.len, Tm.cap, ei]
    · obtain ⟨hl, hq⟩ := pVar_two h1 h2
      have HP1 : Hid (pTermW (pTerms s.data.toList n) s.data.toList p = .ok (.mk (10 * ((sgn s (p + 1)).toNat - 48) + ((sgn s (p + 2)).toNat - 48) : Nat) ⟨#[]⟩ none 0 0 (fun _ => .nil)) (p + 3)) := by rw [Hid, HP.out, hq]
      have hl' : (p : Int) + 2 < (s.size : Int) := by omega
      have h0p : (0 : Int) ≤ (p : Int) + 2 := by omega
      have ht : ((p : Int) + 2).toNat = p + 2 := by omega
      have e2 : (s[p + 2].toNat : Int) = sgn s (p + 2) := (sgn_in hl).symm
      have d3 : 48 ≤ sgn s (p + 2) ∧ sgn s (p + 2) ≤ 57 := by simp [btw] at h2; omega
      obtain ⟨d4, d5⟩ := d3
      clear hq
      go_enter Tryd.func32, Tryd.ntmps32
      go_wp2_with (first | (go_at_call 33; refine (signAt_i s _ _ (by omega)).mono ?_; rintro e w' ⟨rfl, rfl⟩) | (go_at_call 43; refine (between_any _ _ _ _).mono ?_; rintro e w' ⟨rfl, rfl⟩))
      have hB' : Below w.heap.size w (w.alloc (.cells #[.int .i64 (10 * (sgn s (p + 1) - 48) + sgn s (p + 2) - 48), .string ⟨#[]⟩, .slice none 0 0] 48)) := (Below.refl _ _).alloc (Nat.le_refl _) _
      have ei : 10 * (sgn s (p + 1) - 48) + sgn s (p + 2) - 48 = ((10 * ((sgn s (p + 1)).toNat - 48) + ((sgn s (p + 2)).toNat - 48) : Nat) : Int) := by omega
      refine bodyPost_ret (v := .tuple #[Tm.val (.mk (10 * ((sgn s (p + 1)).toNat - 48) + ((sgn s (p + 2)).toNat - 48) : Nat) ⟨#[]⟩ none 0 0 (fun _ => .nil)), .int .i64 (p + 3 : Nat), .bool true]) ?_ rfl ⟨hB', .inl ⟨.mk (10 * ((sgn s (p + 1)).toNat - 48) + ((sgn s (p + 2)).toNat - 48) : Nat) ⟨#[]⟩ none 0 0 (fun _ => .nil), _, p + 3, HP1.out, ⟨rfl, rfl, rfl, fun i hi => absurd hi (Nat.not_lt_zero i)⟩, rfl, ⟨Nat.zero_le _, Nat.zero_le _, fun i hi => absurd hi (Nat.not_lt_zero i)⟩, ⟨fun h => absurd h (Nat.lt_irrefl 0), fun i hi => absurd hi (Nat.not_lt_zero i)⟩, hl, by omega⟩⟩
      simp [results, Tryd.results32, go_sem, Tm.val, Tm.v, Tm.nm, Tm.a, Tm.len, Tm.cap, ei]
      omega
end Go.Proofs.YtmggaclaoefdaaaDoor
