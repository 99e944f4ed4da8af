/- The reader: what terms a text has, and that they lie in new memory. -/
import Derived.Test.YtmggaclaoefdaaaDoorRd6
import Derived.Maps.AppendAt
namespace Go.Proofs.YtmggaclaoefdaaaDoor
open Go.RowKit

/-- The same term, wherever it lies. -/
def Sim : Tm → Tm → Prop
  | .nil, U => U.v = 0 ∧ U.nm = ⟨#[]⟩ ∧ U.len = 0
  | .mk v nm _ len _ f, U => v = U.v ∧ nm = U.nm ∧ len = U.len ∧ ∀ i, i < len → Sim (f i) (U.f i)
/-- All its arguments lie in blocks from lo on. -/
def Above (lo : Nat) : Tm → Prop
  | .nil => True
  | .mk _ _ a len _ f => (0 < len → ∃ b o, a = some ⟨b, o, none⟩ ∧ lo ≤ b) ∧ ∀ i, i < len → Above lo (f i)
/-- None of its arguments lies in block k. -/
def NB (k : Nat) : Tm → Prop
  | .nil => True
  | .mk _ _ a len _ f => (0 < len → ∃ b o, a = some ⟨b, o, none⟩ ∧ b ≠ k) ∧ ∀ i, i < len → NB k (f i)
theorem Above.mono {lo lo' : Nat} {T : Tm} (h : Above lo T) (hl : lo' ≤ lo) : Above lo' T := by
  induction T with
  | nil => trivial
  | mk v nm a len cap f ih => exact ⟨fun h0 => let ⟨b, o, h1, h2⟩ := h.1 h0; ⟨b, o, h1, Nat.le_trans hl h2⟩, fun i hi => ih i (h.2 i hi)⟩
theorem Above.nb {lo k : Nat} {T : Tm} (h : Above lo T) (hk : k < lo) : NB k T := by
  induction T with
  | nil => trivial
  | mk v nm a len cap f ih => exact ⟨fun h0 => let ⟨b, o, h1, h2⟩ := h.1 h0; ⟨b, o, h1, by omega⟩, fun i hi => ih i (h.2 i hi)⟩
theorem TIn.nb {w : World} {k : Nat} {T : Tm} (h : TIn w T) (hk : w.heap.size ≤ k) : NB k T := by
  induction T with
  | nil => trivial
  | mk v nm a len cap f ih =>
    refine ⟨fun h0 => ?_, fun i hi => ih i (h.2.2 i hi).2⟩
    obtain ⟨b, o, h1, h2, _⟩ := (h.2.2 0 h0).1
    have : b < w.heap.size := lt_of_cell h2
    exact ⟨b, o, h1, by omega⟩
theorem TIn.grown {w w' : World} {row : Option Nat} {T : Tm} (h : TIn w T) (hg : w.grownBy w' row) (hn : ∀ k, row = some k → NB k T) : TIn w' T := by
  induction T with
  | nil => exact h
  | mk v nm a len cap f ih =>
    refine ⟨h.1, h.2.1, fun i hi => ⟨?_, ih i (h.2.2 i hi).2 (fun k hk => (hn k hk).2 i hi)⟩⟩
    obtain ⟨b, o, rfl, h0, h1, h2⟩ := (h.2.2 i hi).1
    have hne : some b ≠ row := fun e => by
      obtain ⟨b', o', e1, e2⟩ := (hn b e.symm).1 (by omega)
      exact e2 (by cases e1; rfl)
    exact ⟨b, o, rfl, hg.cell h0 hne, hg.cell h1 hne, hg.cell h2 hne⟩

def pTermW (ts : Nat → R (List Tm)) (l : List UInt8) (p : Nat) : R Tm :=
  if l[p]? = some 86 then
    match pVar l p with
    | .ok n q => .ok (.mk n ⟨#[]⟩ none 0 0 (fun _ => .nil)) q
    | .no q => .no q
  else
    match pName l p with
    | .no q => .no q
    | .ok nm q =>
      if l[q]? = some 40 then
        match ts (q + 1) with
        | .no r => .no r
        | .ok us r =>
          match mAt l r [41] with
          | some r' => .no r'
          | none => .ok (.mk 0 ⟨nm.toArray⟩ none us.length 0 (fun i => us.getD i .nil)) (r + 1)
      else .ok (.mk 0 ⟨nm.toArray⟩ none 0 0 (fun _ => .nil)) q
def prep (ts : List Tm) : R (List Tm) → R (List Tm)
  | .ok us r => .ok (ts ++ us) r
  | .no r => .no r
/-- What stands behind a term of a list. -/
def pTailW (ts : Nat → R (List Tm)) (l : List UInt8) (q : Nat) : R (List Tm) :=
  if l[q]? = some 44 then
    match mAt l q [44, 32] with
    | some r => .no r
    | none => ts (q + 2)
  else .ok [] q
def pTerms (l : List UInt8) : Nat → Nat → R (List Tm)
  | 0, p => .no p
  | n + 1, p =>
    match pTermW (pTerms l n) l p with
    | .no r => .no r
    | .ok t q => prep [t] (pTailW (pTerms l n) l q)

/-- What the call terms does, at fuel n. -/
def TC (n : Nat) : Prop := ∀ (b : Nat) (s : ByteArray) (p : Nat) (w : World), RS b s p w → s.size ≤ 6000 → p ≤ s.size → s.size < n + p →
    Calls Tryd.prog 51 #[.pointer (some ⟨b, 0, none⟩)] w fun e w' => (∃ T us q, pTerms s.data.toList n p = .ok us q ∧ T.len = us.length ∧ 0 < T.len ∧ (∀ i, i < T.len → Sim (T.f i) (us.getD i .nil)) ∧ e = .returned (.slice T.a T.len T.cap) ∧ TIn w' T ∧ Above w.heap.size T ∧ q ≤ s.size ∧ p < q ∧ RS b s q w' ∧ G b w w') ∨ (∃ q, pTerms s.data.toList n p = .no q ∧ e = .panicked [pent q] ∧ G b w w')

/-- The three cells of a block. -/
theorem set3 {W : World} {r : Nat} {x y z a b c : Value} (h : W.heap[r]? = some (.cells #[x, y, z] 48)) :
    (((W.setCell ⟨r, 0, none⟩ a).setCell ⟨r, 1, none⟩ b).setCell ⟨r, 2, none⟩ c).heap[r]? = some (.cells #[a, b, c] 48) := by
  simp only [World.setCell, Array.getElem?_modify]
  simp [h]

theorem block_cells {w : World} {k : Nat} {x y z : Value} {t : TypeId} (h : w.heap[k]? = some (.cells #[x, y, z] t)) :
    w.cell? ⟨k, 0, none⟩ = some x ∧ w.cell? ⟨k, 1, none⟩ = some y ∧ w.cell? ⟨k, 2, none⟩ = some z ∧ w.frozen? ⟨k, 0, none⟩ = false ∧ w.frozen? ⟨k, 1, none⟩ = false ∧ w.frozen? ⟨k, 2, none⟩ = false := by
  refine ⟨?_, ?_, ?_, ?_, ?_, ?_⟩ <;> simp [World.cell?, World.frozen?, h]
theorem TIn.retop {w : World} {T : Tm} {v : Int} {nm : ByteArray} (h : TIn w T) (hn : nm.size ≤ maxLen) : TIn w (.mk v nm T.a T.len T.cap T.f) := ⟨hn, h.len, fun _ hi => ⟨h.row hi, h.kid hi⟩⟩
theorem Above.retop {lo : Nat} {T : Tm} {v : Int} {nm : ByteArray} (h : Above lo T) : Above lo (.mk v nm T.a T.len T.cap T.f) := by
  cases T with
  | nil => exact ⟨fun h0 => absurd h0 (Nat.lt_irrefl 0), fun i hi => absurd hi (Nat.not_lt_zero i)⟩
  | mk => exact h
theorem grown_set {W : World} (r i : Nat) (v : Value) : W.grownBy (W.setCell ⟨r, i, none⟩ v) (some r) := G.set r W i v
theorem fin3 {w W : World} {r b : Nat} {s : ByteArray} {q : Nat} {x y z : Value} (hr : r = w.heap.size) (hX : W.heap[r]? = some (.cells #[x, y, z] 48)) (hG : G b w W) (hbr : b ≠ r) (hR : RS b s q W) (a c d : Value) :
    ∃ W', ((W.setCell ⟨r, 0, none⟩ a).setCell ⟨r, 1, none⟩ c).setCell ⟨r, 2, none⟩ d = W' ∧ W'.cell? ⟨r, 0, none⟩ = some a ∧ W'.cell? ⟨r, 1, none⟩ = some c ∧ W'.cell? ⟨r, 2, none⟩ = some d ∧ RS b s q W' ∧ G b w W' ∧ W.grownBy W' (some r) := by
  have h3 : W.grownBy (((W.setCell ⟨r, 0, none⟩ a).setCell ⟨r, 1, none⟩ c).setCell ⟨r, 2, none⟩ d) (some r) := G.trans (G.trans (grown_set r 0 a) (grown_set r 1 c)) (grown_set r 2 d)
  have hc := set3 (a := a) (b := c) (c := d) hX
  refine ⟨_, rfl, by simp [World.cell?, hc], by simp [World.cell?, hc], by simp [World.cell?, hc], (h3.block b hR.lt (by simp; omega)).trans hR, ?_, h3⟩
  subst hr
  refine ⟨h3.os.trans hG.os, h3.tape.trans hG.tape, h3.output.trans hG.output, Nat.le_trans hG.size h3.size, fun k hk hb => ?_⟩
  exact (h3.block k (Nat.lt_of_lt_of_le hk hG.size) (by simp; omega)).trans (hG.block k hk hb)

set_option maxRecDepth 100000 in
set_option maxHeartbeats 2000000 in
theorem term_of (n : Nat) (hts : TC n) (b : Nat) (s : ByteArray) (p : Nat) (w : World) (hr : RS b s p w) (hs : s.size ≤ 6000) (hp : p ≤ s.size) (hf : s.size ≤ n + p) :
    Calls Tryd.prog 59 #[.pointer (some ⟨b, 0, none⟩)] w fun e w' => (∃ T U q, pTermW (pTerms s.data.toList n) s.data.toList p = .ok U q ∧ Sim T U ∧ e = .returned T.val ∧ TIn w' T ∧ Above w.heap.size T ∧ q ≤ s.size ∧ p < q ∧ RS b s q w' ∧ G b w w') ∨ (∃ q, pTermW (pTerms s.data.toList n) s.data.toList p = .no q ∧ e = .panicked [pent q] ∧ G b w w') := by
  have HTC : Hid (TC n) := hts
  have hbl := hr.lt
  have HRa : Hid (RS b s p (w.alloc (.cells #[.int .i64 0, .string ⟨#[]⟩, .slice none 0 0] 48))) := hr.keep ((Below.refl _ _).alloc (Nat.le_refl _) _)
  have HGa : Hid (G b w (w.alloc (.cells #[.int .i64 0, .string ⟨#[]⟩, .slice none 0 0] 48))) := G.alloc b w _
  have HXa : Hid ((w.alloc (.cells #[.int .i64 0, .string ⟨#[]⟩, .slice none 0 0] 48)).heap[w.heap.size]? = some (.cells #[.int .i64 0, .string ⟨#[]⟩, .slice none 0 0] 48)) := heap_alloc_new w _
  have HSa : Hid (w.heap.size < (w.alloc (.cells #[.int .i64 0, .string ⟨#[]⟩, .slice none 0 0] 48)).heap.size) := by rw [Hid]; simp
  clear hts hr
  go_enter Tryd.func59, Tryd.ntmps59
  go_wp2_with fail
  generalize w.alloc (.cells #[.int .i64 0, .string ⟨#[]⟩, .slice none 0 0] 48) = wa at *
  refine (ahead_any b s p 86 wa HRa.out hp).mono ?_
  rintro e w0 ⟨rfl, n0, rfl⟩
  have HR0 : Hid (RS b s p (wa.drewN n0)) := HRa.out.drew n0
  have HG0 : Hid (G b w (wa.drewN n0)) := HGa.out.trans (G.drewN b wa n0)
  have HX0 : Hid ((wa.drewN n0).heap[w.heap.size]? = some (.cells #[.int .i64 0, .string ⟨#[]⟩, .slice none 0 0] 48)) := by rw [Hid, drewN_heap]; exact HXa.out
  generalize wa.drewN n0 = w0 at *
  have hl0 : w.heap.size < w0.heap.size := (Array.getElem?_eq_some_iff.1 HX0.out).1
  by_cases hv : s.data.toList[p]? = some 86
  · have hlt : p < s.size := by
      by_cases h : p < s.size
      · exact h
      · rw [get_none s _ h] at hv; exact absurd hv (by simp)
    have HP : Hid (pTermW (pTerms s.data.toList n) s.data.toList p = match pVar s.data.toList p with
      | .ok n q => .ok (.mk n ⟨#[]⟩ none 0 0 (fun _ => .nil)) q
      | .no q => .no q) := by rw [Hid, pTermW, if_pos hv]
    have hat : atC s p 86 = true := by unfold atC; rw [hv]; rfl
    rw [hat]
    have HV : Hid (Calls Tryd.prog 65 #[.pointer (some ⟨b, 0, none⟩)] w0 fun e w' => (∃ n q, pVar s.data.toList p = .ok n q ∧ n ≤ 99 ∧ q ≤ s.size ∧ p < q ∧ e = .returned (.int .i64 n) ∧ RS b s q w' ∧ G b w0 w') ∨ (∃ q, pVar s.data.toList p = .no q ∧ e = .panicked [pent q] ∧ G b w0 w')) := variable_rd b s p w0 HR0.out hlt hs hat
    clear hv hat
    go_wp2_with fail
    refine HV.out.mono ?_
    rintro e w1 (⟨m, q, hpv, hm, hq1, hq2, rfl, hR1, hG1⟩ | ⟨q, hpv, rfl, hG1⟩)
    case inr => exact ⟨rfl, .inr ⟨q, by rw [HP.out, hpv], rfl, HG0.out.trans hG1⟩⟩
    have HP1 : Hid (pTermW (pTerms s.data.toList n) s.data.toList p = .ok (.mk m ⟨#[]⟩ none 0 0 (fun _ => .nil)) q) := by rw [Hid, HP.out, hpv]
    have HR1 : Hid (RS b s q w1) := hR1
    have HG1 : Hid (G b w w1) := HG0.out.trans hG1
    have HX1 : Hid (w1.heap[w.heap.size]? = some (.cells #[.int .i64 0, .string ⟨#[]⟩, .slice none 0 0] 48)) := (hG1.block _ hl0 (by simp; omega)).trans HX0.out
    clear hpv hR1 hG1
    have x0 : w1.cell? ⟨w.heap.size, 0, none⟩ = some (.int .i64 0) := by have := HX1.out; simp [World.cell?, this]
    have x1 : w1.cell? ⟨w.heap.size, 1, none⟩ = some (.string ⟨#[]⟩) := by have := HX1.out; simp [World.cell?, this]
    have x2 : w1.cell? ⟨w.heap.size, 2, none⟩ = some (.slice none 0 0) := by have := HX1.out; simp [World.cell?, this]
    have f0 : w1.frozen? ⟨w.heap.size, 0, none⟩ = false := by have := HX1.out; simp [World.frozen?, this]
    have f1 : w1.frozen? ⟨w.heap.size, 1, none⟩ = false := by have := HX1.out; simp [World.frozen?, this]
    have f2 : w1.frozen? ⟨w.heap.size, 2, none⟩ = false := by have := HX1.out; simp [World.frozen?, this]
    go_wp2_with fail
    obtain ⟨W', hW, y0, y1, y2, hR', hG', _⟩ := fin3 rfl HX1.out HG1.out (by omega) HR1.out (.int .i64 m) (.string ⟨#[]⟩) (.slice none 0 0)
    rw [hW]
    refine bodyPost_ret (v := Tm.val (.mk m ⟨#[]⟩ none 0 0 (fun _ => .nil))) ?_ rfl (.inl ⟨.mk m ⟨#[]⟩ none 0 0 (fun _ => .nil), _, q, HP1.out, ⟨rfl, rfl, rfl, fun i hi => absurd hi (Nat.not_lt_zero i)⟩, rfl, ⟨Nat.zero_le _, Nat.zero_le _, fun i hi => absurd hi (Nat.not_lt_zero i)⟩, ⟨fun h => absurd h (Nat.lt_irrefl 0), fun i hi => absurd hi (Nat.not_lt_zero i)⟩, hq1, hq2, hR', hG'⟩)
    simp [results, Tryd.results59, go_sem, y0, y1, y2, Tm.val, Tm.v, Tm.nm, Tm.a, Tm.len, Tm.cap]
  have HP : Hid (pTermW (pTerms s.data.toList n) s.data.toList p = match pName s.data.toList p with
    | .no q => .no q
    | .ok nm q =>
      if s.data.toList[q]? = some 40 then
        match pTerms s.data.toList n (q + 1) with
        | .no r => .no r
        | .ok us r =>
          match mAt s.data.toList r [41] with
          | some r' => .no r'
          | none => .ok (.mk 0 ⟨nm.toArray⟩ none us.length 0 (fun i => us.getD i .nil)) (r + 1)
      else .ok (.mk 0 ⟨nm.toArray⟩ none 0 0 (fun _ => .nil)) q) := by rw [Hid, pTermW, if_neg hv]
  rw [show atC s p 86 = false from by unfold atC; exact beq_eq_false_iff_ne.2 hv]
  have HV : Hid (Calls Tryd.prog 66 #[.pointer (some ⟨b, 0, none⟩)] w0 fun e w' => (∃ nm q, pName s.data.toList p = .ok nm.data.toList q ∧ nm.size ≤ 6000 ∧ q ≤ s.size ∧ p < q ∧ e = .returned (.string nm) ∧ RS b s q w' ∧ G b w0 w') ∨ (∃ q, pName s.data.toList p = .no q ∧ e = .panicked [pent q] ∧ G b w0 w')) := name_rd b s p w0 HR0.out hp hs
  clear hv
  go_wp2_with fail
  refine HV.out.mono ?_
  rintro e w1 (⟨nm, q, hpv, hnm, hq1, hq2, rfl, hR1, hG1⟩ | ⟨q, hpv, rfl, hG1⟩)
  case inr => exact ⟨rfl, .inr ⟨q, by rw [HP.out, hpv], rfl, HG0.out.trans hG1⟩⟩
  have HP1 : Hid (pTermW (pTerms s.data.toList n) s.data.toList p = if s.data.toList[q]? = some 40 then
        match pTerms s.data.toList n (q + 1) with
        | .no r => .no r
        | .ok us r =>
          match mAt s.data.toList r [41] with
          | some r' => .no r'
          | none => .ok (.mk 0 nm none us.length 0 (fun i => us.getD i .nil)) (r + 1)
      else .ok (.mk 0 nm none 0 0 (fun _ => .nil)) q) := by
    rw [Hid, HP.out, hpv]
  have HR1 : Hid (RS b s q w1) := hR1
  have HG1 : Hid (G b w w1) := HG0.out.trans hG1
  have HX1 : Hid (w1.heap[w.heap.size]? = some (.cells #[.int .i64 0, .string ⟨#[]⟩, .slice none 0 0] 48)) := (hG1.block _ hl0 (by simp; omega)).trans HX0.out
  have hl1 : w.heap.size < w1.heap.size := Nat.lt_of_lt_of_le hl0 hG1.size
  have hmx : nm.size ≤ maxLen := by unfold maxLen; omega
  clear hpv hR1 hG1
  -- the variable t
  have HRb : Hid (RS b s q (w1.alloc (.cells #[.int .i64 0, .string nm, .slice none 0 0] 48))) := HR1.out.keep ((Below.refl _ _).alloc (Nat.le_refl _) _)
  have HGb : Hid (G b w (w1.alloc (.cells #[.int .i64 0, .string nm, .slice none 0 0] 48))) := HG1.out.trans (G.alloc b w1 _)
  have HXb : Hid ((w1.alloc (.cells #[.int .i64 0, .string nm, .slice none 0 0] 48)).heap[w.heap.size]? = some (.cells #[.int .i64 0, .string ⟨#[]⟩, .slice none 0 0] 48)) := by rw [Hid, heap_alloc_old _ _ hl1]; exact HX1.out
  have HYb : Hid ((w1.alloc (.cells #[.int .i64 0, .string nm, .slice none 0 0] 48)).heap[w1.heap.size]? = some (.cells #[.int .i64 0, .string nm, .slice none 0 0] 48)) := heap_alloc_new w1 _
  go_wp2_with fail
  generalize w1.alloc (.cells #[.int .i64 0, .string nm, .slice none 0 0] 48) = w2 at *
  refine (ahead_any b s q 40 w2 HRb.out hq1).mono ?_
  rintro e w3 ⟨rfl, n3, rfl⟩
  have HR3 : Hid (RS b s q (w2.drewN n3)) := HRb.out.drew n3
  have HG3 : Hid (G b w (w2.drewN n3)) := HGb.out.trans (G.drewN b w2 n3)
  have HX3 : Hid ((w2.drewN n3).heap[w.heap.size]? = some (.cells #[.int .i64 0, .string ⟨#[]⟩, .slice none 0 0] 48)) := by rw [Hid, drewN_heap]; exact HXb.out
  have HY3 : Hid ((w2.drewN n3).heap[w1.heap.size]? = some (.cells #[.int .i64 0, .string nm, .slice none 0 0] 48)) := by rw [Hid, drewN_heap]; exact HYb.out
  generalize w2.drewN n3 = w3 at *
  have hl3 : w1.heap.size < w3.heap.size := (Array.getElem?_eq_some_iff.1 HY3.out).1
  by_cases hc : s.data.toList[q]? = some 40
  case neg =>
    have HP2 : Hid (pTermW (pTerms s.data.toList n) s.data.toList p = .ok (.mk 0 nm none 0 0 (fun _ => .nil)) q) := by rw [Hid, HP1.out, if_neg hc]
    rw [show atC s q 40 = false from by unfold atC; exact beq_eq_false_iff_ne.2 hc]
    clear hc
    obtain ⟨x0, x1, x2, f0, f1, f2⟩ := block_cells HX3.out
    obtain ⟨z0, z1, z2, _, _, _⟩ := block_cells HY3.out
    go_wp2_with fail
    obtain ⟨W', hW, y0, y1, y2, hR', hG', _⟩ := fin3 rfl HX3.out HG3.out (by omega) HR3.out (.int .i64 0) (.string nm) (.slice none 0 0)
    rw [hW]
    refine bodyPost_ret (v := Tm.val (.mk 0 nm none 0 0 (fun _ => .nil))) ?_ rfl (.inl ⟨.mk 0 nm none 0 0 (fun _ => .nil), _, q, HP2.out, ⟨rfl, rfl, rfl, fun i hi => absurd hi (Nat.not_lt_zero i)⟩, rfl, ⟨hmx, Nat.zero_le _, fun i hi => absurd hi (Nat.not_lt_zero i)⟩, ⟨fun h => absurd h (Nat.lt_irrefl 0), fun i hi => absurd hi (Nat.not_lt_zero i)⟩, hq1, hq2, hR', hG'⟩)
    simp [results, Tryd.results59, go_sem, y0, y1, y2, Tm.val, Tm.v, Tm.nm, Tm.a, Tm.len, Tm.cap]
  have HP2 : Hid (pTermW (pTerms s.data.toList n) s.data.toList p = match pTerms s.data.toList n (q + 1) with
        | .no r => .no r
        | .ok us r =>
          match mAt s.data.toList r [41] with
          | some r' => .no r'
          | none => .ok (.mk 0 nm none us.length 0 (fun i => us.getD i .nil)) (r + 1)) := by rw [Hid, HP1.out, if_pos hc]
  have hqs : q < s.size := by
    by_cases h : q < s.size
    · exact h
    · rw [get_none s _ h] at hc; exact absurd hc (by simp)
  rw [show atC s q 40 = true from by unfold atC; rw [hc]; rfl]
  have HM : Hid (mAt s.data.toList q [40] = none) := by rw [Hid, mAt, if_pos hc]; rfl
  clear hc
  go_wp2_with fail
  refine (must_any b s q ⟨#[40]⟩ _ HR3.out hq1 hs (show 1 ≤ 6000 by omega)).mono ?_
  rintro e w4 (⟨_, rfl, hR4, hG4⟩ | ⟨q', hq', _⟩)
  case inr => rw [show (⟨#[40]⟩ : ByteArray).data.toList = [40] from rfl, HM.out] at hq'; exact absurd hq' (by simp)
  have HR4 : Hid (RS b s (q + 1) w4) := hR4
  have HG4 : Hid (G b w w4) := HG3.out.trans hG4
  have HX4 : Hid (w4.heap[w.heap.size]? = some (.cells #[.int .i64 0, .string ⟨#[]⟩, .slice none 0 0] 48)) := (hG4.block _ (by omega) (by simp; omega)).trans HX3.out
  have HY4 : Hid (w4.heap[w1.heap.size]? = some (.cells #[.int .i64 0, .string nm, .slice none 0 0] 48)) := (hG4.block _ hl3 (by simp; omega)).trans HY3.out
  have hl4 : w1.heap.size < w4.heap.size := Nat.lt_of_lt_of_le hl3 hG4.size
  clear hR4 hG4
  go_wp2_with fail
  refine (HTC.out b s (q + 1) w4 HR4.out hs (by omega) (by omega)).mono ?_
  rintro e w5 (⟨T, us, r, hpt, hlen, hpos, hsim, rfl, hT5, hA5, hr1, hr2, hR5, hG5⟩ | ⟨r, hpt, rfl, hG5⟩)
  case inr => exact ⟨rfl, .inr ⟨r, by rw [HP2.out, hpt], rfl, HG4.out.trans hG5⟩⟩
  have HP3 : Hid (pTermW (pTerms s.data.toList n) s.data.toList p = match mAt s.data.toList r [41] with
          | some r' => .no r'
          | none => .ok (.mk 0 nm none us.length 0 (fun i => us.getD i .nil)) (r + 1)) := by rw [Hid, HP2.out, hpt]
  have HSim : Hid (T.len = us.length ∧ ∀ i, i < T.len → Sim (T.f i) (us.getD i .nil)) := ⟨hlen, hsim⟩
  have HT5 : Hid (TIn w5 T) := hT5
  have HA5 : Hid (Above w4.heap.size T) := hA5
  have HR5 : Hid (RS b s r w5) := hR5
  have HG5 : Hid (G b w w5) := HG4.out.trans hG5
  have HX5 : Hid (w5.heap[w.heap.size]? = some (.cells #[.int .i64 0, .string ⟨#[]⟩, .slice none 0 0] 48)) := (hG5.block _ (by omega) (by simp; omega)).trans HX4.out
  have HY5 : Hid (w5.heap[w1.heap.size]? = some (.cells #[.int .i64 0, .string nm, .slice none 0 0] 48)) := (hG5.block _ hl4 (by simp; omega)).trans HY4.out
  have hl5 : w4.heap.size ≤ w5.heap.size := hG5.size
  clear hpt hlen hpos hsim hT5 hA5 hR5 hG5
  -- t.Args is stored
  have hgs := grown_set (W := w5) w1.heap.size 2 (.slice T.a T.len T.cap)
  have HT6 : Hid (TIn (w5.setCell ⟨w1.heap.size, 2, none⟩ (.slice T.a T.len T.cap)) T) := HT5.out.grown hgs (fun k hk => by obtain rfl := Option.some.inj hk; exact HA5.out.nb hl4)
  have HR6 : Hid (RS b s r (w5.setCell ⟨w1.heap.size, 2, none⟩ (.slice T.a T.len T.cap))) := (hgs.block b HR5.out.lt (by simp; omega)).trans HR5.out
  have HX6 : Hid ((w5.setCell ⟨w1.heap.size, 2, none⟩ (.slice T.a T.len T.cap)).heap[w.heap.size]? = some (.cells #[.int .i64 0, .string ⟨#[]⟩, .slice none 0 0] 48)) := (hgs.block _ (by omega) (by simp; omega)).trans HX5.out
  have HY6 : Hid ((w5.setCell ⟨w1.heap.size, 2, none⟩ (.slice T.a T.len T.cap)).heap[w1.heap.size]? = some (.cells #[.int .i64 0, .string nm, .slice T.a T.len T.cap] 48)) := by
    have h5 := HY5.out
    rw [Hid]
    simp only [World.setCell, Array.getElem?_modify]
    simp [h5]
  have HG6 : Hid (G b w (w5.setCell ⟨w1.heap.size, 2, none⟩ (.slice T.a T.len T.cap))) :=
    ⟨hgs.os.trans HG5.out.os, hgs.tape.trans HG5.out.tape, hgs.output.trans HG5.out.output, Nat.le_trans HG5.out.size hgs.size, fun k hk hb => (hgs.block k (Nat.lt_of_lt_of_le hk HG5.out.size) (by simp; omega)).trans (HG5.out.block k hk hb)⟩
  have hl6 : (w5.setCell ⟨w1.heap.size, 2, none⟩ (.slice T.a T.len T.cap)).heap.size = w5.heap.size := by simp [World.setCell]
  clear hgs
  obtain ⟨z0, z1, z2, g0, g1, g2⟩ := block_cells HY5.out
  go_wp2_with fail
  generalize w5.setCell ⟨w1.heap.size, 2, none⟩ (.slice T.a T.len T.cap) = w6 at *
  refine (must_any b s r ⟨#[41]⟩ _ HR6.out hr1 hs (show 1 ≤ 6000 by omega)).mono ?_
  rintro e w7 (⟨hm, rfl, hR7, hG7⟩ | ⟨r', hm, rfl, hG7⟩)
  case inr => exact ⟨rfl, .inr ⟨r', by rw [HP3.out]; rw [show (⟨#[41]⟩ : ByteArray).data.toList = [41] from rfl] at hm; rw [hm], rfl, HG6.out.trans hG7⟩⟩
  have hm' : mAt s.data.toList r [41] = none := hm
  have hrs : r + 1 ≤ s.size := by
    rw [mAt] at hm'
    split at hm'
    · rename_i h
      by_cases h2 : r < s.size
      · exact h2
      · rw [get_none s _ h2] at h; exact absurd h (by simp)
    · exact absurd hm' (by simp)
  have HP4 : Hid (pTermW (pTerms s.data.toList n) s.data.toList p = .ok (.mk 0 nm none us.length 0 (fun i => us.getD i .nil)) (r + 1)) := by rw [Hid, HP3.out, hm']
  have HR7 : Hid (RS b s (r + 1) w7) := hR7
  have HG7 : Hid (G b w w7) := HG6.out.trans hG7
  have HT7 : Hid (TIn w7 T) := HT6.out.grown hG7 (fun k hk => by obtain rfl := Option.some.inj hk; exact HA5.out.nb (by omega))
  have HX7 : Hid (w7.heap[w.heap.size]? = some (.cells #[.int .i64 0, .string ⟨#[]⟩, .slice none 0 0] 48)) := (hG7.block _ (by omega) (by simp; omega)).trans HX6.out
  have HY7 : Hid (w7.heap[w1.heap.size]? = some (.cells #[.int .i64 0, .string nm, .slice T.a T.len T.cap] 48)) := (hG7.block _ (by omega) (by simp; omega)).trans HY6.out
  clear hm hm' hR7 hG7 z0 z1 z2 g0 g1 g2
  obtain ⟨x0, x1, x2, f0, f1, f2⟩ := block_cells HX7.out
  obtain ⟨z0, z1, z2, _, _, _⟩ := block_cells HY7.out
  go_wp2_with fail
  obtain ⟨W', hW, y0, y1, y2, hR', hG', hgr⟩ := fin3 rfl HX7.out HG7.out (by omega) HR7.out (.int .i64 0) (.string nm) (.slice T.a T.len T.cap)
  rw [hW]
  have hT' : TIn W' T := HT7.out.grown hgr (fun k hk => by obtain rfl := Option.some.inj hk; exact HA5.out.nb (by omega))
  refine bodyPost_ret (v := Tm.val (.mk 0 nm T.a T.len T.cap T.f)) ?_ rfl (.inl ⟨.mk 0 nm T.a T.len T.cap T.f, _, r + 1, HP4.out, ⟨rfl, rfl, HSim.out.1, HSim.out.2⟩, rfl, hT'.retop hmx, (HA5.out.mono (by omega)).retop, hrs, by omega, hR', hG'⟩)
  simp [results, Tryd.results59, go_sem, y0, y1, y2, Tm.val, Tm.v, Tm.nm, Tm.a, Tm.len, Tm.cap]
end Go.Proofs.YtmggaclaoefdaaaDoor
