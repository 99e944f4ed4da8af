/- The reader: a clause. -/
import Derived.Test.YtmggaclaoefdaaaDoorRd8
namespace Go.Proofs.YtmggaclaoefdaaaDoor
open Go.RowKit

def pFin (l : List UInt8) (H : Tm) (us : List Tm) (r : Nat) : R (Tm × List Tm) :=
  match mAt l r [46, 10] with
  | some r' => .no r'
  | none => .ok (H, us) (r + 2)
def pClause (l : List UInt8) (n : Nat) (p : Nat) : R (Tm × List Tm) :=
  match pTermW (pTerms l n) l p with
  | .no q => .no q
  | .ok H q =>
    if l[q]? = some 32 then
      match mAt l q [32, 58, 45, 32] with
      | some r => .no r
      | none =>
        match pTerms l n (q + 4) with
        | .no r => .no r
        | .ok us r => pFin l H us r
    else pFin l H [] q

theorem block_cells4 {w : World} {k : Nat} {x y z u : Value} {t : TypeId} (h : w.heap[k]? = some (.cells #[x, y, z, u] t)) :
    w.cell? ⟨k, 0, none⟩ = some x ∧ w.cell? ⟨k, 1, none⟩ = some y ∧ w.cell? ⟨k, 2, none⟩ = some z ∧ w.cell? ⟨k, 3, none⟩ = some u ∧ w.frozen? ⟨k, 0, none⟩ = false ∧ w.frozen? ⟨k, 1, none⟩ = false ∧ w.frozen? ⟨k, 2, none⟩ = false ∧ w.frozen? ⟨k, 3, none⟩ = false := by
  refine ⟨?_, ?_, ?_, ?_, ?_, ?_, ?_, ?_⟩ <;> simp [World.cell?, World.frozen?, h]
theorem set4 {W : World} {r : Nat} {x y z u a b c d : Value} (h : W.heap[r]? = some (.cells #[x, y, z, u] 50)) :
    ((((W.setCell ⟨r, 0, none⟩ a).setCell ⟨r, 1, none⟩ b).setCell ⟨r, 2, none⟩ c).setCell ⟨r, 3, none⟩ d).heap[r]? = some (.cells #[a, b, c, d] 50) := by
  simp only [World.setCell, Array.getElem?_modify]
  simp [h]
theorem fin4 {w W : World} {r b : Nat} {s : ByteArray} {q : Nat} {x y z u : Value} (hr : r = w.heap.size) (hX : W.heap[r]? = some (.cells #[x, y, z, u] 50)) (hG : G b w W) (hbr : b ≠ r) (hR : RS b s q W) (a c d f : Value) :
    ∃ W', (((W.setCell ⟨r, 0, none⟩ a).setCell ⟨r, 1, none⟩ c).setCell ⟨r, 2, none⟩ d).setCell ⟨r, 3, none⟩ f = W' ∧ W'.cell? ⟨r, 0, none⟩ = some a ∧ W'.cell? ⟨r, 1, none⟩ = some c ∧ W'.cell? ⟨r, 2, none⟩ = some d ∧ W'.cell? ⟨r, 3, none⟩ = some f ∧ RS b s q W' ∧ G b w W' ∧ W.grownBy W' (some r) := by
  have h3 : W.grownBy ((((W.setCell ⟨r, 0, none⟩ a).setCell ⟨r, 1, none⟩ c).setCell ⟨r, 2, none⟩ d).setCell ⟨r, 3, none⟩ f) (some r) := G.trans (G.trans (G.trans (grown_set r 0 a) (grown_set r 1 c)) (grown_set r 2 d)) (grown_set r 3 f)
  have hc := set4 (a := a) (b := c) (c := d) (d := f) hX
  refine ⟨_, rfl, by simp [World.cell?, hc], by simp [World.cell?, hc], by simp [World.cell?, hc], by simp [World.cell?, hc], (h3.block b hR.lt (by simp; omega)).trans hR, ?_, h3⟩
  subst hr
  refine ⟨h3.os.trans hG.os, h3.tape.trans hG.tape, h3.output.trans hG.output, Nat.le_trans hG.size h3.size, fun k hk hb => ?_⟩
  exact (h3.block k (Nat.lt_of_lt_of_le hk hG.size) (by simp; omega)).trans (hG.block k hk hb)
theorem mAt_size {s : ByteArray} {x : List UInt8} : ∀ {q : Nat}, mAt s.data.toList q x = none → q ≤ s.size → q + x.length ≤ s.size := by
  induction x with
  | nil => intro q _ h; simpa using h
  | cons c r ih =>
    intro q h _
    rw [mAt] at h
    split at h
    · rename_i h1
      have hq : q < s.size := by
        by_cases h2 : q < s.size
        · exact h2
        · rw [get_none s _ h2] at h1; exact absurd h1 (by simp)
      have := ih h (by omega)
      simp; omega
    · exact absurd h (by simp)

def clVal (T B : Tm) : Value := .agg #[.int .i64 T.v, .string T.nm, .slice T.a T.len T.cap, .slice B.a B.len B.cap]
/-- A body, as it lies, and as it was read. -/
def BSim (B : Tm) (us : List Tm) : Prop := B.len = us.length ∧ ∀ i, i < B.len → Sim (B.f i) (us.getD i .nil)

set_option maxRecDepth 100000 in
set_option maxHeartbeats 4000000 in
theorem clause_rd (n : Nat) (b : Nat) (s : ByteArray) (p : Nat) (w : World) (hr : RS b s p w) (hs : s.size ≤ 6000) (hp : p ≤ s.size) (hf : s.size ≤ n + p) :
    Calls Tryd.prog 49 #[.pointer (some ⟨b, 0, none⟩)] w fun e w' => (∃ T B U us q, pClause s.data.toList n p = .ok (U, us) q ∧ Sim T U ∧ BSim B us ∧ e = .returned (clVal T B) ∧ TIn w' T ∧ TIn w' B ∧ Above w.heap.size T ∧ Above w.heap.size B ∧ q ≤ s.size ∧ p < q ∧ RS b s q w' ∧ G b w w') ∨ (∃ q, pClause s.data.toList n p = .no q ∧ e = .panicked [pent q] ∧ G b w w') := by
  have hbl := hr.lt
  have HRa : Hid (RS b s p (w.alloc (.cells #[.int .i64 0, .string ⟨#[]⟩, .slice none 0 0, .slice none 0 0] 50))) := hr.keep ((Below.refl _ _).alloc (Nat.le_refl _) _)
  have HGa : Hid (G b w (w.alloc (.cells #[.int .i64 0, .string ⟨#[]⟩, .slice none 0 0, .slice none 0 0] 50))) := G.alloc b w _
  have HXa : Hid ((w.alloc (.cells #[.int .i64 0, .string ⟨#[]⟩, .slice none 0 0, .slice none 0 0] 50)).heap[w.heap.size]? = some (.cells #[.int .i64 0, .string ⟨#[]⟩, .slice none 0 0, .slice none 0 0] 50)) := heap_alloc_new w _
  have HSa : Hid ((w.alloc (.cells #[.int .i64 0, .string ⟨#[]⟩, .slice none 0 0, .slice none 0 0] 50)).heap.size = w.heap.size + 1) := by rw [Hid]; simp
  clear hr
  go_enter Tryd.func49, Tryd.ntmps49
  go_wp2_with fail
  generalize w.alloc (.cells #[.int .i64 0, .string ⟨#[]⟩, .slice none 0 0, .slice none 0 0] 50) = wa at *
  refine (term_of n (terms_all n) b s p wa HRa.out hs hp hf).mono ?_
  rintro e w1 (⟨T, U, q, hpt, hsim, rfl, hT1, hA1, hq1, hq2, hR1, hG1⟩ | ⟨q, hpt, rfl, hG1⟩)
  case inr => exact ⟨rfl, .inr ⟨q, by rw [pClause, hpt], rfl, HGa.out.trans hG1⟩⟩
  have hla := HSa.out
  have HP : Hid (pClause s.data.toList n p = if s.data.toList[q]? = some 32 then
      match mAt s.data.toList q [32, 58, 45, 32] with
      | some r => .no r
      | none =>
        match pTerms s.data.toList n (q + 4) with
        | .no r => .no r
        | .ok us r => pFin s.data.toList U us r
    else pFin s.data.toList U [] q) := by rw [Hid, pClause, hpt]
  have HS1 : Hid (Sim T U) := hsim
  have HT1 : Hid (TIn w1 T) := hT1
  have HA1 : Hid (Above wa.heap.size T) := hA1
  have HR1 : Hid (RS b s q w1) := hR1
  have HG1 : Hid (G b w w1) := HGa.out.trans hG1
  have HX1 : Hid (w1.heap[w.heap.size]? = some (.cells #[.int .i64 0, .string ⟨#[]⟩, .slice none 0 0, .slice none 0 0] 50)) := (hG1.block _ (by omega) (by simp; omega)).trans HXa.out
  have hl1 : w.heap.size + 1 ≤ w1.heap.size := by have := hG1.size; omega
  clear hpt hsim hT1 hA1 hR1 hG1
  rw [show T.val = .agg #[.int .i64 T.v, .string T.nm, .slice T.a T.len T.cap] from rfl]
  have HB : Hid (Below w1.heap.size w1 (w1.alloc (.cells #[.int .i64 T.v, .string T.nm, .slice T.a T.len T.cap, .slice none 0 0] 50))) := (Below.refl _ _).alloc (Nat.le_refl _) _
  have HRb : Hid (RS b s q (w1.alloc (.cells #[.int .i64 T.v, .string T.nm, .slice T.a T.len T.cap, .slice none 0 0] 50))) := HR1.out.keep HB.out
  have HTb : Hid (TIn (w1.alloc (.cells #[.int .i64 T.v, .string T.nm, .slice T.a T.len T.cap, .slice none 0 0] 50)) T) := HT1.out.below HB.out
  have HGb : Hid (G b w (w1.alloc (.cells #[.int .i64 T.v, .string T.nm, .slice T.a T.len T.cap, .slice none 0 0] 50))) := HG1.out.trans (G.below HB.out)
  have HXb : Hid ((w1.alloc (.cells #[.int .i64 T.v, .string T.nm, .slice T.a T.len T.cap, .slice none 0 0] 50)).heap[w.heap.size]? = some (.cells #[.int .i64 0, .string ⟨#[]⟩, .slice none 0 0, .slice none 0 0] 50)) := by rw [Hid, heap_alloc_old _ _ (by omega)]; exact HX1.out
  have HYb : Hid ((w1.alloc (.cells #[.int .i64 T.v, .string T.nm, .slice T.a T.len T.cap, .slice none 0 0] 50)).heap[w1.heap.size]? = some (.cells #[.int .i64 T.v, .string T.nm, .slice T.a T.len T.cap, .slice none 0 0] 50)) := heap_alloc_new w1 _
  go_wp2_with fail
  generalize w1.alloc (.cells #[.int .i64 T.v, .string T.nm, .slice T.a T.len T.cap, .slice none 0 0] 50) = w2 at *
  refine (ahead_any b s q 32 w2 HRb.out hq1).mono ?_
  rintro e w3 ⟨rfl, n3, rfl⟩
  have HR3 : Hid (RS b s q (w2.drewN n3)) := HRb.out.drew n3
  have HG3 : Hid (G b w (w2.drewN n3)) := HGb.out.trans (G.drewN b w2 n3)
  have HT3 : Hid (TIn (w2.drewN n3) T) := HTb.out.grown (G.drewN b w2 n3) (fun k hk => by obtain rfl := Option.some.inj hk; exact HA1.out.nb (by omega))
  have HX3 : Hid ((w2.drewN n3).heap[w.heap.size]? = some (.cells #[.int .i64 0, .string ⟨#[]⟩, .slice none 0 0, .slice none 0 0] 50)) := by rw [Hid, drewN_heap]; exact HXb.out
  have HY3 : Hid ((w2.drewN n3).heap[w1.heap.size]? = some (.cells #[.int .i64 T.v, .string T.nm, .slice T.a T.len T.cap, .slice none 0 0] 50)) := by rw [Hid, drewN_heap]; exact HYb.out
  generalize w2.drewN n3 = w3 at *
  have hl3 : w1.heap.size < w3.heap.size := (Array.getElem?_eq_some_iff.1 HY3.out).1
  by_cases hc : s.data.toList[q]? = some 32
  case neg =>
    have HP2 : Hid (pClause s.data.toList n p = match mAt s.data.toList q [46, 10] with
      | some r' => .no r'
      | none => .ok (U, []) (q + 2)) := by rw [Hid, HP.out, if_neg hc]; rfl
    rw [show atC s q 32 = false from by unfold atC; exact beq_eq_false_iff_ne.2 hc]
    clear hc
    go_wp2_with fail
    refine (must_any b s q ⟨#[46, 10]⟩ _ HR3.out hq1 hs (show 2 ≤ 6000 by omega)).mono ?_
    rintro e w7 (⟨hm, rfl, hR7, hG7⟩ | ⟨r', hm, rfl, hG7⟩)
    case inr => exact ⟨rfl, .inr ⟨r', by rw [HP2.out]; rw [show (⟨#[46, 10]⟩ : ByteArray).data.toList = [46, 10] from rfl] at hm; rw [hm], rfl, HG3.out.trans hG7⟩⟩
    have hm' : mAt s.data.toList q [46, 10] = none := hm
    have hqs : q + 2 ≤ s.size := mAt_size hm' hq1
    have HP4 : Hid (pClause s.data.toList n p = .ok (U, []) (q + 2)) := by rw [Hid, HP2.out, hm']
    have HR7 : Hid (RS b s (q + 2) w7) := hR7
    have HG7 : Hid (G b w w7) := HG3.out.trans hG7
    have HT7 : Hid (TIn w7 T) := HT3.out.grown hG7 (fun k hk => by obtain rfl := Option.some.inj hk; exact HA1.out.nb (by omega))
    have HX7 : Hid (w7.heap[w.heap.size]? = some (.cells #[.int .i64 0, .string ⟨#[]⟩, .slice none 0 0, .slice none 0 0] 50)) := (hG7.block _ (by omega) (by simp; omega)).trans HX3.out
    have HY7 : Hid (w7.heap[w1.heap.size]? = some (.cells #[.int .i64 T.v, .string T.nm, .slice T.a T.len T.cap, .slice none 0 0] 50)) := (hG7.block _ hl3 (by simp; omega)).trans HY3.out
    clear hm hm' hR7 hG7
    obtain ⟨x0, x1, x2, x3, f0, f1, f2, f3⟩ := block_cells4 HX7.out
    obtain ⟨z0, z1, z2, z3, _, _, _, _⟩ := block_cells4 HY7.out
    go_wp2_with fail
    obtain ⟨W', hW, y0, y1, y2, y3, hR', hG', hgr⟩ := fin4 rfl HX7.out HG7.out (by omega) HR7.out (.int .i64 T.v) (.string T.nm) (.slice T.a T.len T.cap) (.slice none 0 0)
    rw [hW]
    have hT' : TIn W' T := HT7.out.grown hgr (fun k hk => by obtain rfl := Option.some.inj hk; exact HA1.out.nb (by omega))
    refine bodyPost_ret (v := clVal T (leafT 0 ⟨#[]⟩)) ?_ rfl (.inl ⟨T, leafT 0 ⟨#[]⟩, U, [], q + 2, HP4.out, HS1.out, ⟨rfl, fun i hi => absurd hi (Nat.not_lt_zero i)⟩, rfl, hT', leaf_in _ _ _ (size2 _ (by decide)), HA1.out.mono (by omega), ⟨fun h => absurd h (Nat.lt_irrefl 0), fun i hi => absurd hi (Nat.not_lt_zero i)⟩, hqs, by omega, hR', hG'⟩)
    simp [results, Tryd.results49, go_sem, y0, y1, y2, y3, clVal, leafT, Tm.a, Tm.len, Tm.cap]
  have HP2 : Hid (pClause s.data.toList n p = match mAt s.data.toList q [32, 58, 45, 32] with
      | some r => .no r
      | none =>
        match pTerms s.data.toList n (q + 4) with
        | .no r => .no r
        | .ok us r => pFin s.data.toList U us r) := by rw [Hid, HP.out, if_pos hc]
  rw [show atC s q 32 = true from by unfold atC; rw [hc]; rfl]
  clear hc
  go_wp2_with fail
  refine (must_any b s q ⟨#[32, 58, 45, 32]⟩ _ HR3.out hq1 hs (show 4 ≤ 6000 by omega)).mono ?_
  rintro e w4 (⟨hm, rfl, hR4, hG4⟩ | ⟨r', hm, rfl, hG4⟩)
  case inr => exact ⟨rfl, .inr ⟨r', by rw [HP2.out]; rw [show (⟨#[32, 58, 45, 32]⟩ : ByteArray).data.toList = [32, 58, 45, 32] from rfl] at hm; rw [hm], rfl, HG3.out.trans hG4⟩⟩
  have hm' : mAt s.data.toList q [32, 58, 45, 32] = none := hm
  have hqs : q + 4 ≤ s.size := mAt_size hm' hq1
  have HP3 : Hid (pClause s.data.toList n p = match pTerms s.data.toList n (q + 4) with
        | .no r => .no r
        | .ok us r => pFin s.data.toList U us r) := by rw [Hid, HP2.out, hm']
  have HR4 : Hid (RS b s (q + 4) w4) := hR4
  have HG4 : Hid (G b w w4) := HG3.out.trans hG4
  have HT4 : Hid (TIn w4 T) := HT3.out.grown hG4 (fun k hk => by obtain rfl := Option.some.inj hk; exact HA1.out.nb (by omega))
  have HX4 : Hid (w4.heap[w.heap.size]? = some (.cells #[.int .i64 0, .string ⟨#[]⟩, .slice none 0 0, .slice none 0 0] 50)) := (hG4.block _ (by omega) (by simp; omega)).trans HX3.out
  have HY4 : Hid (w4.heap[w1.heap.size]? = some (.cells #[.int .i64 T.v, .string T.nm, .slice T.a T.len T.cap, .slice none 0 0] 50)) := (hG4.block _ hl3 (by simp; omega)).trans HY3.out
  have hl4 : w1.heap.size < w4.heap.size := Nat.lt_of_lt_of_le hl3 hG4.size
  clear hm hm' hR4 hG4
  go_wp2_with fail
  refine (terms_all n b s (q + 4) w4 HR4.out hs hqs (by omega)).mono ?_
  rintro e w5 (⟨B, us, r, hpt, hlen, hpos, hsim, rfl, hB5, hA5, hr1, hr2, hR5, hG5⟩ | ⟨r, hpt, rfl, hG5⟩)
  case inr => exact ⟨rfl, .inr ⟨r, by rw [HP3.out, hpt], rfl, HG4.out.trans hG5⟩⟩
  have HP5 : Hid (pClause s.data.toList n p = match mAt s.data.toList r [46, 10] with
      | some r' => .no r'
      | none => .ok (U, us) (r + 2)) := by rw [Hid, HP3.out, hpt]; rfl
  have HBS : Hid (BSim B us) := ⟨hlen, hsim⟩
  have HB5 : Hid (TIn w5 B) := hB5
  have HAB : Hid (Above w4.heap.size B) := hA5
  have HR5 : Hid (RS b s r w5) := hR5
  have HG5 : Hid (G b w w5) := HG4.out.trans hG5
  have HT5 : Hid (TIn w5 T) := HT4.out.grown hG5 (fun k hk => by obtain rfl := Option.some.inj hk; exact HA1.out.nb (by omega))
  have HN5 : Hid (NB w1.heap.size T) := HT1.out.nb (Nat.le_refl _)
  have HX5 : Hid (w5.heap[w.heap.size]? = some (.cells #[.int .i64 0, .string ⟨#[]⟩, .slice none 0 0, .slice none 0 0] 50)) := (hG5.block _ (by omega) (by simp; omega)).trans HX4.out
  have HY5 : Hid (w5.heap[w1.heap.size]? = some (.cells #[.int .i64 T.v, .string T.nm, .slice T.a T.len T.cap, .slice none 0 0] 50)) := (hG5.block _ hl4 (by simp; omega)).trans HY4.out
  have hl5 : w4.heap.size ≤ w5.heap.size := hG5.size
  clear hpt hlen hpos hsim hB5 hA5 hR5 hG5
  have hgs := grown_set (W := w5) w1.heap.size 3 (.slice B.a B.len B.cap)
  have HB6 : Hid (TIn (w5.setCell ⟨w1.heap.size, 3, none⟩ (.slice B.a B.len B.cap)) B) := HB5.out.grown hgs (fun k hk => by obtain rfl := Option.some.inj hk; exact HAB.out.nb hl4)
  have HT6 : Hid (TIn (w5.setCell ⟨w1.heap.size, 3, none⟩ (.slice B.a B.len B.cap)) T) := HT5.out.grown hgs (fun k hk => by obtain rfl := Option.some.inj hk; exact HN5.out)
  have HR6 : Hid (RS b s r (w5.setCell ⟨w1.heap.size, 3, none⟩ (.slice B.a B.len B.cap))) := (hgs.block b HR5.out.lt (by simp; omega)).trans HR5.out
  have HX6 : Hid ((w5.setCell ⟨w1.heap.size, 3, none⟩ (.slice B.a B.len B.cap)).heap[w.heap.size]? = some (.cells #[.int .i64 0, .string ⟨#[]⟩, .slice none 0 0, .slice none 0 0] 50)) := (hgs.block _ (by omega) (by simp; omega)).trans HX5.out
  have HY6 : Hid ((w5.setCell ⟨w1.heap.size, 3, none⟩ (.slice B.a B.len B.cap)).heap[w1.heap.size]? = some (.cells #[.int .i64 T.v, .string T.nm, .slice T.a T.len T.cap, .slice B.a B.len B.cap] 50)) := by
    have h5 := HY5.out
    rw [Hid]
    simp only [World.setCell, Array.getElem?_modify]
    simp [h5]
  have HG6 : Hid (G b w (w5.setCell ⟨w1.heap.size, 3, none⟩ (.slice B.a B.len B.cap))) :=
    ⟨hgs.os.trans HG5.out.os, hgs.tape.trans HG5.out.tape, hgs.output.trans HG5.out.output, Nat.le_trans HG5.out.size hgs.size, fun k hk hb => (hgs.block k (Nat.lt_of_lt_of_le hk HG5.out.size) (by simp; omega)).trans (HG5.out.block k hk hb)⟩
  have hl6 : (w5.setCell ⟨w1.heap.size, 3, none⟩ (.slice B.a B.len B.cap)).heap.size = w5.heap.size := by simp [World.setCell]
  clear hgs
  obtain ⟨z0, z1, z2, z3, g0, g1, g2, g3⟩ := block_cells4 HY5.out
  go_wp2_with fail
  generalize w5.setCell ⟨w1.heap.size, 3, none⟩ (.slice B.a B.len B.cap) = w6 at *
  refine (must_any b s r ⟨#[46, 10]⟩ _ HR6.out hr1 hs (show 2 ≤ 6000 by omega)).mono ?_
  rintro e w7 (⟨hm, rfl, hR7, hG7⟩ | ⟨r', hm, rfl, hG7⟩)
  case inr => exact ⟨rfl, .inr ⟨r', by rw [HP5.out]; rw [show (⟨#[46, 10]⟩ : ByteArray).data.toList = [46, 10] from rfl] at hm; rw [hm], rfl, HG6.out.trans hG7⟩⟩
  have hm' : mAt s.data.toList r [46, 10] = none := hm
  have hrs : r + 2 ≤ s.size := mAt_size hm' hr1
  have HP6 : Hid (pClause s.data.toList n p = .ok (U, us) (r + 2)) := by rw [Hid, HP5.out, hm']
  have HR7 : Hid (RS b s (r + 2) w7) := hR7
  have HG7 : Hid (G b w w7) := HG6.out.trans hG7
  have HT7 : Hid (TIn w7 T) := HT6.out.grown hG7 (fun k hk => by obtain rfl := Option.some.inj hk; exact HA1.out.nb (by omega))
  have HB7 : Hid (TIn w7 B) := HB6.out.grown hG7 (fun k hk => by obtain rfl := Option.some.inj hk; exact HAB.out.nb (by omega))
  have HX7 : Hid (w7.heap[w.heap.size]? = some (.cells #[.int .i64 0, .string ⟨#[]⟩, .slice none 0 0, .slice none 0 0] 50)) := (hG7.block _ (by omega) (by simp; omega)).trans HX6.out
  have HY7 : Hid (w7.heap[w1.heap.size]? = some (.cells #[.int .i64 T.v, .string T.nm, .slice T.a T.len T.cap, .slice B.a B.len B.cap] 50)) := (hG7.block _ (by omega) (by simp; omega)).trans HY6.out
  clear hm hm' hR7 hG7 z0 z1 z2 z3 g0 g1 g2 g3
  obtain ⟨x0, x1, x2, x3, f0, f1, f2, f3⟩ := block_cells4 HX7.out
  obtain ⟨z0, z1, z2, z3, _, _, _, _⟩ := block_cells4 HY7.out
  go_wp2_with fail
  obtain ⟨W', hW, y0, y1, y2, y3, hR', hG', hgr⟩ := fin4 rfl HX7.out HG7.out (by omega) HR7.out (.int .i64 T.v) (.string T.nm) (.slice T.a T.len T.cap) (.slice B.a B.len B.cap)
  rw [hW]
  have hT' : TIn W' T := HT7.out.grown hgr (fun k hk => by obtain rfl := Option.some.inj hk; exact HA1.out.nb (by omega))
  have hB' : TIn W' B := HB7.out.grown hgr (fun k hk => by obtain rfl := Option.some.inj hk; exact HAB.out.nb (by omega))
  refine bodyPost_ret (v := clVal T B) ?_ rfl (.inl ⟨T, B, U, us, r + 2, HP6.out, HS1.out, HBS.out, rfl, hT', hB', HA1.out.mono (by omega), HAB.out.mono (by omega), hrs, by omega, hR', hG'⟩)
  simp [results, Tryd.results49, go_sem, y0, y1, y2, y3, clVal]
end Go.Proofs.YtmggaclaoefdaaaDoor
