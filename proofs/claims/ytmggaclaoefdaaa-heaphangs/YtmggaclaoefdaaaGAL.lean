/- A heap in memory; where cells lead to: EndOf, LeadsOf. all: what each variable is. -/
import Derived.Test.YtmggaclaoefdaaaMem
import Derived.Test.YtmggaclaoefdaaaBnd8
import Derived.Test.YtmggaclaoefdaaaBnd4
namespace Go.Proofs.Ytmggaclaoefdaaa
open Go.RowKit

structure Cl where
  k : Int
  n : Int
  nm : ByteArray
def CRow (w : World) (a : Option Addr) (i : Nat) (c : Cl) : Prop := ∃ b o, a = some ⟨b, o, none⟩ ∧ w.cell? ⟨b, o + i * 3, none⟩ = some (.int .i64 c.k) ∧ w.cell? ⟨b, o + i * 3 + 1, none⟩ = some (.int .i64 c.n) ∧ w.cell? ⟨b, o + i * 3 + 2, none⟩ = some (.string c.nm)
structure HIn (w : World) (a : Option Addr) (len : Nat) (h : Nat → Cl) : Prop where
  row : ∀ i, i < len → CRow w a i (h i)
  big : len ≤ maxLen
  nm : ∀ i, i < len → (h i).nm.size ≤ maxLen
theorem CRow.below {w w' : World} {a : Option Addr} {i : Nat} {c : Cl} (h : CRow w a i c) (hb : Below w.heap.size w w') : CRow w' a i c := by
  obtain ⟨b, o, rfl, h0, h1, h2⟩ := h
  have hl := lt_of_cell h0
  have hx : ∀ j, w'.cell? ⟨b, j, none⟩ = w.cell? ⟨b, j, none⟩ := fun j => hb.cell (p := ⟨b, j, none⟩) hl
  exact ⟨b, o, rfl, (hx _).trans h0, (hx _).trans h1, (hx _).trans h2⟩
theorem HIn.below {w w' : World} {a : Option Addr} {len : Nat} {h : Nat → Cl} (hh : HIn w a len h) (hb : Below w.heap.size w w') : HIn w' a len h :=
  ⟨fun i hi => (hh.row i hi).below hb, hh.big, hh.nm⟩
theorem below_after2 {W Wx w1 : World} (h : Below W.heap.size W Wx) (h1 : Below Wx.heap.size Wx w1) : Below W.heap.size W w1 := h.trans (h1.mono h.size)
/-- Where cells lead to at the end. -/
inductive EndR (h : Nat → Cl) (len : Nat) : Nat → Nat → Prop
  | root {i : Nat} : i < len → ¬ ((h i).k = 1 ∧ (h i).n ≠ i) → EndR h len i i
  | step {i j z : Nat} : i < len → (h i).k = 1 → (h i).n = (j : Int) → j ≠ i → EndR h len j z → EndR h len i z
theorem EndR.lt {h : Nat → Cl} {len i z : Nat} (H : EndR h len i z) : i < len ∧ z < len := by
  induction H with
  | root hi _ => exact ⟨hi, hi⟩
  | step hi _ _ _ _ ih => exact ⟨hi, ih.2⟩
/-- Where one cell leads to. -/
def leads (h : Nat → Cl) (i : Nat) : List Nat := if (h i).k = 1 then (if (h i).n = i then [] else [(h i).n.toNat]) else (List.range (h i).n.toNat).map fun j => i + 1 + j
/-- A list of numbers in memory of its own. -/
def IntsR (lo : Nat) (w : World) (v : Value) (l : List Nat) : Prop := w.ownsRow lo 3 1 v l.length (l.map fun x : Nat => Value.int .i64 (x : Int))
end Go.Proofs.Ytmggaclaoefdaaa

namespace Go.Proofs.Ytmggaclaoefdaaa
open Go.RowKit

/-- A variable. -/
def vT (n : Int) : Tm := .mk n ⟨#[]⟩ none 0 0 (fun _ => .nil)
theorem vT_in (w : World) (n : Int) : TIn w (vT n) := ⟨Nat.zero_le _, Nat.zero_le _, fun i hi => absurd hi (Nat.not_lt_zero i)⟩
theorem vT_ok {N n : Int} (h0 : 0 ≤ n) (h1 : n ≤ N) : Okv N (vT n) := ⟨h0, h1, fun _ => ⟨rfl, rfl⟩, Nat.zero_le _, fun i hi => absurd hi (Nat.not_lt_zero i)⟩
/-- What all variables are; none: one of them is too great. -/
def AP (σ : Sg) (w : World) (e : Ending) (w' : World) : Prop := Below w.heap.size w w' ∧ ((∃ (g cp : Nat) (ts : List Tm), e = .returned (.slice (some ⟨g, 0, none⟩) 12 cp) ∧ LstR w.heap.size w' (.slice (some ⟨g, 0, none⟩) 12 cp) ts ((List.range 12).map fun i : Nat => ex σ 200 (vT ((i : Int) + 1))) ∧ ∀ i : Nat, i < 12 → ∃ k, roomF σ 200 [vT ((i : Int) + 1)] = some k) ∨ (e = .returned (.slice none 0 0) ∧ ∃ i : Nat, i < 12 ∧ roomF σ 200 [vT ((i : Int) + 1)] = none))

set_option maxRecDepth 100000 in
set_option maxHeartbeats 4000000 in
theorem all_any {b m : Nat} {tv : Value} {lo nn : Nat} {σ : Sg} {L : Int} (w : World) (hS : VS w b m tv 12 lo nn σ L) :
    Calls Try.prog 64 #[.pointer (some ⟨b, 0, none⟩)] w (AP σ w) := by
  have HS : Hid (VS w b m tv 12 lo nn σ L) := hS
  obtain ⟨i0, hi, hz0, hz1, hz2⟩ := info_parts Try.info24
  clear hS
  go_enter Try.func64, Try.ntmps64
  go_wp2_with fail
  go_loopw [3, 4] (fun v i wr => ∃ (j : Nat) (ts : List Tm), j ≤ 12 ∧ i = .int .i64 ((j : Int) + 1) ∧ LstR w.heap.size wr v ts ((List.range j).map fun i : Nat => ex σ 200 (vT ((i : Int) + 1))) ∧ (∀ i : Nat, i < j → ∃ k, roomF σ 200 [vT ((i : Int) + 1)] = some k) ∧ Below w.heap.size w wr) (fun _ i _ => 13 - (intOf i).toNat)
  case atStart => exact ⟨0, [], Nat.zero_le _, rfl, ⟨World.ownsRow_nil _ _ _ _, fun c hc => absurd hc (by simp), rfl, fun i hi => absurd hi (Nat.not_lt_zero i)⟩, fun i hi => absurd hi (Nat.not_lt_zero i), Below.refl _ _⟩
  case round =>
    obtain ⟨j, ts, hj, rfl, hL, hR, hB⟩ := hrel
    have HL : Hid (LstR w.heap.size wr u3 ts ((List.range j).map fun i : Nat => ex σ 200 (vT ((i : Int) + 1)))) := hL
    have HR : Hid (∀ i : Nat, i < j → ∃ k, roomF σ 200 [vT ((i : Int) + 1)] = some k) := hR
    have HB : Hid (Below w.heap.size w wr) := hB
    have HTL : Hid (ts.length = j) := by have := hL.len; rw [Hid]; simpa using this
    have hts : ts.length ≤ 12 := by have := HTL.out; omega
    clear hL hR hB
    by_cases hlt : j < 12
    case neg =>
      have hje : j = 12 := by omega
      have hd : decide ((j : Int) + 1 ≤ 12) = false := decide_eq_false (by omega)
      have hform : ∃ g cp, u3 = .slice (some ⟨g, 0, none⟩) 12 cp := by
        have hl := HTL.out
        rcases HL.out.own.2 with ⟨_, h⟩ | ⟨g, cp, cur, h, _⟩
        · omega
        · exact ⟨g, cp, by rw [h, hl, hje]⟩
      obtain ⟨g, cp, rfl⟩ := hform
      have HL2 : Hid (LstR w.heap.size wr (.slice (some ⟨g, 0, none⟩) 12 cp) ts ((List.range 12).map fun i : Nat => ex σ 200 (vT ((i : Int) + 1)))) := by have := HL.out; rw [hje] at this; exact this
      have HR2 : Hid (∀ i : Nat, i < 12 → ∃ k, roomF σ 200 [vT ((i : Int) + 1)] = some k) := by have := HR.out; rw [hje] at this; exact this
      clear hje HL HR
      go_wp2_with fail
      go_ret
      exact ⟨HB.out, .inl ⟨g, cp, ts, rfl, HL2.out, HR2.out⟩⟩
    have hd : decide ((j : Int) + 1 ≤ 12) = true := decide_eq_true (by omega)
    have HS2 : Hid (∀ W, Below wr.heap.size wr W → VS W b m tv 12 lo nn σ L) := fun W hW => (HS.out.below HB.out).below hW
    go_wp2_with fail
    have HBa : Hid (Below wr.heap.size wr ((wr.alloc (.cells #[.int .i64 ((j : Int) + 1), .string ⟨#[]⟩, .slice none 0 0] 24)).alloc (.cells #[.int .i64 ((j : Int) + 1), .string ⟨#[]⟩, .slice none 0 0] 24))) := ((Below.refl _ _).alloc (Nat.le_refl _) _).alloc (by simp) _
    have HOne : Hid (TIn ((wr.alloc (.cells #[.int .i64 ((j : Int) + 1), .string ⟨#[]⟩, .slice none 0 0] 24)).alloc (.cells #[.int .i64 ((j : Int) + 1), .string ⟨#[]⟩, .slice none 0 0] 24)) (one (wr.heap.size + 1) (vT ((j : Int) + 1)))) := one_in (w := wr.alloc (.cells #[.int .i64 ((j : Int) + 1), .string ⟨#[]⟩, .slice none 0 0] 24)) (by simp) (vT_in _ _)
    have HA : Hid (((wr.alloc (.cells #[.int .i64 ((j : Int) + 1), .string ⟨#[]⟩, .slice none 0 0] 24)).alloc (.cells #[.int .i64 ((j : Int) + 1), .string ⟨#[]⟩, .slice none 0 0] 24)).heap[wr.heap.size]? = some (.cells #[.int .i64 ((j : Int) + 1), .string ⟨#[]⟩, .slice none 0 0] 24)) := by
      rw [Hid, heapOld _ _ (by simp)]; exact heap_alloc_new wr _
    generalize (wr.alloc (.cells #[.int .i64 ((j : Int) + 1), .string ⟨#[]⟩, .slice none 0 0] 24)).alloc (.cells #[.int .i64 ((j : Int) + 1), .string ⟨#[]⟩, .slice none 0 0] 24) = wa at *
    have HRo : Hid (Calls Try.prog 96 #[.pointer (some ⟨b, 0, none⟩), .int .i64 200, .slice (some ⟨wr.heap.size + 1, 0, none⟩) 1 1] wa fun e w' => ∃ r : Int, e = .returned (.int .i64 r) ∧ Below wa.heap.size wa w' ∧ RMP σ 200 (one (wr.heap.size + 1) (vT ((j : Int) + 1))) r) :=
      room_all 200 b m tv 12 lo nn σ L (one (wr.heap.size + 1) (vT ((j : Int) + 1))) wa (HS2.out _ HBa.out) (Nat.le_refl _) HOne.out (fun i hi => vT_ok (by omega) (by omega))
    refine HRo.out.mono ?_
    rintro e w1 ⟨r, rfl, hb1, hP⟩
    have HB1 : Hid (Below wr.heap.size wr w1) := HBa.out.trans (hb1.mono HBa.out.size)
    have hk1 : kidsL (one (wr.heap.size + 1) (vT ((j : Int) + 1))) = [vT ((j : Int) + 1)] := rfl
    rcases hP with ⟨k, rfl, hk, hw⟩ | ⟨rfl, hw⟩
    case inr =>
      have HQ : Hid (roomF σ 200 [vT ((j : Int) + 1)] = none) := by have := hw []; rw [hk1] at this; exact this
      have HBf : Hid (Below w.heap.size w w1) := HB.out.trans (HB1.out.mono HB.out.size)
      clear hw hk1 hb1
      go_wp2_with fail
      go_ret
      exact ⟨HBf.out, .inr ⟨rfl, j, hlt, HQ.out⟩⟩
    have HQ : Hid (roomF σ 200 [vT ((j : Int) + 1)] = some k) := by have := hw []; rw [hk1, List.append_nil, roomF_nil] at this; exact this
    have HA1 : Hid (w1.heap[wr.heap.size]? = some (.cells #[.int .i64 ((j : Int) + 1), .string ⟨#[]⟩, .slice none 0 0] 24)) := (hb1.block _ (Array.getElem?_eq_some_iff.1 HA.out).1).trans HA.out
    have hkb : decide ((k : Int) < 0) = false := decide_eq_false (by omega)
    have HWh : Hid (Calls Try.prog 97 #[.pointer (some ⟨b, 0, none⟩), .agg #[.int .i64 ((j : Int) + 1), .string ⟨#[]⟩, .slice none 0 0], .func (.func 98) #[] #[]] w1 (EP σ 200 (vT ((j : Int) + 1)) w1)) :=
      whole_any w1 (HS2.out _ HB1.out) (vT_ok (by omega) (by omega)) (vT_in _ _) (room_fin 200 _ _ HQ.out _ (by simp))
    clear hw hk1 hb1
    obtain ⟨x0, x1, x2, _, _, _⟩ := block_cells HA1.out
    go_wp2_with fail
    refine HWh.out.mono ?_
    rintro e w2 ⟨X, rfl, hb2, hX2, hA2, hS2⟩
    rw [show X.val = .agg #[.int .i64 X.v, .string X.nm, .slice X.a X.len X.cap] from rfl]
    have HB2 : Hid (Below wr.heap.size wr w2) := HB1.out.trans (hb2.mono HB1.out.size)
    have HBx : Hid (Below w2.heap.size w2 (w2.alloc (.cells #[.int .i64 X.v, .string X.nm, .slice X.a X.len X.cap] 24))) := (Below.refl _ _).alloc (Nat.le_refl _) _
    have HL3 : Hid (LstR w.heap.size (w2.alloc (.cells #[.int .i64 X.v, .string X.nm, .slice X.a X.len X.cap] 24)) u3 ts ((List.range j).map fun i : Nat => ex σ 200 (vT ((i : Int) + 1)))) := (HL.out.keep HB2.out).keep HBx.out
    have HX3 : Hid (TIn (w2.alloc (.cells #[.int .i64 X.v, .string X.nm, .slice X.a X.len X.cap] 24)) X ∧ Above w.heap.size X ∧ (∀ g, u3.ownBlock = some g → NB g X) ∧ Sim X (ex σ 200 (vT ((j : Int) + 1)))) := ⟨hX2.below HBx.out, hA2.mono (Nat.le_trans HB.out.size HB1.out.size), fun g hg => hA2.nb (Nat.lt_of_lt_of_le (HL.out.own.lt g hg).2 HB1.out.size), hS2⟩
    have HB3 : Hid (Below w.heap.size w (w2.alloc (.cells #[.int .i64 X.v, .string X.nm, .slice X.a X.len X.cap] 24))) := (HB.out.trans (HB2.out.mono HB.out.size)).alloc (Nat.le_trans HB.out.size HB2.out.size) _
    have hsz3 : w.heap.size ≤ (w2.alloc (.cells #[.int .i64 X.v, .string X.nm, .slice X.a X.len X.cap] 24)).heap.size := HB3.out.size
    have HN3 := news1 w2 X
    have HN3' : Hid (∀ j u, (flat [X])[j]? = some u → (w2.alloc (.cells #[.int .i64 X.v, .string X.nm, .slice X.a X.len X.cap] 24)).cell? ((⟨w2.heap.size, 0, none⟩ : Addr).add j) = some u) := HN3
    clear hb2 hX2 hA2 hS2 HN3 x0 x1 x2
    go_wp2_with (at_builtin; refine wpList_append_own_at _ rfl (.tmp 17) (.tmp 21) 22 rfl w.heap.size 24 i0 (.agg #[.int .i64 0, .string ByteArray.empty, .slice none 0 0]) 3 48 Try.underlying22 hi hz0 hz1 hz2 rfl (by decide) u3 ts.length (flat ts) rfl HL3.out.own ⟨w2.heap.size, 0, none⟩ 1 1 (flat [X]) rfl rfl HN3'.out (flat_one _) (by unfold maxLen; omega) (by omega) hsz3 ?_; intro v' w6 hown' hgrow hnil hat)
    have HB6 : Hid (Below w.heap.size w w6) := HB3.out.grown hgrow hsz3 (fun k hk => (HL3.out.own.lt k hk).1)
    have HL6 : Hid (LstR w.heap.size w6 v' (ts ++ [X]) ((List.range (j + 1)).map fun i : Nat => ex σ 200 (vT ((i : Int) + 1)))) := by
      rw [Hid, List.range_succ, List.map_append]
      exact HL3.out.more HX3.out.1 HX3.out.2.1 HX3.out.2.2.1 HX3.out.2.2.2 hown' hgrow hat
    have HR6 : Hid (∀ i : Nat, i < j + 1 → ∃ k, roomF σ 200 [vT ((i : Int) + 1)] = some k) := fun i hi => by
      by_cases h : i < j
      · exact HR.out i h
      · obtain rfl : i = j := by omega
        exact ⟨k, HQ.out⟩
    clear hown' hgrow hnil hat
    go_roundw
    case rel => exact ⟨j + 1, ts ++ [X], by omega, by go_num, HL6.out, HR6.out, HB6.out⟩
    case measure => simp [intOf]; omega
end Go.Proofs.Ytmggaclaoefdaaa
