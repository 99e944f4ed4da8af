/- Cells in memory of one's own; Free, Clone. Making two terms the same on a heap: its memory; look. -/
import Derived.Test.YtmggaclaoefdaaaGBE
namespace Go.Proofs.Ytmggaclaoefdaaa
open Go.RowKit
set_option linter.unusedVariables false
set_option linter.unusedSimpArgs false

def flatC (l : List Cl) : List Value := l.flatMap cellsC
theorem flatC_length (l : List Cl) : (flatC l).length = l.length * 3 := by
  induction l with
  | nil => rfl
  | cons c l ih => show (cellsC c ++ flatC l).length = _; rw [List.length_append, ih]; simp [cellsC]; omega
theorem flatC_append (l r : List Cl) : flatC (l ++ r) = flatC l ++ flatC r := by simp [flatC]
theorem flatC_one (l : List Cl) : ∀ u ∈ flatC l, u.oneCell' = true := by
  intro u hu
  obtain ⟨c, _, hc⟩ := List.mem_flatMap.1 hu
  simp [cellsC] at hc
  rcases hc with rfl | rfl | rfl <;> rfl
theorem flatC_get (l : List Cl) : ∀ (k : Nat) (h : k < l.length), (flatC l)[k * 3]? = some (.int .i64 l[k].k) ∧ (flatC l)[k * 3 + 1]? = some (.int .i64 l[k].n) ∧ (flatC l)[k * 3 + 2]? = some (.string l[k].nm) := by
  induction l with
  | nil => intro k h; exact absurd h (Nat.not_lt_zero k)
  | cons c l ih =>
    intro k h
    cases k with
    | zero => exact ⟨rfl, rfl, rfl⟩
    | succ k =>
      obtain ⟨h1, h2, h3⟩ := ih k (by simpa using h)
      have e : flatC (c :: l) = cellsC c ++ flatC l := rfl
      rw [e, List.getElem_cons_succ]
      refine ⟨?_, ?_, ?_⟩
      · rw [List.getElem?_append_right (by simp [cellsC]; omega)]
        rw [show (k + 1) * 3 - (cellsC c).length = k * 3 from by simp [cellsC]; omega]; exact h1
      · rw [List.getElem?_append_right (by simp [cellsC]; omega)]
        rw [show (k + 1) * 3 + 1 - (cellsC c).length = k * 3 + 1 from by simp [cellsC]; omega]; exact h2
      · rw [List.getElem?_append_right (by simp [cellsC]; omega)]
        rw [show (k + 1) * 3 + 2 - (cellsC c).length = k * 3 + 2 from by simp [cellsC]; omega]; exact h3
/-- A cell whose N was set. -/
def setN (c : Cl) (x : Int) : Cl := ⟨c.k, x, c.nm⟩
theorem flatC_setN (l : List Cl) : ∀ (i : Nat) (h : i < l.length) (x : Int), (flatC l).set (i * 3 + 1) (.int .i64 x) = flatC (l.set i (setN l[i] x)) := by
  induction l with
  | nil => intro i h; exact absurd h (Nat.not_lt_zero i)
  | cons c l ih =>
    intro i h x
    have e : flatC (c :: l) = cellsC c ++ flatC l := rfl
    cases i with
    | zero => rfl
    | succ i =>
      have hi : i < l.length := by simpa using h
      rw [e, List.set_cons_succ, List.getElem_cons_succ]
      show _ = cellsC c ++ flatC (l.set i (setN (l[i]'hi) x))
      rw [← ih i hi x, List.set_append_right _ _ (by simp [cellsC]; omega)]
      rw [show (i + 1) * 3 + 1 - (cellsC c).length = i * 3 + 1 from by simp [cellsC]; omega]
/-- A heap in memory of its own. -/
def CRw (lo : Nat) (w : World) (v : Value) (l : List Cl) : Prop := w.ownsRow lo 128 3 v l.length (flatC l)
def hOf (l : List Cl) : Nat → Cl := fun i => l.getD i ⟨0, 0, ⟨#[]⟩⟩
theorem hOf_get {l : List Cl} {i : Nat} (h : i < l.length) : hOf l i = l[i] := by unfold hOf; simp [List.getD, List.getElem?_eq_getElem h]
theorem CRw.form {lo : Nat} {w : World} {v : Value} {l : List Cl} (h : CRw lo w v l) : ∃ sa cp, v = .slice sa l.length cp ∧ l.length ≤ cp ∧ l.length ≤ maxLen := by
  rcases h.2 with ⟨hv, h0⟩ | ⟨g, cp, cur, hv, _, _, hnc, hcm, _⟩
  · exact ⟨none, 0, by rw [hv, h0], by omega, by unfold maxLen; omega⟩
  · exact ⟨_, _, hv, hnc, Nat.le_trans hnc hcm⟩
theorem CRw.hin {lo : Nat} {w : World} {sa : Option Addr} {n cp : Nat} {l : List Cl} (h : CRw lo w (.slice sa n cp) l) (hn : n = l.length) (hm : ∀ c ∈ l, c.nm.size ≤ maxLen) : HIn w sa l.length (hOf l) := by
  subst hn
  have hb := h.form
  obtain ⟨sa', cp', e, _, hb⟩ := hb
  refine ⟨fun i hi => ?_, hb, fun i hi => by rw [hOf_get hi]; exact hm _ (List.getElem_mem hi)⟩
  rcases h.2 with ⟨hv, h0⟩ | ⟨g, cp2, cur, hv, _⟩
  · omega
  · cases hv
    obtain ⟨f0, f1, f2⟩ := flatC_get l i hi
    rw [hOf_get hi]
    have hc := fun j (hj : j < l.length * 3) => World.ownsRow.cellAt h j (by omega)
    refine ⟨g, 0, rfl, ?_, ?_, ?_⟩
    · rw [Nat.zero_add]; exact (hc (i * 3) (by omega)).trans f0
    · rw [Nat.zero_add]; exact (hc (i * 3 + 1) (by omega)).trans f1
    · rw [Nat.zero_add]; exact (hc (i * 3 + 2) (by omega)).trans f2
theorem CRw.setN {lo : Nat} {w : World} {g n cp : Nat} {l : List Cl} (h : CRw lo w (.slice (some ⟨g, 0, none⟩) n cp) l) (hn : n = l.length) {i : Nat} (hi : i < l.length) (x : Int) : CRw lo (w.setCell ⟨g, i * 3 + 1, none⟩ (.int .i64 x)) (.slice (some ⟨g, 0, none⟩) n cp) (l.set i (setN l[i] x)) := by
  subst hn
  obtain ⟨h1, h2⟩ := h
  rcases h2 with ⟨h2, _⟩ | ⟨g', cap', cur, hv, hlo, hg, hnc, hcm, hsz, htk⟩
  · cases h2
  cases hv
  unfold CRw
  rw [List.length_set, ← flatC_setN l i hi x]
  refine ⟨by simp [h1], .inr ⟨g, cp, cur.setIfInBounds (i * 3 + 1) (.int .i64 x), rfl, hlo, ?_, hnc, hcm, by simp [hsz], ?_⟩⟩
  · simp only [World.setCell, Array.getElem?_modify]
    simp [hg]
  · rw [← htk]
    simp [List.take_set]
def frC (n : Int) : Cl := ⟨1, n, ⟨#[]⟩⟩
def celV (c : Cl) : Value := .agg #[.int .i64 c.k, .int .i64 c.n, .string c.nm]
set_option maxHeartbeats 1000000 in
theorem free_any (n : Int) (w : World) : Calls Try.prog 115 #[.int .i64 n] w fun e w' => e = .returned (celV (frC n)) ∧ Below w.heap.size w w' := by
  go_enter Try.func115, Try.ntmps115
  go_wp2_with fail
  obtain ⟨y0, y1, y2, _⟩ := block_cells (heap_alloc_new w (.cells #[.int .i64 1, .int .i64 n, .string ⟨#[]⟩] 128))
  refine bodyPost_ret (v := celV (frC n)) ?_ rfl ⟨rfl, (Below.refl _ _).alloc (Nat.le_refl _) _⟩
  simp [results, Try.results115, go_sem, y0, y1, y2, celV, frC]
theorem infoC : (Try.prog.info? 128).map (fun i => (i.zero, i.size, i.bytes)) = some (some (.agg #[.int .i64 0, .int .i64 0, .string ByteArray.empty]), 3, 32) := by kernel_rfl
theorem eqSc (x : Option Addr) (n c : Nat) (w : World) : (binOp .eql 54 (.slice x n c) (.slice none 0 0)).run Try.prog w = .ok (.bool x.isNone) w := by
  cases x <;> kernel_rfl
theorem eqScG (x : Option Addr) (n c : Nat) (w : World) (p q : Operand) : (eqGuard .eql 54 p q (.slice x n c) (.slice none 0 0)).run Try.prog w = .ok () w := by
  cases x <;> kernel_rfl
theorem HIn.news {w : World} {ad : Addr} {len : Nat} {h : Nat → Cl} (hh : HIn w (some ad) len h) : ∀ j u, (flatC ((List.range len).map h))[j]? = some u → w.cell? (ad.add j) = some u := by
  intro j u hu
  have hj : j < len * 3 := by
    have := (List.getElem?_eq_some_iff.1 hu).1
    rw [flatC_length] at this; simpa using this
  have hk : j / 3 < len := by omega
  obtain ⟨f0, f1, f2⟩ := flatC_get ((List.range len).map h) (j / 3) (by simpa using hk)
  simp only [List.getElem_map, List.getElem_range] at f0 f1 f2
  obtain ⟨b, o, e, c0, c1, c2⟩ := hh.row (j / 3) hk
  cases e
  have h3 : j % 3 = 0 ∨ j % 3 = 1 ∨ j % 3 = 2 := by omega
  rcases h3 with h3 | h3 | h3
  · have ej : j = j / 3 * 3 := by omega
    have h0 := c0
    rw [← ej] at h0 f0
    rw [f0] at hu
    rw [← hu]
    have ea : (⟨b, o, none⟩ : Addr).add j = ⟨b, o + j, none⟩ := by
      unfold Addr.add
      by_cases hz : j = 0
      · rw [if_pos hz, hz]; rfl
      · rw [if_neg hz]
    rw [ea]; exact h0
  · have ej : j = j / 3 * 3 + 1 := by omega
    rw [ej, f1] at hu
    rw [ej, ← hu]; exact c1
  · have ej : j = j / 3 * 3 + 2 := by omega
    rw [ej, f2] at hu
    rw [ej, ← hu]; exact c2
set_option maxHeartbeats 1000000 in
theorem clone_any {a : Option Addr} {len cap : Nat} {h : Nat → Cl} (w : World) (hh : HIn w a len h) (hn : a = none → len = 0 ∧ cap = 0) (hl : len ≤ 1000000) :
    Calls Try.prog 87 #[.slice a len cap] w fun e w' => ∃ v, e = .returned v ∧ CRw w.heap.size w' v ((List.range len).map h) ∧ Below w.heap.size w w' := by
  have hq1 := fun W => eqSc a len cap W
  have hq2 := fun W => eqScG a len cap W
  cases a with
  | none =>
    obtain ⟨rfl, rfl⟩ := hn rfl
    clear hh hn
    go_enter Try.func87, Try.ntmps87
    go_wp2_with fail
    go_ret
    exact ⟨.slice none 0 0, rfl, World.ownsRow_nil _ _ _ _, Below.refl _ _⟩
  | some ad =>
    obtain ⟨i0, hi, hi0, hi1, hi2⟩ := info_parts infoC
    have HO : Hid ((w.alloc (.cells #[] 128)).ownsRow w.heap.size 128 3 (.slice (some ⟨w.heap.size, 0, none⟩) 0 0) 0 []) := World.ownsRow_lit w #[] 0 (Nat.le_refl _) (by unfold maxLen; omega) rfl
    have HB : Hid (Below w.heap.size w (w.alloc (.cells #[] 128))) := (Below.refl _ _).alloc (Nat.le_refl _) _
    have HN : Hid (∀ j u, (flatC ((List.range len).map h))[j]? = some u → (w.alloc (.cells #[] 128)).cell? (ad.add j) = some u) := (hh.below HB.out).news
    have HL : Hid ((flatC ((List.range len).map h)).length = len * 3) := by rw [Hid, flatC_length]; simp
    clear hh
    go_enter Try.func87, Try.ntmps87
    go_wp2_with (at_builtin; refine wpList_append_own_at _ rfl (.tmp 5) (.tmp 6) 54 rfl w.heap.size 128 i0 (.agg #[.int .i64 0, .int .i64 0, .string ByteArray.empty]) 3 32 Try.underlying54 hi hi0 hi1 hi2 rfl (by decide) (.slice (some ⟨w.heap.size, 0, none⟩) 0 0) 0 [] rfl HO.out ad len cap (flatC ((List.range len).map h)) rfl HL.out HN.out (flatC_one _) (by unfold maxLen; omega) (by omega) (by simp) ?_; intro v' w6 hown' hgrow hnil hat)
    go_ret
    refine ⟨v', rfl, ?_, HB.out.grown hgrow (by simp) (fun k hk => by have : w.heap.size = k := Option.some.inj hk; omega)⟩
    unfold CRw
    simpa using hown'
end Go.Proofs.Ytmggaclaoefdaaa

namespace Go.Proofs.Ytmggaclaoefdaaa
open Go.RowKit
set_option linter.unusedVariables false
set_option linter.unusedSimpArgs false

/-- What is found of a variable in cells, with so much work left. -/
inductive LkR where
  | ok (n : Nat)
  | hit (n : Nat)
  | over
def LkR.go : LkR → (Nat → LkR) → LkR
  | .ok n, f => f n
  | r, _ => r
def LkR.yes : LkR → Bool
  | .ok _ => true
  | _ => false
def LkR.left : LkR → Int
  | .ok n => n
  | .hit n => n
  | .over => -1
noncomputable def lkL (h : Nat → Cl) (len v : Nat) : Nat → List Nat → LkR
  | 0 => fun l => match l with
    | [] => .ok 0
    | _ :: _ => .over
  | n + 1 => fun l => match l with
    | [] => .ok (n + 1)
    | t :: r => if endA h len t = v then .hit n else lkL h len v n (leads h (endA h len t) ++ r)
theorem lkL_nil (h : Nat → Cl) (len v n : Nat) : lkL h len v n [] = .ok n := by cases n <;> rfl
theorem lkL_append (h : Nat → Cl) (len v : Nat) : ∀ (n : Nat) (a r : List Nat), lkL h len v n (a ++ r) = (lkL h len v n a).go fun k => lkL h len v k r := by
  intro n
  induction n with
  | zero =>
    intro a r
    cases a with
    | nil => rfl
    | cons x a => rfl
  | succ n ih =>
    intro a r
    cases a with
    | nil => rfl
    | cons x a =>
      show (if endA h len x = v then LkR.hit n else lkL h len v n (leads h (endA h len x) ++ (a ++ r))) = LkR.go (if endA h len x = v then LkR.hit n else lkL h len v n (leads h (endA h len x) ++ a)) _
      by_cases e : endA h len x = v
      · rw [if_pos e, if_pos e]; rfl
      · rw [if_neg e, if_neg e, ← List.append_assoc]
        exact ih _ r
theorem lkL_le (h : Nat → Cl) (len v : Nat) : ∀ (n : Nat) (a : List Nat), (∀ k, lkL h len v n a = .ok k → k ≤ n) ∧ ∀ k, lkL h len v n a = .hit k → k < n := by
  intro n
  induction n with
  | zero =>
    intro a
    cases a with
    | nil => exact ⟨fun k e => by cases e; exact Nat.le_refl _, fun k e => by cases e⟩
    | cons => exact ⟨fun k e => (by cases e), fun k e => (by cases e)⟩
  | succ n ih =>
    intro a
    cases a with
    | nil => exact ⟨fun k e => by cases e; exact Nat.le_refl _, fun k e => by cases e⟩
    | cons x a =>
      rw [show lkL h len v (n + 1) (x :: a) = if endA h len x = v then .hit n else lkL h len v n (leads h (endA h len x) ++ a) from rfl]
      by_cases e : endA h len x = v
      · rw [if_pos e]; exact ⟨fun k e => (by cases e), fun k e => (by cases e; omega)⟩
      · rw [if_neg e]
        have := ih (leads h (endA h len x) ++ a)
        exact ⟨fun k e => by have := this.1 k e; omega, fun k e => by have := this.2 k e; omega⟩
/-- One who makes two terms the same: the view, what was bound, how much work is left. -/
structure MK (w : World) (mb vb m : Nat) (bv : Value) (left : Int) (a : Option Addr) (len cap : Nat) (h : Nat → Cl) (σ : Int → Option Int) : Prop where
  blk : w.heap[mb]? = some (.cells #[.pointer (some ⟨vb, 0, none⟩), bv, .int .i64 left] 167)
  view : VW w vb m a len cap h σ
variable {w w' : World} {mb vb m : Nat} {bv : Value} {left : Int} {a : Option Addr} {len cap : Nat} {h : Nat → Cl} {σ : Int → Option Int}
theorem MK.lt (K : MK w mb vb m bv left a len cap h σ) : mb < w.heap.size := (Array.getElem?_eq_some_iff.1 K.blk).1
theorem MK.ne (K : MK w mb vb m bv left a len cap h σ) : mb ≠ m ∧ mb ≠ vb := by
  refine ⟨K.view.mp.ne_block K.blk, fun e => ?_⟩
  subst e
  have := K.blk.symm.trans K.view.blk
  simp at this
theorem MK.ne_row (K : MK w mb vb m bv left a len cap h σ) {i : Nat} (hi : i < len) {b o : Nat} (ha : a = some ⟨b, o, none⟩) : b ≠ mb := by
  obtain ⟨b', o', e, c0, c1, c2⟩ := K.view.row.row i hi
  rw [ha] at e
  cases e
  intro e
  subst e
  have hb := K.blk
  have h0 : ∀ j, w.cell? ⟨b, j, none⟩ = (#[Value.pointer (some ⟨vb, 0, none⟩), bv, .int .i64 left] : Array Value)[j]? := fun j => by simp [World.cell?, hb]
  rw [h0] at c0 c1 c2
  have h2 := (Array.getElem?_eq_some_iff.1 c2).1
  have h3 : o + i * 3 = 0 := by simp at h2; omega
  rw [h3] at c0
  cases c0
theorem MK.cells (K : MK w mb vb m bv left a len cap h σ) : w.cell? ⟨mb, 0, none⟩ = some (.pointer (some ⟨vb, 0, none⟩)) ∧ w.cell? ⟨mb, 1, none⟩ = some bv ∧ w.cell? ⟨mb, 2, none⟩ = some (.int .i64 left) ∧ ∀ j, w.frozen? ⟨mb, j, none⟩ = false := by
  have := K.blk
  refine ⟨?_, ?_, ?_, fun j => ?_⟩ <;> simp [World.cell?, World.frozen?, this]
theorem MK.below (K : MK w mb vb m bv left a len cap h σ) (hb : Below w.heap.size w w') : MK w' mb vb m bv left a len cap h σ := ⟨(hb.block _ K.lt).trans K.blk, K.view.below hb⟩
theorem MK.map {σ' : Int → Option Int} (K : MK w mb vb m bv left a len cap h σ) (V : VW w' vb m a len cap h σ') (hg : w.grownBy w' (some m)) : MK w' mb vb m bv left a len cap h σ' := ⟨(hg.block _ K.lt (fun e => K.ne.1 (Option.some.inj e))).trans K.blk, V⟩
theorem MK.view_set (K : MK w mb vb m bv left a len cap h σ) (hg : w.grownBy w' (some mb)) : VW w' vb m a len cap h σ := by
  refine ⟨(hg.block _ K.view.lt.1 (fun e => K.ne.2 (Option.some.inj e).symm)).trans K.view.blk, ⟨fun i hi => ?_, K.view.row.big, K.view.row.nm⟩, K.view.mp.kept hg (fun e => K.ne.1 (Option.some.inj e).symm), K.view.ends⟩
  obtain ⟨b, o, e, c0, c1, c2⟩ := K.view.row.row i hi
  have hne := K.ne_row hi e
  have hx : ∀ j, w'.cell? ⟨b, j, none⟩ = w.cell? ⟨b, j, none⟩ := fun j => World.cell?_of_block (hg.block b (lt_of_cell c0) (fun e => hne (Option.some.inj e)))
  exact ⟨b, o, e, (hx _).trans c0, (hx _).trans c1, (hx _).trans c2⟩
theorem MK.setLeft (K : MK w mb vb m bv left a len cap h σ) (x : Int) : MK (w.setCell ⟨mb, 2, none⟩ (.int .i64 x)) mb vb m bv x a len cap h σ := by
  refine ⟨?_, K.view_set (grown_set (W := w) mb 2 _)⟩
  simp only [World.setCell, Array.getElem?_modify]
  simp [K.blk]
theorem MK.low {w0 : World} {bv0 : Value} {l0 : Int} {σ0 : Int → Option Int} (K0 : MK w0 mb vb m bv0 l0 a len cap h σ0) (K : MK w mb vb m bv left a len cap h σ) (hk : ∀ k, k < w0.heap.size → w'.heap[k]? = w.heap[k]?) : MK w' mb vb m bv left a len cap h σ := ⟨(hk _ K0.lt).trans K.blk, K0.view.low K.view hk⟩
theorem MK.own {B : Nat} {row : Option Nat} (K : MK w mb vb m bv left a len cap h σ) (hm : m < B) (hg : w.grownBy w' row) (hr : ∀ r, row = some r → B ≤ r ∧ ∃ o : Obj, w.heap[r]? = some o ∧ o.isCells = false) : MK w' mb vb m bv left a len cap h σ :=
  ⟨(hg.block _ K.lt (ne_of_cells (fun r e => (hr r e).2) K.blk rfl)).trans K.blk, K.view.own hm hg hr⟩
set_option maxHeartbeats 1000000 in
theorem mlook_any {n : Nat} (hn : n ≤ 1000000) (w : World) (K : MK w mb vb m bv (n : Int) a len cap h σ) :
    Calls Try.prog 134 #[.pointer (some ⟨mb, 0, none⟩)] w fun e w' => e = .returned (.bool (decide (0 < n))) ∧ MK w' mb vb m bv ((n : Int) - 1) a len cap h σ ∧ w.grownBy w' (some mb) := by
  obtain ⟨k0, k1, k2, kf⟩ := K.cells
  have kf2 := kf 2
  have HK : Hid (MK w mb vb m bv (n : Int) a len cap h σ) := K
  have hw1 : IntKind.i64.wrap ((n : Int) - 1) = (n : Int) - 1 := by simp [IntKind.wrap, IntKind.bits, IntKind.signed]; omega
  have HK1 : Hid (MK (w.setCell ⟨mb, 2, none⟩ (.int .i64 ((n : Int) - 1))) mb vb m bv ((n : Int) - 1) a len cap h σ) := K.setLeft _
  have j2 := HK1.out.cells.2.2.1
  have hd : decide ((n : Int) - 1 ≥ 0) = decide (0 < n) := by rw [decide_eq_decide]; omega
  clear K kf
  go_enter Try.func134, Try.ntmps134
  go_wp2_with fail
  go_ret
  exact ⟨by rw [← hd]; simp, HK1.out, grown_set (W := w) mb 2 _⟩
end Go.Proofs.Ytmggaclaoefdaaa
