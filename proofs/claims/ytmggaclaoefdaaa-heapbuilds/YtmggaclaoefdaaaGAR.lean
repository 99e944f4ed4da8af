/- A heap that is right: where cells lead to, by which way, and which term stands there. Where a cell leads to, as a function to range over. -/
import Derived.Test.YtmggaclaoefdaaaHp4
import Derived.RangeFuncNested
import Derived.RangeFuncBound
import Derived.RangeFuncCalls
import Derived.RangeFuncLeaves
import Derived.Shelf.Abstract
import Derived.Shelf.RegionOpen
import Derived.WalkKit
import Derived.OwnWalkIn
import Derived.TacticsInMore
import Derived.LoopNIn
import Derived.LoopIn
import Derived.Test.YtmggaclaoefdaaaGAQ
namespace Go.Proofs.Ytmggaclaoefdaaa
open Go.RowKit
set_option linter.unusedVariables false
set_option linter.unusedSimpArgs false

structure HG (h : Nat → Cl) (len : Nat) : Prop where
  ok : HOk h len
  acy : Acy len (leads h)
  kind : ∀ i, i < len → (h i).k = 1 ∨ (h i).k = 2
  kids : ∀ i, i < len → (h i).k = 2 → ∀ j : Nat, (j : Int) < (h i).n → i + 1 + j < len ∧ (h (i + 1 + j)).k = 1
  nmr : ∀ i, i < len → (h i).k = 1 → (h i).nm.toList = []
  nmf : ∀ i, i < len → (h i).k = 2 → nameB (h i).nm = true ∧ ¬ ((h i).nm.toList = [33] ∧ 0 < (h i).n)
theorem HG.of {h : Nat → Cl} {len : Nat} (hl : len ≤ 400000) (h0 : firstE h len len = 0) (ha : Acy len (leads h)) : HG h len := by
  have hc := fun i (hi : i < len) => firstE_zero len h0 i hi
  refine ⟨cells_ok hl h0, ha, fun i hi => ?_, fun i hi hk j hj => ?_, fun i hi hk => ?_, fun i hi hk => ?_⟩
  · have := hc i hi
    unfold cellE at this
    by_cases e : (h i).k = 1
    · exact .inl e
    · by_cases e2 : (h i).k = 2
      · exact .inr e2
      · rw [if_neg e, if_neg e2] at this; cases this
  · have := hc i hi
    unfold cellE at this
    rw [if_neg (show ¬ (h i).k = 1 from by omega), if_pos hk] at this
    by_cases c : nameB (h i).nm = true ∧ btw (h i).n 0 4 = true ∧ ¬ ((h i).nm.toList = [33] ∧ 0 < (h i).n)
    · rw [if_pos c] at this
      by_cases d : (len : Int) - 1 < (i : Int) + (h i).n
      · rw [if_pos d] at this; cases this
      · rw [if_neg d] at this
        by_cases e : kidsB h i (h i).n.toNat = true
        · have := allTo_iff.1 e j (by omega)
          exact ⟨by omega, by simpa using this⟩
        · rw [if_neg e] at this; cases this
    · rw [if_neg c] at this; cases this
  · have := hc i hi
    unfold cellE at this
    rw [if_pos hk] at this
    by_cases c : btw (h i).n 0 ((len : Int) - 1) = true
    · rw [if_pos c] at this
      by_cases d : (h i).nm.toList = []
      · exact d
      · rw [if_neg d] at this; cases this
    · rw [if_neg c] at this; cases this
  · have := hc i hi
    unfold cellE at this
    rw [if_neg (show ¬ (h i).k = 1 from by omega), if_pos hk] at this
    by_cases c : nameB (h i).nm = true ∧ btw (h i).n 0 4 = true ∧ ¬ ((h i).nm.toList = [33] ∧ 0 < (h i).n)
    · exact ⟨c.1, c.2.2⟩
    · rw [if_neg c] at this; cases this
/-- A cell that leads on. -/
def Ref (h : Nat → Cl) (i j : Nat) : Prop := (h i).k = 1 ∧ (h i).n = (j : Int) ∧ j ≠ i
theorem Ref.leads {h : Nat → Cl} {i j : Nat} (r : Ref h i j) : leads h i = [j] := by
  unfold Go.Proofs.Ytmggaclaoefdaaa.leads
  rw [if_pos r.1, if_neg (by rw [r.2.1]; have := r.2.2; omega), r.2.1]
  rfl
theorem HG.ref {h : Nat → Cl} {len i : Nat} (H : HG h len) (hi : i < len) (hk : (h i).k = 1) (hn : (h i).n ≠ i) : ∃ j, Ref h i j ∧ j < len := by
  have h0 := H.ok.n0 i hi
  have r : Ref h i (h i).n.toNat := ⟨hk, by omega, by omega⟩
  exact ⟨_, r, H.ok.inn i hi _ (by rw [r.leads]; simp)⟩
theorem EndR.root' {h : Nat → Cl} {len i z : Nat} (H : EndR h len i z) : ¬ ((h z).k = 1 ∧ (h z).n ≠ z) := by
  induction H with
  | root _ h => exact h
  | step _ _ _ _ _ ih => exact ih
theorem EndR.uniq {h : Nat → Cl} {len i z z' : Nat} (H : EndR h len i z) (H' : EndR h len i z') : z = z' := by
  induction H with
  | root hi hr =>
    cases H' with
    | root _ _ => rfl
    | step _ hk hn hj _ => exact absurd ⟨hk, by rw [hn]; omega⟩ hr
  | step hi hk hn hj _ ih =>
    cases H' with
    | root _ hr => exact absurd ⟨hk, by rw [hn]; omega⟩ hr
    | step _ hk' hn' hj' hz' =>
      rw [hn] at hn'
      exact ih (by rw [Int.ofNat_inj.1 hn']; exact hz')
theorem EndR.ex {h : Nat → Cl} {len : Nat} (H : HG h len) : ∀ i, i < len → ∃ z, EndR h len i z := by
  obtain ⟨r, hr⟩ := H.acy
  have : ∀ m i, r i = m → i < len → ∃ z, EndR h len i z := by
    intro m
    induction m using Nat.strongRecOn with
    | _ m ih =>
      intro i hm hi
      by_cases c : (h i).k = 1 ∧ (h i).n ≠ i
      · obtain ⟨j, hj, hjl⟩ := H.ref hi c.1 c.2
        obtain ⟨z, hz⟩ := ih (r j) (by have := hr i hi j (by rw [hj.leads]; simp); omega) j rfl hjl
        exact ⟨z, .step hi hj.1 hj.2.1 hj.2.2 hz⟩
      · exact ⟨i, .root hi c⟩
  exact fun i hi => this _ i rfl hi
open Classical in
/-- The end of a cell. -/
noncomputable def endA (h : Nat → Cl) (len i : Nat) : Nat := if e : ∃ z, EndR h len i z then e.choose else i
theorem endA_eq {h : Nat → Cl} {len i z : Nat} (H : EndR h len i z) : endA h len i = z := by
  have e : ∃ z, EndR h len i z := ⟨z, H⟩
  unfold endA
  rw [dif_pos e]
  exact e.choose_spec.uniq H
theorem HG.endR {h : Nat → Cl} {len i : Nat} (H : HG h len) (hi : i < len) : EndR h len i (endA h len i) := by
  obtain ⟨z, hz⟩ := EndR.ex H i hi
  rw [endA_eq hz]; exact hz
theorem HG.end_lt {h : Nat → Cl} {len i : Nat} (H : HG h len) (hi : i < len) : endA h len i < len := (H.endR hi).lt.2
/-- What stands at an end: a variable that is nothing yet, or a name. -/
theorem HG.end_or {h : Nat → Cl} {len i : Nat} (H : HG h len) (hi : i < len) : ((h (endA h len i)).k = 1 ∧ (h (endA h len i)).n = endA h len i) ∨ (h (endA h len i)).k = 2 := by
  have h1 := (H.endR hi).root'
  rcases H.kind _ (H.end_lt hi) with e | e
  · refine .inl ⟨e, ?_⟩
    by_cases c : (h (endA h len i)).n = endA h len i
    · exact c
    · exact absurd ⟨e, c⟩ h1
  · exact .inr e
theorem HG.end_end {h : Nat → Cl} {len i : Nat} (H : HG h len) (hi : i < len) : endA h len (endA h len i) = endA h len i :=
  endA_eq (.root (H.end_lt hi) (H.endR hi).root')
theorem end_ref {h : Nat → Cl} {len i j : Nat} (H : HG h len) (hi : i < len) (r : Ref h i j) : j < len ∧ endA h len i = endA h len j := by
  have hj : j < len := H.ok.inn i hi j (by rw [r.leads]; simp)
  exact ⟨hj, endA_eq (.step hi r.1 r.2.1 r.2.2 (H.endR hj))⟩
/-- A way from one cell to another, of one step at least. -/
inductive Pth (h : Nat → Cl) : Nat → Nat → Prop
  | one {i j : Nat} : Ref h i j → Pth h i j
  | more {i j z : Nat} : Ref h i j → Pth h j z → Pth h i z
theorem Pth.same {h : Nat → Cl} {len i z : Nat} (H : HG h len) (p : Pth h i z) (hi : i < len) : z < len ∧ endA h len i = endA h len z := by
  induction p with
  | one r => exact end_ref H hi r
  | more r _ ih =>
    obtain ⟨hj, e⟩ := end_ref H hi r
    obtain ⟨hz, e'⟩ := ih hj
    exact ⟨hz, e.trans e'⟩
theorem Pth.rank {h : Nat → Cl} {len i z : Nat} {r : Nat → Nat} (H : HG h len) (hr : ∀ x, x < len → ∀ y ∈ leads h x, r y < r x) (p : Pth h i z) (hi : i < len) : r z < r i := by
  induction p with
  | one q => exact hr _ hi _ (by rw [q.leads]; simp)
  | more q _ ih =>
    have h1 := hr _ hi _ (by rw [q.leads]; exact List.mem_singleton.2 rfl)
    have h2 := ih (end_ref H hi q).1
    omega
theorem HG.way {h : Nat → Cl} {len i : Nat} (H : HG h len) (hi : i < len) : endA h len i = i ∨ Pth h i (endA h len i) := by
  have h1 := H.endR hi
  revert h1
  generalize endA h len i = z
  intro h1
  induction h1 with
  | root _ _ => exact .inl rfl
  | step hi' hk hn hj h2 ih =>
    rcases ih h2.lt.1 with e | e
    · subst e; exact .inr (.one ⟨hk, hn, hj⟩)
    · exact .inr (.more ⟨hk, hn, hj⟩ e)
end Go.Proofs.Ytmggaclaoefdaaa

namespace Go.Proofs.Ytmggaclaoefdaaa
open Go.RowKit Go.Shelf
set_option linter.unusedVariables false
set_option linter.unusedSimpArgs false
attribute [local go_sem] Oper.semAt_some

/-- A cell of a heap. -/
abbrev Cq (p : Nat → Prop) := { x : Nat // p x }
abbrev Cx (len : Nat) := Cq fun x => x < len
def vals {p : Nat → Prop} (l : List (Cq p)) : List Nat := l.map fun x => x.1
theorem vals_nil {p : Nat → Prop} : vals ([] : List (Cq p)) = [] := rfl
theorem vals_snoc {p : Nat → Prop} (l : List (Cq p)) (x : Cq p) : vals (l ++ [x]) = vals l ++ [x.1] := by simp [vals]
theorem vals_ex {p : Nat → Prop} : ∀ l : List Nat, (∀ x ∈ l, p x) → ∃ xs : List (Cq p), vals xs = l := by
  intro l
  induction l with
  | nil => intro _; exact ⟨[], rfl⟩
  | cons x l ih =>
    intro h
    obtain ⟨xs, hxs⟩ := ih fun y hy => h y (List.mem_cons_of_mem _ hy)
    exact ⟨⟨x, h x List.mem_cons_self⟩ :: xs, by unfold vals at *; rw [List.map_cons, hxs]⟩
/-- What the iterator wants kept: the box of its cell's number. -/
def Kb (b : Nat) (W W' : World) : Prop := W.heap.size ≤ W'.heap.size ∧ W'.heap[b]? = W.heap[b]?
theorem Kb.t {b : Nat} {A B C : World} (h : Kb b A B) (k : Kb b B C) : Kb b A C := ⟨Nat.le_trans h.1 k.1, k.2.trans h.2⟩
theorem Kb.b {b : Nat} {w : World} (hb : b < w.heap.size) (W : World) (l : Nat) (o o' : Obj) (hl : w.heap.size ≤ l) (_ : W.heap[l]? = some o) (_ : o.isCells = false) (_ : o.isWalk = false) : Kb b W (W.putObj l o') :=
  ⟨by simp [World.putObj], World.putObj_heap_other (by omega)⟩
theorem cell_of_block {W : World} {B : Nat} {v : Value} {t : TypeId} (h : W.heap[B]? = some (.cells #[v] t)) : W.cell? ⟨B, 0, none⟩ = some v := by simp [World.cell?, h]
set_option maxRecDepth 100000 in
set_option maxHeartbeats 4000000 in
theorem leads1_in {a : Option Addr} {len cap : Nat} {h : Nat → Cl} {i : Nat} {p : Nat → Prop} (n : Nat) (hi : i < len) (l Bh Bt : Nat) (J Jx : List (Cq p) → World → Prop)
    (W : World) (hh : HIn W a len h) (h0 : 0 ≤ (h i).n) (h4 : (h i).k ≠ 1 → (h i).n ≤ 4) (hk : (h i).k = 1 ∨ (h i).k = 2) (hlb : len ≤ 1000000)
    (xs : List (Cq p)) (hxs : vals xs = leads h i)
    (hJ : AbidesFrom W.heap.size J)
    (hY : ∀ pre x W, J pre W → pre.length < (leads h i).length → YieldAt Fence.wide (n - 1) Try.prog l #[.int .i64 (x.1 : Int)] W fun e W' =>
      (e = .returned (.bool true) ∧ J (pre ++ [x]) W' ∧ Kb Bt W W') ∨ (e = .returned (.bool false) ∧ Jx (pre ++ [x]) W'))
    (hBh : W.heap[Bh]? = some (.cells #[.slice a len cap] 54)) (hBt : W.heap[Bt]? = some (.cells #[.int .i64 (i : Int)] 3)) (hJ0 : J [] W) :
    CallsIn Fence.wide n Try.prog 130 #[.func (.yield l) #[] #[], .pointer (some ⟨Bh, 0, none⟩), .pointer (some ⟨Bt, 0, none⟩)] W fun e W' => (∃ v, e = .returned v) ∧
      ((∃ ys, vals ys = leads h i ∧ J ys W') ∨ (∃ pre, vals pre <+: leads h i ∧ Jx pre W')) := by
  obtain ⟨b, o, rfl, c0, c1, c2⟩ := hh.row i hi
  have hiI : (i : Int) < (len : Int) := by omega
  have hb0 := cell_of_block hBh
  have ht0 := cell_of_block hBt
  obtain ⟨m, hm⟩ : ∃ m : Nat, (h i).n = m := ⟨(h i).n.toNat, by omega⟩
  rw [hm] at c1
  have HJa : Hid (J [] (W.alloc (.cells #[.int .i64 (h i).k, .int .i64 m, .string (h i).nm] 128))) := hJ [] _ _ none hJ0 (World.grownBy_alloc _ _ _) (fun r e => by cases e)
  have HBa : Hid ((W.alloc (.cells #[.int .i64 (h i).k, .int .i64 m, .string (h i).nm] 128)).heap[Bt]? = some (.cells #[.int .i64 (i : Int)] 3)) := (Below.heap_alloc _ _ _ (Array.getElem?_eq_some_iff.1 hBt).1).trans hBt
  have ht1 := cell_of_block HBa.out
  rcases hk with hk | hk
  · have hkb : ((h i).k == 2) = false := by rw [hk]; rfl
    by_cases hni : m = i
    · have hnb : ((m : Int) != (i : Int)) = false := by rw [Bool.eq_false_iff]; intro e; exact bne_iff_ne.1 e (by omega)
      have HL : Hid (leads h i = []) := by unfold leads; rw [Hid, if_pos hk, if_pos (by omega)]
      clear hh h0 h4 hY hk hni hxs
      refine callsIn_of_wp Try.func130 rfl trivial ?_ rfl
      simp only [Try.ntmps130, List.size_toArray, List.length_cons, List.length_nil, Nat.reduceAdd, Nat.reduceSub, Array.replicate_succ, Array.replicate_zero, List.push_toArray, List.append_toArray, List.nil_append, List.cons_append]
      gi_wp2
      go_end0
      exact ⟨⟨_, rfl⟩, .inl ⟨[], by rw [HL.out]; rfl, HJa.out⟩⟩
    · have hnb : ((m : Int) != (i : Int)) = true := bne_iff_ne.2 (by omega)
      have HL : Hid (leads h i = [m]) := by unfold leads; rw [Hid, if_pos hk, if_neg (by omega), hm]; rfl
      obtain ⟨x, hx⟩ : ∃ x : Cq p, xs = [x] ∧ x.1 = m := by
        rw [HL.out] at hxs
        match xs, hxs with
        | [], e => cases e
        | [x], e => exact ⟨x, rfl, by simpa [vals] using e⟩
        | x :: y :: zs, e => simp [vals] at e
      obtain ⟨fn, tmps, assign, body, hy, hR⟩ := hY [] x _ HJa.out (by rw [HL.out]; exact Nat.one_pos)
      rw [hx.2] at hy
      clear hh h0 h4 hY hk hni hxs
      refine callsIn_of_wp Try.func130 rfl trivial ?_ rfl
      simp only [Try.ntmps130, List.size_toArray, List.length_cons, List.length_nil, Nat.reduceAdd, Nat.reduceSub, Array.replicate_succ, Array.replicate_zero, List.push_toArray, List.append_toArray, List.nil_append, List.cons_append]
      gi_wp2
      refine ⟨fun h => (by cases h), ?_⟩
      refine hR.mono ?_
      rintro e W3 (⟨rfl, hJ3, hk3⟩ | ⟨rfl, hJx3⟩)
      · gi_wp2
        go_end0
        exact ⟨⟨_, rfl⟩, .inl ⟨[x], by rw [HL.out]; simp [vals, hx.2], hJ3⟩⟩
      · gi_wp2
        go_end0
        exact ⟨⟨_, rfl⟩, .inr ⟨[x], by rw [HL.out]; simp [vals, hx.2], hJx3⟩⟩
  · have hkb : ((h i).k == 2) = true := by rw [hk]; rfl
    have HL : Hid (leads h i = (List.range m).map fun j => i + 1 + j) := by unfold leads; rw [Hid, if_neg (by omega), hm]; rfl
    have hm4 : m ≤ 4 := by have := h4 (by omega); omega
    have hll : (leads h i).length = m := by rw [HL.out]; simp
    have hxl : xs.length = m := by rw [← hll, ← hxs]; simp [vals]
    have hxg : ∀ k (hk : k < xs.length), (xs[k].1 : Int) = (i : Int) + 1 + (k : Int) := fun k hk' => by
      have e : (vals xs)[k]? = some xs[k].1 := by unfold vals; rw [List.getElem?_map, List.getElem?_eq_getElem hk']; rfl
      rw [hxs, HL.out, List.getElem?_map, List.getElem?_range (by omega)] at e
      simp at e
      omega
    have HY : Hid (∀ pre x W, J pre W → pre.length < m → YieldAt Fence.wide (n - 1) Try.prog l #[.int .i64 (x.1 : Int)] W fun e W' =>
      (e = .returned (.bool true) ∧ J (pre ++ [x]) W' ∧ Kb Bt W W') ∨ (e = .returned (.bool false) ∧ Jx (pre ++ [x]) W')) := fun pre x W hj hl => hY pre x W hj (by omega)
    have HXs : Hid (vals xs = leads h i) := hxs
    have HXg : Hid (∀ k (hk : k < xs.length), (xs[k].1 : Int) = (i : Int) + 1 + (k : Int)) := hxg
    have hw1 : IntKind.i64.wrap ((i : Int) + 1) = (i : Int) + 1 := by simp [IntKind.wrap, IntKind.bits, IntKind.signed]; omega
    clear hh h0 h4 hY hk hxs hxg hll
    refine callsIn_of_wp Try.func130 rfl trivial ?_ rfl
    simp only [Try.ntmps130, List.size_toArray, List.length_cons, List.length_nil, Nat.reduceAdd, Nat.reduceSub, Array.replicate_succ, Array.replicate_zero, List.push_toArray, List.append_toArray, List.nil_append, List.cons_append]
    gi_wp2
    gi_loopw [15] (fun p wr => ∃ k : Nat, k ≤ m ∧ p = .int .i64 (k : Int) ∧ J (xs.take k) wr ∧ wr.heap[Bt]? = some (.cells #[.int .i64 (i : Int)] 3)) (fun p _ => m - (intOf p).toNat)
    case atStart => exact ⟨0, Nat.zero_le _, rfl, HJa.out, HBa.out⟩
    case round =>
      obtain ⟨k, hkm, rfl, hJk, hBk⟩ := hrel
      have hc := cell_of_block hBk
      by_cases hlt : k < m
      case neg =>
        obtain rfl : k = m := by omega
        gi_wp2
        go_end0
        exact ⟨⟨_, rfl⟩, .inl ⟨xs, HXs.out, by rw [List.take_of_length_le (by omega)] at hJk; exact hJk⟩⟩
      · have hxk : k < xs.length := by omega
        obtain ⟨fn, tmps, assign, body, hy, hR⟩ := HY.out (xs.take k) xs[k] wr hJk (by rw [List.length_take]; omega)
        rw [HXg.out k hxk] at hy
        have hkI : (k : Int) < (m : Int) := by omega
        have hw2 : IntKind.i64.wrap ((i : Int) + 1 + (k : Int)) = (i : Int) + 1 + (k : Int) := by simp [IntKind.wrap, IntKind.bits, IntKind.signed]; omega
        gi_wp2
        refine ⟨fun h => (by cases h), ?_⟩
        refine hR.mono ?_
        rintro e W3 (⟨rfl, hJ3, hk3⟩ | ⟨rfl, hJx3⟩)
        · gi_wp2
          go_roundw
          case rel => exact ⟨k + 1, by omega, by go_num, by rw [List.take_succ_eq_append_getElem hxk]; exact hJ3, hk3.2.trans hBk⟩
          case measure => simp [intOf]; omega
        · gi_wp2
          refine bodyPost_ret (results_none rfl _ _ _) rfl ?_
          refine ⟨⟨_, rfl⟩, .inr ⟨xs.take k ++ [xs[k]], ?_, hJx3⟩⟩
          rw [← HXs.out, ← List.take_succ_eq_append_getElem hxk]
          unfold vals
          rw [List.map_take]
          exact List.take_prefix _ _
theorem leads_stops {a : Option Addr} {len cap : Nat} {h : Nat → Cl} {i : Nat} (n : Nat) (hi : i < len) (Bh Bt : Nat) (w : World) (hh : HIn w a len h) (hok : HOk h len) (hk : (h i).k = 1 ∨ (h i).k = 2) (hlb : len ≤ 1000000)
    (hBh : w.heap[Bh]? = some (.cells #[.slice a len cap] 54)) (hBt : w.heap[Bt]? = some (.cells #[.int .i64 (i : Int)] 3)) :
    SeqStopsK Fence.wide n Try.prog 130 #[.pointer (some ⟨Bh, 0, none⟩), .pointer (some ⟨Bt, 0, none⟩)] (fun x : Cx len => #[Value.int .i64 (x.1 : Int)]) (Kb Bt) (fun ys => vals ys = leads h i) (fun pre => vals pre <+: leads h i) (leads h i).length w := fun l J Jx W hW hJ hJx hY h0 => by
  obtain ⟨xs, hxs⟩ := vals_ex (p := fun x => x < len) (leads h i) (hok.inn i hi)
  exact leads1_in n hi l Bh Bt J Jx W (hh.below hW) (hok.n0 i hi) (hok.n4 i hi) hk hlb xs hxs hJ hY ((hW.block _ (Array.getElem?_eq_some_iff.1 hBh).1).trans hBh) ((hW.block _ (Array.getElem?_eq_some_iff.1 hBt).1).trans hBt) h0
theorem leads_stopsP {a : Option Addr} {len cap : Nat} {h : Nat → Cl} {i : Nat} {p : Nat → Prop} (n : Nat) (hi : i < len) (hp : ∀ x ∈ leads h i, p x) (Bh Bt : Nat) (w : World) (hh : HIn w a len h) (hok : HOk h len) (hk : (h i).k = 1 ∨ (h i).k = 2) (hlb : len ≤ 1000000)
    (hBh : w.heap[Bh]? = some (.cells #[.slice a len cap] 54)) (hBt : w.heap[Bt]? = some (.cells #[.int .i64 (i : Int)] 3)) :
    SeqStopsK Fence.wide n Try.prog 130 #[.pointer (some ⟨Bh, 0, none⟩), .pointer (some ⟨Bt, 0, none⟩)] (fun x : Cq p => #[Value.int .i64 (x.1 : Int)]) (Kb Bt) (fun ys => vals ys = leads h i) (fun pre => vals pre <+: leads h i) (leads h i).length w := fun l J Jx W hW hJ hJx hY h0 => by
  obtain ⟨xs, hxs⟩ := vals_ex (p := p) (leads h i) hp
  exact leads1_in n hi l Bh Bt J Jx W (hh.below hW) (hok.n0 i hi) (hok.n4 i hi) hk hlb xs hxs hJ hY ((hW.block _ (Array.getElem?_eq_some_iff.1 hBh).1).trans hBh) ((hW.block _ (Array.getElem?_eq_some_iff.1 hBt).1).trans hBt) h0
set_option maxHeartbeats 1000000 in
theorem leads_any (a : Option Addr) (len cap i : Nat) (w : World) :
    Calls Try.prog 110 #[.slice a len cap, .int .i64 i] w fun e w' => e = .returned (.func (.func 130) #[] #[.pointer (some ⟨w.heap.size, 0, none⟩), .pointer (some ⟨w.heap.size + 1, 0, none⟩)]) ∧ w' = (w.alloc (.cells #[.slice a len cap] 54)).alloc (.cells #[.int .i64 i] 3) := by
  go_enter Try.func110, Try.ntmps110
  go_wp2_with fail
  go_ret
  exact ⟨rfl, rfl⟩
end Go.Proofs.Ytmggaclaoefdaaa
