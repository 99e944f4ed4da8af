/- Memory: what stands, lists of terms that are built; SameTerm and SameTerms. -/
import Derived.Test.YtmggaclaoefdaaaGAE
import Derived.Deep.QuietTactic
import Derived.BigQuiet
import Derived.Deep.RegionHeld3
import Derived.Deep.LoopGhost
import Derived.Maps.AppendAt
import Derived.Maps.OwnSet
import Derived.OwnWalk
namespace Go.Proofs.Ytmggaclaoefdaaa
open Go.RowKit
theorem heapOld (w : World) (o : Obj) {r : Nat} (h : r < w.heap.size) : (w.alloc o).heap[r]? = w.heap[r]? := by
  show (w.heap.push o)[r]? = _
  rw [Array.getElem?_push, if_neg (Nat.ne_of_lt h)]

/-- All blocks but b stand. -/
abbrev G (b : Nat) (w w' : World) : Prop := w.grownBy w' (some b)
theorem G.refl (b : Nat) (w : World) : G b w w := ⟨rfl, rfl, rfl, Nat.le_refl _, fun _ _ _ => rfl⟩
theorem G.trans {b : Nat} {u v w : World} (h : G b u v) (k : G b v w) : G b u w :=
  ⟨k.os.trans h.os, k.tape.trans h.tape, k.output.trans h.output, Nat.le_trans h.size k.size, fun i hi hb => (k.block i (Nat.lt_of_lt_of_le hi h.size) hb).trans (h.block i hi hb)⟩
theorem G.set (b : Nat) (w : World) (i : Nat) (v : Value) : G b w (w.setCell ⟨b, i, none⟩ v) :=
  ⟨rfl, rfl, rfl, by simp [World.setCell], fun k _ hb => Below.heap_setCell _ _ _ _ (fun e => hb (by rw [e]))⟩
theorem G.below {b : Nat} {w w' : World} (h : Below w.heap.size w w') : G b w w' := ⟨h.os, h.tape, h.output, h.size, fun k hk _ => h.block k hk⟩
/-- The same term, wherever it lies. -/
def Sim : Tm → Tm → Prop
  | .nil, U => U.v = 0 ∧ U.nm = ⟨#[]⟩ ∧ U.len = 0
  | .mk v nm _ len _ f, U => v = U.v ∧ nm = U.nm ∧ len = U.len ∧ ∀ i, i < len → Sim (f i) (U.f i)
/-- All its arguments lie in blocks from lo on. -/
def Above (lo : Nat) : Tm → Prop
  | .nil => True
  | .mk _ _ a len _ f => (0 < len → ∃ b o, a = some ⟨b, o, none⟩ ∧ lo ≤ b) ∧ ∀ i, i < len → Above lo (f i)
/-- None of its arguments lies in block k. -/
def NB (k : Nat) : Tm → Prop
  | .nil => True
  | .mk _ _ a len _ f => (0 < len → ∃ b o, a = some ⟨b, o, none⟩ ∧ b ≠ k) ∧ ∀ i, i < len → NB k (f i)
theorem Above.mono {lo lo' : Nat} {T : Tm} (h : Above lo T) (hl : lo' ≤ lo) : Above lo' T := by
  induction T with
  | nil => trivial
  | mk v nm a len cap f ih => exact ⟨fun h0 => let ⟨b, o, h1, h2⟩ := h.1 h0; ⟨b, o, h1, Nat.le_trans hl h2⟩, fun i hi => ih i (h.2 i hi)⟩
theorem Above.nb {lo k : Nat} {T : Tm} (h : Above lo T) (hk : k < lo) : NB k T := by
  induction T with
  | nil => trivial
  | mk v nm a len cap f ih => exact ⟨fun h0 => let ⟨b, o, h1, h2⟩ := h.1 h0; ⟨b, o, h1, by omega⟩, fun i hi => ih i (h.2 i hi)⟩
theorem TIn.nb {w : World} {k : Nat} {T : Tm} (h : TIn w T) (hk : w.heap.size ≤ k) : NB k T := by
  induction T with
  | nil => trivial
  | mk v nm a len cap f ih =>
    refine ⟨fun h0 => ?_, fun i hi => ih i (h.2.2 i hi).2⟩
    obtain ⟨b, o, h1, h2, _⟩ := (h.2.2 0 h0).1
    have : b < w.heap.size := lt_of_cell h2
    exact ⟨b, o, h1, by omega⟩
theorem TIn.grown {w w' : World} {row : Option Nat} {T : Tm} (h : TIn w T) (hg : w.grownBy w' row) (hn : ∀ k, row = some k → NB k T) : TIn w' T := by
  induction T with
  | nil => exact h
  | mk v nm a len cap f ih =>
    refine ⟨h.1, h.2.1, fun i hi => ⟨?_, ih i (h.2.2 i hi).2 (fun k hk => (hn k hk).2 i hi)⟩⟩
    obtain ⟨b, o, rfl, h0, h1, h2⟩ := (h.2.2 i hi).1
    have hne : some b ≠ row := fun e => by
      obtain ⟨b', o', e1, e2⟩ := (hn b e.symm).1 (by omega)
      exact e2 (by cases e1; rfl)
    exact ⟨b, o, rfl, hg.cell h0 hne, hg.cell h1 hne, hg.cell h2 hne⟩

/-- The three cells of a block. -/
theorem set3 {W : World} {r : Nat} {x y z a b c : Value} (h : W.heap[r]? = some (.cells #[x, y, z] 24)) :
    (((W.setCell ⟨r, 0, none⟩ a).setCell ⟨r, 1, none⟩ b).setCell ⟨r, 2, none⟩ c).heap[r]? = some (.cells #[a, b, c] 24) := by
  simp only [World.setCell, Array.getElem?_modify]
  simp [h]

theorem block_cells {w : World} {k : Nat} {x y z : Value} {t : TypeId} (h : w.heap[k]? = some (.cells #[x, y, z] t)) :
    w.cell? ⟨k, 0, none⟩ = some x ∧ w.cell? ⟨k, 1, none⟩ = some y ∧ w.cell? ⟨k, 2, none⟩ = some z ∧ w.frozen? ⟨k, 0, none⟩ = false ∧ w.frozen? ⟨k, 1, none⟩ = false ∧ w.frozen? ⟨k, 2, none⟩ = false := by
  refine ⟨?_, ?_, ?_, ?_, ?_, ?_⟩ <;> simp [World.cell?, World.frozen?, h]
theorem TIn.retop {w : World} {T : Tm} {v : Int} {nm : ByteArray} (h : TIn w T) (hn : nm.size ≤ maxLen) : TIn w (.mk v nm T.a T.len T.cap T.f) := ⟨hn, h.len, fun _ hi => ⟨h.row hi, h.kid hi⟩⟩
theorem Above.retop {lo : Nat} {T : Tm} {v : Int} {nm : ByteArray} (h : Above lo T) : Above lo (.mk v nm T.a T.len T.cap T.f) := by
  cases T with
  | nil => exact ⟨fun h0 => absurd h0 (Nat.lt_irrefl 0), fun i hi => absurd hi (Nat.not_lt_zero i)⟩
  | mk => exact h
theorem grown_set {W : World} (r i : Nat) (v : Value) : W.grownBy (W.setCell ⟨r, i, none⟩ v) (some r) := G.set r W i v
/-- Three cells of a new block are stored. -/
theorem fin3n {w W : World} {r : Nat} {x y z : Value} (hr : w.heap.size ≤ r) (hX : W.heap[r]? = some (.cells #[x, y, z] 24)) (hB : Below w.heap.size w W) (a c d : Value) :
    ∃ W', ((W.setCell ⟨r, 0, none⟩ a).setCell ⟨r, 1, none⟩ c).setCell ⟨r, 2, none⟩ d = W' ∧ W'.cell? ⟨r, 0, none⟩ = some a ∧ W'.cell? ⟨r, 1, none⟩ = some c ∧ W'.cell? ⟨r, 2, none⟩ = some d ∧ Below w.heap.size w W' ∧ W.grownBy W' (some r) := by
  have h3 : W.grownBy (((W.setCell ⟨r, 0, none⟩ a).setCell ⟨r, 1, none⟩ c).setCell ⟨r, 2, none⟩ d) (some r) := G.trans (G.trans (grown_set r 0 a) (grown_set r 1 c)) (grown_set r 2 d)
  have hc := set3 (a := a) (b := c) (c := d) hX
  refine ⟨_, rfl, by simp [World.cell?, hc], by simp [World.cell?, hc], by simp [World.cell?, hc], ?_, h3⟩
  exact ⟨h3.os.trans hB.os, h3.tape.trans hB.tape, h3.output.trans hB.output, Nat.le_trans hB.size h3.size, fun k hk => (h3.block k (Nat.lt_of_lt_of_le hk hB.size) (by simp; omega)).trans (hB.block k hk)⟩

/-- A body, as it lies, and as it was read. -/
def BSim (B : Tm) (us : List Tm) : Prop := B.len = us.length ∧ ∀ i, i < B.len → Sim (B.f i) (us.getD i .nil)

/-- A list of terms that is being built: not begun, or in its own memory. -/
structure LstR (lo : Nat) (w : World) (v : Value) (ts us : List Tm) : Prop where
  own : w.ownsRow lo 24 3 v ts.length (flat ts)
  all : ∀ T ∈ ts, TIn w T ∧ Above lo T ∧ ∀ k, v.ownBlock = some k → NB k T
  len : ts.length = us.length
  sim : ∀ i, i < ts.length → Sim (ts.getD i .nil) (us.getD i .nil)
theorem LstR.keep {lo : Nat} {w w' : World} {v : Value} {ts us : List Tm} (h : LstR lo w v ts us) (hB : Below w.heap.size w w') : LstR lo w' v ts us := by
  refine ⟨h.own.kept (grown_of_below hB none) ?_, fun T hT => ⟨(h.all T hT).1.below hB, (h.all T hT).2⟩, h.len, h.sim⟩
  cases v.ownBlock with
  | none => exact .inl rfl
  | some g => exact .inr (by simp)
theorem LstR.more {lo : Nat} {w4 w5 : World} {v v' : Value} {ts us : List Tm} {T U : Tm} (h : LstR lo w4 v ts us) (hT : TIn w4 T) (hA : Above lo T)
    (hN : ∀ g, v.ownBlock = some g → NB g T) (hS : Sim T U)
    (hown : w5.ownsRow lo 24 3 v' (ts.length + 1) (flat ts ++ flat [T])) (hg : w4.grownBy w5 v.ownBlock) (hat : v'.ownBlock = v.ownBlock ∨ v'.ownBlock = some w4.heap.size) : LstR lo w5 v' (ts ++ [T]) (us ++ [U]) := by
  have hnb : ∀ X : Tm, TIn w4 X → (∀ g, v.ownBlock = some g → NB g X) → ∀ g, v'.ownBlock = some g → NB g X := fun X h1 h2 g hg => by
    rcases hat with e | e
    · exact h2 g (by rw [← e]; exact hg)
    · have : g = w4.heap.size := by rw [e] at hg; exact (Option.some.inj hg).symm
      exact h1.nb (by omega)
  refine ⟨?_, ?_, ?_, ?_⟩
  · rw [flat_append, List.length_append]; exact hown
  · intro X hX
    rcases List.mem_append.1 hX with hX | hX
    · obtain ⟨h1, h2, h3⟩ := h.all X hX
      exact ⟨h1.grown hg h3, h2, hnb _ h1 h3⟩
    · rw [List.mem_singleton] at hX
      subst hX
      exact ⟨hT.grown hg hN, hA, hnb _ hT hN⟩
  · rw [List.length_append, List.length_append, h.len]; rfl
  · intro i hi
    rw [List.length_append] at hi
    by_cases hl : i < ts.length
    · have h1 := h.sim i hl
      simpa [List.getD, List.getElem?_append_left hl, List.getElem?_append_left (show i < us.length by rw [← h.len]; exact hl)] using h1
    · have hi' : i = ts.length := by simp at hi; omega
      subst hi'
      have e : us.length = ts.length := h.len.symm
      simpa [List.getD, List.getElem?_append_right, e] using hS
theorem LstR.terms {lo : Nat} {w : World} {v : Value} {ts us : List Tm} (h : LstR lo w v ts us) :
    ∃ T : Tm, v = .slice T.a T.len T.cap ∧ TIn w T ∧ Above lo T ∧ BSim T us := by
  have hget : ∀ i (hi : i < ts.length), ts.getD i .nil = ts[i] := fun i hi => by simp [List.getD, List.getElem?_eq_getElem hi]
  rcases h.own.2 with ⟨rfl, h0⟩ | ⟨g, cap, cur, rfl, hlo, hgg, hnc, hcm, hsz, htk⟩
  · refine ⟨.mk 0 ⟨#[]⟩ none 0 0 (fun _ => .nil), rfl, ⟨Nat.zero_le _, Nat.zero_le _, fun i hi => absurd hi (Nat.not_lt_zero i)⟩, ⟨fun h => absurd h (Nat.lt_irrefl 0), fun i hi => absurd hi (Nat.not_lt_zero i)⟩, ?_, fun i hi => absurd hi (Nat.not_lt_zero i)⟩
    show 0 = us.length
    rw [← h.len, h0]
  · refine ⟨.mk 0 ⟨#[]⟩ (some ⟨g, 0, none⟩) ts.length cap (fun i => ts.getD i .nil), rfl, ⟨Nat.zero_le _, (show ts.length ≤ maxLen from Nat.le_trans hnc hcm), fun i hi => ?_⟩, ⟨fun _ => ⟨g, 0, rfl, hlo⟩, fun i hi => ?_⟩, h.len, fun i hi => h.sim i hi⟩
    · obtain ⟨f0, f1, f2⟩ := flat_get ts i hi
      have hm := h.all _ (List.getElem_mem hi)
      show RowAt w _ i (ts.getD i .nil) ∧ TIn w (ts.getD i .nil)
      rw [hget i hi]
      refine ⟨⟨g, 0, rfl, ?_, ?_, ?_⟩, hm.1⟩
      · rw [Nat.zero_add]; exact (h.own.cellAt (i * 3) (by omega)).trans f0
      · rw [Nat.zero_add]; exact (h.own.cellAt (i * 3 + 1) (by omega)).trans f1
      · rw [Nat.zero_add]; exact (h.own.cellAt (i * 3 + 2) (by omega)).trans f2
    · show Above lo (ts.getD i .nil)
      rw [hget i hi]; exact (h.all _ (List.getElem_mem hi)).2.1

theorem addr_add (b j : Nat) : (⟨b, 0, none⟩ : Addr).add j = ⟨b, j, none⟩ := by unfold Addr.add; split <;> simp_all
def allTo (g : Nat → Bool) : Nat → Bool
  | 0 => true
  | k + 1 => allTo g k && g k
theorem allTo_le {g : Nat → Bool} {j k : Nat} (h : j ≤ k) (hk : allTo g k = true) : allTo g j = true := by
  induction k with
  | zero => rw [Nat.le_zero.1 h]; rfl
  | succ k ih =>
    rcases Nat.lt_or_ge j (k + 1) with h1 | h1
    · exact ih (by omega) (by rw [allTo, Bool.and_eq_true] at hk; exact hk.1)
    · rw [show j = k + 1 by omega]; exact hk
theorem allTo_no {g : Nat → Bool} {j k : Nat} (h : j < k) (hj : g j = false) : allTo g k = false := by
  cases hk : allTo g k with
  | false => rfl
  | true =>
    have := allTo_le (show j + 1 ≤ k from h) hk
    rw [allTo, hj, Bool.and_false] at this
    exact absurd this (by simp)
theorem allTo_iff {g : Nat → Bool} {k : Nat} : allTo g k = true ↔ ∀ i, i < k → g i = true := by
  refine ⟨fun h i hi => ?_, fun h => ?_⟩
  · have := allTo_le (show i + 1 ≤ k from hi) h
    rw [allTo, Bool.and_eq_true] at this
    exact this.2
  · induction k with
    | zero => rfl
    | succ k ih => rw [allTo, ih (fun i hi => h i (by omega)), h k (by omega)]; rfl
def sameT : Tm → Tm → Bool
  | .nil, U => ((0 : Int) == U.v) && ((ByteArray.toList ⟨#[]⟩ == U.nm.toList) && ((((0 : Nat) : Int) == (U.len : Int)) && true))
  | .mk v nm _ len _ f, U => (v == U.v) && ((nm.toList == U.nm.toList) && (((len : Int) == (U.len : Int)) && allTo (fun i => sameT (f i) (U.f i)) len))
def sameTs (T U : Tm) : Bool := ((T.len : Int) == (U.len : Int)) && allTo (fun i => sameT (T.f i) (U.f i)) T.len
theorem sameT_eq (T U : Tm) : sameT T U = ((T.v == U.v) && ((T.nm.toList == U.nm.toList) && sameTs T U)) := by cases T <;> rfl

set_option maxRecDepth 100000 in
set_option maxHeartbeats 1000000 in
theorem same36_of (T U : Tm) (w : World) (hT : TIn w T) (hU : TIn w U)
    (h18 : ∀ w, TIn w T → TIn w U → Calls Try.prog 24 #[.slice T.a T.len T.cap, .slice U.a U.len U.cap] w fun e w' => e = .returned (.bool (sameTs T U)) ∧ Below w.heap.size w w') :
    Calls Try.prog 25 #[T.val, U.val] w fun e w' => e = .returned (.bool (sameT T U)) ∧ Below w.heap.size w w' := by
  have HT : Hid (TIn w T) := hT
  have HU : Hid (TIn w U) := hU
  have H18 : Hid (∀ w, TIn w T → TIn w U → Calls Try.prog 24 #[.slice T.a T.len T.cap, .slice U.a U.len U.cap] w fun e w' => e = .returned (.bool (sameTs T U)) ∧ Below w.heap.size w w') := h18
  have HE : Hid (sameT T U = ((T.v == U.v) && ((T.nm.toList == U.nm.toList) && sameTs T U))) := sameT_eq T U
  clear hT hU h18
  show Calls Try.prog 25 #[.agg #[.int .i64 T.v, .string T.nm, .slice T.a T.len T.cap], .agg #[.int .i64 U.v, .string U.nm, .slice U.a U.len U.cap]] w _
  cases hv : (T.v == U.v) with
  | false =>
    have HR : Hid (sameT T U = false) := by rw [Hid, HE.out, hv]; rfl
    go_enter Try.func25, Try.ntmps25
    go_wp2_with fail
    go_ret
    exact ⟨by rw [HR.out]; rfl, ((Below.refl _ _).alloc (Nat.le_refl _) _).alloc (by simp) _⟩
  | true =>
  cases hn : (T.nm.toList == U.nm.toList) with
  | false =>
    have HR : Hid (sameT T U = false) := by rw [Hid, HE.out, hn]; simp
    go_enter Try.func25, Try.ntmps25
    go_wp2_with fail
    go_ret
    exact ⟨by rw [HR.out]; rfl, ((Below.refl _ _).alloc (Nat.le_refl _) _).alloc (by simp) _⟩
  | true =>
    have HR : Hid (sameT T U = sameTs T U) := by rw [Hid, HE.out, hv, hn]; rfl
    have HB : Hid (Below w.heap.size w ((w.alloc (.cells #[.int .i64 T.v, .string T.nm, .slice T.a T.len T.cap] 24)).alloc (.cells #[.int .i64 U.v, .string U.nm, .slice U.a U.len U.cap] 24))) := ((Below.refl _ _).alloc (Nat.le_refl _) _).alloc (by simp) _
    go_enter Try.func25, Try.ntmps25
    go_wp2_with fail
    refine (H18.out _ (HT.out.below HB.out) (HU.out.below HB.out)).mono ?_
    rintro e w1 ⟨rfl, hb1⟩
    have HB1 : Hid (Below w.heap.size w w1) := HB.out.trans (hb1.mono HB.out.size)
    clear hb1
    go_wp2_with fail
    go_ret
    exact ⟨by rw [HR.out]; rfl, HB1.out⟩

set_option maxRecDepth 100000 in
set_option maxHeartbeats 1000000 in
theorem same18 (T : Tm) : ∀ (U : Tm) (w : World), TIn w T → TIn w U →
    Calls Try.prog 24 #[.slice T.a T.len T.cap, .slice U.a U.len U.cap] w fun e w' => e = .returned (.bool (sameTs T U)) ∧ Below w.heap.size w w' := by
  induction T with
  | nil => intro U w hin; exact False.elim hin
  | mk v nm a len cap f ih =>
    intro U w hin hU
    have IH : Hid (∀ i (U : Tm) (w : World), TIn w (f i) → TIn w U → Calls Try.prog 25 #[(f i).val, U.val] w fun e w' => e = .returned (.bool (sameT (f i) U)) ∧ Below w.heap.size w w') := fun i U w h1 h2 => same36_of (f i) U w h1 h2 (fun w h1 h2 => ih i U w h1 h2)
    have HIn : Hid (TIn w (.mk v nm a len cap f)) := hin
    have HU : Hid (TIn w U) := hU
    have hlen : len ≤ 2 ^ 63 - 1 := TIn.len (T := .mk v nm a len cap f) hin
    have hlenU : U.len ≤ 2 ^ 63 - 1 := hU.len
    have HS : Hid (sameTs (.mk v nm a len cap f) U = (((len : Int) == (U.len : Int)) && allTo (fun i => sameT (f i) (U.f i)) len)) := rfl
    have HRow : Hid (∀ k, k < U.len → ∀ wr, Below w.heap.size w wr → RowAt wr U.a k (U.f k) ∧ TIn wr (U.f k)) := fun k hk wr hb => ⟨(hU.row hk).below hb, (hU.kid hk).below hb⟩
    clear ih hin hU
    show Calls Try.prog 24 #[.slice a len cap, .slice U.a U.len U.cap] w _
    cases hl : ((len : Int) == (U.len : Int)) with
    | false =>
      have HR : Hid (sameTs (.mk v nm a len cap f) U = false) := by rw [Hid, HS.out, hl]; rfl
      go_enter Try.func24, Try.ntmps24
      go_wp2_with fail
      go_ret
      exact ⟨by rw [HR.out]; rfl, Below.refl _ _⟩
    | true =>
    have HR : Hid (sameTs (.mk v nm a len cap f) U = allTo (fun i => sameT (f i) (U.f i)) len) := by rw [Hid, HS.out, hl]; rfl
    have hl2 : len = U.len := by have := beq_iff_eq.1 hl; omega
    generalize hg : sameTs (.mk v nm a len cap f) U = res at *
    generalize U.f = uf at *
    generalize U.cap = ucap at *
    generalize U.a = ua at *
    generalize hul : U.len = ulen at *
    clear hg hul HS hl hlenU
    subst hl2
    go_enter Try.func24, Try.ntmps24
    go_wp2_with fail
    go_loopw [5] (fun i wr => ∃ k : Nat, k ≤ len ∧ i = .int .i64 k ∧ allTo (fun i => sameT (f i) (uf i)) k = true ∧ Below w.heap.size w wr) (fun i _ => len - (intOf i).toNat)
    case atStart => exact ⟨0, Nat.zero_le _, rfl, rfl, Below.refl _ _⟩
    case round =>
      obtain ⟨k, hk, rfl, hs, hb⟩ := hrel
      have HK : Hid (allTo (fun i => sameT (f i) (uf i)) k = true) := hs
      have HB : Hid (Below w.heap.size w wr) := hb
      have hsz := hb.size
      clear hs hb
      by_cases hlt : k < len
      · have hr : RowAt wr a k (f k) := (TIn.row (T := .mk v nm a len cap f) HIn.out hlt).below HB.out
        obtain ⟨b, o, ha, c0, c1, c2⟩ := hr
        have HT : Hid (TIn wr (f k)) := (TIn.kid (T := .mk v nm a len cap f) HIn.out hlt).below HB.out
        obtain ⟨⟨b', o', ha', d0, d1, d2⟩, hTU⟩ := HRow.out k (by omega) wr HB.out
        have HTU : Hid (TIn wr (uf k)) := hTU
        clear hTU
        have hltU : k < len := hlt
        have HN : Hid (sameT (f k) (uf k) = false → res = false) := fun h => by rw [HR.out]; exact allTo_no hlt h
        have HZ : Hid (sameT (f k) (uf k) = true → allTo (fun i => sameT (f i) (uf i)) (k + 1) = true) := fun h => by rw [allTo, HK.out, h]; rfl
        subst ha ha'
        have HTT : Hid (∀ wx, Below w.heap.size w wx → TIn wx (f k) ∧ TIn wx (uf k)) := fun wx hb => ⟨(TIn.kid (T := .mk v nm (some ⟨b, o, none⟩) len cap f) HIn.out hlt).below hb, (HRow.out k hltU wx hb).2⟩
        have HKp : Hid (∀ w', Below w.heap.size w w' → w'.cell? ⟨b, o + k * 3, none⟩ = some (.int .i64 (f k).v) ∧ w'.cell? ⟨b, o + k * 3 + 1, none⟩ = some (.string (f k).nm) ∧ w'.cell? ⟨b, o + k * 3 + 2, none⟩ = some (.slice (f k).a (f k).len (f k).cap) ∧ w'.cell? ⟨b', o' + k * 3, none⟩ = some (.int .i64 (uf k).v) ∧ w'.cell? ⟨b', o' + k * 3 + 1, none⟩ = some (.string (uf k).nm) ∧ w'.cell? ⟨b', o' + k * 3 + 2, none⟩ = some (.slice (uf k).a (uf k).len (uf k).cap)) := fun wx hb => by
          obtain ⟨b1, o1, e1, x0, x1, x2⟩ := (TIn.row (T := .mk v nm (some ⟨b, o, none⟩) len cap f) HIn.out hlt).below hb
          obtain ⟨⟨b2, o2, e2, y0, y1, y2⟩, _⟩ := HRow.out k hltU wx hb
          cases e1; cases e2
          exact ⟨x0, x1, x2, y0, y1, y2⟩
        have hk0 : (0 : Int) ≤ (k : Int) := by omega
        have hk1 : (k : Int) < (len : Int) := by omega
        go_wp2_with fail
        go_region_held3 (fun w' => w'.cell? ⟨b, o + k * 3, none⟩ = some (.int .i64 (f k).v) ∧ w'.cell? ⟨b, o + k * 3 + 1, none⟩ = some (.string (f k).nm) ∧ w'.cell? ⟨b, o + k * 3 + 2, none⟩ = some (.slice (f k).a (f k).len (f k).cap) ∧ w'.cell? ⟨b', o' + k * 3, none⟩ = some (.int .i64 (uf k).v) ∧ w'.cell? ⟨b', o' + k * 3 + 1, none⟩ = some (.string (uf k).nm) ∧ w'.cell? ⟨b', o' + k * 3 + 2, none⟩ = some (.slice (uf k).a (uf k).len (uf k).cap)) (first | exact HKp.out _ HB1.out | exact HKp.out _ HB.out | exact HKp.out _ HB.out.drew)
          (first
            | (go_at_call 25
               refine (IH.out k (uf k) _ (by first | exact (HTT.out _ HB.out).1 | exact (HTT.out _ HB.out.drew).1) (by first | exact (HTT.out _ HB.out).2 | exact (HTT.out _ HB.out.drew).2)).mono ?_
               rintro e w1 ⟨rfl, hb1⟩
               have HB1 : Hid (Below w.heap.size w w1) := Below.trans (by first | exact HB.out | exact HB.out.drew) (hb1.mono hsz)
               clear hb1))
        cases hs : sameT (f k) (uf k) with
        | false =>
          have HX : Hid (res = false) := HN.out hs
          clear hs
          go_wp2_with fail
          go_ret
          exact ⟨by rw [HX.out]; rfl, HB1.out⟩
        | true =>
          have HX : Hid (allTo (fun i => sameT (f i) (uf i)) (k + 1) = true) := HZ.out hs
          clear hs
          go_wp2_with fail
          go_roundw
          case rel => exact ⟨k + 1, by omega, by go_num, HX.out, HB1.out⟩
          case measure => simp [intOf]; omega
      · have hke : k = len := by omega
        have HX : Hid (res = true) := by rw [Hid, HR.out, ← hke, HK.out]
        clear hke
        go_wp2_with fail
        go_ret
        exact ⟨by rw [HX.out]; rfl, HB.out⟩
theorem same36 (T U : Tm) (w : World) (hT : TIn w T) (hU : TIn w U) :
    Calls Try.prog 25 #[T.val, U.val] w fun e w' => e = .returned (.bool (sameT T U)) ∧ Below w.heap.size w w' :=
  same36_of T U w hT hU (fun w h1 h2 => same18 T U w h1 h2)

end Go.Proofs.Ytmggaclaoefdaaa
