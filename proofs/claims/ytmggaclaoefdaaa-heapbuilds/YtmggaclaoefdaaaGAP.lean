/- The program's heap: one cell, looked at. Terms without their places: making them the same, and what they are, does not hang on the places. Each, with whatever function tells what variables are. -/
import Derived.Test.YtmggaclaoefdaaaHp4
import Derived.Test.YtmggaclaoefdaaaGAD
import Derived.Test.YtmggaclaoefdaaaGAI
import Derived.Test.YtmggaclaoefdaaaGAJ
namespace Go.Proofs.Ytmggaclaoefdaaa
open Go.RowKit

def noneB (len : Nat) (n : Int) : Bool := decide (n < 0) || decide (n ≥ (len : Int))
theorem none_any (a : Option Addr) (len cap : Nat) (n : Int) (w : World) :
    Calls Try.prog 105 #[.slice a len cap, .int .i64 n] w fun e w' => e = .returned (.bool (noneB len n)) ∧ w' = w := by
  by_cases h0 : n < 0
  · have h0b : decide (n < 0) = true := decide_eq_true h0
    have HR : Hid (noneB len n = true) := by rw [Hid]; unfold noneB; rw [h0b]; rfl
    clear h0
    go_enter Try.func105, Try.ntmps105
    go_wp2_with fail
    go_ret
    exact ⟨by rw [HR.out]; rfl, rfl⟩
  · have h0b : decide (n < 0) = false := decide_eq_false h0
    have HR : Hid (noneB len n = decide (n ≥ (len : Int))) := by rw [Hid]; unfold noneB; rw [h0b]; rfl
    clear h0
    go_enter Try.func105, Try.ntmps105
    go_wp2_with fail
    go_ret
    exact ⟨by rw [HR.out]; rfl, rfl⟩
def refV (len : Nat) (n : Int) (nm : ByteArray) : Int := if noneB len n = true then 5 else if nm.toList = [] then 0 else 1
theorem ref_any (a : Option Addr) (len cap : Nat) (k n : Int) (nm : ByteArray) (w : World) :
    Calls Try.prog 112 #[.slice a len cap, .agg #[.int .i64 k, .int .i64 n, .string nm]] w fun e w' => e = .returned (.int .i64 (refV len n nm)) ∧ Below w.heap.size w w' := by
  have HNo : Hid (∀ W, Calls Try.prog 105 #[.slice a len cap, .int .i64 n] W fun e w' => e = .returned (.bool (noneB len n)) ∧ w' = W) := fun W => none_any a len cap n W
  go_enter Try.func112, Try.ntmps112
  go_wp2_with fail
  refine (HNo.out _).mono ?_
  rintro e w1 ⟨rfl, h1⟩
  rw [h1]
  clear h1 w1
  cases hb : noneB len n with
  | true =>
    have HR : Hid (refV len n nm = 5) := by rw [Hid]; unfold refV; rw [if_pos hb]
    clear hb
    go_wp2_with fail
    go_ret
    exact ⟨by rw [HR.out]; rfl, (Below.refl _ _).alloc (Nat.le_refl _) _⟩
  | false =>
    by_cases h0 : nm.toList = []
    · have HR : Hid (refV len n nm = 0) := by rw [Hid]; unfold refV; rw [if_neg (by rw [hb]; simp), if_pos h0]
      clear hb
      go_wp2_with fail
      go_ret
      exact ⟨by rw [HR.out]; rfl, (Below.refl _ _).alloc (Nat.le_refl _) _⟩
    · have hie : (!nm.toList.isEmpty) = true := by cases hx : nm.toList with
        | nil => exact absurd hx h0
        | cons => rfl
      have HR : Hid (refV len n nm = 1) := by rw [Hid]; unfold refV; rw [if_neg (by rw [hb]; simp), if_neg h0]
      clear hb
      go_wp2_with fail
      go_ret
      exact ⟨by rw [HR.out]; rfl, (Below.refl _ _).alloc (Nat.le_refl _) _⟩
def nmT (nm : ByteArray) : Tm := .mk 0 nm none 0 0 (fun _ => .nil)
theorem nmT_in {w : World} {nm : ByteArray} (h : nm.size ≤ maxLen) : TIn w (nmT nm) := ⟨h, Nat.zero_le _, fun i hi => absurd hi (Nat.not_lt_zero i)⟩
theorem nmT_check (nm : ByteArray) : checkV (nmT nm) = if nameB nm = true then 0 else 1 := by
  have hc : cnt (nmT nm) = 1 := rfl
  have he : err (nmT nm) = if partE 0 nm 0 = 0 then 0 else partE 0 nm 0 := rfl
  have hp : partE 0 nm 0 = if nameB nm = true then 0 else 1 := by
    unfold partE
    rw [if_neg (by simp)]
    cases nameB nm <;> simp
  unfold checkV
  rw [hc, if_pos (by decide), he, hp]
  cases nameB nm <;> simp
def namedB (n : Int) (nm : ByteArray) : Bool := decide (0 ≤ n) && (decide (n ≤ if (nm.toList == [33]) = true then 0 else 4) && nameB nm)
theorem named_any (k n : Int) (nm : ByteArray) (w : World) (hs : nm.size ≤ maxLen) :
    Calls Try.prog 131 #[.agg #[.int .i64 k, .int .i64 n, .string nm]] w fun e w' => e = .returned (.bool (namedB n nm)) ∧ Below w.heap.size w w' := by
  have HCk : Hid (∀ W, Calls Try.prog 16 #[.agg #[.int .i64 0, .string nm, .slice none 0 0]] W fun e w' => e = .returned (.int .i64 (if nameB nm = true then 0 else 1)) ∧ Below W.heap.size W w') := fun W => by
    have := check_any (nmT nm) W (nmT_in hs)
    rw [nmT_check] at this
    exact this
  have HBa : Hid (Below w.heap.size w (w.alloc (.cells #[.int .i64 k, .int .i64 n, .string nm] 128))) := (Below.refl _ _).alloc (Nat.le_refl _) _
  clear hs
  cases hc : (nm.toList == [33]) with
  | true =>
    have hmm : (if (nm.toList == [33]) = true then (0 : Int) else 4) = 0 := by rw [hc]; simp
    by_cases h0 : 0 ≤ n
    case neg =>
      have h0b : decide (n ≥ 0) = false := decide_eq_false (by omega)
      have HR : Hid (namedB n nm = false) := by rw [Hid]; unfold namedB; rw [decide_eq_false h0]; rfl
      clear h0 hmm
      go_enter Try.func131, Try.ntmps131
      go_wp2_with fail
      go_ret
      exact ⟨by rw [HR.out]; rfl, HBa.out⟩
    have h0b : decide (n ≥ 0) = true := decide_eq_true (by omega)
    by_cases h1 : n ≤ 0
    case neg =>
      have h1b : decide (n ≤ 0) = false := decide_eq_false h1
      have HR : Hid (namedB n nm = false) := by rw [Hid]; unfold namedB; rw [hmm, h1b]; simp
      clear h0 h1 hmm
      go_enter Try.func131, Try.ntmps131
      go_wp2_with fail
      go_ret
      exact ⟨by rw [HR.out]; rfl, HBa.out⟩
    have h1b : decide (n ≤ 0) = true := decide_eq_true h1
    have HR : Hid (namedB n nm = nameB nm) := by rw [Hid]; unfold namedB; rw [hmm, h1b, decide_eq_true h0]; simp
    clear h0 h1 hmm
    go_enter Try.func131, Try.ntmps131
    go_wp2_with fail
    refine (HCk.out _).mono ?_
    rintro e w2 ⟨rfl, hb2⟩
    have HB2 : Hid (Below w.heap.size w w2) := HBa.out.trans (hb2.mono HBa.out.size)
    clear hb2 HCk
    cases hn : nameB nm with
    | true =>
      have HN : Hid (nameB nm = true) := hn
      clear hn
      go_wp2_with fail
      go_ret
      exact ⟨by rw [HR.out, HN.out]; rfl, HB2.out⟩
    | false =>
      have HN : Hid (nameB nm = false) := hn
      clear hn
      go_wp2_with fail
      go_ret
      exact ⟨by rw [HR.out, HN.out]; rfl, HB2.out⟩
  | false =>
    have hmm : (if (nm.toList == [33]) = true then (0 : Int) else 4) = 4 := by rw [hc]; simp
    by_cases h0 : 0 ≤ n
    case neg =>
      have h0b : decide (n ≥ 0) = false := decide_eq_false (by omega)
      have HR : Hid (namedB n nm = false) := by rw [Hid]; unfold namedB; rw [decide_eq_false h0]; rfl
      clear h0 hmm
      go_enter Try.func131, Try.ntmps131
      go_wp2_with fail
      go_ret
      exact ⟨by rw [HR.out]; rfl, HBa.out⟩
    have h0b : decide (n ≥ 0) = true := decide_eq_true (by omega)
    by_cases h1 : n ≤ 4
    case neg =>
      have h1b : decide (n ≤ 4) = false := decide_eq_false h1
      have HR : Hid (namedB n nm = false) := by rw [Hid]; unfold namedB; rw [hmm, h1b]; simp
      clear h0 h1 hmm
      go_enter Try.func131, Try.ntmps131
      go_wp2_with fail
      go_ret
      exact ⟨by rw [HR.out]; rfl, HBa.out⟩
    have h1b : decide (n ≤ 4) = true := decide_eq_true h1
    have HR : Hid (namedB n nm = nameB nm) := by rw [Hid]; unfold namedB; rw [hmm, h1b, decide_eq_true h0]; simp
    clear h0 h1 hmm
    go_enter Try.func131, Try.ntmps131
    go_wp2_with fail
    refine (HCk.out _).mono ?_
    rintro e w2 ⟨rfl, hb2⟩
    have HB2 : Hid (Below w.heap.size w w2) := HBa.out.trans (hb2.mono HBa.out.size)
    clear hb2 HCk
    cases hn : nameB nm with
    | true =>
      have HN : Hid (nameB nm = true) := hn
      clear hn
      go_wp2_with fail
      go_ret
      exact ⟨by rw [HR.out, HN.out]; rfl, HB2.out⟩
    | false =>
      have HN : Hid (nameB nm = false) := hn
      clear hn
      go_wp2_with fail
      go_ret
      exact ⟨by rw [HR.out, HN.out]; rfl, HB2.out⟩
end Go.Proofs.Ytmggaclaoefdaaa

namespace Go.Proofs.Ytmggaclaoefdaaa
open Go.RowKit

/-- What variables are, without places. -/
def cs (σ : Sg) : Sg := fun v => (σ v).map can
/-- The variables of a term, as they come. -/
def vsT : Tm → List Int
  | .nil => []
  | .mk v _ _ len _ f => if v = 0 then ((List.range len).map fun i => vsT (f i)).flatten else [v]
theorem vsT_can (T : Tm) : vsT (can T) = vsT T := by
  induction T with
  | nil => rfl
  | mk v nm a len cap f ih =>
    show (if v = 0 then ((List.range len).map fun i => vsT (if i < len then can (f i) else .nil)).flatten else [v]) = (if v = 0 then ((List.range len).map fun i => vsT (f i)).flatten else [v])
    have e : ((List.range len).map fun i => vsT (if i < len then can (f i) else .nil)) = (List.range len).map fun i => vsT (f i) := by
      apply List.map_congr_left
      intro i hi
      rw [if_pos (List.mem_range.1 hi)]; exact ih i
    rw [e]
/-- Numbers as they first come. -/
def addV (s : List Int) (l : List Int) : List Int := l.foldl (fun s v => if v ∈ s then s else s ++ [v]) s
theorem addV_nil (s : List Int) : addV s [] = s := rfl
theorem addV_append (s l m : List Int) : addV s (l ++ m) = addV (addV s l) m := by unfold addV; rw [List.foldl_append]
theorem addV_one (s : List Int) (v : Int) : addV s [v] = if v ∈ s then s else s ++ [v] := rfl
/-- The number of a variable: its place, from 1 on. -/
def num (s : List Int) (v : Int) : Int := (s.idxOf v : Int) + 1
theorem addV_pre (l : List Int) : ∀ s : List Int, s <+: addV s l := by
  induction l with
  | nil => intro s; exact List.prefix_refl s
  | cons v l ih =>
    intro s
    show s <+: addV (if v ∈ s then s else s ++ [v]) l
    refine List.IsPrefix.trans ?_ (ih _)
    split
    · exact List.prefix_refl s
    · exact List.prefix_append s [v]
theorem addV_mem (l : List Int) : ∀ (s : List Int) (v : Int), v ∈ l → v ∈ addV s l := by
  induction l with
  | nil => intro s v h; simp at h
  | cons x l ih =>
    intro s v h
    rcases List.mem_cons.1 h with rfl | h
    · show v ∈ addV (if v ∈ s then s else s ++ [v]) l
      refine (addV_pre l _).subset ?_
      split
      · assumption
      · exact List.mem_append.2 (.inr (by simp))
    · exact ih _ v h
theorem num_pre {s s' : List Int} (h : s <+: s') {v : Int} (hv : v ∈ s) : num s' v = num s v := by
  obtain ⟨t, rfl⟩ := h
  unfold num
  rw [List.idxOf_append, if_pos hv]
end Go.Proofs.Ytmggaclaoefdaaa

namespace Go.Proofs.Ytmggaclaoefdaaa
open Go.RowKit

/-- All blocks below B stand, but those of M. -/
structure Bw (M : Nat → Prop) (B : Nat) (w w' : World) : Prop where
  os : w'.os = w.os
  tape : w'.tape = w.tape
  output : w'.output = w.output
  size : w.heap.size ≤ w'.heap.size
  block : ∀ k, k < B → ¬ M k → w'.heap[k]? = w.heap[k]?
theorem Bw.ofBelow {M : Nat → Prop} {B : Nat} {w w' : World} (h : Below B w w') : Bw M B w w' := ⟨h.os, h.tape, h.output, h.size, fun k hk _ => h.block k hk⟩
theorem Bw.refl (M : Nat → Prop) (B : Nat) (w : World) : Bw M B w w := Bw.ofBelow (Below.refl _ _)
theorem Bw.trans {M : Nat → Prop} {B : Nat} {a b c : World} (h : Bw M B a b) (k : Bw M B b c) : Bw M B a c :=
  ⟨k.os.trans h.os, k.tape.trans h.tape, k.output.trans h.output, Nat.le_trans h.size k.size, fun i hi hm => (k.block i hi hm).trans (h.block i hi hm)⟩
theorem Bw.mono {M : Nat → Prop} {B B' : Nat} {w w' : World} (h : Bw M B w w') (hB : B' ≤ B) : Bw M B' w w' := ⟨h.os, h.tape, h.output, h.size, fun k hk hm => h.block k (Nat.lt_of_lt_of_le hk hB) hm⟩
theorem Bw.drew {M : Nat → Prop} {B : Nat} {a w : World} (h : Bw M B a w) : Bw M B a w.drew := ⟨h.os, h.tape, h.output, h.size, h.block⟩
theorem Bw.wide {M M' : Nat → Prop} {B : Nat} {w w' : World} (h : Bw M B w w') (hM : ∀ k, k < B → M k → M' k) : Bw M' B w w' := ⟨h.os, h.tape, h.output, h.size, fun k hk hm => h.block k hk (fun e => hm (hM k hk e))⟩
theorem Bw.grown {M : Nat → Prop} {B : Nat} {a w w' : World} {row : Option Nat} (h : Bw M B a w) (hg : w.grownBy w' row) (hB : B ≤ w.heap.size) (hr : ∀ k, row = some k → B ≤ k ∨ M k) : Bw M B a w' :=
  ⟨hg.os.trans h.os, hg.tape.trans h.tape, hg.output.trans h.output, Nat.le_trans h.size hg.size, fun k hk hm => (hg.block k (by omega) (fun e => by rcases hr k e.symm with h | h; (· omega); (· exact hm h))).trans (h.block k hk hm)⟩
/-- None of its arguments lies in a block of M. -/
def NM (M : Nat → Prop) : Tm → Prop
  | .nil => True
  | .mk _ _ a len _ f => (0 < len → ∃ b o, a = some ⟨b, o, none⟩ ∧ ¬ M b) ∧ ∀ i, i < len → NM M (f i)
theorem NM.kid {M : Nat → Prop} {T : Tm} (h : NM M T) {i : Nat} (hi : i < T.len) : NM M (T.f i) := by
  cases T with
  | nil => exact absurd hi (Nat.not_lt_zero i)
  | mk => exact h.2 i hi
theorem NM.anti {M M' : Nat → Prop} {w : World} {T : Tm} (h : NM M T) (hT : TIn w T) (hM : ∀ k, k < w.heap.size → M' k → M k) : NM M' T := by
  induction T with
  | nil => trivial
  | mk v nm a len cap f ih =>
    refine ⟨fun h0 => ?_, fun i hi => ih i (h.2 i hi) (hT.2.2 i hi).2⟩
    obtain ⟨b, o, e, hb⟩ := h.1 h0
    refine ⟨b, o, e, fun e' => hb (hM b ?_ e')⟩
    obtain ⟨b', o', e1, c0, _⟩ := (hT.2.2 0 h0).1
    rw [e] at e1
    cases e1
    exact lt_of_cell c0
theorem NM.old {M : Nat → Prop} {w : World} {T : Tm} (hT : TIn w T) (hM : ∀ k, M k → w.heap.size ≤ k) : NM M T := by
  induction T with
  | nil => trivial
  | mk v nm a len cap f ih =>
    refine ⟨fun h0 => ?_, fun i hi => ih i (hT.2.2 i hi).2⟩
    obtain ⟨b', o', e1, c0, _⟩ := (hT.2.2 0 h0).1
    exact ⟨b', o', e1, fun h => by have h1 : b' < w.heap.size := lt_of_cell c0; have := hM b' h; omega⟩
theorem TIn.bw {M : Nat → Prop} {B : Nat} {w w' : World} {T : Tm} (h : TIn w T) (hb : Bw M B w w') (hB : w.heap.size ≤ B) (hm : NM M T) : TIn w' T := by
  induction T with
  | nil => exact h
  | mk v nm a len cap f ih =>
    refine ⟨h.1, h.2.1, fun i hi => ⟨?_, ih i (h.2.2 i hi).2 (hm.2 i hi)⟩⟩
    obtain ⟨b, o, e, c0, c1, c2⟩ := (h.2.2 i hi).1
    obtain ⟨b', o', e', hb'⟩ := hm.1 (by omega)
    rw [e] at e'
    cases e'
    have hl : b < w.heap.size := lt_of_cell c0
    have hx : w'.heap[b]? = w.heap[b]? := hb.block b (by omega) hb'
    exact ⟨b, o, e, (World.cell?_of_block hx).trans c0, (World.cell?_of_block hx).trans c1, (World.cell?_of_block hx).trans c2⟩
theorem fin3b {M : Nat → Prop} {w W : World} {r : Nat} {x y z : Value} (hr : w.heap.size ≤ r) (hX : W.heap[r]? = some (.cells #[x, y, z] 24)) (hB : Bw M w.heap.size w W) (a c d : Value) :
    ∃ W', ((W.setCell ⟨r, 0, none⟩ a).setCell ⟨r, 1, none⟩ c).setCell ⟨r, 2, none⟩ d = W' ∧ W'.cell? ⟨r, 0, none⟩ = some a ∧ W'.cell? ⟨r, 1, none⟩ = some c ∧ W'.cell? ⟨r, 2, none⟩ = some d ∧ Bw M w.heap.size w W' ∧ W.grownBy W' (some r) := by
  have h3 : W.grownBy (((W.setCell ⟨r, 0, none⟩ a).setCell ⟨r, 1, none⟩ c).setCell ⟨r, 2, none⟩ d) (some r) := G.trans (G.trans (grown_set r 0 a) (grown_set r 1 c)) (grown_set r 2 d)
  have hc := set3 (a := a) (b := c) (c := d) hX
  exact ⟨_, rfl, by simp [World.cell?, hc], by simp [World.cell?, hc], by simp [World.cell?, hc], hB.grown h3 hB.size (fun k hk => by have := Option.some.inj hk; exact .inl (by omega)), h3⟩

theorem Sim.refl (T : Tm) : Sim T T := by
  induction T with
  | nil => exact ⟨rfl, rfl, rfl⟩
  | mk v nm a len cap f ih => exact ⟨rfl, rfl, rfl, fun i _ => ih i⟩
/-- A function that tells what variables are: what it keeps, how that goes on, what it says. -/
structure Tell where
  S : Type
  I : S → World → Prop
  nx : S → Int → S
  le : S → S → Prop
  O : S → Int → Tm
  M : Nat → Prop
  B : Nat
def tl (t : Tell) (s : t.S) (l : List Int) : t.S := l.foldl t.nx s
end Go.Proofs.Ytmggaclaoefdaaa
