/- What must be in any case. From what the arguments read as to terms that lie in memory. A graph is taken apart, one node that hangs on none that is left after another: all go just where there is no circle. -/
import Derived.Test.YtmggaclaoefdaaaRefTerm
import Derived.Deep.RegionWith
import Derived.Deep.RegionHeld3
import Derived.ProofKit
import Derived.Deep.Slices
import Derived.Test.YtmggaclaoefdaaaGAB
namespace Go.Proofs.Ytmggaclaoefdaaa
open Go.RowKit

theorem fn_any (nm : ByteArray) (a : Option Addr) (len cap : Nat) (w : World) :
    Calls Try.prog 48 #[.string nm, .slice a len cap] w fun e w' => e = .returned (.agg #[.int .i64 0, .string nm, .slice a len cap]) ∧ Below w.heap.size w w' := by
  go_enter Try.func48, Try.ntmps48
  go_wp2
  exact bodyPost_ret (v := .agg #[.int .i64 0, .string nm, .slice a len cap]) (by simp [results, Try.results48, go_sem]) rfl ⟨rfl, (Below.refl _ _).alloc (Nat.le_refl _) _⟩

theorem va_any (n : Int) (w : World) :
    Calls Try.prog 52 #[.int .i64 n] w fun e w' => e = .returned (.agg #[.int .i64 n, .string ⟨#[]⟩, .slice none 0 0]) ∧ Below w.heap.size w w' := by
  go_enter Try.func52, Try.ntmps52
  go_wp2
  exact bodyPost_ret (v := .agg #[.int .i64 n, .string ⟨#[]⟩, .slice none 0 0]) (by simp [results, Try.results52, go_sem]) rfl ⟨rfl, (Below.refl _ _).alloc (Nat.le_refl _) _⟩

/-- A variable, or a name without arguments. -/
def leafT (v : Int) (nm : ByteArray) : Tm := .mk v nm none 0 0 (fun _ => .nil)
theorem leaf_in (w : World) (v : Int) (nm : ByteArray) (h : nm.size ≤ maxLen) : TIn w (leafT v nm) := ⟨h, Nat.zero_le _, fun i hi => absurd hi (Nat.not_lt_zero i)⟩
theorem size2 (nm : ByteArray) (h : nm.size ≤ 2) : nm.size ≤ maxLen := by unfold maxLen; omega
end Go.Proofs.Ytmggaclaoefdaaa

namespace Go.Proofs.Ytmggaclaoefdaaa
open Go.RowKit Go.ChangeShapes Go.WideShapes

theorem Try.cells24 : Try.prog.cellsOf 24 = 3 := by kernel_rfl
theorem Try.cells22 : Try.prog.cellsOf 22 = 1 := by kernel_rfl
theorem Try.cells3 : Try.prog.cellsOf 3 = 1 := by kernel_rfl
theorem Try.cells9 : Try.prog.cellsOf 9 = 1 := by kernel_rfl

instance : Inhabited Tm := ⟨.nil⟩

section
variable {H : Type} {enc : TypeId × Value → H} {W : World} {spare : Nat → Bool} {held : Bool}

theorem row_of_cells {a : Addr} {i : Nat} {T : Tm} (hs : a.spot = none) (h : W.cells? 0 (a.add (i * 3)) 3 = some (cells3 T)) : RowAt W (some a) i T := by
  obtain ⟨b, o, s⟩ := a
  cases hs
  obtain ⟨_, _, hc⟩ := World.cells?_some h
  have e : ∀ j, ((⟨b, o, none⟩ : Addr).add (i * 3)).add j = ⟨b, o + i * 3 + j, none⟩ := fun j => by
    rw [Go.Deep.add_add]
    unfold Addr.add
    split
    · rename_i h0
      have h2 : j = 0 := by omega
      rw [h2]; simp
    · simp [Nat.add_assoc]
  refine ⟨b, o, rfl, ?_, ?_, ?_⟩
  · have := hc 0 (by omega); rw [e] at this; exact this
  · have := hc 1 (by omega); rw [e] at this; exact this
  · have := hc 2 (by omega); rw [e] at this; exact this

set_option maxRecDepth 100000 in
theorem open_term : ∀ (n : Nat), (∀ (cs : List Value) (x : DataW H × List MemPlace), DataW.trod enc Try.prog W 0 spare held n 24 cs = some x → ∃ T : Tm, cs = cells3 T ∧ TIn W T) ∧
    (∀ (cs : List Value) (x : DataW H × List MemPlace), DataW.trod enc Try.prog W 0 spare held n 22 cs = some x → ∃ T : Tm, T.v = 0 ∧ T.nm = ⟨#[]⟩ ∧ cs = [.slice T.a T.len T.cap] ∧ TIn W T) := by
  intro n
  induction n with
  | zero => exact ⟨fun cs x h => by simp [DataW.trod] at h, fun cs x h => by simp [DataW.trod] at h⟩
  | succ n ih =>
    constructor
    · intro cs x h
      obtain ⟨xs, m, hm, _, hl, hlen, hf⟩ := DataW.trod_struct Try.underlying24 h
      obtain rfl : n = m := by omega
      rw [Try.cells24] at hl
      match cs, hl with
      | [c0, c1, c2], _ =>
        match xs, hlen with
        | [y0, y1, y2], _ =>
          have h0 : DataW.trod enc Try.prog W 0 spare held n 3 (([c0, c1, c2].drop 0).take (Try.prog.cellsOf 3)) = some y0 := hf 0 _ rfl
          have h1 : DataW.trod enc Try.prog W 0 spare held n 9 (([c0, c1, c2].drop 1).take (Try.prog.cellsOf 9)) = some y1 := hf 1 _ rfl
          have h2 : DataW.trod enc Try.prog W 0 spare held n 22 (([c0, c1, c2].drop 2).take (Try.prog.cellsOf 22)) = some y2 := hf 2 _ rfl
          rw [Try.cells3] at h0
          rw [Try.cells9] at h1
          rw [Try.cells22] at h2
          obtain ⟨v, e0, _, _⟩ := DataW.trod_int Try.underlying3 h0
          obtain ⟨s, e1, _, hs⟩ := DataW.trod_string Try.underlying9 h1
          obtain ⟨T, _, _, e2, hT⟩ := ih.2 _ _ h2
          simp at e0 e1 e2
          subst e0 e1 e2
          refine ⟨.mk v s T.a T.len T.cap T.f, rfl, ?_⟩
          exact ⟨hs, hT.len, fun i hi => ⟨hT.row hi, hT.kid hi⟩⟩
    · intro cs x h
      rcases DataW.trod_slice Try.underlying22 h with ⟨rfl, _⟩ | ⟨a, len, cap, elems, rest, m, hm, rfl, _, hb, hl, hmx, hlen, hel, _, _⟩
      · exact ⟨.mk 0 ⟨#[]⟩ none 0 0 (fun _ => .nil), rfl, rfl, rfl, Nat.zero_le _, Nat.zero_le _, fun i hi => absurd hi (Nat.not_lt_zero i)⟩
      · obtain rfl : n = m := by omega
        rw [Try.cells24] at hel
        have key : ∀ i, i < len → ∃ T : Tm, W.cells? 0 (a.add (i * 3)) 3 = some (cells3 T) ∧ TIn W T := fun i hi => by
          have := hel i hi
          rw [List.getElem?_eq_getElem (by omega)] at this
          obtain ⟨cs', g1, g2⟩ := Option.bind_eq_some_iff.1 this
          obtain ⟨T, rfl, hT⟩ := ih.1 _ _ g2
          exact ⟨T, g1, hT⟩
        obtain ⟨f, hf⟩ := Go.Deep.choose_lt key
        refine ⟨.mk 0 ⟨#[]⟩ (some a) len cap f, rfl, rfl, rfl, Nat.zero_le _, Nat.le_trans hl hmx, fun i hi => ⟨?_, (hf i hi).2⟩⟩
        have hs : a.spot = none := by
          obtain ⟨_, _, hc⟩ := World.cells?_some (hf 0 (by omega)).1
          have h0 := hc 0 (by omega)
          exact World.cell?_spot (w := W) (a := a) (v := .int .i64 (f 0).v) (by simpa [Addr.add, cells3] using h0)
        exact row_of_cells hs (hf i hi).1

end
end Go.Proofs.Ytmggaclaoefdaaa

namespace Go.Proofs.Ytmggaclaoefdaaa

/-- A rank: each hangs only on lesser ones. -/
def Acy (n : Nat) (deps : Nat → List Nat) : Prop := ∃ r : Nat → Nat, ∀ x, x < n → ∀ y ∈ deps x, r y < r x
structure Gr (n : Nat) (deps rd : Nat → List Nat) : Prop where
  din : ∀ x, x < n → ∀ y ∈ deps x, y < n
  rin : ∀ y, y < n → ∀ x ∈ rd y, x < n
  cnt : ∀ x y, x < n → y < n → (rd y).count x = (deps x).count y
/-- How many of those that x hangs on are not among the first k that went. -/
def lft (deps : Nat → List Nat) (q : List Nat) (k x : Nat) : Nat := ((deps x).filter (fun y => decide (y ∉ q.take k))).length
/-- While the k-th is being gone through: ds of those that hang on it have been told. -/
structure KI (n : Nat) (deps rd : Nat → List Nat) (c : Nat → Int) (q : List Nat) (k : Nat) (ds : List Nat) : Prop where
  nd : q.Nodup
  lt : ∀ x ∈ q, x < n
  kle : k ≤ q.length
  cn : ∀ x, x < n → c x = (lft deps q k x : Int) - (ds.count x : Int)
  z : ∀ x, x < n → (x ∈ q ↔ c x = 0)
  ord : ∀ j (hj : j < q.length), ∀ y ∈ deps q[j], y ∈ q.take j
theorem take_app {q : List Nat} {x k : Nat} (h : k ≤ q.length) : (q ++ [x]).take k = q.take k := List.take_append_of_le_length h
theorem KI.step {n : Nat} {deps rd : Nat → List Nat} (hG : Gr n deps rd) {c : Nat → Int} {q : List Nat} {k : Nat} {ds xs : List Nat} {x : Nat} (hk : k < q.length) (hr : rd q[k] = ds ++ x :: xs) (h : KI n deps rd c q k ds) :
    x < n ∧ 1 ≤ c x ∧ ((c x = 1 → KI n deps rd (fun i => if i = x then c i - 1 else c i) (q ++ [x]) k (ds ++ [x])) ∧ (c x ≠ 1 → KI n deps rd (fun i => if i = x then c i - 1 else c i) q k (ds ++ [x]))) := by
  have hy : q[k] < n := h.lt _ (List.getElem_mem hk)
  have hx : x < n := hG.rin _ hy x (by rw [hr]; simp)
  have hyk : q[k] ∉ q.take k := fun hm => by
    have h1 := h.nd
    rw [← List.take_append_drop k q, List.nodup_append] at h1
    exact h1.2.2 _ hm _ (by rw [List.drop_eq_getElem_cons hk]; exact List.mem_cons_self) rfl
  have hfc : ∀ l : List Nat, l.count q[k] ≤ (l.filter (fun y => decide (y ∉ q.take k))).length := fun l => by
    rw [← List.count_filter (l := l) (p := fun y => decide (y ∉ q.take k)) (by simpa using hyk)]
    exact List.count_le_length
  have hdc : ds.count x + 1 ≤ lft deps q k x := by
    have h1 := hG.cnt x q[k] hx hy
    rw [hr, List.count_append, List.count_cons] at h1
    have h2 := hfc (deps x)
    unfold lft
    simp at h1
    omega
  have hc1 : 1 ≤ c x := by rw [h.cn x hx]; omega
  have hxq : x ∉ q := fun hm => by have := (h.z x hx).1 hm; omega
  have hcn : ∀ i, i < n → (fun i => if i = x then c i - 1 else c i) i = (lft deps q k i : Int) - ((ds ++ [x]).count i : Int) := fun i hi => by
    show (if i = x then c i - 1 else c i) = _
    have hci := h.cn i hi
    rw [List.count_append, List.count_singleton]
    by_cases e : i = x
    · subst e
      rw [if_pos rfl]
      simp
      omega
    · rw [if_neg e, if_neg (by simpa using fun h => e h.symm)]
      omega
  refine ⟨hx, hc1, fun h1 => ?_, fun h1 => ?_⟩
  · have htk : (q ++ [x]).take k = q.take k := take_app h.kle
    refine ⟨?_, ?_, by simp; omega, fun i hi => ?_, fun i hi => ?_, fun j hj y hyd => ?_⟩
    · rw [List.nodup_append]
      refine ⟨h.nd, by simp, fun a ha b hb => ?_⟩
      rw [List.mem_singleton] at hb
      subst hb
      exact fun e => hxq (e ▸ ha)
    · intro i hi
      rcases List.mem_append.1 hi with hi | hi
      · exact h.lt i hi
      · rw [List.mem_singleton] at hi; rw [hi]; exact hx
    · refine (hcn i hi).trans ?_
      unfold lft
      rw [htk]
    · show _ ↔ (if i = x then c i - 1 else c i) = 0
      rw [List.mem_append, List.mem_singleton, h.z i hi]
      by_cases e : i = x
      · subst e; rw [if_pos rfl]; simp; omega
      · rw [if_neg e]; simp [e]
    · by_cases hjq : j < q.length
      · rw [List.getElem_append_left hjq] at hyd
        rw [take_app (Nat.le_of_lt hjq)]
        exact h.ord j hjq y hyd
      · have hje : j = q.length := by simp at hj; omega
        subst hje
        rw [List.getElem_append_right (Nat.le_refl _)] at hyd
        simp at hyd
        rw [take_app (Nat.le_refl _), List.take_length]
        -- all that x hangs on has gone
        by_cases hyt : y ∈ q.take k
        · exact List.mem_of_mem_take hyt
        · have hlf : lft deps q k x = ds.count x + 1 := by have := h.cn x hx; omega
          have h2 := hG.cnt x q[k] hx (h.lt _ (List.getElem_mem hk))
          rw [hr, List.count_append, List.count_cons] at h2
          simp at h2
          have h3 : ((deps x).filter (fun y => decide (y ∉ q.take k))).count q[k] = ((deps x).filter (fun y => decide (y ∉ q.take k))).length := by
            have a1 : ((deps x).filter (fun y => decide (y ∉ q.take k))).count q[k] = (deps x).count q[k] := List.count_filter (by simpa using hyk)
            have a2 := @List.count_le_length _ _ q[k] ((deps x).filter (fun y => decide (y ∉ q.take k)))
            unfold lft at hlf
            omega
          have h4 := (List.count_eq_length.1 h3) y (List.mem_filter.2 ⟨hyd, by simpa using hyt⟩)
          rw [← h4]
          exact List.getElem_mem hk
  · refine ⟨h.nd, h.lt, h.kle, hcn, fun i hi => ?_, h.ord⟩
    show _ ↔ (if i = x then c i - 1 else c i) = 0
    by_cases e : i = x
    · subst e
      rw [if_pos rfl]
      exact ⟨fun hm => absurd hm hxq, fun h0 => by omega⟩
    · rw [if_neg e]; exact h.z i hi
theorem flt_more {A : List Nat} {y : Nat} (hy : y ∉ A) : ∀ l : List Nat, (l.filter (fun z => decide (z ∉ A))).length = (l.filter (fun z => decide (z ∉ A ++ [y]))).length + l.count y := by
  intro l
  induction l with
  | nil => rfl
  | cons a l ih =>
    rw [List.filter_cons, List.filter_cons, List.count_cons]
    by_cases ha : a ∈ A
    · have hne : a ≠ y := fun e => hy (e ▸ ha)
      rw [if_neg (by simpa using ha), if_neg (by simp [ha]), if_neg (by simpa using hne)]
      omega
    · by_cases hae : a = y
      · rw [if_pos (by simpa using ha), if_neg (by simp [hae]), if_pos (by simpa using hae), List.length_cons]
        omega
      · rw [if_pos (by simpa using ha), if_pos (by simp [ha, hae]), if_neg (by simpa using hae), List.length_cons, List.length_cons]
        omega
/-- The k-th has been gone through. -/
theorem KI.next {n : Nat} {deps rd : Nat → List Nat} (hG : Gr n deps rd) {c : Nat → Int} {q : List Nat} {k : Nat} (hk : k < q.length) (h : KI n deps rd c q k (rd q[k])) : KI n deps rd c q (k + 1) [] := by
  have hy : q[k] < n := h.lt _ (List.getElem_mem hk)
  have hyk : q[k] ∉ q.take k := fun hm => by
    have h1 := h.nd
    rw [← List.take_append_drop k q, List.nodup_append] at h1
    exact h1.2.2 _ hm _ (by rw [List.drop_eq_getElem_cons hk]; exact List.mem_cons_self) rfl
  refine ⟨h.nd, h.lt, hk, fun x hx => ?_, h.z, h.ord⟩
  rw [h.cn x hx, hG.cnt x q[k] hx hy]
  have h1 := flt_more hyk (deps x)
  rw [← List.take_succ_eq_append_getElem hk] at h1
  unfold lft
  simp only [List.count_nil]
  omega
/-- Where none is left to be gone through: all went, just where there is no circle. -/
theorem KI.done {n : Nat} {deps rd : Nat → List Nat} (hG : Gr n deps rd) {c : Nat → Int} {q : List Nat} {k : Nat} (hk : k = q.length) (h : KI n deps rd c q k []) : q.length = n ↔ Acy n deps := by
  have hall : ∀ x, x < n → (∀ y ∈ deps x, y ∈ q) → x ∈ q := fun x hx hd => by
    rw [h.z x hx, h.cn x hx]
    have : lft deps q k x = 0 := by
      unfold lft
      rw [hk, List.take_length, List.length_eq_zero_iff, List.filter_eq_nil_iff]
      intro y hy
      simpa using hd y hy
    rw [this]; rfl
  constructor
  · intro hl
    have hin : ∀ x, x < n → x ∈ q := fun x hx => by
      have hp : (List.range n).length ≤ q.length := by rw [List.length_range, hl]; exact Nat.le_refl _
      by_cases hx' : x ∈ q
      · exact hx'
      · have hsub : q ⊆ (List.range n).erase x := fun y hy => by
          rw [List.Nodup.mem_erase_iff List.nodup_range]
          exact ⟨fun e => hx' (e ▸ hy), List.mem_range.2 (h.lt y hy)⟩
        have := List.Nodup.length_le_of_subset h.nd hsub
        rw [List.length_erase_of_mem (List.mem_range.2 hx), List.length_range] at this
        omega
    refine ⟨fun x => q.idxOf x, fun x hx y hy => ?_⟩
    have hxq := hin x hx
    have hi : q.idxOf x < q.length := List.idxOf_lt_length_of_mem hxq
    have he : q[q.idxOf x] = x := List.getElem_idxOf hi
    have hyt := h.ord _ hi y (by rw [he]; exact hy)
    obtain ⟨j, hj, hjy⟩ := List.mem_take_iff_getElem.1 hyt
    have hjl : j < q.length := by omega
    have : q.idxOf y = j := by
      rw [← hjy]
      exact List.Nodup.idxOf_getElem h.nd j hjl
    show q.idxOf y < q.idxOf x
    rw [this]
    omega
  · rintro ⟨r, hr⟩
    have hin : ∀ m x, r x = m → x < n → x ∈ q := by
      intro m
      induction m using Nat.strongRecOn with
      | _ m ih =>
        intro x hm hx
        exact hall x hx (fun y hy => ih (r y) (by have := hr x hx y hy; omega) y rfl (hG.din x hx y hy))
    have h1 := List.Nodup.length_le_of_subset (List.nodup_range (n := n)) (fun x hx => hin _ x rfl (List.mem_range.1 hx) : List.range n ⊆ q)
    have h2 := List.Nodup.length_le_of_subset h.nd (fun x hx => List.mem_range.2 (h.lt x hx) : q ⊆ List.range n)
    rw [List.length_range] at h1 h2
    omega
/-- Who leads to each, told in order, up to i. -/
def rd0 (lead : Nat → List Nat) (i y : Nat) : List Nat := (List.range i).flatMap fun x => List.replicate ((lead x).count y) x
theorem rd0_succ (lead : Nat → List Nat) (i y : Nat) : rd0 lead (i + 1) y = rd0 lead i y ++ List.replicate ((lead i).count y) i := by
  unfold rd0
  rw [List.range_succ, List.flatMap_append]
  simp
theorem rd0_lt (lead : Nat → List Nat) (y : Nat) : ∀ i x, x ∈ rd0 lead i y → x < i := by
  intro i x hx
  obtain ⟨z, hz, hx⟩ := List.mem_flatMap.1 hx
  have := (List.mem_replicate.1 hx).2
  have := List.mem_range.1 hz
  omega
theorem rd0_count (lead : Nat → List Nat) (y x : Nat) : ∀ i, (rd0 lead i y).count x = if x < i then (lead x).count y else 0 := by
  intro i
  induction i with
  | zero => rfl
  | succ i ih =>
    rw [rd0_succ, List.count_append, ih, List.count_replicate]
    by_cases h : x < i
    · simp [h, show x < i + 1 from by omega, show ¬ i = x from by omega]
    · by_cases h1 : x = i
      · subst h1; simp
      · simp [h, show ¬ x < i + 1 from by omega, show ¬ i = x from by omega]
theorem gr_of {n : Nat} {lead : Nat → List Nat} (hd : ∀ x, x < n → ∀ y ∈ lead x, y < n) : Gr n lead (rd0 lead n) :=
  ⟨hd, fun y _ x hx => rd0_lt lead y n x hx, fun x y hx _ => by rw [rd0_count, if_pos hx]⟩
/-- The other way round: who is led to, and by whom. -/
theorem gr_rev {n : Nat} {lead : Nat → List Nat} (hd : ∀ x, x < n → ∀ y ∈ lead x, y < n) : Gr n (rd0 lead n) lead :=
  ⟨fun y _ x hx => rd0_lt lead y n x hx, hd, fun y x _ hx => by rw [rd0_count, if_pos hx]⟩
theorem acy_rev {n : Nat} {deps rd : Nat → List Nat} (hG : Gr n deps rd) (h : Acy n deps) : Acy n rd := by
  obtain ⟨r, hr⟩ := h
  have hb : ∃ M, ∀ x, x < n → r x < M := by
    clear hr hG
    induction n with
    | zero => exact ⟨0, fun x hx => by omega⟩
    | succ n ih =>
      obtain ⟨M, hM⟩ := ih
      refine ⟨M + r n + 1, fun x hx => ?_⟩
      by_cases h : x < n
      · have := hM x h; omega
      · have : x = n := by omega
        rw [this]; omega
  obtain ⟨M, hM⟩ := hb
  refine ⟨fun x => M - r x, fun y hy x hx => ?_⟩
  have hxn := hG.rin y hy x hx
  have hm : y ∈ deps x := by
    have := hG.cnt x y hxn hy
    have h1 : 0 < (rd y).count x := List.count_pos_iff.2 hx
    exact List.count_pos_iff.1 (by omega)
  have h1 := hr x hxn y hm
  have h2 := hM x hxn
  have h3 := hM y hy
  show M - r x < M - r y
  omega
/-- At first those go that hang on none. -/
theorem KI.start {n : Nat} {deps rd : Nat → List Nat} {c : Nat → Int} (hc : ∀ x, x < n → c x = ((deps x).length : Int)) : KI n deps rd c ((List.range n).filter fun x => decide (c x = 0)) 0 [] := by
  refine ⟨List.Nodup.sublist List.filter_sublist List.nodup_range, fun x hx => List.mem_range.1 (List.mem_filter.1 hx).1, Nat.zero_le _, fun x hx => ?_, fun x hx => ?_, fun j hj y hy => ?_⟩
  · rw [hc x hx]
    have : lft deps ((List.range n).filter fun x => decide (c x = 0)) 0 x = (deps x).length := by
      unfold lft
      rw [List.take_zero]
      rw [List.filter_eq_self.2 (by intro a _; simp)]
    rw [this]; simp
  · rw [List.mem_filter, List.mem_range]
    simp [hx]
  · have hm := List.mem_filter.1 (List.getElem_mem hj)
    have h0 : c ((List.range n).filter fun x => decide (c x = 0))[j] = 0 := by simpa using hm.2
    rw [hc _ (List.mem_range.1 hm.1)] at h0
    have hl : (deps ((List.range n).filter fun x => decide (c x = 0))[j]).length = 0 := by omega
    rw [List.length_eq_zero_iff.1 hl] at hy
    cases hy
end Go.Proofs.Ytmggaclaoefdaaa
