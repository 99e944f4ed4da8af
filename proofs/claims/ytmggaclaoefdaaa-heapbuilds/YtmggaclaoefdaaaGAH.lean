/- What variables are, in a map: the state, and What. What, look: what they answer. Does a variable stand in a term, and by how much work: lacks. Each of a name with arguments. bind: a variable is bound to what it does not stand in. A heap in memory; where cells lead to: EndOf, LeadsOf. all: what each variable is. Unify: what it answers. -/
import Derived.Test.YtmggaclaoefdaaaMem
import Derived.Deep.RegionLaw
import Derived.RegionTactic
import Derived.ChangeAlike
import Derived.BigRegion
import Derived.Deep.RegionWith
import Derived.Deep.Cut
import Derived.Deep.CutRange
namespace Go.Proofs.Ytmggaclaoefdaaa
open Go.RowKit

/-- What variables are. -/
abbrev Sg := Int → Option Tm
def heldR (v : Value) : Option (DataW Value × List MemPlace) := some (.held v, [])
theorem keyed3 : Maps.Keyed Try.prog 3 := Maps.int_keyed Try.underlying3
theorem key3 {i : Int} (h0 : 0 ≤ i) (h1 : i ≤ 1000000) : keyOf Try.prog 3 (.int .i64 i) = some (.int .i64 i) :=
  Maps.keyOf_int_mk Try.underlying3 (by
    have a : IntKind.i64.min ≤ i := Int.le_trans (by decide) h0
    have b : i ≤ IntKind.i64.max := Int.le_trans h1 (by decide)
    rw [Lit.wf, Bool.and_eq_true, decide_eq_true_eq, decide_eq_true_eq]
    exact ⟨a, b⟩)
def upd (σ : Sg) (i : Int) (T : Tm) : Sg := fun j => if j = i then some T else σ j
/-- All variables of a term are from 1 to N, and nothing else. -/
def Okv (N : Int) : Tm → Prop
  | .nil => False
  | .mk v nm _ len _ f => 0 ≤ v ∧ v ≤ N ∧ (v ≠ 0 → nm = ⟨#[]⟩ ∧ len = 0) ∧ len ≤ 4 ∧ ∀ i, i < len → Okv N (f i)
theorem Okv.top {N : Int} {T : Tm} (h : Okv N T) : 0 ≤ T.v ∧ T.v ≤ N ∧ (T.v ≠ 0 → T.nm = ⟨#[]⟩ ∧ T.len = 0) := by
  cases T with
  | nil => exact False.elim h
  | mk => exact ⟨h.1, h.2.1, h.2.2.1⟩
theorem Okv.kid {N : Int} {T : Tm} (h : Okv N T) {i : Nat} (hi : i < T.len) : Okv N (T.f i) := by
  cases T with
  | nil => exact False.elim h
  | mk => exact h.2.2.2.2 i hi
theorem Okv.four {N : Int} {T : Tm} (h : Okv N T) : T.len ≤ 4 := by
  cases T with
  | nil => exact False.elim h
  | mk => exact h.2.2.2.1

end Go.Proofs.Ytmggaclaoefdaaa

namespace Go.Proofs.Ytmggaclaoefdaaa
open Go.RowKit

theorem setL {w : World} {b : Nat} {x y z c : Value} {t : TypeId} (h : w.heap[b]? = some (.cells #[x, y, z] t)) : (w.setCell ⟨b, 2, none⟩ c).heap[b]? = some (.cells #[x, y, c] t) := by
  simp only [World.setCell, Array.getElem?_modify]
  simp [h]

end Go.Proofs.Ytmggaclaoefdaaa

namespace Go.Proofs.Ytmggaclaoefdaaa
open Go.RowKit

theorem NB.kid {k : Nat} {T : Tm} (h : NB k T) {i : Nat} (hi : i < T.len) : NB k (T.f i) := by
  cases T with
  | nil => exact absurd hi (Nat.not_lt_zero i)
  | mk => exact h.2 i hi
/-- The arguments of a term. -/
def kidsL (T : Tm) : List Tm := (List.range T.len).map T.f
end Go.Proofs.Ytmggaclaoefdaaa

namespace Go.Proofs.Ytmggaclaoefdaaa
open Go.RowKit

/-- An append to a row of the call's own, as one step of a region that draws. -/
theorem step_append_own_at {P : Program} {ops : Array Oper} {o : Oper} {a : Act} {w : World} {K : Act → World → Prop} {Q : Exit → Act → World → Prop} {E : Prop}
    (hg : o.guard = none) (s x : Operand) (t : TypeId) (hop : o.op = Op.call { callee := Callee.builtin Builtin.append, args := #[s, x], argTypes := #[t, t] })
    (base : Nat) (e : TypeId) (i : TypeInfo) (z : Value) (size bytes : Nat) (ht : P.underlying t = some (.slice e)) (hi : P.info? e = some i) (hz : i.zero = some z)
    (hsize : i.size = size) (hby : i.bytes = bytes) (hzs : z.cells.size = size) (hsz : 0 < size)
    (v : Value) (n : Nat) (xs : List Value) (hs : a.eval s = v) (hown : w.ownsRow base e size v n xs)
    (ad : Addr) (m c : Nat) (news : List Value) (hx : a.eval x = .slice (some ad) m c) (hl : news.length = m * size) (hnews : ∀ j u, news[j]? = some u → w.cell? (ad.add j) = some u) (h1 : ∀ u ∈ news, u.oneCell' = true)
    (h63 : n + m ≤ maxLen) (hbytes : (n + m) * bytes ≤ 140737488355328) (hbase : base ≤ w.heap.size) (hm : 0 < m)
    (h : ∀ g cap' w', w'.ownsRow base e size (.slice (some ⟨g, 0, none⟩) (n + m) cap') (n + m) (xs ++ news) → w.grownBy w' v.ownBlock → (some g = v.ownBlock ∨ g = w.heap.size) → K (a.put o.dst (.slice (some ⟨g, 0, none⟩) (n + m) cap')) w') :
    if Region.wanted o (yielded ops a.tmps) = true then Oper.wp P o a w K Q else E := by
  have hw : Region.wanted o (yielded ops a.tmps) = true := by simp [Region.wanted, hg]
  rw [if_pos hw]
  obtain ⟨v', w', hr, h2, h3, h4, h5⟩ := run_append_own_at (P := P) w base t o.type e i z size bytes ht hi hz hsize hby hzs hsz v n xs hown ad m c news hl hnews h1 h63 hbytes hbase
  rcases h2.2 with ⟨h6, _⟩ | ⟨g, cap', cur, rfl, _⟩
  · have := (h4.1 h6).2; omega
  unfold Oper.wp
  simp [execOp, hop, resolve, invoke, builtin, hs, hx, hr, Result.andThen]
  refine h g cap' w' h2 h3 ?_
  rcases h5 with e | e
  · exact .inl (by rw [← e]; rfl)
  · exact .inr (Option.some.inj e)

theorem alloc3 (w : World) (o0 o1 o2 : Obj) : (((w.alloc o0).alloc o1).alloc o2).heap[w.heap.size + 1]? = some o1 ∧ (((w.alloc o0).alloc o1).alloc o2).heap[w.heap.size + 2]? = some o2 ∧ Below w.heap.size w (((w.alloc o0).alloc o1).alloc o2) := by
  have s1 : (w.alloc o0).heap.size = w.heap.size + 1 := by simp
  have s2 : ((w.alloc o0).alloc o1).heap.size = w.heap.size + 2 := by simp
  refine ⟨?_, ?_, ((((Below.refl _ _).alloc (Nat.le_refl _) _).alloc (by omega) _).alloc (by omega) _)⟩
  · rw [heapOld _ _ (by omega), ← s1]; exact heap_alloc_new _ _
  · rw [← s2]; exact heap_alloc_new _ _
theorem news1 (w : World) (X : Tm) : ∀ j u, (flat [X])[j]? = some u → (w.alloc (.cells #[.int .i64 X.v, .string X.nm, .slice X.a X.len X.cap] 24)).cell? ((⟨w.heap.size, 0, none⟩ : Addr).add j) = some u := by
  intro j u hj
  have hb := heap_alloc_new w (.cells #[.int .i64 X.v, .string X.nm, .slice X.a X.len X.cap] 24)
  rw [addr_add, cell_of_row _ _ _ _ _ _ hb]
  simpa [flat, cells3] using hj

end Go.Proofs.Ytmggaclaoefdaaa

namespace Go.Proofs.Ytmggaclaoefdaaa
open Go.RowKit

theorem Try.info3 : (Try.prog.info? 3).map (fun i => (i.zero, i.size, i.bytes)) = some (some (.int .i64 0), 1, 8) := by kernel_rfl
/-- Of two variables the greater one is bound. -/
def put (σ : Sg) (x t : Tm) : Sg := if x.v < t.v then upd σ t.v x else upd σ x.v t
/-- A term that may be bound. -/
def Good (w : World) (b m : Nat) (tv : Value) (N : Int) (T : Tm) : Prop := TIn w T ∧ Okv N T ∧ NB b T ∧ NB m T ∧ ∀ g, tv.ownBlock = some g → NB g T

end Go.Proofs.Ytmggaclaoefdaaa

namespace Go.Proofs.Ytmggaclaoefdaaa
open Go.RowKit

structure Cl where
  k : Int
  n : Int
  nm : ByteArray
def CRow (w : World) (a : Option Addr) (i : Nat) (c : Cl) : Prop := ∃ b o, a = some ⟨b, o, none⟩ ∧ w.cell? ⟨b, o + i * 3, none⟩ = some (.int .i64 c.k) ∧ w.cell? ⟨b, o + i * 3 + 1, none⟩ = some (.int .i64 c.n) ∧ w.cell? ⟨b, o + i * 3 + 2, none⟩ = some (.string c.nm)
structure HIn (w : World) (a : Option Addr) (len : Nat) (h : Nat → Cl) : Prop where
  row : ∀ i, i < len → CRow w a i (h i)
  big : len ≤ maxLen
  nm : ∀ i, i < len → (h i).nm.size ≤ maxLen
theorem CRow.below {w w' : World} {a : Option Addr} {i : Nat} {c : Cl} (h : CRow w a i c) (hb : Below w.heap.size w w') : CRow w' a i c := by
  obtain ⟨b, o, rfl, h0, h1, h2⟩ := h
  have hl := lt_of_cell h0
  have hx : ∀ j, w'.cell? ⟨b, j, none⟩ = w.cell? ⟨b, j, none⟩ := fun j => hb.cell (p := ⟨b, j, none⟩) hl
  exact ⟨b, o, rfl, (hx _).trans h0, (hx _).trans h1, (hx _).trans h2⟩
theorem HIn.below {w w' : World} {a : Option Addr} {len : Nat} {h : Nat → Cl} (hh : HIn w a len h) (hb : Below w.heap.size w w') : HIn w' a len h :=
  ⟨fun i hi => (hh.row i hi).below hb, hh.big, hh.nm⟩
theorem below_after2 {W Wx w1 : World} (h : Below W.heap.size W Wx) (h1 : Below Wx.heap.size Wx w1) : Below W.heap.size W w1 := h.trans (h1.mono h.size)
/-- Where cells lead to at the end. -/
inductive EndR (h : Nat → Cl) (len : Nat) : Nat → Nat → Prop
  | root {i : Nat} : i < len → ¬ ((h i).k = 1 ∧ (h i).n ≠ i) → EndR h len i i
  | step {i j z : Nat} : i < len → (h i).k = 1 → (h i).n = (j : Int) → j ≠ i → EndR h len j z → EndR h len i z
theorem EndR.lt {h : Nat → Cl} {len i z : Nat} (H : EndR h len i z) : i < len ∧ z < len := by
  induction H with
  | root hi _ => exact ⟨hi, hi⟩
  | step hi _ _ _ _ ih => exact ⟨hi, ih.2⟩
set_option maxRecDepth 100000 in
set_option maxHeartbeats 4000000 in
theorem endOf_any {a : Option Addr} {len cap : Nat} {h : Nat → Cl} {i z : Nat} (H : EndR h len i z) (w : World) (hh : HIn w a len h) :
    Calls Try.prog 37 #[.slice a len cap, .int .i64 i] w fun e w' => e = .returned (.int .i64 z) ∧ w' = w := by
  induction H with
  | @root i hi hr =>
    obtain ⟨b, o, rfl, c0, c1, c2⟩ := hh.row i hi
    have hiI : (i : Int) < (len : Int) := by omega
    by_cases hk : (h i).k = 1
    · have hkb : ((h i).k == 1) = true := beq_iff_eq.2 hk
      have hnb : ((h i).n != (i : Int)) = false := by
        rw [Bool.eq_false_iff]
        intro e
        exact hr ⟨hk, bne_iff_ne.1 e⟩
      clear hr hk hh
      go_enter Try.func37, Try.ntmps37
      go_wp2_with fail
      go_ret
      exact ⟨rfl, rfl⟩
    · have hkb : ((h i).k == 1) = false := beq_eq_false_iff_ne.2 hk
      clear hr hk hh
      go_enter Try.func37, Try.ntmps37
      go_wp2_with fail
      go_ret
      exact ⟨rfl, rfl⟩
  | @step i j z hi hk hn hj hz ih =>
    obtain ⟨b, o, rfl, c0, c1, c2⟩ := hh.row i hi
    have hiI : (i : Int) < (len : Int) := by omega
    have hkb : ((h i).k == 1) = true := beq_iff_eq.2 hk
    have hnb : ((j : Int) != (i : Int)) = true := bne_iff_ne.2 (by omega)
    have HI : Hid (Calls Try.prog 37 #[.slice (some ⟨b, o, none⟩) len cap, .int .i64 j] w fun e w' => e = .returned (.int .i64 z) ∧ w' = w) := ih
    rw [hn] at c1
    clear hh hk hn hj hz ih
    go_enter Try.func37, Try.ntmps37
    go_wp2_with fail
    refine HI.out.mono ?_
    rintro e w1 ⟨rfl, rfl⟩
    go_wp2_with fail
    go_ret
    exact ⟨rfl, rfl⟩
/-- Where one cell leads to. -/
def leads (h : Nat → Cl) (i : Nat) : List Nat := if (h i).k = 1 then (if (h i).n = i then [] else [(h i).n.toNat]) else (List.range (h i).n.toNat).map fun j => i + 1 + j
/-- A list of numbers in memory of its own. -/
def IntsR (lo : Nat) (w : World) (v : Value) (l : List Nat) : Prop := w.ownsRow lo 3 1 v l.length (l.map fun x : Nat => Value.int .i64 (x : Int))
set_option maxRecDepth 100000 in
set_option maxHeartbeats 4000000 in
theorem leadsOf_any {a : Option Addr} {len cap : Nat} {h : Nat → Cl} {i : Nat} (hi : i < len) (w : World) (hh : HIn w a len h) (h0 : 0 ≤ (h i).n) (h4 : (h i).k ≠ 1 → (h i).n ≤ 4) (hlb : len ≤ 1000000) :
    Calls Try.prog 111 #[.slice a len cap, .int .i64 i] w fun e w' => ∃ v, e = .returned v ∧ IntsR w.heap.size w' v (leads h i) ∧ Below w.heap.size w w' := by
  obtain ⟨b, o, rfl, c0, c1, c2⟩ := hh.row i hi
  have hiI : (i : Int) < (len : Int) := by omega
  obtain ⟨n, hn⟩ : ∃ n : Nat, (h i).n = n := ⟨(h i).n.toNat, by omega⟩
  rw [hn] at c1
  by_cases hk : (h i).k = 1
  · have hkb : ((h i).k == 1) = true := beq_iff_eq.2 hk
    by_cases hni : n = i
    · have hnb : ((n : Int) == (i : Int)) = true := beq_iff_eq.2 (by omega)
      have HL : Hid (leads h i = []) := by unfold leads; rw [Hid, if_pos hk, if_pos (by omega)]
      clear hh h0 h4 hk hni hn
      go_enter Try.func111, Try.ntmps111
      go_wp2_with fail
      go_ret
      exact ⟨_, rfl, by rw [HL.out]; exact World.ownsRow_nil _ _ _ _, (Below.refl _ _).alloc (Nat.le_refl _) _⟩
    · have hnb : ((n : Int) == (i : Int)) = false := beq_eq_false_iff_ne.2 (by omega)
      have HL : Hid (leads h i = [n]) := by unfold leads; rw [Hid, if_pos hk, if_neg (by omega), hn]; rfl
      clear hh h0 h4 hk hni hn
      go_enter Try.func111, Try.ntmps111
      go_wp2_with fail
      go_ret
      refine ⟨_, rfl, ?_, ((Below.refl _ _).alloc (Nat.le_refl _) _).alloc (by simp) _⟩
      rw [HL.out]
      have hb := heap_alloc_new (w.alloc (.cells #[.int .i64 (h i).k, .int .i64 n, .string (h i).nm] 128)) (.cells #[.int .i64 n] 3)
      rw [show (w.alloc (.cells #[.int .i64 (h i).k, .int .i64 n, .string (h i).nm] 128)).heap.size = w.heap.size + 1 from by simp] at hb
      exact ⟨rfl, .inr ⟨w.heap.size + 1, 1, _, rfl, by omega, hb, Nat.le_refl _, by unfold maxLen; omega, rfl, rfl⟩⟩
  have hkb : ((h i).k == 1) = false := beq_eq_false_iff_ne.2 hk
  have HL : Hid (leads h i = (List.range n).map fun j => i + 1 + j) := by unfold leads; rw [Hid, if_neg hk, hn]; rfl
  have hn4 : n ≤ 4 := by have := h4 hk; omega
  clear hh h0 h4 hk hn
  go_enter Try.func111, Try.ntmps111
  obtain ⟨j0, hj, hj0, hj1, hj2⟩ := info_parts Try.info3
  go_wp2_with fail
  have HX : Hid ((w.alloc (.cells #[.int .i64 (h i).k, .int .i64 n, .string (h i).nm] 128)).heap[w.heap.size]? = some (.cells #[.int .i64 (h i).k, .int .i64 n, .string (h i).nm] 128)) := heap_alloc_new w _
  have HB : Hid (Below w.heap.size w (w.alloc (.cells #[.int .i64 (h i).k, .int .i64 n, .string (h i).nm] 128))) := (Below.refl _ _).alloc (Nat.le_refl _) _
  have hsW : (w.alloc (.cells #[.int .i64 (h i).k, .int .i64 n, .string (h i).nm] 128)).heap.size = w.heap.size + 1 := by simp
  generalize w.alloc (.cells #[.int .i64 (h i).k, .int .i64 n, .string (h i).nm] 128) = W at *
  go_loopw [6, 7] (fun v x wr => ∃ j : Nat, j ≤ n ∧ x = .int .i64 ((j : Int) + 1) ∧ wr.ownsRow W.heap.size 3 1 v j (((List.range j).map fun j => i + 1 + j).map fun x : Nat => Value.int .i64 (x : Int)) ∧ Below W.heap.size W wr) (fun _ x _ => n + 1 - (intOf x).toNat)
  case atStart => exact ⟨0, Nat.zero_le _, rfl, World.ownsRow_nil _ _ _ _, Below.refl _ _⟩
  case round =>
    obtain ⟨j, hjn, rfl, hO, hBr⟩ := hrel
    have HO : Hid (wr.ownsRow W.heap.size 3 1 u6 j (((List.range j).map fun j => i + 1 + j).map fun x : Nat => Value.int .i64 (x : Int))) := hO
    have HBr : Hid (Below W.heap.size W wr) := hBr
    have hsr := hBr.size
    have hX : wr.heap[w.heap.size]? = some (.cells #[.int .i64 (h i).k, .int .i64 n, .string (h i).nm] 128) := (hBr.block _ (by omega)).trans HX.out
    obtain ⟨x0, x1, x2, _, _, _⟩ := block_cells hX
    clear hO hBr hX
    by_cases hlt : j < n
    case neg =>
      obtain rfl : j = n := by omega
      have hle : decide ((j : Int) + 1 ≤ (j : Int)) = false := decide_eq_false (by omega)
      go_wp2_with fail
      go_ret
      refine ⟨_, rfl, ?_, below_after2 HB.out HBr.out⟩
      rw [HL.out]
      have := ownsRow_mono HO.out (show w.heap.size ≤ W.heap.size by omega)
      unfold IntsR
      rw [List.length_map, List.length_range]
      exact this
    have hle : decide ((j : Int) + 1 ≤ (n : Int)) = true := decide_eq_true (by omega)
    have hle2 : (j : Int) + 1 ≤ (n : Int) := by omega
    have hwrp : IntKind.i64.wrap ((i : Int) + ((j : Int) + 1)) = (i : Int) + ((j : Int) + 1) := by simp [IntKind.wrap, IntKind.bits, IntKind.signed]; omega
    have HO1 : Hid ((wr.alloc (.cells #[.int .i64 ((i : Int) + ((j : Int) + 1))] 3)).ownsRow W.heap.size 3 1 u6 j (((List.range j).map fun j => i + 1 + j).map fun x : Nat => Value.int .i64 (x : Int))) := HO.out.kept (grown_of_below ((Below.refl wr.heap.size wr).alloc (Nat.le_refl _) _) none) (by cases u6.ownBlock with | none => exact .inl rfl | some g => exact .inr (by simp))
    have HB1 : Hid (Below W.heap.size W (wr.alloc (.cells #[.int .i64 ((i : Int) + ((j : Int) + 1))] 3))) := HBr.out.alloc hsr _
    have hjs : j ≤ 4 := by omega
    go_wp2_with (at_builtin; refine wpList_append_own_at _ rfl (.tmp 28) (.tmp 32) 56 rfl W.heap.size 3 j0 (.int .i64 0) 1 8 Try.underlying56 hj hj0 hj1 hj2 rfl (by decide) u6 j _ rfl HO1.out ⟨wr.heap.size, 0, none⟩ 1 1 [.int .i64 ((i : Int) + ((j : Int) + 1))] rfl rfl (cell_one_new _ _ _) (by simp [Value.oneCell']) (by unfold maxLen; omega) (by omega) (by simp; omega) ?_; intro v' w6 hown' hgrow hnil hat)
    have HB6 : Hid (Below W.heap.size W w6) := HB1.out.grown hgrow HB1.out.size (fun q hq => (HO1.out.lt q hq).1)
    have HO6 : Hid (w6.ownsRow W.heap.size 3 1 v' (j + 1) (((List.range (j + 1)).map fun j => i + 1 + j).map fun x : Nat => Value.int .i64 (x : Int))) := by
      rw [Hid, List.range_succ, List.map_append, List.map_append]
      simpa [show (i : Int) + ((j : Int) + 1) = (i : Int) + 1 + (j : Int) from by omega] using hown'
    clear hown' hgrow hnil hat
    go_roundw
    case rel => exact ⟨j + 1, by omega, by go_num, HO6.out, HB6.out⟩
    case measure => simp [intOf]; omega
end Go.Proofs.Ytmggaclaoefdaaa

namespace Go.Proofs.Ytmggaclaoefdaaa
open Go.RowKit

/-- A variable. -/
def vT (n : Int) : Tm := .mk n ⟨#[]⟩ none 0 0 (fun _ => .nil)
theorem vT_in (w : World) (n : Int) : TIn w (vT n) := ⟨Nat.zero_le _, Nat.zero_le _, fun i hi => absurd hi (Nat.not_lt_zero i)⟩
end Go.Proofs.Ytmggaclaoefdaaa

namespace Go.Proofs.Ytmggaclaoefdaaa
open Go.RowKit

theorem okv_of_err (T : Tm) : err T = 0 → Okv 12 T := by
  induction T with
  | nil => intro h; exact absurd h (by decide +kernel)
  | mk v nm a len cap f ih =>
    intro h
    have hp : partE v nm len = 0 := by
      by_cases hp : partE v nm len = 0
      · exact hp
      · rw [err, if_neg hp] at h; exact h
    rw [err, if_pos hp] at h
    have hk : ∀ i, i < len → err (f i) = 0 := by
      intro i hi
      have h0 := fst_zero (fun i => err (f i)) (Nat.le_of_lt hi) h
      have h1 := fst_zero (fun i => err (f i)) (show i + 1 ≤ len from hi) h
      rw [fst, if_pos h0] at h1
      exact h1
    by_cases hv : v = 0
    · rw [partE, if_neg (by simpa using hv)] at hp
      split at hp
      · omega
      · split at hp
        · omega
        · exact ⟨by omega, by omega, fun h => absurd hv h, by omega, fun i hi => ih i (hk i hi)⟩
    · rw [partE, if_pos hv, varE] at hp
      split at hp
      · omega
      · split at hp
        · omega
        · split at hp
          · rename_i hn
            split at hp
            · omega
            · refine ⟨by omega, by omega, fun _ => ⟨?_, by omega⟩, by omega, fun i hi => ih i (hk i hi)⟩
              rw [ByteArray.toList_eq] at hn
              cases nm
              simp at hn
              simp [hn]
          · omega
theorem checkV_err {T : Tm} (h : checkV T = 0) : err T = 0 := by
  by_cases hc : cnt T ≤ 60
  · rw [checkV, if_pos hc] at h; exact h
  · rw [checkV, if_neg hc] at h; omega
end Go.Proofs.Ytmggaclaoefdaaa
