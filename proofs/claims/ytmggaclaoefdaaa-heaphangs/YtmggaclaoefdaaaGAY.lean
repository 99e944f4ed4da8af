/- Maps of numbers. A view of a heap: where cells lead to, as it was noted. SameInts: what it answers. -/
import Derived.Test.YtmggaclaoefdaaaGAG
import Derived.Test.YtmggaclaoefdaaaGAW
import Derived.Test.YtmggaclaoefdaaaGAL
namespace Go.Proofs.Ytmggaclaoefdaaa
open Go.RowKit
set_option linter.unusedVariables false
set_option linter.unusedSimpArgs false

theorem zeroI (w : World) : (zeroValue 3).run Try.prog w = .ok (.int .i64 0) w := by kernel_rfl
theorem owns_size {w : World} {m n : Nat} {D : DataW Value} (h : w.ownsMap Try.prog 3 heldR m n D) : w.ownsMap Try.prog 3 heldR m (Maps.size D) D := by
  obtain ⟨es, clock, h1, h2, h3, h4⟩ := h
  refine ⟨es, clock, h1, h2, ?_, h4⟩
  rw [h4]
  have e1 : es.size = ((es.toList.map (WideElems.rg Try.prog 3 heldR)).foldr DataW.insert []).length := by rw [length_sorted]; simp
  exact Nat.le_of_eq e1
/-- Block m is a map of numbers. -/
def IM (w : World) (m : Nat) (σ : Int → Option Int) : Prop := ∃ (D : DataW Value) (ks : List Int), w.ownsMap Try.prog 3 heldR m ks.length D ∧ Maps.IsMap D ∧ Maps.size D = ks.length ∧ (ks.Nodup ∧ ∀ i ∈ ks, 0 ≤ i ∧ i ≤ 1000000) ∧ (∀ i, (σ i).isSome = true ↔ i ∈ ks) ∧
  ∀ i : Int, 0 ≤ i → i ≤ 1000000 → Maps.has D (.int .i64 i) = (σ i).isSome ∧ ∀ x, σ i = some x → ∀ z, D.atKey (.int .i64 i) z = .held (.int .i64 x)
theorem IM.kept {w w' : World} {m : Nat} {σ : Int → Option Int} {row : Option Nat} (h : IM w m σ) (hg : w.grownBy w' row) (hne : some m ≠ row) : IM w' m σ := by
  obtain ⟨D, ks, h1, h2⟩ := h
  exact ⟨D, ks, h1.kept hg hne, h2⟩
theorem IM.lt {w : World} {m : Nat} {σ : Int → Option Int} (h : IM w m σ) : m < w.heap.size := by
  obtain ⟨D, ks, h1, _⟩ := h
  exact h1.lt
theorem IM.keep {w w' : World} {m : Nat} {σ : Int → Option Int} (h : IM w m σ) (hb : w'.heap[m]? = w.heap[m]?) : IM w' m σ := by
  obtain ⟨D, ks, ⟨es, clock, h1, h2⟩, h3⟩ := h
  exact ⟨D, ks, ⟨es, clock, hb.trans h1, h2⟩, h3⟩
theorem IM.made (w : World) : IM (w.alloc (.map #[] 0)) w.heap.size (fun _ => none) :=
  ⟨.map [], [], World.ownsMap_made w _ _ _, Maps.isMap_empty, rfl, ⟨List.nodup_nil, fun i h => (by cases h)⟩, fun i => ⟨fun h => (by cases h), fun h => (by cases h)⟩, fun i _ _ => ⟨rfl, fun x h => (by cases h)⟩⟩
theorem ims_few {ks : List Int} (hnd : ks.Nodup ∧ ∀ i ∈ ks, 0 ≤ i ∧ i ≤ 1000000) : ks.length ≤ 1000001 := by
  have h1 : (ks.map Int.toNat).Nodup := by
    rw [List.nodup_iff_pairwise_ne, List.pairwise_map]
    have h0 := List.nodup_iff_pairwise_ne.1 hnd.1
    exact h0.imp_of_mem (fun ha hb hab e => hab (by have := hnd.2 _ ha; have := hnd.2 _ hb; omega))
  have h2 : (ks.map Int.toNat) ⊆ List.range 1000001 := fun x hx => by
    obtain ⟨i, hi, rfl⟩ := List.mem_map.1 hx
    have := hnd.2 i hi
    exact List.mem_range.2 (by omega)
  have h3 := List.Nodup.length_le_of_subset h1 h2
  rw [List.length_map, List.length_range] at h3
  exact h3
theorem IM.look2 {w : World} {m : Nat} {σ : Int → Option Int} (h : IM w m σ) {i : Int} (h0 : 0 ≤ i) (h1 : i ≤ 1000000) :
    (Instr.lookup 124 (.map (some m)) (.int .i64 i) true).run Try.prog w = .ok (.tuple #[.int .i64 ((σ i).getD 0), .bool (σ i).isSome]) w := by
  obtain ⟨D, ks, hD, hm, _, _, _, hs⟩ := h
  obtain ⟨hs1, hs2⟩ := hs i h0 h1
  obtain ⟨v, ps, hrun, hv⟩ := hD.look_ok (t := 124) (e := 3) keyed3 Try.underlying124 (zeroI w) (zd := .held (.int .i64 0)) (zp := []) rfl (key3 h0 h1)
  have hv' : DataW.held v = D.atKey (.int .i64 i) (.held (.int .i64 0)) := congrArg Prod.fst (Option.some.inj hv)
  rw [hs1] at hrun
  cases hσ : σ i with
  | some x =>
    rw [hs2 x hσ] at hv'
    obtain rfl := DataW.held.inj hv'
    rw [hσ] at hrun
    exact hrun
  | none =>
    rw [hσ] at hs1 hrun
    rw [Maps.atKey_of_not_has hs1] at hv'
    obtain rfl := DataW.held.inj hv'
    exact hrun
theorem IM.look1 {w : World} {m : Nat} {σ : Int → Option Int} (h : IM w m σ) {i : Int} (h0 : 0 ≤ i) (h1 : i ≤ 1000000) :
    (Instr.lookup 124 (.map (some m)) (.int .i64 i) false).run Try.prog w = .ok (.int .i64 ((σ i).getD 0)) w := by
  obtain ⟨D, ks, hD, hm, _, _, _, hs⟩ := h
  obtain ⟨hs1, hs2⟩ := hs i h0 h1
  obtain ⟨v, ps, hrun, hv⟩ := hD.lookup (t := 124) (e := 3) keyed3 Try.underlying124 (zeroI w) (zd := .held (.int .i64 0)) (zp := []) rfl (key3 h0 h1)
  have hv' : DataW.held v = D.atKey (.int .i64 i) (.held (.int .i64 0)) := congrArg Prod.fst (Option.some.inj hv)
  cases hσ : σ i with
  | some x =>
    rw [hs2 x hσ] at hv'
    obtain rfl := DataW.held.inj hv'
    exact hrun
  | none =>
    rw [hσ] at hs1
    rw [Maps.atKey_of_not_has hs1] at hv'
    obtain rfl := DataW.held.inj hv'
    exact hrun
def updI (σ : Int → Option Int) (i x : Int) : Int → Option Int := fun j => if j = i then some x else σ j
theorem IM.store {w : World} {m : Nat} {σ : Int → Option Int} (h : IM w m σ) {i : Int} (h0 : 0 ≤ i) (h1 : i ≤ 1000000) (x : Int) :
    ∃ w', (Instr.mapUpdate 124 (.map (some m)) (.int .i64 i) (.int .i64 x)).run Try.prog w = .ok () w' ∧ IM w' m (updI σ i x) ∧ w.grownBy w' (some m) := by
  obtain ⟨D, ks, hD, hm, hz, hnd, hk, hs⟩ := h
  have hf := ims_few hnd
  obtain ⟨w', hrun, ho, hg⟩ := hD.update (t := 124) (e := 3) keyed3 Try.underlying124 (by unfold maxLen; omega) (key3 h0 h1) (val := .int .i64 x) (d := .held (.int .i64 x)) (ps := []) rfl
  have hsz : Maps.size (D.put (.int .i64 i) (.held (.int .i64 x))) = (if i ∈ ks then ks else ks ++ [i]).length := by
    rw [Maps.size_put (hD.tidy keyed3), (hs i h0 h1).1, hz]
    by_cases e : i ∈ ks
    · rw [if_pos e, if_pos ((hk i).2 e)]
    · rw [if_neg e, if_neg (fun h => e ((hk i).1 h)), List.length_append]; rfl
  refine ⟨w', hrun, ⟨_, if i ∈ ks then ks else ks ++ [i], by rw [← hsz]; exact owns_size ho, hm.put _ _, hsz, ?_, fun j => ?_, fun j j0 j1 => ?_⟩, hg⟩
  · by_cases e : i ∈ ks
    · rw [if_pos e]; exact hnd
    · rw [if_neg e]
      refine ⟨?_, fun j hj => ?_⟩
      · rw [List.nodup_append]
        exact ⟨hnd.1, by simp, fun a ha c hc => by rw [List.mem_singleton] at hc; subst hc; exact fun e' => e (e' ▸ ha)⟩
      · rcases List.mem_append.1 hj with h | h
        · exact hnd.2 j h
        · rw [List.mem_singleton] at h; subst h; exact ⟨h0, h1⟩
  · unfold updI
    by_cases e : j = i
    · subst e
      rw [if_pos rfl]
      refine ⟨fun _ => ?_, fun _ => rfl⟩
      by_cases e : j ∈ ks
      · rw [if_pos e]; exact e
      · rw [if_neg e]; simp
    · rw [if_neg e, hk j]
      by_cases e' : i ∈ ks
      · rw [if_pos e']
      · rw [if_neg e']; simp [e]
  by_cases e : j = i
  · subst e
    refine ⟨by rw [Maps.has_put_same hm (keyed3.key (key3 h0 h1))]; simp [updI], fun x' hx' z => ?_⟩
    rw [Maps.atKey_put_same hm (keyed3.key (key3 h0 h1))]
    simp [updI] at hx'
    rw [hx']
  · have hne : (Lit.int .i64 j) ≠ .int .i64 i := fun h => e (by injection h)
    obtain ⟨g1, g2⟩ := hs j j0 j1
    refine ⟨by rw [Maps.has_put_other hne, g1, updI, if_neg e], fun x' hx' z => ?_⟩
    rw [Maps.atKey_put_other hne]
    rw [updI, if_neg e] at hx'
    exact g2 x' hx' z
end Go.Proofs.Ytmggaclaoefdaaa

namespace Go.Proofs.Ytmggaclaoefdaaa
open Go.RowKit
set_option linter.unusedVariables false
set_option linter.unusedSimpArgs false

/-- What was noted: each leads there. -/
def Ends (h : Nat → Cl) (len : Nat) (σ : Int → Option Int) : Prop := ∀ i e, σ i = some e → ∃ x y : Nat, i = (x : Int) ∧ e = (y : Int) ∧ x < len ∧ Pth h x y
structure VW (w : World) (vb m : Nat) (a : Option Addr) (len cap : Nat) (h : Nat → Cl) (σ : Int → Option Int) : Prop where
  blk : w.heap[vb]? = some (.cells #[.slice a len cap, .map (some m)] 154)
  row : HIn w a len h
  mp : IM w m σ
  ends : Ends h len σ
theorem IM.isMap {w : World} {m : Nat} {σ : Int → Option Int} (h : IM w m σ) : ∃ es cl, w.heap[m]? = some (.map es cl) := by
  obtain ⟨D, ks, ⟨es, clock, h1, h2⟩, h3⟩ := h
  exact ⟨_, _, h1⟩
theorem IM.ne_cell {w : World} {m : Nat} {σ : Int → Option Int} (h : IM w m σ) {p : Addr} {v : Value} (hc : w.cell? p = some v) : p.block ≠ m := by
  obtain ⟨es, cl, hm⟩ := h.isMap
  intro e
  subst e
  simp [World.cell?, hm] at hc
theorem IM.ne_block {w : World} {m k : Nat} {σ : Int → Option Int} (h : IM w m σ) {vs : Array Value} {t : TypeId} (hc : w.heap[k]? = some (.cells vs t)) : k ≠ m := by
  obtain ⟨es, cl, hm⟩ := h.isMap
  intro e
  subst e
  rw [hm] at hc
  cases hc
theorem CRow.grown {w w' : World} {a : Option Addr} {i : Nat} {c : Cl} {row : Option Nat} (h : CRow w a i c) (hg : w.grownBy w' row) (hn : ∀ p v, w.cell? p = some v → some p.block ≠ row) : CRow w' a i c := by
  obtain ⟨b, o, rfl, h0, h1, h2⟩ := h
  exact ⟨b, o, rfl, hg.cell h0 (hn _ _ h0), hg.cell h1 (hn _ _ h1), hg.cell h2 (hn _ _ h2)⟩
theorem HIn.map {w w' : World} {a : Option Addr} {len : Nat} {h : Nat → Cl} {m : Nat} {σ : Int → Option Int} (hh : HIn w a len h) (hm : IM w m σ) (hg : w.grownBy w' (some m)) : HIn w' a len h :=
  ⟨fun i hi => (hh.row i hi).grown hg fun p v hc e => hm.ne_cell hc (Option.some.inj e), hh.big, hh.nm⟩
theorem VW.below {w w' : World} {vb m : Nat} {a : Option Addr} {len cap : Nat} {h : Nat → Cl} {σ : Int → Option Int} (V : VW w vb m a len cap h σ) (hb : Below w.heap.size w w') : VW w' vb m a len cap h σ :=
  ⟨(hb.block _ (Array.getElem?_eq_some_iff.1 V.blk).1).trans V.blk, V.row.below hb, V.mp.keep (hb.block _ V.mp.lt), V.ends⟩
theorem VW.store {w w' : World} {vb m : Nat} {a : Option Addr} {len cap : Nat} {h : Nat → Cl} {σ σ' : Int → Option Int} (V : VW w vb m a len cap h σ) (hg : w.grownBy w' (some m)) (hm : IM w' m σ') (he : Ends h len σ') : VW w' vb m a len cap h σ' :=
  ⟨(hg.block _ (Array.getElem?_eq_some_iff.1 V.blk).1 (fun e => V.mp.ne_block V.blk (Option.some.inj e))).trans V.blk, V.row.map V.mp hg, hm, he⟩
theorem VW.cells {w : World} {vb m : Nat} {a : Option Addr} {len cap : Nat} {h : Nat → Cl} {σ : Int → Option Int} (V : VW w vb m a len cap h σ) : w.cell? ⟨vb, 0, none⟩ = some (.slice a len cap) ∧ w.cell? ⟨vb, 1, none⟩ = some (.map (some m)) := by
  constructor <;> simp [World.cell?, V.blk]
theorem VW.lt {w : World} {vb m : Nat} {a : Option Addr} {len cap : Nat} {h : Nat → Cl} {σ : Int → Option Int} (V : VW w vb m a len cap h σ) : vb < w.heap.size ∧ m < w.heap.size := ⟨(Array.getElem?_eq_some_iff.1 V.blk).1, V.mp.lt⟩
set_option maxRecDepth 100000 in
set_option maxHeartbeats 4000000 in
theorem on_any {a : Option Addr} {len cap : Nat} {h : Nat → Cl} (w : World) (hh : HIn w a len h) :
    Calls Try.prog 76 #[.slice a len cap] w fun e w' => ∃ vb m, e = .returned (.pointer (some ⟨vb, 0, none⟩)) ∧ VW w' vb m a len cap h (fun _ => none) ∧ w.heap.size ≤ vb ∧ w.heap.size ≤ m ∧ Below w.heap.size w w' := by
  have HF : Hid (VW ((w.alloc (.map #[] 0)).alloc (.cells #[.slice a len cap, .map (some w.heap.size)] 154)) (w.heap.size + 1) w.heap.size a len cap h (fun _ => none) ∧ Below w.heap.size w ((w.alloc (.map #[] 0)).alloc (.cells #[.slice a len cap, .map (some w.heap.size)] 154))) := by
    have hB : Below w.heap.size w ((w.alloc (.map #[] 0)).alloc (.cells #[.slice a len cap, .map (some w.heap.size)] 154)) := ((Below.refl _ _).alloc (Nat.le_refl _) _).alloc (by simp) _
    refine ⟨⟨?_, hh.below hB, (IM.made w).keep (heapOld _ _ (by simp)), fun i e h => by cases h⟩, hB⟩
    have := heap_alloc_new (w.alloc (.map #[] 0)) (.cells #[.slice a len cap, .map (some w.heap.size)] 154)
    rwa [show (w.alloc (.map #[] 0)).heap.size = w.heap.size + 1 from by simp] at this
  have hmm := @run_makeMap Try.prog
  clear hh
  go_enter Try.func76, Try.ntmps76
  go_wp2_with fail
  go_ret
  exact ⟨_, _, rfl, HF.out.1, by omega, Nat.le_refl _, HF.out.2⟩
set_option maxRecDepth 100000 in
set_option maxHeartbeats 4000000 in
theorem next_any {vb m : Nat} {a : Option Addr} {len cap : Nat} {h : Nat → Cl} {σ : Int → Option Int} {i : Nat} (H : HG h len) (hlb : len ≤ 1000000) (hi : i < len) (w : World) (V : VW w vb m a len cap h σ) :
    Calls Try.prog 106 #[.pointer (some ⟨vb, 0, none⟩), .int .i64 i] w fun e w' => ∃ j : Nat, e = .returned (.int .i64 j) ∧ ((j = i ∧ endA h len i = i) ∨ Pth h i j) ∧ Below w.heap.size w w' := by
  obtain ⟨b, o, rfl, c0, c1, c2⟩ := V.row.row i hi
  obtain ⟨v0, v1⟩ := V.cells
  have hiI : (i : Int) < (len : Int) := by omega
  obtain ⟨n, hn⟩ : ∃ n : Nat, (h i).n = n := ⟨(h i).n.toNat, by have := H.ok.n0 i hi; omega⟩
  rw [hn] at c1
  have HB : Hid (Below w.heap.size w (w.alloc (.cells #[.int .i64 (h i).k, .int .i64 n, .string (h i).nm] 128))) := (Below.refl _ _).alloc (Nat.le_refl _) _
  have hX : (w.alloc (.cells #[.int .i64 (h i).k, .int .i64 n, .string (h i).nm] 128)).heap[w.heap.size]? = some (.cells #[.int .i64 (h i).k, .int .i64 n, .string (h i).nm] 128) := heap_alloc_new w _
  obtain ⟨x0, x1, x2, _, _, _⟩ := block_cells hX
  have V' := V.below HB.out
  have hlk := V'.mp.look2 (i := (i : Int)) (by omega) (by omega)
  have v1' := V'.cells.2
  rcases H.kind i hi with hk | hk
  · have hkb : ((h i).k == 2) = false := by rw [hk]; rfl
    cases hσ : σ i with
    | some e =>
      obtain ⟨x, y, hx, rfl, _, hp⟩ := V.ends _ _ hσ
      obtain rfl : i = x := by omega
      have HP : Hid (Pth h i y) := hp
      rw [hσ] at hlk
      have hlk' : (Instr.lookup 124 (.map (some m)) (.int .i64 i) true).run Try.prog (w.alloc (.cells #[.int .i64 (h i).k, .int .i64 n, .string (h i).nm] 128)) = .ok (.tuple #[.int .i64 (y : Int), .bool true]) (w.alloc (.cells #[.int .i64 (h i).k, .int .i64 n, .string (h i).nm] 128)) := hlk
      clear V V' H hk hσ hp hlk hX hn hx
      go_enter Try.func106, Try.ntmps106
      go_wp2_with fail
      go_ret
      exact ⟨y, rfl, .inr HP.out, HB.out⟩
    | none =>
      rw [hσ] at hlk
      have hlk' : (Instr.lookup 124 (.map (some m)) (.int .i64 i) true).run Try.prog (w.alloc (.cells #[.int .i64 (h i).k, .int .i64 n, .string (h i).nm] 128)) = .ok (.tuple #[.int .i64 0, .bool false]) (w.alloc (.cells #[.int .i64 (h i).k, .int .i64 n, .string (h i).nm] 128)) := hlk
      have HR : Hid ((n = i ∧ endA h len i = i) ∨ Pth h i n) := by
        rw [Hid]
        by_cases e : n = i
        · exact .inl ⟨e, endA_eq (.root hi fun c => c.2 (by omega))⟩
        · exact .inr (.one ⟨hk, hn, e⟩)
      clear V V' H hk hσ hlk hX hn
      go_enter Try.func106, Try.ntmps106
      go_wp2_with fail
      go_ret
      exact ⟨n, rfl, HR.out, HB.out⟩
  · have hkb : ((h i).k == 2) = true := by rw [hk]; rfl
    have HE : Hid (endA h len i = i) := endA_eq (.root hi fun c => by omega)
    clear V V' H hk hlk hX hn
    go_enter Try.func106, Try.ntmps106
    go_wp2_with fail
    go_ret
    exact ⟨i, rfl, .inl ⟨rfl, HE.out⟩, HB.out⟩
theorem Ends.upd {h : Nat → Cl} {len : Nat} {σ : Int → Option Int} (E : Ends h len σ) {x y : Nat} (hx : x < len) (p : Pth h x y) : Ends h len (updI σ x y) := by
  intro i e hi
  unfold updI at hi
  by_cases c : i = (x : Int)
  · rw [if_pos c] at hi
    exact ⟨x, y, c, (Option.some.inj hi).symm, hx, p⟩
  · rw [if_neg c] at hi
    exact E i e hi
set_option maxRecDepth 100000 in
set_option maxHeartbeats 4000000 in
theorem note_any {vb m : Nat} {a : Option Addr} {len cap : Nat} {h : Nat → Cl} {σ : Int → Option Int} {i : Nat} (H : HG h len) (hlb : len ≤ 1000000) (hi : i < len) (w : World) (V : VW w vb m a len cap h σ) :
    Calls Try.prog 107 #[.pointer (some ⟨vb, 0, none⟩), .int .i64 i, .int .i64 (endA h len i)] w fun e w' => (∃ v, e = .returned v) ∧ (∃ σ', VW w' vb m a len cap h σ') ∧ w.grownBy w' (some m) := by
  obtain ⟨r, hr⟩ := H.acy
  have HG' : Hid (HG h len) := H
  have HR : Hid (∀ x, x < len → ∀ y ∈ leads h x, r y < r x) := hr
  have HV : Hid (VW w vb m a len cap h σ) := V
  generalize hz : endA h len i = z at *
  have Hz : Hid (endA h len i = z) := hz
  clear H V hr hz
  go_enter Try.func107, Try.ntmps107
  go_wp2_with fail
  go_loopw [1] (fun p wr => ∃ (x : Nat) (σ' : Int → Option Int), p = .int .i64 x ∧ x < len ∧ endA h len x = z ∧ VW wr vb m a len cap h σ' ∧ w.grownBy wr (some m)) (fun p _ => r (intOf p).toNat)
  case atStart => exact ⟨i, σ, rfl, hi, Hz.out, HV.out, G.refl m w⟩
  case round =>
    obtain ⟨x, σ', rfl, hx, hxz, hV, hG⟩ := hrel
    have HVr : Hid (VW wr vb m a len cap h σ') := hV
    have HGr : Hid (w.grownBy wr (some m)) := hG
    have Hxz : Hid (endA h len x = z) := hxz
    clear hV hG hxz HV
    by_cases hxe : x = z
    · have hb : ((x : Int) != (z : Int)) = false := by rw [Bool.eq_false_iff]; intro e; exact bne_iff_ne.1 e (by omega)
      clear hxe
      go_wp2_with fail
      go_end0
      exact ⟨⟨_, rfl⟩, ⟨σ', HVr.out⟩, HGr.out⟩
    · have hb : ((x : Int) != (z : Int)) = true := bne_iff_ne.2 (by omega)
      have HP : Hid (Pth h x z) := by
        rcases HG'.out.way hx with e | e
        · exact absurd (e.symm.trans Hxz.out) hxe
        · rw [Hxz.out] at e; exact e
      have HN : Hid (Calls Try.prog 106 #[.pointer (some ⟨vb, 0, none⟩), .int .i64 x] wr fun e w' => ∃ j : Nat, e = .returned (.int .i64 j) ∧ ((j = x ∧ endA h len x = x) ∨ Pth h x j) ∧ Below wr.heap.size wr w') := next_any HG'.out hlb hx wr HVr.out
      go_wp2_with fail
      refine HN.out.mono ?_
      rintro e w1 ⟨j, rfl, hj, hb1⟩
      have HJ : Hid (Pth h x j) := by
        rcases hj with e | e
        · exact absurd (e.2.symm.trans Hxz.out) hxe
        · exact e
      have hV1 := HVr.out.below hb1
      have HV1 : Hid (VW w1 vb m a len cap h σ') := hV1
      have v1 := hV1.cells.2
      obtain ⟨w2, hrun, hm2, hg2⟩ := hV1.mp.store (i := (x : Int)) (by omega) (by omega) (z : Int)
      have HV2 : Hid (VW w2 vb m a len cap h (updI σ' x z)) := hV1.store hg2 hm2 (hV1.ends.upd hx HP.out)
      have HG2 : Hid (w.grownBy w2 (some m)) := (HGr.out.trans (G.below hb1)).trans hg2
      clear hj hb1 hV1 hm2 hg2 HN hxe
      go_wp2_with fail
      go_roundw
      case rel => exact ⟨j, _, rfl, (HJ.out.same HG'.out hx).1, by rw [← (HJ.out.same HG'.out hx).2]; exact Hxz.out, HV2.out, HG2.out⟩
      case measure =>
        simp [intOf]
        exact HJ.out.rank HG'.out HR.out hx
set_option maxRecDepth 100000 in
set_option maxHeartbeats 4000000 in
theorem deref_any {vb m : Nat} {a : Option Addr} {len cap : Nat} {h : Nat → Cl} {σ : Int → Option Int} {i : Nat} (H : HG h len) (hlb : len ≤ 1000000) (hi : i < len) (w : World) (V : VW w vb m a len cap h σ) :
    Calls Try.prog 77 #[.pointer (some ⟨vb, 0, none⟩), .int .i64 i] w fun e w' => e = .returned (.int .i64 (endA h len i : Nat)) ∧ (∃ σ', VW w' vb m a len cap h σ') ∧ w.grownBy w' (some m) := by
  obtain ⟨r, hr⟩ := H.acy
  have HG' : Hid (HG h len) := H
  have HR : Hid (∀ x, x < len → ∀ y ∈ leads h x, r y < r x) := hr
  have HV : Hid (VW w vb m a len cap h σ) := V
  clear H V hr
  go_enter Try.func77, Try.ntmps77
  go_wp2_with fail
  go_loopw [5, 6] (fun p q wr => ∃ (x : Nat) (k : Int), p = .int .i64 x ∧ q = .int .i64 k ∧ x < len ∧ endA h len x = endA h len i ∧ Below w.heap.size w wr) (fun p _ _ => r (intOf p).toNat)
  case atStart => exact ⟨i, 0, rfl, rfl, hi, rfl, Below.refl _ _⟩
  case round =>
    obtain ⟨x, k, rfl, rfl, hx, hxz, hB⟩ := hrel
    have HVr : Hid (VW wr vb m a len cap h σ) := HV.out.below hB
    have HBr : Hid (Below w.heap.size w wr) := hB
    have Hxz : Hid (endA h len x = endA h len i) := hxz
    have HN : Hid (Calls Try.prog 106 #[.pointer (some ⟨vb, 0, none⟩), .int .i64 x] wr fun e w' => ∃ j : Nat, e = .returned (.int .i64 j) ∧ ((j = x ∧ endA h len x = x) ∨ Pth h x j) ∧ Below wr.heap.size wr w') := next_any HG'.out hlb hx wr HVr.out
    clear hB hxz
    go_wp2_with fail
    refine HN.out.mono ?_
    rintro e w1 ⟨j, rfl, hj, hb1⟩
    have HV1 : Hid (VW w1 vb m a len cap h σ) := HVr.out.below hb1
    have HB1 : Hid (Below w.heap.size w w1) := HBr.out.trans (hb1.mono HBr.out.size)
    clear hb1 HN
    by_cases hjx : j = x
    · subst hjx
      have Hj : Hid (endA h len i = j) := by
        rcases hj with e | e
        · exact Hxz.out.symm.trans e.2
        · exact absurd (e.rank HG'.out HR.out hx) (Nat.lt_irrefl _)
      have HNo : Hid (∀ W, VW W vb m a len cap h σ → Calls Try.prog 107 #[.pointer (some ⟨vb, 0, none⟩), .int .i64 i, .int .i64 (j : Int)] W fun e w' => (∃ v, e = .returned v) ∧ (∃ σ', VW w' vb m a len cap h σ') ∧ W.grownBy w' (some m)) := fun W hW => by
        have := note_any HG'.out hlb hi W hW
        rw [Hj.out] at this
        exact this
      have hbb : ((j : Int) == (j : Int)) = true := beq_self_eq_true _
      clear hj
      by_cases hk : k > 16
      · have hkb : decide (k > 16) = true := decide_eq_true hk
        go_wp2_with fail
        refine (HNo.out _ HV1.out).mono ?_
        rintro e w2 ⟨⟨v, rfl⟩, hV2, hg2⟩
        have HV2 : Hid (∃ σ', VW w2 vb m a len cap h σ') := hV2
        have HG2 : Hid (w.grownBy w2 (some m)) := (G.below HB1.out).trans hg2
        clear hV2 hg2
        go_wp2_with fail
        go_ret
        exact ⟨by rw [Hj.out]; rfl, HV2.out, HG2.out⟩
      · have hkb : decide (k > 16) = false := decide_eq_false hk
        go_wp2_with fail
        go_ret
        exact ⟨by rw [Hj.out]; rfl, ⟨σ, HV1.out⟩, G.below HB1.out⟩
    · have hbb : ((j : Int) == (x : Int)) = false := beq_eq_false_iff_ne.2 (by omega)
      have HJ : Hid (Pth h x j) := by
        rcases hj with e | e
        · exact absurd e.1 hjx
        · exact e
      clear hj hjx
      go_wp2_with fail
      go_roundw
      case rel => exact ⟨j, _, rfl, rfl, (HJ.out.same HG'.out hx).1, by rw [← (HJ.out.same HG'.out hx).2]; exact Hxz.out, HB1.out⟩
      case measure =>
        simp [intOf]
        exact HJ.out.rank HG'.out HR.out hx
end Go.Proofs.Ytmggaclaoefdaaa

namespace Go.Proofs.Ytmggaclaoefdaaa
open Go.RowKit

/-- A list of numbers, wherever it lies. -/
def IR (w : World) (sa : Option Addr) (l : List Int) : Prop := ∀ k (hk : k < l.length), ∃ b o, sa = some ⟨b, o, none⟩ ∧ w.cell? ⟨b, o + k, none⟩ = some (.int .i64 l[k])
theorem IR.below {w w' : World} {sa : Option Addr} {l : List Int} (h : IR w sa l) (hb : Below w.heap.size w w') : IR w' sa l := fun k hk => by
  obtain ⟨b, o, e, hc⟩ := h k hk
  exact ⟨b, o, e, (hb.cell (p := ⟨b, _, none⟩) (lt_of_cell hc)).trans hc⟩
end Go.Proofs.Ytmggaclaoefdaaa
