/- A search in memory: an answer is laid. A search in memory begins. Variables are numbered as they first come: a map of numbers, and the function that numbers. The function that numbers variables. Whole, with whatever function numbers: over what Each says. -/
import Derived.Test.YtmggaclaoefdaaaGV
import Derived.Test.YtmggaclaoefdaaaSvI
import Derived.Test.YtmggaclaoefdaaaGJ
import Derived.Test.YtmggaclaoefdaaaGH
namespace Go.Proofs.Ytmggaclaoefdaaa
open Go.RowKit

section
variable {w0 w : World} {s m : Nat} {r : Sr} {tv : Value} {n : Nat} {σ : Sg} {L : Int} {tr : List Int} {gl : List Gl} {ch : List Cr} {an : List Tm}
/-- An answer is laid behind the others. -/
theorem SS.ans (h : SS w0 w s m r tv n σ L tr gl ch an) {w' : World} {av' : Value} {A : Tm} (ho : w'.ownsRow w0.heap.size 112 1 av' (an.length + 1) (an.map slA ++ [slA A])) (hg : w.grownBy w' r.av.ownBlock) (hat : av'.ownBlock = r.av.ownBlock ∨ av'.ownBlock = some w.heap.size)
    (hA : TIn w A ∧ NM (Mu s r.b m tv r.cv r.av) A) :
    SS w0 (w'.setCell ⟨s, 0, none⟩ av') s m { r with av := av' } tv n σ L tr gl ch (an ++ [A]) := by
  have hs := h.blk.lt
  have hns : r.av.ownBlock ≠ some s := fun e => (h.dav s e).1 rfl
  have hst : w'.heap[s]? = w.heap[s]? := hg.block s hs (fun e => hns e.symm)
  have hw1 : Bw (Mu s r.b m tv r.cv r.av) w.heap.size w w' := (Bw.refl _ _ _).grown hg (Nat.le_refl _) (fun k hk => .inr (.inr (.inr (.inr hk))))
  have hset := G.set s w' 0 av'
  have hw : Bw (Mu s r.b m tv r.cv r.av) w.heap.size w (w'.setCell ⟨s, 0, none⟩ av') := hw1.grown hset hw1.size (fun k hk => .inr (.inr (.inl (Option.some.inj hk).symm)))
  have hmu : ∀ k, k < w.heap.size → Mu s r.b m tv r.cv av' k → Mu s r.b m tv r.cv r.av k := fun k hk e => by
    rcases e with e | e | e | e
    · exact .inl e
    · exact .inr (.inl e)
    · exact .inr (.inr (.inl e))
    · rcases hat with h1 | h1
      · exact .inr (.inr (.inr (h1 ▸ e)))
      · rw [h1] at e; have := Option.some.inj e; omega
  have havd : ∀ g, av'.ownBlock = some g → g ≠ s ∧ g ≠ r.b ∧ g ≠ m ∧ tv.ownBlock ≠ some g ∧ r.cv.ownBlock ≠ some g := fun g hg' => by
    rcases hat with e | e
    · rw [e] at hg'
      exact h.dav g hg'
    · rw [e] at hg'
      have he := Option.some.inj hg'
      have h1 := h.vs.lt
      have h2 := h.vs.map.lt
      refine ⟨by omega, by omega, by omega, fun e => ?_, fun e => ?_⟩
      · have := (h.trk.1.lt g e).2; omega
      · have := (h.chr.lt g e).2; omega
  have hms : ∀ v T, σ v = some T → NM (Ms s r.cv av') T := fun v T hv => (h.sg v T hv).anti (h.vs.trm v T hv).1 (fun k hk e => by
    rcases e with e | e | e
    · exact .inl e
    · exact .inr (.inl e)
    · rcases hat with h1 | h1
      · exact .inr (.inr (h1 ▸ e))
      · rw [h1] at e; have := Option.some.inj e; omega)
  have hvs1 : VS w' r.b m tv 1000000 w0.heap.size n σ L := by
    cases hcb : r.av.ownBlock with
    | none => rw [hcb] at hg; exact h.vs.below ⟨hg.os, hg.tape, hg.output, hg.size, fun k hk => hg.block k hk (by simp)⟩
    | some g =>
      rw [hcb] at hg
      obtain ⟨d1, d2, d3, d4, _⟩ := h.dav g hcb
      exact h.vs.atK hg d2 d3 (fun g' e e' => d4 (e' ▸ e)) (fun v T hv => (h.sg v T hv).nb (.inr (.inr hcb)))
  have hvs2 := hvs1.atK hset h.dsb.1 h.dsb.2.1 h.dsb.2.2 (fun v T hv => (h.sg v T hv).nb (.inl rfl))
  have hrw : ∀ {lo sz : Nat} {t : TypeId} {v : Value} {n : Nat} {xs : List Value}, w.ownsRow lo t sz v n xs → (∀ g, v.ownBlock = some g → g ≠ s ∧ r.av.ownBlock ≠ some g) → (w'.setCell ⟨s, 0, none⟩ av').ownsRow lo t sz v n xs := fun h1 h2 => rowk h1 (fun g hg' => by
    have hl := (h1.lt g hg').2
    exact (hset.block g (Nat.lt_of_lt_of_le hl hg.size) (by simpa using (h2 g hg').1)).trans (hg.block g hl (fun e => (h2 g hg').2 e.symm)))
  refine ⟨(h.blk.kept hst).set 0 av' rfl, hvs2, ⟨hrw h.trk.1 (fun g hg' => ⟨h.dsb.2.2 g hg', fun e => (h.dav g e).2.2.2.1 hg'⟩), h.trk.2⟩, hms, h.gls.next hw hmu, hrw h.chr (fun g hg' => ⟨(h.dcv g hg').1, fun e => (h.dav g e).2.2.2.2 hg'⟩), fun d hd => (h.chg d hd).next hw hmu, h.chs, h.chm, ?_, fun B hB => ?_, h.lows hw, h.los, h.dsb, h.dcv, havd⟩
  · rw [List.length_append, List.map_append]
    exact ho.kept hset (row_ne (fun g hg' => (havd g hg').1))
  · rcases List.mem_append.1 hB with hB | hB
    · exact ⟨(h.ant B hB).1.bw hw (Nat.le_refl _) (h.ant B hB).2, (h.ant B hB).2.anti (h.ant B hB).1 hmu⟩
    · rw [List.mem_singleton] at hB
      subst hB
      exact ⟨hA.1.bw hw (Nat.le_refl _) hA.2, hA.2.anti hA.1 hmu⟩
end
end Go.Proofs.Ytmggaclaoefdaaa

namespace Go.Proofs.Ytmggaclaoefdaaa
open Go.RowKit

/-- The variables' state, where one block that is none of its own has turned. -/
theorem VS.bw {w w' : World} {b m : Nat} {tv : Value} {N : Int} {lo n : Nat} {σ : Sg} {L : Int} {k B : Nat} (h : VS w b m tv N lo n σ L) (hb : Bw (fun q => q = k) B w w') (hB : w.heap.size ≤ B) (h1 : k ≠ b) (h2 : k ≠ m) (h3 : ∀ g, tv.ownBlock = some g → g ≠ k) (h4 : ∀ v T, σ v = some T → NB k T) : VS w' b m tv N lo n σ L :=
  h.atK (k := k) ⟨hb.os, hb.tape, hb.output, hb.size, fun i hi hne => hb.block i (Nat.lt_of_lt_of_le hi hB) (fun e => hne (by rw [e]))⟩ h1 h2 h3 h4
/-- The record of a search that begins. -/
def r0 (P : Pg) (limit asked last : Int) (b : Nat) : Sr := ⟨.slice none 0 0, 0, 0, P, limit, asked, last, b, .pointer none, .slice none 0 0⟩
theorem SS.start {w0 w1 : World} {b m : Nat} (hv : VS w1 b m (.slice none 0 0) 1000000 w0.heap.size 0 (fun _ => none) (4000 : Nat)) (hb : Below w0.heap.size w0 w1) (P : Pg) (limit asked last : Int) :
    SS w0 (w1.alloc (.cells (r0 P limit asked last b).cells 103)) w1.heap.size m (r0 P limit asked last b) (.slice none 0 0) 0 (fun _ => none) (4000 : Nat) [] [] [] [] := by
  have hB : Below w1.heap.size w1 (w1.alloc (.cells (r0 P limit asked last b).cells 103)) := (Below.refl _ _).alloc (Nat.le_refl _) _
  have h1 := hv.lt
  have h2 := hv.map.lt
  refine ⟨heap_alloc_new w1 _, hv.below hB, ⟨World.ownsRow_nil _ _ _ _, List.nodup_nil, fun v => by simp, fun v h => by simp at h⟩, fun v T h => by simp at h, rfl, World.ownsRow_nil _ _ _ _, fun c h => by simp at h, fun c h => by simp at h, List.Pairwise.nil, World.ownsRow_nil _ _ _ _, fun A h => by simp at h, hb.trans (hB.mono hb.size), hb.size, ⟨by show w1.heap.size ≠ b; omega, by omega, fun g h => by simp [Value.ownBlock] at h⟩, fun g h => by simp [r0, Value.ownBlock] at h, fun g h => by simp [r0, Value.ownBlock] at h⟩
end Go.Proofs.Ytmggaclaoefdaaa

namespace Go.Proofs.Ytmggaclaoefdaaa
open Go.RowKit

theorem zero3 (w : World) : (zeroValue 3).run Try.prog w = .ok (.int .i64 0) w := by kernel_rfl
/-- Block k is a map that numbers those of a list, from 1 on. -/
def NumIs (w : World) (k : Nat) (s : List Int) : Prop := ∃ D : DataW Value, w.ownsMap Try.prog 3 heldR k s.length D ∧ Maps.IsMap D ∧ Maps.size D = s.length ∧ (s.Nodup ∧ ∀ i ∈ s, 0 < i ∧ i ≤ 1000000) ∧
  ∀ i : Int, 0 ≤ i → i ≤ 1000000 → Maps.has D (.int .i64 i) = decide (i ∈ s) ∧ (i ∈ s → ∀ z, D.atKey (.int .i64 i) z = .held (.int .i64 (num s i)))
theorem NumIs.lt {w : World} {k : Nat} {s : List Int} (h : NumIs w k s) : k < w.heap.size := by
  obtain ⟨D, h1, _⟩ := h
  exact h1.lt
theorem NumIs.kept {w w' : World} {k : Nat} {s : List Int} (h : NumIs w k s) (hb : w'.heap[k]? = w.heap[k]?) : NumIs w' k s := by
  obtain ⟨D, ⟨es, clock, h1, h2⟩, h3⟩ := h
  exact ⟨D, ⟨es, clock, hb.trans h1, h2⟩, h3⟩
theorem NumIs.made (w : World) : NumIs (w.alloc (.map #[] 0)) w.heap.size [] :=
  ⟨.map [], World.ownsMap_made w _ _ _, Maps.isMap_empty, rfl, ⟨List.nodup_nil, fun i h => by simp at h⟩, fun i _ _ => ⟨rfl, fun h => by simp at h⟩⟩
theorem NumIs.few {w : World} {k : Nat} {s : List Int} (h : NumIs w k s) : s.length < 10000000 := by
  obtain ⟨D, _, _, _, hnd, _⟩ := h
  have h1 : (s.map Int.toNat).Nodup := by
    rw [List.nodup_iff_pairwise_ne, List.pairwise_map]
    have h0 := List.nodup_iff_pairwise_ne.1 hnd.1
    exact h0.imp_of_mem (fun ha hb hab e => hab (by have := hnd.2 _ ha; have := hnd.2 _ hb; omega))
  have h2 : (s.map Int.toNat) ⊆ List.range 1000001 := fun x hx => by
    obtain ⟨i, hi, rfl⟩ := List.mem_map.1 hx
    have := hnd.2 i hi
    exact List.mem_range.2 (by omega)
  have h3 := List.Nodup.length_le_of_subset h1 h2
  rw [List.length_map, List.length_range] at h3
  omega
theorem NumIs.look {w : World} {k : Nat} {s : List Int} (h : NumIs w k s) {i : Int} (h0 : 0 ≤ i) (h1 : i ≤ 1000000) :
    (Instr.lookup 124 (.map (some k)) (.int .i64 i) false).run Try.prog w = .ok (.int .i64 (if i ∈ s then num s i else 0)) w := by
  obtain ⟨D, hD, hm, _, _, hs⟩ := h
  obtain ⟨hs1, hs2⟩ := hs i h0 h1
  obtain ⟨v, ps, hrun, hv⟩ := hD.lookup (t := 124) (e := 3) keyed3 Try.underlying124 (zero3 w) (zd := .held (.int .i64 0)) (zp := []) rfl (key3 h0 h1)
  have hv' : DataW.held v = D.atKey (.int .i64 i) (.held (.int .i64 0)) := congrArg Prod.fst (Option.some.inj hv)
  by_cases hi : i ∈ s
  · rw [hs2 hi] at hv'
    obtain rfl := DataW.held.inj hv'
    rw [if_pos hi]; exact hrun
  · rw [Maps.atKey_of_not_has (by rw [hs1]; simpa using hi)] at hv'
    obtain rfl := DataW.held.inj hv'
    rw [if_neg hi]; exact hrun
theorem num_snoc {s : List Int} {i : Int} (hi : i ∉ s) : num (s ++ [i]) i = (s.length : Int) + 1 := by
  unfold num
  rw [List.idxOf_append, if_neg hi]
  simp
theorem NumIs.add {w : World} {k : Nat} {s : List Int} (h : NumIs w k s) {i : Int} (hp : 0 < i) (h1 : i ≤ 1000000) (hi : i ∉ s) (hn : s.length < 10000000) :
    ∃ w', (Instr.mapUpdate 124 (.map (some k)) (.int .i64 i) (.int .i64 (1 + (s.length : Int)))).run Try.prog w = .ok () w' ∧ NumIs w' k (s ++ [i]) ∧ w.grownBy w' (some k) := by
  have h0 : 0 ≤ i := by omega
  obtain ⟨D, hD, hm, hz, hnd, hs⟩ := h
  obtain ⟨w', hrun, ho, hg⟩ := hD.update (t := 124) (e := 3) keyed3 Try.underlying124 (by unfold maxLen; omega) (key3 h0 h1) (val := .int .i64 (1 + (s.length : Int))) (d := .held (.int .i64 (1 + (s.length : Int)))) (ps := []) rfl
  refine ⟨w', hrun, ⟨_, by rw [List.length_append]; exact ho, hm.put _ _, ?_, ⟨?_, fun j hj => ?_⟩, fun j j0 j1 => ?_⟩, hg⟩
  · rw [Maps.size_put (hD.tidy keyed3), (hs i h0 h1).1, hz]
    simp [hi]
  · rw [List.nodup_append]
    exact ⟨hnd.1, by simp, fun a ha c hc => by rw [List.mem_singleton] at hc; subst hc; exact fun e => hi (e ▸ ha)⟩
  · rcases List.mem_append.1 hj with h | h
    · exact hnd.2 j h
    · rw [List.mem_singleton] at h; subst h; exact ⟨hp, h1⟩
  · by_cases e : j = i
    · subst e
      refine ⟨by rw [Maps.has_put_same hm (keyed3.key (key3 h0 h1))]; simp, fun _ z => ?_⟩
      rw [Maps.atKey_put_same hm (keyed3.key (key3 h0 h1)), num_snoc hi, Int.add_comm]
    · have hne : (Lit.int .i64 j) ≠ .int .i64 i := fun h => e (by injection h)
      obtain ⟨g1, g2⟩ := hs j j0 j1
      refine ⟨by rw [Maps.has_put_other hne, g1]; simp [e], fun hj z => ?_⟩
      have hj' : j ∈ s := by
        rcases List.mem_append.1 hj with h | h
        · exact h
        · rw [List.mem_singleton] at h; exact absurd h e
      rw [Maps.atKey_put_other hne, g2 hj' z, num_pre (List.prefix_append s [i]) hj']
theorem NumIs.len {w : World} {k : Nat} {s : List Int} (h : NumIs w k s) (ty : TypeId) : (Builtin.len_ #[124] ty #[.map (some k)]).run Try.prog w = .ok (.int .i64 (s.length : Int)) w := by
  obtain ⟨D, hD, _, hz, _, _⟩ := h
  have := hD.len (t := 124) (e := 3) Try.underlying124 ty
  rw [hz] at this
  exact this
end Go.Proofs.Ytmggaclaoefdaaa

namespace Go.Proofs.Ytmggaclaoefdaaa
open Go.RowKit

set_option maxRecDepth 100000 in
set_option maxHeartbeats 4000000 in
theorem found1_any {o k : Nat} {s : List Int} (v : Int) (w : World) (hI : w.heap[o]? = some (.cells #[.map (some k)] 124)) (hN : NumIs w k s) (hok : o ≠ k) (hp : 0 < v) (h1 : v ≤ 1000000) :
    Calls Try.prog 137 #[.int .i64 v, .pointer (some ⟨o, 0, none⟩)] w fun e w' => e = .returned (.int .i64 (num (addV s [v]) v)) ∧ NumIs w' k (addV s [v]) ∧ w.grownBy w' (some k) := by
  have h0 : 0 ≤ v := by omega
  have hs := hN.few
  have c0 : w.cell? ⟨o, 0, none⟩ = some (.map (some k)) := by simp [World.cell?, hI]
  have HN : Hid (NumIs w k s) := hN
  by_cases hv : v ∈ s
  · have hl := hN.look h0 h1
    rw [if_pos hv] at hl
    have hne : (num s v == 0) = false := beq_eq_false_iff_ne.2 (by unfold num; omega)
    have HA : Hid (addV s [v] = s) := by rw [Hid, addV_one, if_pos hv]
    clear hN hI hv
    go_enter Try.func137, Try.ntmps137
    go_wp2_with fail
    go_ret
    exact ⟨by rw [HA.out]; rfl, by rw [HA.out]; exact HN.out, G.refl _ _⟩
  · have hl := hN.look h0 h1
    rw [if_neg hv] at hl
    obtain ⟨w1, hup, hN1, hg1⟩ := hN.add hp h1 hv hs
    have hl1 := hN1.look h0 h1
    rw [if_pos (by simp)] at hl1
    have HN1 : Hid (NumIs w1 k (s ++ [v])) := hN1
    have HG1 : Hid (w.grownBy w1 (some k)) := hg1
    have c1 : w1.cell? ⟨o, 0, none⟩ = some (.map (some k)) := hg1.cell c0 (by simpa using hok)
    have HA : Hid (addV s [v] = s ++ [v]) := by rw [Hid, addV_one, if_neg hv]
    obtain ⟨D, hD, _, hz, _, _⟩ := hN
    have HD : Hid (w.ownsMap Try.prog 3 heldR k s.length D) := hD
    have hw : IntKind.i64.wrap (1 + (s.length : Int)) = 1 + (s.length : Int) := by simp [IntKind.wrap, IntKind.bits, IntKind.signed]; omega
    clear hI hv hN1 hg1 hD
    go_enter Try.func137, Try.ntmps137
    go_wp2_with (at_len; refine wpList_len_own _ rfl _ 124 rfl 3 3 Try.underlying124 heldR k s.length D rfl HD.out ?_; rw [hz])
    go_ret
    exact ⟨by rw [HA.out]; rfl, by rw [HA.out]; exact HN1.out, HG1.out⟩
end Go.Proofs.Ytmggaclaoefdaaa

namespace Go.Proofs.Ytmggaclaoefdaaa
open Go.RowKit

/-- A new term is handed back; blocks of M alone have turned. -/
def XQ (M : Nat → Prop) (w : World) (Q : Tm → World → Prop) (e : Ending) (w' : World) : Prop := ∃ X : Tm, e = .returned X.val ∧ Bw M w.heap.size w w' ∧ TIn w' X ∧ Above w.heap.size X ∧ Q X w'
set_option maxRecDepth 100000 in
set_option maxHeartbeats 2000000 in
theorem whole_gen {M : Nat → Prop} {Q : Tm → World → Prop} {b fn : Nat} {caps : Array Value} {T : Tm} (w : World) (hM : ∀ k, M k → k < w.heap.size) (hQ : ∀ X w1 w2, Q X w1 → Below w.heap.size w1 w2 → Q X w2)
    (hC : ∀ W, Below w.heap.size w W → W.heap[w.heap.size]? = some (.cells #[.pointer (some ⟨b, 0, none⟩)] 89) → W.heap[w.heap.size + 2]? = some (.cells #[.func (.func fn) #[] caps] 116) → Calls Try.prog 120 #[T.val, .func (.func 121) #[] #[.pointer (some ⟨w.heap.size, 0, none⟩), .pointer (some ⟨w.heap.size + 2, 0, none⟩)]] W (XQ M W Q)) :
    Calls Try.prog 97 #[.pointer (some ⟨b, 0, none⟩), T.val, .func (.func fn) #[] caps] w (XQ M w Q) := by
  have hmf : ∀ (fn : Fn) (first cap : Array Value) (w : World), (Instr.makeFunc fn first cap).run Try.prog w = .ok (.func fn first cap) w := fun _ _ _ _ => rfl
  have HM : Hid (∀ k, M k → k < w.heap.size) := hM
  have HQ : Hid (∀ X w1 w2, Q X w1 → Below w.heap.size w1 w2 → Q X w2) := hQ
  have HC : Hid (∀ W, Below w.heap.size w W → W.heap[w.heap.size]? = some (.cells #[.pointer (some ⟨b, 0, none⟩)] 89) → W.heap[w.heap.size + 2]? = some (.cells #[.func (.func fn) #[] caps] 116) → Calls Try.prog 120 #[.agg #[.int .i64 T.v, .string T.nm, .slice T.a T.len T.cap], .func (.func 121) #[] #[.pointer (some ⟨w.heap.size, 0, none⟩), .pointer (some ⟨w.heap.size + 2, 0, none⟩)]] W (XQ M W Q)) := hC
  clear hM hQ hC
  show Calls Try.prog 97 #[.pointer (some ⟨b, 0, none⟩), .agg #[.int .i64 T.v, .string T.nm, .slice T.a T.len T.cap], .func (.func fn) #[] caps] w _
  go_enter Try.func97, Try.ntmps97
  go_wp2_with fail
  obtain ⟨a0, a2, a3, aB⟩ := alloc4 w (.cells #[.pointer (some ⟨b, 0, none⟩)] 89) (.cells #[.int .i64 T.v, .string T.nm, .slice T.a T.len T.cap] 24) (.cells #[.func (.func fn) #[] caps] 116) (.cells #[.int .i64 0, .string ⟨#[]⟩, .slice none 0 0] 24)
  refine (HC.out _ aB a0 a2).mono ?_
  rintro e w1 ⟨X, rfl, hb1, hX1, hA1, hS1⟩
  have HX3 : Hid (w1.heap[w.heap.size + 3]? = some (.cells #[.int .i64 0, .string ⟨#[]⟩, .slice none 0 0] 24)) := (hb1.block _ (Array.getElem?_eq_some_iff.1 a3).1 (fun e => by have := HM.out _ e; omega)).trans a3
  have HB1 : Hid (Bw M w.heap.size w w1) := (Bw.ofBelow aB).trans (hb1.mono aB.size)
  have HX : Hid (TIn w1 X ∧ NB (w.heap.size + 3) X ∧ Above w.heap.size X ∧ Q X w1) := ⟨hX1, hA1.nb (Array.getElem?_eq_some_iff.1 a3).1, hA1.mono aB.size, hS1⟩
  clear hb1 hX1 hA1 hS1 a0 a2 a3 aB
  obtain ⟨x0, x1, x2, f0, f1, f2⟩ := block_cells HX3.out
  rw [show X.val = .agg #[.int .i64 X.v, .string X.nm, .slice X.a X.len X.cap] from rfl]
  go_wp2_with fail
  obtain ⟨W', hW, z0, z1, z2, hB', hgr⟩ := fin3b (r := w.heap.size + 3) (by omega) HX3.out HB1.out (.int .i64 X.v) (.string X.nm) (.slice X.a X.len X.cap)
  rw [hW]
  have hT' : TIn W' X := HX.out.1.grown hgr (fun k hk => by obtain rfl := Option.some.inj hk; exact HX.out.2.1)
  have hbb : Below w.heap.size w1 W' := (Below.refl _ _).grown hgr HB1.out.size (fun k hk => by have := Option.some.inj hk; omega)
  refine bodyPost_ret (v := X.val) ?_ rfl ⟨X, rfl, hB', hT', HX.out.2.2.1, HQ.out _ _ _ HX.out.2.2.2 hbb⟩
  simp [results, Try.results97, go_sem, z0, z1, z2, Tm.val]
end Go.Proofs.Ytmggaclaoefdaaa
