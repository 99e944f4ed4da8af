/- Each, with whatever function tells what variables are. Each of a name with arguments, with whatever function tells. -/
import Derived.Test.YtmggaclaoefdaaaGI
namespace Go.Proofs.Ytmggaclaoefdaaa
open Go.RowKit

/-- All blocks below B stand, but those of M. -/
structure Bw (M : Nat → Prop) (B : Nat) (w w' : World) : Prop where
  os : w'.os = w.os
  tape : w'.tape = w.tape
  output : w'.output = w.output
  size : w.heap.size ≤ w'.heap.size
  block : ∀ k, k < B → ¬ M k → w'.heap[k]? = w.heap[k]?
theorem Bw.ofBelow {M : Nat → Prop} {B : Nat} {w w' : World} (h : Below B w w') : Bw M B w w' := ⟨h.os, h.tape, h.output, h.size, fun k hk _ => h.block k hk⟩
theorem Bw.refl (M : Nat → Prop) (B : Nat) (w : World) : Bw M B w w := Bw.ofBelow (Below.refl _ _)
theorem Bw.trans {M : Nat → Prop} {B : Nat} {a b c : World} (h : Bw M B a b) (k : Bw M B b c) : Bw M B a c :=
  ⟨k.os.trans h.os, k.tape.trans h.tape, k.output.trans h.output, Nat.le_trans h.size k.size, fun i hi hm => (k.block i hi hm).trans (h.block i hi hm)⟩
theorem Bw.mono {M : Nat → Prop} {B B' : Nat} {w w' : World} (h : Bw M B w w') (hB : B' ≤ B) : Bw M B' w w' := ⟨h.os, h.tape, h.output, h.size, fun k hk hm => h.block k (Nat.lt_of_lt_of_le hk hB) hm⟩
theorem Bw.drew {M : Nat → Prop} {B : Nat} {a w : World} (h : Bw M B a w) : Bw M B a w.drew := ⟨h.os, h.tape, h.output, h.size, h.block⟩
theorem Bw.wide {M M' : Nat → Prop} {B : Nat} {w w' : World} (h : Bw M B w w') (hM : ∀ k, k < B → M k → M' k) : Bw M' B w w' := ⟨h.os, h.tape, h.output, h.size, fun k hk hm => h.block k hk (fun e => hm (hM k hk e))⟩
theorem Bw.cell {M : Nat → Prop} {B : Nat} {w w' : World} (h : Bw M B w w') {p : Addr} (hp : p.block < B) (hm : ¬ M p.block) : w'.cell? p = w.cell? p := World.cell?_of_block (w := w) (h.block p.block hp hm)
theorem Bw.frozen {M : Nat → Prop} {B : Nat} {w w' : World} (h : Bw M B w w') {p : Addr} (hp : p.block < B) (hm : ¬ M p.block) : w'.frozen? p = w.frozen? p := World.frozen?_of_block (w := w) (h.block p.block hp hm)
theorem Bw.grown {M : Nat → Prop} {B : Nat} {a w w' : World} {row : Option Nat} (h : Bw M B a w) (hg : w.grownBy w' row) (hB : B ≤ w.heap.size) (hr : ∀ k, row = some k → B ≤ k ∨ M k) : Bw M B a w' :=
  ⟨hg.os.trans h.os, hg.tape.trans h.tape, hg.output.trans h.output, Nat.le_trans h.size hg.size, fun k hk hm => (hg.block k (by omega) (fun e => by rcases hr k e.symm with h | h; (· omega); (· exact hm h))).trans (h.block k hk hm)⟩
/-- None of its arguments lies in a block of M. -/
def NM (M : Nat → Prop) : Tm → Prop
  | .nil => True
  | .mk _ _ a len _ f => (0 < len → ∃ b o, a = some ⟨b, o, none⟩ ∧ ¬ M b) ∧ ∀ i, i < len → NM M (f i)
theorem NM.kid {M : Nat → Prop} {T : Tm} (h : NM M T) {i : Nat} (hi : i < T.len) : NM M (T.f i) := by
  cases T with
  | nil => exact absurd hi (Nat.not_lt_zero i)
  | mk => exact h.2 i hi
theorem NM.root {M : Nat → Prop} {T : Tm} (h : NM M T) (h0 : 0 < T.len) : ∃ b o, T.a = some ⟨b, o, none⟩ ∧ ¬ M b := by
  cases T with
  | nil => exact absurd h0 (Nat.lt_irrefl 0)
  | mk => exact h.1 h0
theorem NM.nb {M : Nat → Prop} {T : Tm} (h : NM M T) {k : Nat} (hk : M k) : NB k T := by
  induction T with
  | nil => trivial
  | mk v nm a len cap f ih => exact ⟨fun h0 => let ⟨b, o, e, hb⟩ := h.1 h0; ⟨b, o, e, fun e => hb (e ▸ hk)⟩, fun i hi => ih i (h.2 i hi)⟩
theorem NM.anti {M M' : Nat → Prop} {w : World} {T : Tm} (h : NM M T) (hT : TIn w T) (hM : ∀ k, k < w.heap.size → M' k → M k) : NM M' T := by
  induction T with
  | nil => trivial
  | mk v nm a len cap f ih =>
    refine ⟨fun h0 => ?_, fun i hi => ih i (h.2 i hi) (hT.2.2 i hi).2⟩
    obtain ⟨b, o, e, hb⟩ := h.1 h0
    refine ⟨b, o, e, fun e' => hb (hM b ?_ e')⟩
    obtain ⟨b', o', e1, c0, _⟩ := (hT.2.2 0 h0).1
    rw [e] at e1
    cases e1
    exact lt_of_cell c0
theorem NM.old {M : Nat → Prop} {w : World} {T : Tm} (hT : TIn w T) (hM : ∀ k, M k → w.heap.size ≤ k) : NM M T := by
  induction T with
  | nil => trivial
  | mk v nm a len cap f ih =>
    refine ⟨fun h0 => ?_, fun i hi => ih i (hT.2.2 i hi).2⟩
    obtain ⟨b', o', e1, c0, _⟩ := (hT.2.2 0 h0).1
    exact ⟨b', o', e1, fun h => by have h1 : b' < w.heap.size := lt_of_cell c0; have := hM b' h; omega⟩
theorem Above.nm {M : Nat → Prop} {lo : Nat} {T : Tm} (h : Above lo T) (hM : ∀ k, M k → k < lo) : NM M T := by
  induction T with
  | nil => trivial
  | mk v nm a len cap f ih => exact ⟨fun h0 => let ⟨b, o, e, hb⟩ := h.1 h0; ⟨b, o, e, fun e' => by have := hM b e'; omega⟩, fun i hi => ih i (h.2 i hi)⟩
theorem TIn.bw {M : Nat → Prop} {B : Nat} {w w' : World} {T : Tm} (h : TIn w T) (hb : Bw M B w w') (hB : w.heap.size ≤ B) (hm : NM M T) : TIn w' T := by
  induction T with
  | nil => exact h
  | mk v nm a len cap f ih =>
    refine ⟨h.1, h.2.1, fun i hi => ⟨?_, ih i (h.2.2 i hi).2 (hm.2 i hi)⟩⟩
    obtain ⟨b, o, e, c0, c1, c2⟩ := (h.2.2 i hi).1
    obtain ⟨b', o', e', hb'⟩ := hm.1 (by omega)
    rw [e] at e'
    cases e'
    have hl : b < w.heap.size := lt_of_cell c0
    have hx : w'.heap[b]? = w.heap[b]? := hb.block b (by omega) hb'
    exact ⟨b, o, e, (World.cell?_of_block hx).trans c0, (World.cell?_of_block hx).trans c1, (World.cell?_of_block hx).trans c2⟩
theorem fin3b {M : Nat → Prop} {w W : World} {r : Nat} {x y z : Value} (hr : w.heap.size ≤ r) (hX : W.heap[r]? = some (.cells #[x, y, z] 24)) (hB : Bw M w.heap.size w W) (a c d : Value) :
    ∃ W', ((W.setCell ⟨r, 0, none⟩ a).setCell ⟨r, 1, none⟩ c).setCell ⟨r, 2, none⟩ d = W' ∧ W'.cell? ⟨r, 0, none⟩ = some a ∧ W'.cell? ⟨r, 1, none⟩ = some c ∧ W'.cell? ⟨r, 2, none⟩ = some d ∧ Bw M w.heap.size w W' ∧ W.grownBy W' (some r) := by
  have h3 : W.grownBy (((W.setCell ⟨r, 0, none⟩ a).setCell ⟨r, 1, none⟩ c).setCell ⟨r, 2, none⟩ d) (some r) := G.trans (G.trans (grown_set r 0 a) (grown_set r 1 c)) (grown_set r 2 d)
  have hc := set3 (a := a) (b := c) (c := d) hX
  exact ⟨_, rfl, by simp [World.cell?, hc], by simp [World.cell?, hc], by simp [World.cell?, hc], hB.grown h3 hB.size (fun k hk => by have := Option.some.inj hk; exact .inl (by omega)), h3⟩

theorem Sim.refl (T : Tm) : Sim T T := by
  induction T with
  | nil => exact ⟨rfl, rfl, rfl⟩
  | mk v nm a len cap f ih => exact ⟨rfl, rfl, rfl, fun i _ => ih i⟩
/-- A function that tells what variables are: what it keeps, how that goes on, what it says. -/
structure Tell where
  S : Type
  I : S → World → Prop
  nx : S → Int → S
  le : S → S → Prop
  O : S → Int → Tm
  M : Nat → Prop
  B : Nat
structure TellOk (t : Tell) : Prop where
  refl : ∀ s, t.le s s
  trans : ∀ s s' s'', t.le s s' → t.le s' s'' → t.le s s''
  nx : ∀ s v, t.le s (t.nx s v)
  keep : ∀ s w w', t.I s w → Below t.B w w' → t.I s w'
  lt : ∀ k, t.M k → k < t.B
def tl (t : Tell) (s : t.S) (l : List Int) : t.S := l.foldl t.nx s
theorem tl_le {t : Tell} (h : TellOk t) (l : List Int) : ∀ s, t.le s (tl t s l) := by
  induction l with
  | nil => intro s; exact h.refl s
  | cons v l ih => intro s; exact h.trans _ _ _ (h.nx s v) (ih _)
theorem tl_append (t : Tell) (s : t.S) (l m : List Int) : tl t s (l ++ m) = tl t (tl t s l) m := by unfold tl; rw [List.foldl_append]
def XP (t : Tell) (w : World) (s' : t.S) (Q : t.S → Tm) (e : Ending) (w' : World) : Prop := ∃ X : Tm, e = .returned X.val ∧ Bw t.M w.heap.size w w' ∧ t.I s' w' ∧ TIn w' X ∧ Above w.heap.size X ∧ ∀ s'', t.le s' s'' → can X = Q s''
def TC (t : Tell) (g : Nat) (caps : Array Value) (v : Int) : Prop := ∀ (s : t.S) (w : World), t.B ≤ w.heap.size → t.I s w → Calls Try.prog g (#[.int .i64 v] ++ caps) w (XP t w (t.nx s v) (fun s' => t.O s' v))
def EG (t : Tell) (g : Nat) (caps : Array Value) (T : Tm) : Prop := ∀ (s : t.S) (w : World), t.B ≤ w.heap.size → t.I s w → TIn w T → NM t.M T → Calls Try.prog 120 #[T.val, .func (.func g) #[] caps] w (XP t w (tl t s (vsT T)) (fun s' => ap (t.O s') T))
theorem XP.rebase {t : Tell} {w W : World} {s' : t.S} {Q : t.S → Tm} {e : Ending} {w' : World} (hW : Below w.heap.size w W) (h : XP t W s' Q e w') : XP t w s' Q e w' := by
  obtain ⟨X, h1, h2, h3, h4, h5, h6⟩ := h
  exact ⟨X, h1, (Bw.ofBelow hW).trans (h2.mono hW.size), h3, h4, h5.mono hW.size, h6⟩

/-- A function that is entered where it is called. -/
def Ent (g : Nat) : Prop := ∀ (args : Array Value) (w : World), (callFunc g args).run Try.prog w = .ok (.enter g args) w
theorem ent_of {g : Nat} {fn : Func} {c : Code} (hf : Try.prog.funcs[g]? = some fn) (hname : (fn.name == "runtime.NumGoroutine") = false) (hb : fn.body = some c) : Ent g := fun args w => by
  have h1 : fn.name ≠ "runtime.NumGoroutine" := by simpa using hname
  simp [callFunc, hf, h1, hb]

set_option maxRecDepth 100000 in
set_option maxHeartbeats 2000000 in
theorem each_tell {t : Tell} (ht : TellOk t) {g : Nat} (hE : Ent g) {caps : Array Value} {T : Tm} (hv : T.v ≠ 0) (hC : TC t g caps T.v) : EG t g caps T := by
  intro s w hB hI hT hM
  have HO : Hid (TellOk t) := ht
  have HC : Hid (∀ W, Below w.heap.size w W → Calls Try.prog g (#[.int .i64 T.v] ++ caps) W (XP t W (t.nx s T.v) (fun s' => t.O s' T.v))) := fun W hW => hC s W (Nat.le_trans hB hW.size) (ht.keep _ _ _ hI (hW.mono hB))
  have HV : Hid (tl t s (vsT T) = t.nx s T.v) := by
    cases T with
    | nil => exact absurd rfl hv
    | mk v nm a len cap f =>
      have hv : ¬ v = 0 := hv
      rw [Hid, vsT, if_neg hv]; rfl
  have HAp : Hid (∀ s', ap (t.O s') T = t.O s' T.v) := fun s' => ap_var _ hv
  have hvb : (T.v != 0) = true := bne_iff_ne.2 hv
  clear hv hC hI hT hM
  show Calls Try.prog 120 #[.agg #[.int .i64 T.v, .string T.nm, .slice T.a T.len T.cap], .func (.func g) #[] caps] w _
  go_enter Try.func120, Try.ntmps120
  go_wp2_with fail
  rw [hE]
  show Calls Try.prog g _ _ _
  refine (HC.out _ (((Below.refl _ _).alloc (Nat.le_refl _) _).alloc (by simp) _)).mono ?_
  rintro e w1 ⟨X, rfl, hb1, hI1, hX1, hA1, hS1⟩
  have HBA : Hid (Below w.heap.size w ((w.alloc (.cells #[.int .i64 T.v, .string T.nm, .slice T.a T.len T.cap] 24)).alloc (.cells #[.int .i64 0, .string ⟨#[]⟩, .slice none 0 0] 24))) := ((Below.refl _ _).alloc (Nat.le_refl _) _).alloc (by simp) _
  have hsz : w.heap.size + 1 < ((w.alloc (.cells #[.int .i64 T.v, .string T.nm, .slice T.a T.len T.cap] 24)).alloc (.cells #[.int .i64 0, .string ⟨#[]⟩, .slice none 0 0] 24)).heap.size := by simp
  have HX3 : Hid (w1.heap[w.heap.size + 1]? = some (.cells #[.int .i64 0, .string ⟨#[]⟩, .slice none 0 0] 24)) := by
    refine (hb1.block _ hsz (fun e => by have := HO.out.lt _ e; omega)).trans ?_
    have := heap_alloc_new (w.alloc (.cells #[.int .i64 T.v, .string T.nm, .slice T.a T.len T.cap] 24)) (.cells #[.int .i64 0, .string ⟨#[]⟩, .slice none 0 0] 24)
    rwa [show (w.alloc (.cells #[.int .i64 T.v, .string T.nm, .slice T.a T.len T.cap] 24)).heap.size = w.heap.size + 1 from by simp] at this
  have HB1 : Hid (Bw t.M w.heap.size w w1) := (Bw.ofBelow HBA.out).trans (hb1.mono HBA.out.size)
  have HXX : Hid (TIn w1 X ∧ NB (w.heap.size + 1) X ∧ Above w.heap.size X ∧ t.I (t.nx s T.v) w1 ∧ ∀ s'', t.le (t.nx s T.v) s'' → can X = t.O s'' T.v) := ⟨hX1, hA1.nb hsz, hA1.mono HBA.out.size, hI1, hS1⟩
  clear hb1 hX1 hA1 hS1 hI1
  obtain ⟨x0, x1, x2, f0, f1, f2⟩ := block_cells HX3.out
  rw [show X.val = .agg #[.int .i64 X.v, .string X.nm, .slice X.a X.len X.cap] from rfl]
  go_wp2_with fail
  obtain ⟨W', hW', z0, z1, z2, hB', hgr⟩ := fin3b (r := w.heap.size + 1) (by omega) HX3.out HB1.out (.int .i64 X.v) (.string X.nm) (.slice X.a X.len X.cap)
  rw [hW']
  have hT' : TIn W' X := HXX.out.1.grown hgr (fun k hk => by obtain rfl := Option.some.inj hk; exact HXX.out.2.1)
  have hBB : Below t.B w1 W' := (Below.refl _ _).grown hgr (by have := HB1.out.size; omega) (fun k hk => by have := Option.some.inj hk; omega)
  refine bodyPost_ret (v := X.val) ?_ rfl ⟨X, rfl, hB', by rw [HV.out]; exact HO.out.keep _ _ _ HXX.out.2.2.2.1 hBB, hT', HXX.out.2.2.1, fun s'' h => by show can X = ap (t.O s'') T; rw [HAp.out]; exact HXX.out.2.2.2.2 s'' (by rw [← HV.out]; exact h)⟩
  simp [results, Try.results120, go_sem, z0, z1, z2, Tm.val]
end Go.Proofs.Ytmggaclaoefdaaa

namespace Go.Proofs.Ytmggaclaoefdaaa
open Go.RowKit

theorem LstR.bw {M : Nat → Prop} {lo : Nat} {w w' : World} {v : Value} {ts us : List Tm} (h : LstR lo w v ts us) (hb : Bw M w.heap.size w w') (hM : ∀ k, M k → k < lo) : LstR lo w' v ts us := by
  refine ⟨⟨h.own.1, ?_⟩, fun T hT => ⟨(h.all T hT).1.bw hb (Nat.le_refl _) ((h.all T hT).2.1.nm hM), (h.all T hT).2⟩, h.len, h.sim⟩
  rcases h.own.2 with hn | ⟨g, cap, cur, rfl, hb', hg, rest⟩
  · exact .inl hn
  · exact .inr ⟨g, cap, cur, rfl, hb', (hb.block g (Array.getElem?_eq_some_iff.1 hg).1 (fun e => by have := hM g e; omega)).trans hg, rest⟩
def upV (T : Tm) (j : Nat) : List Int := ((List.range j).map fun i => vsT (T.f i)).flatten
theorem upV_succ (T : Tm) (j : Nat) : upV T (j + 1) = upV T j ++ vsT (T.f j) := by
  unfold upV; rw [List.range_succ, List.map_append, List.flatten_append]; simp
theorem vsT_fn {T : Tm} (h : T.v = 0) : vsT T = upV T T.len := by
  cases T with
  | nil => rfl
  | mk v nm a len cap f =>
    have h : v = 0 := h
    rw [vsT, if_pos h]; rfl

set_option maxRecDepth 100000 in
set_option maxHeartbeats 4000000 in
theorem each_args {t : Tell} (ht : TellOk t) {g : Nat} {caps : Array Value} {T : Tm} (hv : T.v = 0) (h4 : T.len ≤ 4) (hk : ∀ i, i < T.len → EG t g caps (T.f i)) : EG t g caps T := by
  intro s w hB0 hI hT hM
  have HO : Hid (TellOk t) := ht
  have HC : Hid (∀ i, i < T.len → ∀ (s : t.S) (W : World), Bw t.M w.heap.size w W → t.I s W → Calls Try.prog 120 #[.agg #[.int .i64 (T.f i).v, .string (T.f i).nm, .slice (T.f i).a (T.f i).len (T.f i).cap], .func (.func g) #[] caps] W (XP t W (tl t s (vsT (T.f i))) (fun s' => ap (t.O s') (T.f i)))) := fun i hi s W hW hIW =>
    hk i hi s W (Nat.le_trans hB0 hW.size) hIW ((hT.kid hi).bw hW (Nat.le_refl _) (hM.kid hi)) (hM.kid hi)
  have HKid : Hid (∀ i, i < T.len → ∀ W, Bw t.M w.heap.size w W → RowAt W T.a i (T.f i)) := fun i hi W hW => by
    obtain ⟨b, o, e, c0, c1, c2⟩ := hT.row hi
    obtain ⟨b', o', e', hb'⟩ := hM.root (by omega)
    rw [e] at e'
    cases e'
    have hl : b < w.heap.size := lt_of_cell c0
    have hx : W.heap[b]? = w.heap[b]? := hW.block b hl hb'
    exact ⟨b, o, e, (World.cell?_of_block hx).trans c0, (World.cell?_of_block hx).trans c1, (World.cell?_of_block hx).trans c2⟩
  have HV : Hid (vsT T = upV T T.len) := vsT_fn hv
  have HAp : Hid (∀ s', ap (t.O s') T = .mk 0 T.nm none T.len 0 (fun i => if i < T.len then ap (t.O s') (T.f i) else .nil)) := fun s' => ap_fn _ hv
  have HI0 : Hid (∀ W, Below t.B w W → t.I s W) := fun W hW => ht.keep _ _ _ hI hW
  have hlen : T.len ≤ 2 ^ 63 - 1 := hT.len
  have hnm := hT.name
  have hvb : (T.v != 0) = false := by rw [hv]; rfl
  obtain ⟨i0, hi, hz0, hz1, hz2⟩ := info_parts Try.info24
  clear hk hT hM hI hv
  generalize hua : T.a = ua at *
  show Calls Try.prog 120 #[.agg #[.int .i64 T.v, .string T.nm, .slice T.a T.len T.cap], .func (.func g) #[] caps] w _
  rw [hua]
  go_enter Try.func120, Try.ntmps120
  go_wp2_with fail
  obtain ⟨a1, a2, aB⟩ := alloc3 w (.cells #[.int .i64 T.v, .string T.nm, .slice ua T.len T.cap] 24) (.cells #[.int .i64 0, .string ⟨#[]⟩, .slice none 0 0] 24) (.cells #[.int .i64 0, .string T.nm, .slice none 0 0] 24)
  go_loopw [21] (fun i wr => ∃ (j : Nat) (ts : List Tm) (v : Value), j ≤ T.len ∧ i = .int .i64 j ∧ LstR (w.heap.size + 3) wr v ts ts ∧ ts.length = j ∧ wr.heap[w.heap.size + 2]? = some (.cells #[.int .i64 0, .string T.nm, v] 24) ∧ wr.heap[w.heap.size + 1]? = some (.cells #[.int .i64 0, .string ⟨#[]⟩, .slice none 0 0] 24) ∧ w.heap.size + 3 ≤ wr.heap.size ∧ Bw t.M w.heap.size w wr ∧ t.I (tl t s (upV T j)) wr ∧ (∀ i, i < j → ∀ s'', t.le (tl t s (upV T j)) s'' → can (ts.getD i .nil) = ap (t.O s'') (T.f i))) (fun i _ => T.len - (intOf i).toNat)
  case atStart => exact ⟨0, [], _, Nat.zero_le _, rfl, ⟨World.ownsRow_nil _ _ _ _, fun c hc => absurd hc (by simp), rfl, fun i hi => absurd hi (Nat.not_lt_zero i)⟩, rfl, a2, a1, by simp, Bw.ofBelow aB, HI0.out _ (aB.mono hB0), fun i hi => absurd hi (Nat.not_lt_zero i)⟩
  case round =>
    clear a1 a2 aB
    obtain ⟨j, ts, v, hj, rfl, hL, hTL, hC2, hZ1, hsz, hB, hIj, hVal⟩ := hrel
    have HL : Hid (LstR (w.heap.size + 3) wr v ts ts) := hL
    have HC2 : Hid (wr.heap[w.heap.size + 2]? = some (.cells #[.int .i64 0, .string T.nm, v] 24)) := hC2
    have HZ1 : Hid (wr.heap[w.heap.size + 1]? = some (.cells #[.int .i64 0, .string ⟨#[]⟩, .slice none 0 0] 24)) := hZ1
    have HB : Hid (Bw t.M w.heap.size w wr) := hB
    have HIj : Hid (t.I (tl t s (upV T j)) wr) := hIj
    have HVal : Hid (∀ i, i < j → ∀ s'', t.le (tl t s (upV T j)) s'' → can (ts.getD i .nil) = ap (t.O s'') (T.f i)) := hVal
    have HTL : Hid (ts.length = j) := hTL
    have hts4 : ts.length ≤ 4 := by omega
    have HML : Hid (∀ k, t.M k → k < w.heap.size) := fun k hk => Nat.lt_of_lt_of_le (HO.out.lt k hk) hB0
    clear hL hC2 hZ1 hB hTL hIj hVal
    by_cases hlt : j < T.len
    case neg =>
      have hje : j = T.len := by omega
      obtain ⟨Q, hvQ, hQ, hQA, hQS⟩ := HL.out.terms
      have hQl : Q.len = T.len := by rw [hQS.1, HTL.out, hje]
      have HQ : Hid (TIn wr Q ∧ Above (w.heap.size + 3) Q ∧ Q.len = T.len ∧ ∀ i, i < T.len → can (Q.f i) = can (ts.getD i .nil)) := ⟨hQ, hQA, hQl, fun i hi => sim_can (hQS.2 i (by omega))⟩
      have HIe : Hid (t.I (tl t s (vsT T)) wr) := by rw [Hid, HV.out, ← hje]; exact HIj.out
      have HVe : Hid (∀ i, i < T.len → ∀ s'', t.le (tl t s (vsT T)) s'' → can (ts.getD i .nil) = ap (t.O s'') (T.f i)) := fun i hi s'' h => HVal.out i (by omega) s'' (by rw [hje, ← HV.out]; exact h)
      subst hvQ
      clear hQ hQA hQS hje hQl
      obtain ⟨c0, c1, c2, _, _, _⟩ := block_cells HC2.out
      obtain ⟨y0, y1, y2, f0, f1, f2⟩ := block_cells HZ1.out
      go_wp2_with fail
      obtain ⟨W', hW', z0, z1, z2, hB', hgr⟩ := fin3b (r := w.heap.size + 1) (by omega) HZ1.out HB.out (.int .i64 0) (.string T.nm) (.slice Q.a Q.len Q.cap)
      rw [hW']
      have hT' : TIn W' Q := HQ.out.1.grown hgr (fun k hk => by obtain rfl := Option.some.inj hk; exact HQ.out.2.1.nb (by omega))
      have hBB : Below t.B wr W' := (Below.refl _ _).grown hgr (by omega) (fun k hk => by have := Option.some.inj hk; omega)
      refine bodyPost_ret (v := Tm.val (.mk 0 T.nm Q.a Q.len Q.cap Q.f)) ?_ rfl ⟨.mk 0 T.nm Q.a Q.len Q.cap Q.f, rfl, hB', HO.out.keep _ _ _ HIe.out hBB, hT'.retop hnm, (HQ.out.2.1.mono (by omega)).retop, fun s'' h => ?_⟩
      · simp [results, Try.results120, go_sem, z0, z1, z2, Tm.val, Tm.v, Tm.nm, Tm.a, Tm.len, Tm.cap]
      · show can (Tm.mk 0 T.nm Q.a Q.len Q.cap Q.f) = ap (t.O s'') T
        rw [HAp.out]
        show Tm.mk 0 T.nm none Q.len 0 (fun i => if i < Q.len then can (Q.f i) else .nil) = _
        rw [HQ.out.2.2.1]
        congr 1
        funext i
        by_cases hi : i < T.len
        · rw [if_pos hi, if_pos hi, HQ.out.2.2.2 i hi]; exact HVe.out i hi s'' h
        · rw [if_neg hi, if_neg hi]
    have hr := HKid.out j hlt wr HB.out
    obtain ⟨bb, o, ha, c0, c1, c2⟩ := hr
    subst ha
    have HBe : Hid (Below wr.heap.size wr (wr.alloc (.cells #[.int .i64 (T.f j).v, .string (T.f j).nm, .slice (T.f j).a (T.f j).len (T.f j).cap] 24))) := (Below.refl _ _).alloc (Nat.le_refl _) _
    have HBa : Hid (Bw t.M w.heap.size w (wr.alloc (.cells #[.int .i64 (T.f j).v, .string (T.f j).nm, .slice (T.f j).a (T.f j).len (T.f j).cap] 24))) := HB.out.trans (Bw.ofBelow (HBe.out.mono HB.out.size))
    have HAa : Hid ((wr.alloc (.cells #[.int .i64 (T.f j).v, .string (T.f j).nm, .slice (T.f j).a (T.f j).len (T.f j).cap] 24)).heap[wr.heap.size]? = some (.cells #[.int .i64 (T.f j).v, .string (T.f j).nm, .slice (T.f j).a (T.f j).len (T.f j).cap] 24)) := heap_alloc_new wr _
    have HIa : Hid (t.I (tl t s (upV T j)) (wr.alloc (.cells #[.int .i64 (T.f j).v, .string (T.f j).nm, .slice (T.f j).a (T.f j).len (T.f j).cap] 24))) := HO.out.keep _ _ _ HIj.out (HBe.out.mono (by omega))
    go_wp2_with fail
    generalize wr.alloc (.cells #[.int .i64 (T.f j).v, .string (T.f j).nm, .slice (T.f j).a (T.f j).len (T.f j).cap] 24) = wa at *
    obtain ⟨d0, d1, d2, k0, k1, k2⟩ := block_cells ((HBe.out.block _ (by omega)).trans HC2.out)
    obtain ⟨e0, e1, e2, _, _, _⟩ := block_cells HAa.out
    have hwa : wr.heap.size < wa.heap.size := lt_of_cell e0
    have tok1 : True := trivial
    go_region_law (first
      | (have _t := tok1
         go_simp
         go_at_call 120
         refine (HC.out j hlt _ _ (by first | exact HBa.out | exact HBa.out.drew | exact HBa.out.drew.drew | exact HBa.out.drew.drew.drew) (by first | exact HIa.out | exact HO.out.keep _ _ _ HIa.out (Below.refl _ _).drew | exact HO.out.keep _ _ _ HIa.out (Below.refl _ _).drew.drew | exact HO.out.keep _ _ _ HIa.out (Below.refl _ _).drew.drew.drew)).mono ?_
         rintro e w5 ⟨X, rfl, hb5, hI5, hX5, hA5, hS5⟩
         have HB5 : Hid (Bw t.M wa.heap.size wa w5) := Bw.trans (Bw.ofBelow (by repeat (first | exact Below.refl _ _ | refine Below.drew ?_))) (hb5.mono (Nat.le_refl _))
         have HX5 : Hid (TIn w5 X ∧ Above wa.heap.size X ∧ t.I (tl t s (upV T (j + 1))) w5 ∧ ∀ s'', t.le (tl t s (upV T (j + 1))) s'' → can X = ap (t.O s'') (T.f j)) := ⟨hX5, hA5, by rw [upV_succ, tl_append]; exact hI5, fun s'' h => hS5 s'' (by rw [← tl_append, ← upV_succ]; exact h)⟩
         have g2 : w5.cell? ⟨w.heap.size + 2, 2, none⟩ = some v := (HB5.out.cell (p := ⟨w.heap.size + 2, 2, none⟩) (by show w.heap.size + 2 < wa.heap.size; omega) (fun e => by have h : w.heap.size + 2 < w.heap.size := HML.out _ e; omega)).trans d2
         have gf2 : w5.frozen? ⟨w.heap.size + 2, 2, none⟩ = false := (HB5.out.frozen (p := ⟨w.heap.size + 2, 2, none⟩) (by show w.heap.size + 2 < wa.heap.size; omega) (fun e => by have h : w.heap.size + 2 < w.heap.size := HML.out _ e; omega)).trans k2
         have HL5 : Hid (LstR (w.heap.size + 3) (w5.alloc (.cells #[.int .i64 X.v, .string X.nm, .slice X.a X.len X.cap] 24)) v ts ts) := ((HL.out.keep HBe.out).bw HB5.out (fun k hk => by have := HML.out k hk; omega)).keep ((Below.refl _ _).alloc (Nat.le_refl _) _)
         rw [show X.val = .agg #[.int .i64 X.v, .string X.nm, .slice X.a X.len X.cap] from rfl]
         have g2b : (w5.alloc (.cells #[.int .i64 X.v, .string X.nm, .slice X.a X.len X.cap] 24)).cell? ⟨w.heap.size + 2, 2, none⟩ = some v := (((Below.refl _ w5).alloc (Nat.le_refl _) (.cells #[.int .i64 X.v, .string X.nm, .slice X.a X.len X.cap] 24)).cell (p := ⟨w.heap.size + 2, 2, none⟩) (lt_of_cell g2)).trans g2
         clear hb5 hX5 hA5 hS5 hI5 tok1)
      | (refine step_append_own_at rfl (.tmp 26) (.tmp 30) 22 rfl (w.heap.size + 3) 24 i0 (.agg #[.int .i64 0, .string ByteArray.empty, .slice none 0 0]) 3 48 Try.underlying22 hi hz0 hz1 hz2 rfl (by decide) v ts.length (flat ts) (by simp [Act.eval]) HL5.out.own ⟨w5.heap.size, 0, none⟩ 1 1 (flat [X]) (by simp [Act.eval]) rfl (news1 w5 X) (flat_one _) (by unfold maxLen; omega) (by omega) (by have := HB5.out.size; simp; omega) (by omega) ?_
         intro g cap' w6 hown6 hg6 hat6
         have HO6 : Hid (w6.ownsRow (w.heap.size + 3) 24 3 (.slice (some ⟨g, 0, none⟩) (ts.length + 1) cap') (ts.length + 1) (flat ts ++ flat [X])) := hown6
         have HG6 : Hid ((w5.alloc (.cells #[.int .i64 X.v, .string X.nm, .slice X.a X.len X.cap] 24)).grownBy w6 v.ownBlock) := hg6
         have HA6 : Hid (some g = v.ownBlock ∨ g = (w5.alloc (.cells #[.int .i64 X.v, .string X.nm, .slice X.a X.len X.cap] 24)).heap.size) := hat6
         have hne6 : some (w.heap.size + 2) ≠ v.ownBlock := fun e => by have := (HL.out.own.lt _ e.symm).1; omega
         have q2 : w6.cell? ⟨w.heap.size + 2, 2, none⟩ = some v := hg6.cell ((((Below.refl _ w5).alloc (Nat.le_refl _) (.cells #[.int .i64 X.v, .string X.nm, .slice X.a X.len X.cap] 24)).cell (p := ⟨w.heap.size + 2, 2, none⟩) (lt_of_cell g2)).trans g2) hne6
         have qf2 : w6.frozen? ⟨w.heap.size + 2, 2, none⟩ = false := (World.frozen?_of_block (hg6.block _ (by have := lt_of_cell g2; simp; have h : w.heap.size + 2 < w5.heap.size := this; omega) hne6)).trans ((((Below.refl _ w5).alloc (Nat.le_refl _) (.cells #[.int .i64 X.v, .string X.nm, .slice X.a X.len X.cap] 24)).frozen (p := ⟨w.heap.size + 2, 2, none⟩) (lt_of_cell g2)).trans gf2)
         clear hown6 hg6 hat6))
    all_goals
      have hgs := grown_set (W := w6) (w.heap.size + 2) 2 (.slice (some ⟨g, 0, none⟩) (ts.length + 1) cap')
      have hwr5 : Bw t.M wr.heap.size wr w5 := (Bw.ofBelow HBe.out).trans (HB5.out.mono (Nat.le_of_lt hwa))
      have hB6 : Bw t.M w.heap.size w w6 := ((HB.out.trans (hwr5.mono HB.out.size)).trans (Bw.ofBelow ((Below.refl _ _).alloc (by have := hwr5.size; omega) _))).grown HG6.out (by have := hwr5.size; simp; omega) (fun q hq => by have := (HL.out.own.lt q hq).1; exact .inl (by omega))
      have HBF : Hid (Bw t.M w.heap.size w (w6.setCell ⟨w.heap.size + 2, 2, none⟩ (.slice (some ⟨g, 0, none⟩) (ts.length + 1) cap'))) := hB6.grown hgs (by have := hwr5.size; have := HG6.out.size; simp at this; omega) (fun q hq => by have := Option.some.inj hq; exact .inl (by omega))
      have HIF : Hid (t.I (tl t s (upV T (j + 1))) (w6.setCell ⟨w.heap.size + 2, 2, none⟩ (.slice (some ⟨g, 0, none⟩) (ts.length + 1) cap'))) := HO.out.keep _ _ _ HX5.out.2.2.1 ((((Below.refl t.B w5).alloc (by have := hwr5.size; omega) _).grown HG6.out (by have := hwr5.size; simp; omega) (fun q hq => by have := (HL.out.own.lt q hq).1; omega)).grown hgs (by have := hwr5.size; have := HG6.out.size; simp at this; omega) (fun q hq => by have := Option.some.inj hq; omega))
      have hL6 : LstR (w.heap.size + 3) w6 (.slice (some ⟨g, 0, none⟩) (ts.length + 1) cap') (ts ++ [X]) (ts ++ [X]) := HL5.out.more (HX5.out.1.below ((Below.refl _ _).alloc (Nat.le_refl _) _)) (HX5.out.2.1.mono (by omega)) (fun q hq => HX5.out.2.1.nb (by have := (HL.out.own.lt q hq).2; omega)) (Sim.refl X) HO6.out HG6.out (by
        rcases HA6.out with e | e
        · exact .inl e
        · exact .inr (by rw [e]; rfl))
      have HLF : Hid (LstR (w.heap.size + 3) (w6.setCell ⟨w.heap.size + 2, 2, none⟩ (.slice (some ⟨g, 0, none⟩) (ts.length + 1) cap')) (.slice (some ⟨g, 0, none⟩) (ts.length + 1) cap') (ts ++ [X]) (ts ++ [X])) := by
        refine ⟨hL6.own.kept hgs (.inr (fun e => by have h1 := (hL6.own.lt g rfl).1; have h2 : g = w.heap.size + 2 := Option.some.inj e; omega)), fun U hU => ?_, hL6.len, hL6.sim⟩
        obtain ⟨h1, h2, h3⟩ := hL6.all U hU
        exact ⟨h1.grown hgs (fun q hq => by obtain rfl := Option.some.inj hq; exact h2.nb (by omega)), h2, h3⟩
      have hne6 : some (w.heap.size + 2) ≠ v.ownBlock := fun e => by have := (HL.out.own.lt _ e.symm).1; omega
      have hne7 : some (w.heap.size + 1) ≠ v.ownBlock := fun e => by have := (HL.out.own.lt _ e.symm).1; omega
      have h56 : ∀ q, q < wr.heap.size → some q ≠ v.ownBlock → ¬ t.M q → w6.heap[q]? = wr.heap[q]? := fun q hq hn hm => (HG6.out.block q (by have := hwr5.size; simp; omega) hn).trans ((heap_alloc_old _ _ (by have := hwr5.size; omega)).trans (hwr5.block q hq hm))
      have HCF : Hid ((w6.setCell ⟨w.heap.size + 2, 2, none⟩ (.slice (some ⟨g, 0, none⟩) (ts.length + 1) cap')).heap[w.heap.size + 2]? = some (.cells #[.int .i64 0, .string T.nm, .slice (some ⟨g, 0, none⟩) (ts.length + 1) cap'] 24)) := setL ((h56 _ (by omega) hne6 (fun e => by have := HML.out _ e; omega)).trans HC2.out)
      have HZF : Hid ((w6.setCell ⟨w.heap.size + 2, 2, none⟩ (.slice (some ⟨g, 0, none⟩) (ts.length + 1) cap')).heap[w.heap.size + 1]? = some (.cells #[.int .i64 0, .string ⟨#[]⟩, .slice none 0 0] 24)) := (hgs.block _ (by have := hwr5.size; have := HG6.out.size; simp at this; omega) (by simp)).trans ((h56 _ (by omega) hne7 (fun e => by have := HML.out _ e; omega)).trans HZ1.out)
      have hszF : w.heap.size + 3 ≤ (w6.setCell ⟨w.heap.size + 2, 2, none⟩ (.slice (some ⟨g, 0, none⟩) (ts.length + 1) cap')).heap.size := by have := hwr5.size; have := HG6.out.size; have := hgs.size; simp at *; omega
      have HVF : Hid (∀ i, i < j + 1 → ∀ s'', t.le (tl t s (upV T (j + 1))) s'' → can ((ts ++ [X]).getD i .nil) = ap (t.O s'') (T.f i)) := fun i hi s'' h => by
        have hj' := HTL.out
        by_cases h2 : i < j
        · have e : (ts ++ [X]).getD i .nil = ts.getD i .nil := by simp [List.getD, List.getElem?_append_left (show i < ts.length by omega)]
          rw [e]; exact HVal.out i h2 s'' (HO.out.trans _ _ _ (by rw [upV_succ, tl_append]; exact tl_le HO.out _ _) h)
        · obtain rfl : i = j := by omega
          have e : (ts ++ [X]).getD i .nil = X := by rw [← hj']; simp [List.getD]
          rw [e]; exact HX5.out.2.2.2 s'' h
      have hlF : (ts ++ [X]).length = j + 1 := by rw [List.length_append, HTL.out]; rfl
      clear hgs hwr5 hB6 hL6 hne6 hne7 h56
      go_wp2_with fail
      go_roundw
      case rel => exact ⟨j + 1, ts ++ [X], _, by omega, by go_num, HLF.out, hlF, HCF.out, HZF.out, hszF, HBF.out, HIF.out, HVF.out⟩
      case measure => simp [intOf]; omega
/-- All its names have at most four arguments. -/
def Fo : Tm → Prop
  | .nil => True
  | .mk _ _ _ len _ f => len ≤ 4 ∧ ∀ i, i < len → Fo (f i)
theorem Okv.fo {N : Int} {T : Tm} (h : Okv N T) : Fo T := by
  induction T with
  | nil => trivial
  | mk v nm a len cap f ih => exact ⟨h.2.2.2.1, fun i hi => ih i (h.2.2.2.2 i hi)⟩
theorem each_gen {t : Tell} (ht : TellOk t) {g : Nat} (hE : Ent g) {caps : Array Value} (T : Tm) (h4 : Fo T) (hC : ∀ v ∈ vsT T, TC t g caps v) : EG t g caps T := by
  induction T with
  | nil => exact each_args ht rfl (Nat.zero_le _) (fun i hi => absurd hi (Nat.not_lt_zero i))
  | mk v nm a len cap f ih =>
    by_cases hv : v = 0
    · refine each_args ht hv h4.1 (fun i hi => ih i (h4.2 i hi) (fun u hu => hC u ?_))
      rw [vsT_fn (T := .mk v nm a len cap f) hv]
      exact List.mem_flatten.2 ⟨_, List.mem_map.2 ⟨i, List.mem_range.2 hi, rfl⟩, hu⟩
    · exact each_tell ht hE hv (hC v (by rw [vsT, if_neg hv]; simp))
end Go.Proofs.Ytmggaclaoefdaaa
