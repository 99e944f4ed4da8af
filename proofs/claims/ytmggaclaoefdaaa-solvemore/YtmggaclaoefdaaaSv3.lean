/- Each, with whatever function tells what variables are. -/
import Derived.Test.YtmggaclaoefdaaaSv2
namespace Go.Proofs.Ytmggaclaoefdaaa
open Go.RowKit

/-- All blocks below B stand, but those of M. -/
structure Bw (M : Nat → Prop) (B : Nat) (w w' : World) : Prop where
  os : w'.os = w.os
  tape : w'.tape = w.tape
  output : w'.output = w.output
  size : w.heap.size ≤ w'.heap.size
  block : ∀ k, k < B → ¬ M k → w'.heap[k]? = w.heap[k]?
theorem Bw.ofBelow {M : Nat → Prop} {B : Nat} {w w' : World} (h : Below B w w') : Bw M B w w' := ⟨h.os, h.tape, h.output, h.size, fun k hk _ => h.block k hk⟩
theorem Bw.refl (M : Nat → Prop) (B : Nat) (w : World) : Bw M B w w := Bw.ofBelow (Below.refl _ _)
theorem Bw.trans {M : Nat → Prop} {B : Nat} {a b c : World} (h : Bw M B a b) (k : Bw M B b c) : Bw M B a c :=
  ⟨k.os.trans h.os, k.tape.trans h.tape, k.output.trans h.output, Nat.le_trans h.size k.size, fun i hi hm => (k.block i hi hm).trans (h.block i hi hm)⟩
theorem Bw.mono {M : Nat → Prop} {B B' : Nat} {w w' : World} (h : Bw M B w w') (hB : B' ≤ B) : Bw M B' w w' := ⟨h.os, h.tape, h.output, h.size, fun k hk hm => h.block k (Nat.lt_of_lt_of_le hk hB) hm⟩
theorem Bw.drew {M : Nat → Prop} {B : Nat} {a w : World} (h : Bw M B a w) : Bw M B a w.drew := ⟨h.os, h.tape, h.output, h.size, h.block⟩
theorem Bw.wide {M M' : Nat → Prop} {B : Nat} {w w' : World} (h : Bw M B w w') (hM : ∀ k, k < B → M k → M' k) : Bw M' B w w' := ⟨h.os, h.tape, h.output, h.size, fun k hk hm => h.block k hk (fun e => hm (hM k hk e))⟩
theorem Bw.cell {M : Nat → Prop} {B : Nat} {w w' : World} (h : Bw M B w w') {p : Addr} (hp : p.block < B) (hm : ¬ M p.block) : w'.cell? p = w.cell? p := World.cell?_of_block (w := w) (h.block p.block hp hm)
theorem Bw.frozen {M : Nat → Prop} {B : Nat} {w w' : World} (h : Bw M B w w') {p : Addr} (hp : p.block < B) (hm : ¬ M p.block) : w'.frozen? p = w.frozen? p := World.frozen?_of_block (w := w) (h.block p.block hp hm)
theorem Bw.grown {M : Nat → Prop} {B : Nat} {a w w' : World} {row : Option Nat} (h : Bw M B a w) (hg : w.grownBy w' row) (hB : B ≤ w.heap.size) (hr : ∀ k, row = some k → B ≤ k ∨ M k) : Bw M B a w' :=
  ⟨hg.os.trans h.os, hg.tape.trans h.tape, hg.output.trans h.output, Nat.le_trans h.size hg.size, fun k hk hm => (hg.block k (by omega) (fun e => by rcases hr k e.symm with h | h; (· omega); (· exact hm h))).trans (h.block k hk hm)⟩
/-- None of its arguments lies in a block of M. -/
def NM (M : Nat → Prop) : Tm → Prop
  | .nil => True
  | .mk _ _ a len _ f => (0 < len → ∃ b o, a = some ⟨b, o, none⟩ ∧ ¬ M b) ∧ ∀ i, i < len → NM M (f i)
theorem NM.kid {M : Nat → Prop} {T : Tm} (h : NM M T) {i : Nat} (hi : i < T.len) : NM M (T.f i) := by
  cases T with
  | nil => exact absurd hi (Nat.not_lt_zero i)
  | mk => exact h.2 i hi
theorem NM.root {M : Nat → Prop} {T : Tm} (h : NM M T) (h0 : 0 < T.len) : ∃ b o, T.a = some ⟨b, o, none⟩ ∧ ¬ M b := by
  cases T with
  | nil => exact absurd h0 (Nat.lt_irrefl 0)
  | mk => exact h.1 h0
theorem NM.nb {M : Nat → Prop} {T : Tm} (h : NM M T) {k : Nat} (hk : M k) : NB k T := by
  induction T with
  | nil => trivial
  | mk v nm a len cap f ih => exact ⟨fun h0 => let ⟨b, o, e, hb⟩ := h.1 h0; ⟨b, o, e, fun e => hb (e ▸ hk)⟩, fun i hi => ih i (h.2 i hi)⟩
theorem NM.anti {M M' : Nat → Prop} {w : World} {T : Tm} (h : NM M T) (hT : TIn w T) (hM : ∀ k, k < w.heap.size → M' k → M k) : NM M' T := by
  induction T with
  | nil => trivial
  | mk v nm a len cap f ih =>
    refine ⟨fun h0 => ?_, fun i hi => ih i (h.2 i hi) (hT.2.2 i hi).2⟩
    obtain ⟨b, o, e, hb⟩ := h.1 h0
    refine ⟨b, o, e, fun e' => hb (hM b ?_ e')⟩
    obtain ⟨b', o', e1, c0, _⟩ := (hT.2.2 0 h0).1
    rw [e] at e1
    cases e1
    exact lt_of_cell c0
theorem NM.old {M : Nat → Prop} {w : World} {T : Tm} (hT : TIn w T) (hM : ∀ k, M k → w.heap.size ≤ k) : NM M T := by
  induction T with
  | nil => trivial
  | mk v nm a len cap f ih =>
    refine ⟨fun h0 => ?_, fun i hi => ih i (hT.2.2 i hi).2⟩
    obtain ⟨b', o', e1, c0, _⟩ := (hT.2.2 0 h0).1
    exact ⟨b', o', e1, fun h => by have h1 : b' < w.heap.size := lt_of_cell c0; have := hM b' h; omega⟩
theorem Above.nm {M : Nat → Prop} {lo : Nat} {T : Tm} (h : Above lo T) (hM : ∀ k, M k → k < lo) : NM M T := by
  induction T with
  | nil => trivial
  | mk v nm a len cap f ih => exact ⟨fun h0 => let ⟨b, o, e, hb⟩ := h.1 h0; ⟨b, o, e, fun e' => by have := hM b e'; omega⟩, fun i hi => ih i (h.2 i hi)⟩
theorem TIn.bw {M : Nat → Prop} {B : Nat} {w w' : World} {T : Tm} (h : TIn w T) (hb : Bw M B w w') (hB : w.heap.size ≤ B) (hm : NM M T) : TIn w' T := by
  induction T with
  | nil => exact h
  | mk v nm a len cap f ih =>
    refine ⟨h.1, h.2.1, fun i hi => ⟨?_, ih i (h.2.2 i hi).2 (hm.2 i hi)⟩⟩
    obtain ⟨b, o, e, c0, c1, c2⟩ := (h.2.2 i hi).1
    obtain ⟨b', o', e', hb'⟩ := hm.1 (by omega)
    rw [e] at e'
    cases e'
    have hl : b < w.heap.size := lt_of_cell c0
    have hx : w'.heap[b]? = w.heap[b]? := hb.block b (by omega) hb'
    exact ⟨b, o, e, (World.cell?_of_block hx).trans c0, (World.cell?_of_block hx).trans c1, (World.cell?_of_block hx).trans c2⟩
theorem fin3b {M : Nat → Prop} {w W : World} {r : Nat} {x y z : Value} (hr : w.heap.size ≤ r) (hX : W.heap[r]? = some (.cells #[x, y, z] 24)) (hB : Bw M w.heap.size w W) (a c d : Value) :
    ∃ W', ((W.setCell ⟨r, 0, none⟩ a).setCell ⟨r, 1, none⟩ c).setCell ⟨r, 2, none⟩ d = W' ∧ W'.cell? ⟨r, 0, none⟩ = some a ∧ W'.cell? ⟨r, 1, none⟩ = some c ∧ W'.cell? ⟨r, 2, none⟩ = some d ∧ Bw M w.heap.size w W' ∧ W.grownBy W' (some r) := by
  have h3 : W.grownBy (((W.setCell ⟨r, 0, none⟩ a).setCell ⟨r, 1, none⟩ c).setCell ⟨r, 2, none⟩ d) (some r) := G.trans (G.trans (grown_set r 0 a) (grown_set r 1 c)) (grown_set r 2 d)
  have hc := set3 (a := a) (b := c) (c := d) hX
  exact ⟨_, rfl, by simp [World.cell?, hc], by simp [World.cell?, hc], by simp [World.cell?, hc], hB.grown h3 hB.size (fun k hk => by have := Option.some.inj hk; exact .inl (by omega)), h3⟩

theorem Sim.refl (T : Tm) : Sim T T := by
  induction T with
  | nil => exact ⟨rfl, rfl, rfl⟩
  | mk v nm a len cap f ih => exact ⟨rfl, rfl, rfl, fun i _ => ih i⟩
/-- A function that tells what variables are: what it keeps, how that goes on, what it says. -/
structure Tell where
  S : Type
  I : S → World → Prop
  nx : S → Int → S
  le : S → S → Prop
  O : S → Int → Tm
  M : Nat → Prop
  B : Nat
structure TellOk (t : Tell) : Prop where
  refl : ∀ s, t.le s s
  trans : ∀ s s' s'', t.le s s' → t.le s' s'' → t.le s s''
  nx : ∀ s v, t.le s (t.nx s v)
  keep : ∀ s w w', t.I s w → Below t.B w w' → t.I s w'
  lt : ∀ k, t.M k → k < t.B
def tl (t : Tell) (s : t.S) (l : List Int) : t.S := l.foldl t.nx s
theorem tl_le {t : Tell} (h : TellOk t) (l : List Int) : ∀ s, t.le s (tl t s l) := by
  induction l with
  | nil => intro s; exact h.refl s
  | cons v l ih => intro s; exact h.trans _ _ _ (h.nx s v) (ih _)
theorem tl_append (t : Tell) (s : t.S) (l m : List Int) : tl t s (l ++ m) = tl t (tl t s l) m := by unfold tl; rw [List.foldl_append]
def XP (t : Tell) (w : World) (s' : t.S) (Q : t.S → Tm) (e : Ending) (w' : World) : Prop := ∃ X : Tm, e = .returned X.val ∧ Bw t.M w.heap.size w w' ∧ t.I s' w' ∧ TIn w' X ∧ Above w.heap.size X ∧ ∀ s'', t.le s' s'' → can X = Q s''
def TC (t : Tell) (g : Nat) (caps : Array Value) (v : Int) : Prop := ∀ (s : t.S) (w : World), t.B ≤ w.heap.size → t.I s w → Calls Try.prog g (#[.int .i64 v] ++ caps) w (XP t w (t.nx s v) (fun s' => t.O s' v))
def EG (t : Tell) (g : Nat) (caps : Array Value) (T : Tm) : Prop := ∀ (s : t.S) (w : World), t.B ≤ w.heap.size → t.I s w → TIn w T → NM t.M T → Calls Try.prog 120 #[T.val, .func (.func g) #[] caps] w (XP t w (tl t s (vsT T)) (fun s' => ap (t.O s') T))
theorem XP.rebase {t : Tell} {w W : World} {s' : t.S} {Q : t.S → Tm} {e : Ending} {w' : World} (hW : Below w.heap.size w W) (h : XP t W s' Q e w') : XP t w s' Q e w' := by
  obtain ⟨X, h1, h2, h3, h4, h5, h6⟩ := h
  exact ⟨X, h1, (Bw.ofBelow hW).trans (h2.mono hW.size), h3, h4, h5.mono hW.size, h6⟩

/-- A function that is entered where it is called. -/
def Ent (g : Nat) : Prop := ∀ (args : Array Value) (w : World), (callFunc g args).run Try.prog w = .ok (.enter g args) w
theorem ent_of {g : Nat} {fn : Func} {c : Code} (hf : Try.prog.funcs[g]? = some fn) (hname : (fn.name == "runtime.NumGoroutine") = false) (hb : fn.body = some c) : Ent g := fun args w => by
  have h1 : fn.name ≠ "runtime.NumGoroutine" := by simpa using hname
  simp [callFunc, hf, h1, hb]

set_option maxRecDepth 100000 in
set_option maxHeartbeats 2000000 in
theorem each_tell {t : Tell} (ht : TellOk t) {g : Nat} (hE : Ent g) {caps : Array Value} {T : Tm} (hv : T.v ≠ 0) (hC : TC t g caps T.v) : EG t g caps T := by
  intro s w hB hI hT hM
  have HO : Hid (TellOk t) := ht
  have HC : Hid (∀ W, Below w.heap.size w W → Calls Try.prog g (#[.int .i64 T.v] ++ caps) W (XP t W (t.nx s T.v) (fun s' => t.O s' T.v))) := fun W hW => hC s W (Nat.le_trans hB hW.size) (ht.keep _ _ _ hI (hW.mono hB))
  have HV : Hid (tl t s (vsT T) = t.nx s T.v) := by
    cases T with
    | nil => exact absurd rfl hv
    | mk v nm a len cap f =>
      have hv : ¬ v = 0 := hv
      rw [Hid, vsT, if_neg hv]; rfl
  have HAp : Hid (∀ s', ap (t.O s') T = t.O s' T.v) := fun s' => ap_var _ hv
  have hvb : (T.v != 0) = true := bne_iff_ne.2 hv
  clear hv hC hI hT hM
  show Calls Try.prog 120 #[.agg #[.int .i64 T.v, .string T.nm, .slice T.a T.len T.cap], .func (.func g) #[] caps] w _
  go_enter Try.func120, Try.ntmps120
  go_wp2_with fail
  rw [hE]
  show Calls Try.prog g _ _ _
  refine (HC.out _ (((Below.refl _ _).alloc (Nat.le_refl _) _).alloc (by simp) _)).mono ?_
  rintro e w1 ⟨X, rfl, hb1, hI1, hX1, hA1, hS1⟩
  have HBA : Hid (Below w.heap.size w ((w.alloc (.cells #[.int .i64 T.v, .string T.nm, .slice T.a T.len T.cap] 24)).alloc (.cells #[.int .i64 0, .string ⟨#[]⟩, .slice none 0 0] 24))) := ((Below.refl _ _).alloc (Nat.le_refl _) _).alloc (by simp) _
  have hsz : w.heap.size + 1 < ((w.alloc (.cells #[.int .i64 T.v, .string T.nm, .slice T.a T.len T.cap] 24)).alloc (.cells #[.int .i64 0, .string ⟨#[]⟩, .slice none 0 0] 24)).heap.size := by simp
  have HX3 : Hid (w1.heap[w.heap.size + 1]? = some (.cells #[.int .i64 0, .string ⟨#[]⟩, .slice none 0 0] 24)) := by
    refine (hb1.block _ hsz (fun e => by have := HO.out.lt _ e; omega)).trans ?_
    have := heap_alloc_new (w.alloc (.cells #[.int .i64 T.v, .string T.nm, .slice T.a T.len T.cap] 24)) (.cells #[.int .i64 0, .string ⟨#[]⟩, .slice none 0 0] 24)
    rwa [show (w.alloc (.cells #[.int .i64 T.v, .string T.nm, .slice T.a T.len T.cap] 24)).heap.size = w.heap.size + 1 from by simp] at this
  have HB1 : Hid (Bw t.M w.heap.size w w1) := (Bw.ofBelow HBA.out).trans (hb1.mono HBA.out.size)
  have HXX : Hid (TIn w1 X ∧ NB (w.heap.size + 1) X ∧ Above w.heap.size X ∧ t.I (t.nx s T.v) w1 ∧ ∀ s'', t.le (t.nx s T.v) s'' → can X = t.O s'' T.v) := ⟨hX1, hA1.nb hsz, hA1.mono HBA.out.size, hI1, hS1⟩
  clear hb1 hX1 hA1 hS1 hI1
  obtain ⟨x0, x1, x2, f0, f1, f2⟩ := block_cells HX3.out
  rw [show X.val = .agg #[.int .i64 X.v, .string X.nm, .slice X.a X.len X.cap] from rfl]
  go_wp2_with fail
  obtain ⟨W', hW', z0, z1, z2, hB', hgr⟩ := fin3b (r := w.heap.size + 1) (by omega) HX3.out HB1.out (.int .i64 X.v) (.string X.nm) (.slice X.a X.len X.cap)
  rw [hW']
  have hT' : TIn W' X := HXX.out.1.grown hgr (fun k hk => by obtain rfl := Option.some.inj hk; exact HXX.out.2.1)
  have hBB : Below t.B w1 W' := (Below.refl _ _).grown hgr (by have := HB1.out.size; omega) (fun k hk => by have := Option.some.inj hk; omega)
  refine bodyPost_ret (v := X.val) ?_ rfl ⟨X, rfl, hB', by rw [HV.out]; exact HO.out.keep _ _ _ HXX.out.2.2.2.1 hBB, hT', HXX.out.2.2.1, fun s'' h => by show can X = ap (t.O s'') T; rw [HAp.out]; exact HXX.out.2.2.2.2 s'' (by rw [← HV.out]; exact h)⟩
  simp [results, Try.results120, go_sem, z0, z1, z2, Tm.val]
end Go.Proofs.Ytmggaclaoefdaaa
