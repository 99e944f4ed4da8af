/- bind: a variable is bound to what it does not stand in. -/
import Derived.Test.YtmggaclaoefdaaaGAH
import Derived.Deep.RegionLaw
import Derived.RegionTactic
import Derived.ChangeAlike
import Derived.BigRegion
namespace Go.Proofs.Ytmggaclaoefdaaa
open Go.RowKit

/-- All but the struct, the map and the trail's memory stands. -/
structure GF (b m : Nat) (tv : Value) (w w' : World) : Prop where
  os : w'.os = w.os
  tape : w'.tape = w.tape
  output : w'.output = w.output
  size : w.heap.size ≤ w'.heap.size
  block : ∀ k, k < w.heap.size → k ≠ b → k ≠ m → (∀ g, tv.ownBlock = some g → g ≠ k) → w'.heap[k]? = w.heap[k]?
theorem GF.ofG {b m : Nat} {tv : Value} {w w' : World} (h : G b w w') : GF b m tv w w' := ⟨h.os, h.tape, h.output, h.size, fun k hk h1 _ _ => h.block k hk (by simpa using h1)⟩
theorem GF.ofBelow {b m : Nat} {tv : Value} {w w' : World} (h : Below w.heap.size w w') : GF b m tv w w' := ⟨h.os, h.tape, h.output, h.size, fun k hk _ _ _ => h.block k hk⟩
theorem GF.refl (b m : Nat) (tv : Value) (w : World) : GF b m tv w w := GF.ofBelow (Below.refl _ _)
/-- The trail's memory is as it was, or new. -/
def TN (tv tv' : Value) (w : World) : Prop := ∀ g, tv'.ownBlock = some g → tv.ownBlock = some g ∨ w.heap.size ≤ g
theorem GF.trans {b m : Nat} {tv tv' : Value} {w w1 w2 : World} (h : GF b m tv w w1) (hn : TN tv tv' w) (k : GF b m tv' w1 w2) : GF b m tv w w2 :=
  ⟨k.os.trans h.os, k.tape.trans h.tape, k.output.trans h.output, Nat.le_trans h.size k.size, fun j hj h1 h2 h3 => (k.block j (Nat.lt_of_lt_of_le hj h.size) h1 h2 (fun g hg e => by
    rcases hn g hg with h4 | h4
    · exact h3 g h4 e
    · omega)).trans (h.block j hj h1 h2 h3)⟩
theorem TN.refl (tv : Value) (w : World) : TN tv tv w := fun _ h => .inl h
theorem TN.trans {tv tv' tv'' : Value} {w w1 : World} (h : TN tv tv' w) (k : TN tv' tv'' w1) (hs : w.heap.size ≤ w1.heap.size) : TN tv tv'' w := fun g hg => by
  rcases k g hg with h1 | h1
  · exact h g h1
  · exact .inr (by omega)

/-- The trail: its numbers, each once, just those that are something. -/
def TrOk (w : World) (lo : Nat) (tv : Value) (tr : List Int) (σ : Sg) : Prop := w.ownsRow lo 3 1 tv tr.length (tr.map (Value.int .i64)) ∧ tr.Nodup ∧ (∀ v, (σ v).isSome = true ↔ v ∈ tr) ∧ ∀ v ∈ tr, 0 ≤ v ∧ v ≤ 1000000
/-- The trail's memory is as it was, or new; the trail has grown, and what was something is that still. -/
def TX (lo : Nat) (tv : Value) (σ : Sg) (w : World) (tv' : Value) (σ' : Sg) (w' : World) : Prop := TN tv tv' w ∧ ∀ tr, TrOk w lo tv tr σ → ∃ new, TrOk w' lo tv' (tr ++ new) σ' ∧ ∀ v ∈ tr, σ' v = σ v
theorem TX.trans {lo : Nat} {tv tv' tv'' : Value} {σ σ' σ'' : Sg} {w w1 w2 : World} (h : TX lo tv σ w tv' σ' w1) (k : TX lo tv' σ' w1 tv'' σ'' w2) (hs : w.heap.size ≤ w1.heap.size) : TX lo tv σ w tv'' σ'' w2 := by
  refine ⟨h.1.trans k.1 hs, fun tr ht => ?_⟩
  obtain ⟨n1, h1, h2⟩ := h.2 tr ht
  obtain ⟨n2, h3, h4⟩ := k.2 _ h1
  exact ⟨n1 ++ n2, by rw [← List.append_assoc]; exact h3, fun v hv => (h4 v (List.mem_append.2 (.inl hv))).trans (h2 v hv)⟩
theorem TX.of_row {lo : Nat} {tv : Value} {σ : Sg} {w w' : World} (h : ∀ n xs, w.ownsRow lo 3 1 tv n xs → w'.ownsRow lo 3 1 tv n xs) : TX lo tv σ w tv σ w' :=
  ⟨TN.refl _ _, fun tr ht => ⟨[], by rw [List.append_nil]; exact ⟨h _ _ ht.1, ht.2⟩, fun _ _ => rfl⟩⟩
theorem TX.ofG {b lo : Nat} {tv : Value} {σ : Sg} {w w' : World} (hg : G b w w') (hb : ∀ g, tv.ownBlock = some g → g ≠ b) : TX lo tv σ w tv σ w' :=
  TX.of_row fun n xs h => h.kept hg (by
    cases hv : tv.ownBlock with
    | none => exact .inl rfl
    | some g => exact .inr (by simpa using hb g hv))
theorem TX.ofBelow {lo : Nat} {tv : Value} {σ : Sg} {w w' : World} (hg : Below w.heap.size w w') : TX lo tv σ w tv σ w' :=
  TX.of_row fun n xs h => h.kept (grown_of_below hg none) (by
    cases hv : tv.ownBlock with
    | none => exact .inl rfl
    | some g => exact .inr (by simp))
theorem owns_one {w : World} {lo s : Nat} {t : TypeId} {v : Value} {n n' : Nat} {xs xs' : List Value} (h : w.ownsRow lo t s v n xs) (h' : w.ownsRow lo t s v n' xs') : n = n' ∧ xs = xs' := by
  rcases h.2 with ⟨rfl, rfl⟩ | ⟨g, cap, cur, rfl, _, hg, _, _, _, htk⟩
  · rcases h'.2 with ⟨_, rfl⟩ | ⟨g', cap', cur', e, _⟩
    · have h1 := h.1
      have h2 := h'.1
      rw [Nat.zero_mul, List.length_eq_zero_iff] at h1 h2
      exact ⟨rfl, by rw [h1, h2]⟩
    · simp at e
  · rcases h'.2 with ⟨e, _⟩ | ⟨g', cap', cur', e, _, hg', _, _, _, htk'⟩
    · simp at e
    · simp only [Value.slice.injEq, Option.some.injEq, Addr.mk.injEq, and_true] at e
      obtain ⟨rfl, rfl, rfl⟩ := e
      rw [hg] at hg'
      obtain rfl : cur = cur' := by simpa using hg'
      exact ⟨rfl, by rw [← htk, ← htk']⟩
theorem ints_inj : ∀ {l l' : List Int}, l.map (Value.int .i64) = l'.map (Value.int .i64) → l = l' := by
  intro l
  induction l with
  | nil => intro l' h; cases l' with
    | nil => rfl
    | cons a r => simp at h
  | cons a r ih =>
    intro l' h
    cases l' with
    | nil => simp at h
    | cons a' r' =>
      rw [List.map_cons, List.map_cons, List.cons.injEq] at h
      have h1 := h.1
      rw [Value.int.injEq] at h1
      rw [h1.2, ih h.2]
theorem row_ne {tv : Value} {k : Nat} (hb : ∀ g, tv.ownBlock = some g → g ≠ k) : tv.ownBlock = none ∨ tv.ownBlock ≠ some k := by
  cases hv : tv.ownBlock with
  | none => exact .inl rfl
  | some g => exact .inr (by simpa using hb g hv)
theorem row_back {w w' : World} {lo n : Nat} {tv : Value} (h : ∃ tr : List Int, w.ownsRow lo 3 1 tv tr.length (tr.map (Value.int .i64)) ∧ tr.length ≤ n) (hk : ∀ n xs, w.ownsRow lo 3 1 tv n xs → w'.ownsRow lo 3 1 tv n xs) (tr : List Int) (h' : w'.ownsRow lo 3 1 tv tr.length (tr.map (Value.int .i64))) : w.ownsRow lo 3 1 tv tr.length (tr.map (Value.int .i64)) := by
  obtain ⟨tr0, h1, _⟩ := h
  obtain rfl : tr = tr0 := ints_inj (owns_one h' (hk _ _ h1)).2
  exact h1
/-- A binding, on the trail. -/
theorem TX.bound {lo : Nat} {tv tv' : Value} {σ : Sg} {w w' : World} {tr : List Int} {p : Int} {Q : Tm} (hn : TN tv tv' w) (ho : w.ownsRow lo 3 1 tv tr.length (tr.map (Value.int .i64))) (ho' : w'.ownsRow lo 3 1 tv' (tr.length + 1) (tr.map (Value.int .i64) ++ [.int .i64 p])) (hp : σ p = none) (hpr : 0 ≤ p ∧ p ≤ 1000000) : TX lo tv σ w tv' (upd σ p Q) w' := by
  refine ⟨hn, fun tr2 ht => ?_⟩
  obtain rfl : tr2 = tr := ints_inj (owns_one ht.1 ho).2
  have hnp : p ∉ tr2 := fun h => by have := (ht.2.2.1 p).2 h; rw [hp] at this; simp at this
  refine ⟨[p], ⟨by rw [List.length_append, List.map_append]; exact ho', ?_, fun v => ?_, fun v hv => ?_⟩, fun v hv => ?_⟩
  · rw [List.nodup_append]
    exact ⟨ht.2.1, by simp, fun a ha c hc => by rw [List.mem_singleton] at hc; subst hc; exact fun e => hnp (e ▸ ha)⟩
  · rw [List.mem_append, List.mem_singleton, ← ht.2.2.1 v]
    unfold upd
    by_cases e : v = p
    · rw [if_pos e]; simp [e]
    · rw [if_neg e]; simp [e]
  · rcases List.mem_append.1 hv with h | h
    · exact ht.2.2.2 v h
    · rw [List.mem_singleton] at h; rw [h]; exact hpr
  · unfold upd
    rw [if_neg (fun e : v = p => hnp (e ▸ hv))]

theorem Try.info3 : (Try.prog.info? 3).map (fun i => (i.zero, i.size, i.bytes)) = some (some (.int .i64 0), 1, 8) := by kernel_rfl
/-- An append whose run is known, as one step of a region that draws. -/
theorem step_run {P : Program} {ops : Array Oper} {o : Oper} {a : Act} {w : World} {K : Act → World → Prop} {Q : Exit → Act → World → Prop} {E : Prop}
    (hg : o.guard = none) (s x : Operand) (t : TypeId) (hop : o.op = Op.call { callee := Callee.builtin Builtin.append, args := #[s, x], argTypes := #[t, t] })
    (v u v' : Value) (w' : World) (hs : a.eval s = v) (hx : a.eval x = u) (hr : (Builtin.append_ #[t, t] o.type #[v, u]).run P w = .ok v' w') (hK : K (a.put o.dst v') w') :
    if Region.wanted o (yielded ops a.tmps) = true then Oper.wp P o a w K Q else E := by
  have hw : Region.wanted o (yielded ops a.tmps) = true := by simp [Region.wanted, hg]
  rw [if_pos hw]
  unfold Oper.wp
  simp [execOp, hop, resolve, invoke, builtin, hs, hx, hr, Result.andThen]
  exact hK
/-- Of two variables the greater one is bound. -/
def put (σ : Sg) (x t : Tm) : Sg := if x.v < t.v then upd σ t.v x else upd σ x.v t
/-- A term that may be bound. -/
def Good (w : World) (b m : Nat) (tv : Value) (N : Int) (T : Tm) : Prop := TIn w T ∧ Okv N T ∧ NB b T ∧ NB m T ∧ ∀ g, tv.ownBlock = some g → NB g T

theorem VS.trail_lt {w : World} {b m : Nat} {tv : Value} {N : Int} {lo n : Nat} {σ : Sg} {L : Int} (h : VS w b m tv N lo n σ L) (g : Nat) (hg : tv.ownBlock = some g) : g < w.heap.size := by
  obtain ⟨tr, h1, _⟩ := h.own
  exact (h1.lt g hg).2
theorem TIn.gf {w w' : World} {b m : Nat} {tv : Value} {T : Tm} (h : TIn w T) (hg : GF b m tv w w') (h1 : NB b T) (h2 : NB m T) (h3 : ∀ g, tv.ownBlock = some g → NB g T) : TIn w' T := by
  induction T with
  | nil => exact h
  | mk v nm a len cap f ih =>
    refine ⟨h.1, h.2.1, fun i hi => ⟨?_, ih i (h.2.2 i hi).2 (h1.2 i hi) (h2.2 i hi) (fun g hg => (h3 g hg).2 i hi)⟩⟩
    obtain ⟨bb, o, rfl, c0, c1, c2⟩ := (h.2.2 i hi).1
    have hb : w'.heap[bb]? = w.heap[bb]? := hg.block bb (lt_of_cell c0) (by
        obtain ⟨b', o', e1, e2⟩ := h1.1 (by omega)
        cases e1; exact e2) (by
        obtain ⟨b', o', e1, e2⟩ := h2.1 (by omega)
        cases e1; exact e2) (fun g hg e => by
        obtain ⟨b', o', e1, e2⟩ := (h3 g hg).1 (by omega)
        cases e1; exact e2 e.symm)
    exact ⟨bb, o, rfl, (World.cell?_of_block hb).trans c0, (World.cell?_of_block hb).trans c1, (World.cell?_of_block hb).trans c2⟩
theorem setT {w : World} {b : Nat} {x y z c : Value} {t : TypeId} (h : w.heap[b]? = some (.cells #[x, y, z] t)) : (w.setCell ⟨b, 1, none⟩ c).heap[b]? = some (.cells #[x, c, z] t) := by
  simp only [World.setCell, Array.getElem?_modify]
  simp [h]
theorem bind_fin {w w2 w3 w4 w5 : World} {b m : Nat} {tv v' : Value} {N : Int} {lo n : Nat} {σ : Sg} {L k : Int} {p : Int} {Q : Tm} {tr : List Int} (hS : VS w b m tv N lo n σ L) (hS2 : VS w2 b m tv N lo n σ k) (hG2 : GF b m tv w w2) (hM3 : MapIs w3 m (n + 1) (upd σ p Q)) (hG3 : w2.drew.grownBy w3 (some m)) (hB : Below w3.heap.size w3 w4)
    (hG5 : w4.grownBy w5 tv.ownBlock) (hown : w5.ownsRow lo 3 1 v' (tr.length + 1) (tr.map (Value.int .i64) ++ [.int .i64 p])) (htr : tr.length ≤ n) (hat : v'.ownBlock = tv.ownBlock ∨ v'.ownBlock = some w4.heap.size) (hQ : Good w b m tv N Q) (hdec : Q.v = 0 ∨ (0 < Q.v ∧ Q.v < p)) (hp : σ p = none) (hpr : 0 ≤ p ∧ p ≤ 1000000) (how : w.ownsRow lo 3 1 tv tr.length (tr.map (Value.int .i64))) :
    VS (w5.setCell ⟨b, 1, none⟩ v') b m v' N lo (n + 1) (upd σ p Q) k ∧ GF b m tv w (w5.setCell ⟨b, 1, none⟩ v') ∧ TX lo tv σ w v' (upd σ p Q) (w5.setCell ⟨b, 1, none⟩ v') := by
  have s2 := hG2.size
  have s3 : w2.heap.size ≤ w3.heap.size := hG3.size
  have s4 := hB.size
  have s5 := hG5.size
  have hb2 := hS2.lt
  have hm3 := hM3.lt
  have htn : TN tv v' w := fun g hg => by
    rcases hat with e | e
    · exact .inl (e ▸ hg)
    · rw [e] at hg
      have := Option.some.inj hg
      exact .inr (by omega)
  have hset := G.set b w5 1 v'
  have hblk5 : ∀ j, j < w2.heap.size → j ≠ m → (∀ g, tv.ownBlock = some g → g ≠ j) → w5.heap[j]? = w2.heap[j]? := fun j hj h1 h2 =>
    (hG5.block j (by omega) (fun e => h2 j e.symm rfl)).trans ((hB.block j (by omega)).trans (hG3.block j hj (by simpa using h1)))
  have hgf : GF b m tv w (w5.setCell ⟨b, 1, none⟩ v') :=
    ⟨hset.os.trans (hG5.os.trans (hB.os.trans (hG3.os.trans hG2.os))), hset.tape.trans (hG5.tape.trans (hB.tape.trans (hG3.tape.trans hG2.tape))), hset.output.trans (hG5.output.trans (hB.output.trans (hG3.output.trans hG2.output))), by have := hset.size; omega,
      fun j hj h1 h2 h3 => (hset.block j (by omega) (by simpa using h1)).trans ((hblk5 j (by omega) h2 h3).trans (hG2.block j hj h1 h2 h3))⟩
  have hvb : ∀ g, v'.ownBlock = some g → g ≠ b ∧ g ≠ m := fun g hg => by
    rcases hat with e | e
    · exact hS.tb g (e ▸ hg)
    · rw [e] at hg
      have := Option.some.inj hg
      omega
  have hnb : ∀ T : Tm, TIn w T → (∀ g, tv.ownBlock = some g → NB g T) → ∀ g, v'.ownBlock = some g → NB g T := fun T h1 h2 g hg => by
    rcases htn g hg with e | e
    · exact h2 g e
    · exact h1.nb e
  refine ⟨⟨?_, ?_, ⟨tr ++ [p], ?_, by simp; omega⟩, hS.ne, hvb, hS.lob, fun v T hv => ?_, fun v T hv => ?_, hS.big⟩, hgf, ?_⟩
  · exact setT ((hblk5 b hb2 hS.ne (fun g hg => (hS.tb g hg).1)).trans hS2.blk)
  · exact ((hM3.kept (grown_of_below hB none) (by simp)).kept hG5 (fun e => (hS.tb m e.symm).2 rfl)).kept hset (fun e => hS.ne (Option.some.inj e).symm)
  · have h1 := hown.kept hset (by
      cases hv : v'.ownBlock with
      | none => exact .inl rfl
      | some g => exact .inr (by simpa using (hvb g hv).1))
    rw [List.length_append, List.map_append]
    exact h1
  · unfold upd at hv
    split at hv
    · obtain rfl := Option.some.inj hv
      exact ⟨hQ.1.gf hgf hQ.2.2.1 hQ.2.2.2.1 hQ.2.2.2.2, hQ.2.1, hQ.2.2.1, hQ.2.2.2.1, hnb _ hQ.1 hQ.2.2.2.2⟩
    · obtain ⟨h1, h2, h3, h4, h5⟩ := hS.trm v T hv
      exact ⟨h1.gf hgf h3 h4 h5, h2, h3, h4, hnb _ h1 h5⟩
  · unfold upd at hv
    split at hv
    · rename_i e
      obtain rfl := Option.some.inj hv
      rw [e]; exact hdec
    · exact hS.dec v T hv
  · exact TX.bound htn how (hown.kept hset (by
      cases hv : v'.ownBlock with
      | none => exact .inl rfl
      | some g => exact .inr (by simpa using (hvb g hv).1))) hp hpr

set_option maxRecDepth 100000 in
set_option maxHeartbeats 4000000 in
theorem bind_any {b m : Nat} {tv : Value} {N : Int} {lo n : Nat} {σ : Sg} {L : Nat} (X T : Tm) (w : World) (hS : VS w b m tv N lo n σ L) (hL : L ≤ 4000) (hn : n ≤ 1000000000) (hX : Good w b m tv N X) (hT : Good w b m tv N T) (hx : X.v ≠ 0) (hne : X.v ≠ T.v) (hx1 : σ X.v = none) (hx2 : T.v ≠ 0 → σ T.v = none) :
    Calls Try.prog 95 #[.pointer (some ⟨b, 0, none⟩), X.val, T.val] w fun e w' =>
      (e = .returned (.bool true) ∧ ∃ (tv' : Value) (k : Nat), within σ X.v L [T] = .free k ∧ k < L ∧ VS w' b m tv' N lo (n + 1) (put σ X T) k ∧ GF b m tv w w' ∧ TX lo tv σ w tv' (put σ X T) w') ∨
      (e = .returned (.bool false) ∧ ∃ L' : Int, VS w' b m tv N lo n σ L' ∧ (GF b m tv w w' ∧ TX lo tv σ w tv σ w') ∧ ((L' = -1 ∧ within σ X.v L [T] = .over) ∨ ∃ k : Nat, L' = k ∧ k < L ∧ within σ X.v L [T] = .found k)) := by
  have HS : Hid (VS w b m tv N lo n σ L) := hS
  have HX1n : Hid (σ X.v = none) := hx1
  have HX2n : Hid (T.v ≠ 0 → σ T.v = none) := hx2
  have HX : Hid (Good w b m tv N X) := hX
  have HT : Hid (Good w b m tv N T) := hT
  have hbl := hS.lt
  have hml := hS.map.lt
  clear hS hX hT hx1 hx2
  show Calls Try.prog 95 #[.pointer (some ⟨b, 0, none⟩), .agg #[.int .i64 X.v, .string X.nm, .slice X.a X.len X.cap], .agg #[.int .i64 T.v, .string T.nm, .slice T.a T.len T.cap]] w _
  go_enter Try.func95, Try.ntmps95
  go_wp2_with fail
  have HBx : Hid (Below w.heap.size w ((w.alloc (.cells #[.int .i64 X.v, .string X.nm, .slice X.a X.len X.cap] 24)).alloc (.cells #[.int .i64 T.v, .string T.nm, .slice T.a T.len T.cap] 24))) := ((Below.refl _ _).alloc (Nat.le_refl _) _).alloc (by simp) _
  have HX0 : Hid (((w.alloc (.cells #[.int .i64 X.v, .string X.nm, .slice X.a X.len X.cap] 24)).alloc (.cells #[.int .i64 T.v, .string T.nm, .slice T.a T.len T.cap] 24)).heap[w.heap.size]? = some (.cells #[.int .i64 X.v, .string X.nm, .slice X.a X.len X.cap] 24)) := by
    rw [Hid, heapOld _ _ (by simp)]; exact heap_alloc_new w _
  have HT0 : Hid (((w.alloc (.cells #[.int .i64 X.v, .string X.nm, .slice X.a X.len X.cap] 24)).alloc (.cells #[.int .i64 T.v, .string T.nm, .slice T.a T.len T.cap] 24)).heap[w.heap.size + 1]? = some (.cells #[.int .i64 T.v, .string T.nm, .slice T.a T.len T.cap] 24)) := by
    have := heap_alloc_new (w.alloc (.cells #[.int .i64 X.v, .string X.nm, .slice X.a X.len X.cap] 24)) (.cells #[.int .i64 T.v, .string T.nm, .slice T.a T.len T.cap] 24)
    rwa [show (w.alloc (.cells #[.int .i64 X.v, .string X.nm, .slice X.a X.len X.cap] 24)).heap.size = w.heap.size + 1 from by simp] at this
  generalize (w.alloc (.cells #[.int .i64 X.v, .string X.nm, .slice X.a X.len X.cap] 24)).alloc (.cells #[.int .i64 T.v, .string T.nm, .slice T.a T.len T.cap] 24) = wa at *
  have hsa : w.heap.size + 1 < wa.heap.size := (Array.getElem?_eq_some_iff.1 HT0.out).1
  have HC : Hid (Calls Try.prog 119 #[.pointer (some ⟨b, 0, none⟩), .agg #[.int .i64 T.v, .string T.nm, .slice T.a T.len T.cap], .int .i64 X.v] wa fun e w' => ∃ (ok : Bool) (L' : Int), e = .returned (.bool ok) ∧ VS w' b m tv N lo n σ L' ∧ G b wa w' ∧ LP σ X.v L T ok L') :=
    lacks_all L b m tv N lo n σ T wa X.v (HS.out.below HBx.out) hL HT.out.2.1 (HT.out.1.below HBx.out) HT.out.2.2.1 HT.out.2.2.2.1 HT.out.2.2.2.2
  refine HC.out.mono ?_
  rintro e w1 ⟨ok, L', rfl, hS1, hG1, hP1⟩
  have HS1 : Hid (VS w1 b m tv N lo n σ L') := hS1
  have HG1 : Hid (G b w w1) := (G.below HBx.out).trans hG1
  have HX1 : Hid (w1.heap[w.heap.size]? = some (.cells #[.int .i64 X.v, .string X.nm, .slice X.a X.len X.cap] 24)) := (hG1.block _ (by omega) (by simp; omega)).trans HX0.out
  have HT1 : Hid (w1.heap[w.heap.size + 1]? = some (.cells #[.int .i64 T.v, .string T.nm, .slice T.a T.len T.cap] 24)) := (hG1.block _ (by omega) (by simp; omega)).trans HT0.out
  clear hS1 hG1
  rcases hP1 with ⟨rfl, k, rfl, hk, hw⟩ | ⟨rfl, rfl, hw⟩ | ⟨rfl, k, rfl, hk, hw⟩
  case inr.inl =>
    have HF : Hid (within σ X.v L [T] = .over) := hw []
    clear hw
    go_wp2_with fail
    go_ret
    exact .inr ⟨rfl, -1, HS1.out, ⟨GF.ofG HG1.out, TX.ofG HG1.out (fun g hg => (HS.out.tb g hg).1)⟩, .inl ⟨rfl, HF.out⟩⟩
  case inr.inr =>
    have HF : Hid (within σ X.v L [T] = .found k) := hw []
    clear hw
    go_wp2_with fail
    go_ret
    exact .inr ⟨rfl, k, HS1.out, ⟨GF.ofG HG1.out, TX.ofG HG1.out (fun g hg => (HS.out.tb g hg).1)⟩, .inr ⟨k, rfl, hk, HF.out⟩⟩
  have HF : Hid (within σ X.v L [T] = .free k) := by rw [Hid, hw [], within_nil]
  clear hw
  obtain ⟨x0, x1, x2, fx0, fx1, fx2⟩ := block_cells HX1.out
  obtain ⟨t0, t1, t2, ft0, ft1, ft2⟩ := block_cells HT1.out
  by_cases hgt : X.v < T.v
  · have hd : decide (T.v > X.v) = true := decide_eq_true hgt
    have HPut : Hid (put σ X T = upd σ T.v X) := by rw [Hid, put, if_pos hgt]
    have hdec : X.v = 0 ∨ (0 < X.v ∧ X.v < T.v) := .inr ⟨by have := HX.out.2.1.top.1; omega, hgt⟩
    have p0 := HT.out.2.1.top.1
    have p1 := HT.out.2.1.top.2.1
    have HQG : Hid (Good w b m tv N X) := HX.out
    go_wp2_with fail
    have hgA : w1.grownBy (((w1.setCell ⟨w.heap.size, 0, none⟩ (.int .i64 T.v)).setCell ⟨w.heap.size, 1, none⟩ (.string T.nm)).setCell ⟨w.heap.size, 2, none⟩ (.slice T.a T.len T.cap)) (some w.heap.size) := G.trans (G.trans (grown_set _ 0 _) (grown_set _ 1 _)) (grown_set _ 2 _)
    have hXA := set3 (a := .int .i64 T.v) (b := .string T.nm) (c := .slice T.a T.len T.cap) HX1.out
    have hTA := (hgA.block (w.heap.size + 1) (lt_of_cell t0) (by simp)).trans HT1.out
    have hSA := HS1.out.atK hgA (by omega) (by omega) (fun g hg => by have := HS.out.trail_lt g hg; omega) (fun v U hU => (HS.out.trm v U hU).1.nb (Nat.le_refl _))
    generalize ((w1.setCell ⟨w.heap.size, 0, none⟩ (.int .i64 T.v)).setCell ⟨w.heap.size, 1, none⟩ (.string T.nm)).setCell ⟨w.heap.size, 2, none⟩ (.slice T.a T.len T.cap) = wA at *
    have hgB : wA.grownBy (((wA.setCell ⟨w.heap.size + 1, 0, none⟩ (.int .i64 X.v)).setCell ⟨w.heap.size + 1, 1, none⟩ (.string X.nm)).setCell ⟨w.heap.size + 1, 2, none⟩ (.slice X.a X.len X.cap)) (some (w.heap.size + 1)) := G.trans (G.trans (grown_set _ 0 _) (grown_set _ 1 _)) (grown_set _ 2 _)
    have hTB := set3 (a := .int .i64 X.v) (b := .string X.nm) (c := .slice X.a X.len X.cap) hTA
    have hXB := (hgB.block w.heap.size (lt_of_cell (block_cells hXA).1) (by simp)).trans hXA
    have hSB := hSA.atK hgB (by omega) (by omega) (fun g hg => by have := HS.out.trail_lt g hg; omega) (fun v U hU => (HS.out.trm v U hU).1.nb (by omega))
    have HG2 : Hid (GF b m tv w (((wA.setCell ⟨w.heap.size + 1, 0, none⟩ (.int .i64 X.v)).setCell ⟨w.heap.size + 1, 1, none⟩ (.string X.nm)).setCell ⟨w.heap.size + 1, 2, none⟩ (.slice X.a X.len X.cap))) := ⟨(hgB.os.trans hgA.os).trans HG1.out.os, (hgB.tape.trans hgA.tape).trans HG1.out.tape, (hgB.output.trans hgA.output).trans HG1.out.output, Nat.le_trans HG1.out.size (Nat.le_trans hgA.size hgB.size), fun j hj h1 h2 h3 => ((hgB.block j (by have := hgA.size; have := HG1.out.size; omega) (by simp; omega)).trans (hgA.block j (by have := HG1.out.size; omega) (by simp; omega))).trans (HG1.out.block j hj (by simpa using h1))⟩
    have HRow : Hid (∀ tr : List Int, ((((wA.setCell ⟨w.heap.size + 1, 0, none⟩ (.int .i64 X.v)).setCell ⟨w.heap.size + 1, 1, none⟩ (.string X.nm)).setCell ⟨w.heap.size + 1, 2, none⟩ (.slice X.a X.len X.cap))).ownsRow lo 3 1 tv tr.length (tr.map (Value.int .i64)) → w.ownsRow lo 3 1 tv tr.length (tr.map (Value.int .i64))) := row_back HS.out.own (fun _ _ h => ((h.kept HG1.out (row_ne (fun g hg => (HS.out.tb g hg).1))).kept hgA (row_ne (fun g hg => by have := HS.out.trail_lt g hg; omega))).kept hgB (row_ne (fun g hg => by have := HS.out.trail_lt g hg; omega)))
    generalize ((wA.setCell ⟨w.heap.size + 1, 0, none⟩ (.int .i64 X.v)).setCell ⟨w.heap.size + 1, 1, none⟩ (.string X.nm)).setCell ⟨w.heap.size + 1, 2, none⟩ (.slice X.a X.len X.cap) = w2 at *
    have HX2 : Hid (w2.heap[w.heap.size]? = some (.cells #[.int .i64 T.v, .string T.nm, .slice T.a T.len T.cap] 24)) := hXB
    have HT2 : Hid (w2.heap[w.heap.size + 1]? = some (.cells #[.int .i64 X.v, .string X.nm, .slice X.a X.len X.cap] 24)) := hTB
    have HS2 : Hid (VS w2 b m tv N lo n σ k) := hSB
    clear hgA hXA hTA hSA hgB hXB hTB hSB x0 x1 x2 fx0 fx1 fx2 t0 t1 t2 ft0 ft1 ft2
    obtain ⟨v0, v1, v2, kv0, kv1, kv2⟩ := block_cells HS2.out.blk
    obtain ⟨x0, x1, x2, fx0, fx1, fx2⟩ := block_cells HX2.out
    obtain ⟨t0, t1, t2, ft0, ft1, ft2⟩ := block_cells HT2.out
    have HSd : Hid (VS w2.drew b m tv N lo n σ k) := HS2.out.below (Below.refl _ _).drew
    obtain ⟨w3, hrun, hM3, hg3⟩ := HSd.out.map.store (i := T.v) p0 (Int.le_trans p1 HS.out.big) (by omega) X
    have HM3 : Hid (MapIs w3 m (n + 1) (upd σ T.v X)) := hM3
    have HG3 : Hid (w2.drew.grownBy w3 (some m)) := hg3
    clear hM3 hg3
    have z0 : w3.cell? ⟨b, 0, none⟩ = some (.map (some m)) := HG3.out.cell v0 (by simpa using HS.out.ne)
    have z1 : w3.cell? ⟨b, 1, none⟩ = some tv := HG3.out.cell v1 (by simpa using HS.out.ne)
    have y0 : w3.cell? ⟨w.heap.size, 0, none⟩ = some (.int .i64 T.v) := HG3.out.cell x0 (by simp; omega)
    have u0 : w3.cell? ⟨w.heap.size + 1, 0, none⟩ = some (.int .i64 X.v) := HG3.out.cell t0 (by simp; omega)
    have u1 : w3.cell? ⟨w.heap.size + 1, 1, none⟩ = some (.string X.nm) := HG3.out.cell t1 (by simp; omega)
    have u2 : w3.cell? ⟨w.heap.size + 1, 2, none⟩ = some (.slice X.a X.len X.cap) := HG3.out.cell t2 (by simp; omega)
    go_region_held3 (fun w' => w'.cell? ⟨b, 0, none⟩ = some (.map (some m)) ∧ w'.cell? ⟨w.heap.size, 0, none⟩ = some (.int .i64 T.v) ∧ w'.cell? ⟨w.heap.size + 1, 0, none⟩ = some (.int .i64 X.v) ∧ w'.cell? ⟨w.heap.size + 1, 1, none⟩ = some (.string X.nm) ∧ w'.cell? ⟨w.heap.size + 1, 2, none⟩ = some (.slice X.a X.len X.cap)) (first | exact ⟨v0, x0, t0, t1, t2⟩ | exact ⟨z0, y0, u0, u1, u2⟩ | exact ⟨by simpa using v0, by simpa using x0, by simpa using t0, by simpa using t1, by simpa using t2⟩) (fail)
    all_goals
      obtain ⟨tr, hown, htr⟩ := HSd.out.own
      have hown3 : w3.ownsRow lo 3 1 tv tr.length (tr.map (Value.int .i64)) := hown.kept HG3.out (by
        cases hv : tv.ownBlock with
        | none => exact .inl rfl
        | some g => exact .inr (by simpa using (HS.out.tb g hv).2))
      have gz1 : w3.frozen? ⟨b, 1, none⟩ = false := (World.frozen?_of_block (HG3.out.block b HS2.out.lt (by simpa using HS.out.ne))).trans kv1
      have hbB : b < w3.heap.size := Nat.lt_of_lt_of_le HS2.out.lt HG3.out.size
      have hxB : w.heap.size < w3.heap.size := lt_of_cell y0
      have hloB : lo ≤ w3.heap.size := Nat.le_trans HS.out.lob.1 (Nat.le_of_lt hbB)
      clear v0 v1 v2 kv0 kv1 kv2 x0 x1 x2 fx0 fx1 fx2 t0 t1 t2 ft0 ft1 ft2 u0 u1 u2 hrun
      obtain ⟨i0, hi, hz0, hz1, hz2⟩ := info_parts Try.info3
      have HBn : Hid (Below w3.heap.size w3 (w3.alloc (.cells #[.int .i64 T.v] 3)).drew) := ((Below.refl _ _).alloc (Nat.le_refl _) _).drew
      obtain ⟨v', w5, hr, hown5, hg5, _, hat⟩ := run_append_own_at (P := Try.prog) (w3.alloc (.cells #[.int .i64 T.v] 3)).drew lo 56 56 3 i0 (.int .i64 0) 1 8 Try.underlying56 hi hz0 hz1 hz2 rfl (by decide) tv tr.length (tr.map (Value.int .i64)) (hown3.kept (grown_of_below HBn.out none) (by
        cases tv.ownBlock with
        | none => exact .inl rfl
        | some g => exact .inr (by simp))) ⟨w3.heap.size, 0, none⟩ 1 1 [.int .i64 T.v] rfl (cell_one_new w3 _ _) (by intro u hu; simp at hu; subst hu; rfl) (by unfold maxLen; omega) (by omega) (by have := HBn.out.size; omega)
      have HOwn5 : Hid (w5.ownsRow lo 3 1 v' (tr.length + 1) (tr.map (Value.int .i64) ++ [.int .i64 T.v])) := hown5
      have HG5 : Hid ((w3.alloc (.cells #[.int .i64 T.v] 3)).drew.grownBy w5 tv.ownBlock) := hg5
      have HAt : Hid (v'.ownBlock = tv.ownBlock ∨ v'.ownBlock = some (w3.heap.size + 1)) := by rw [Hid]; simpa using hat
      have q1 : w5.cell? ⟨b, 1, none⟩ = some tv := hg5.cell ((HBn.out.cell (p := ⟨b, 1, none⟩) hbB).trans z1) (fun e => (HS.out.tb b e.symm).1 rfl)
      have gq1 : w5.frozen? ⟨b, 1, none⟩ = false := (World.frozen?_of_block (hg5.block b (Nat.lt_of_lt_of_le hbB HBn.out.size) (fun e => (HS.out.tb b e.symm).1 rfl))).trans ((HBn.out.frozen (p := ⟨b, 1, none⟩) hbB).trans gz1)
      have hform : ∃ g cap', v' = .slice (some ⟨g, 0, none⟩) (tr.length + 1) cap' := by
        rcases hown5.2 with ⟨_, h0⟩ | ⟨g, cap', cur, h0, _⟩
        · omega
        · exact ⟨g, cap', h0⟩
      obtain ⟨g, cap', rfl⟩ := hform
      have HFin : Hid (VS (w5.setCell ⟨b, 1, none⟩ (.slice (some ⟨g, 0, none⟩) (tr.length + 1) cap')) b m (.slice (some ⟨g, 0, none⟩) (tr.length + 1) cap') N lo (n + 1) (upd σ T.v X) k ∧ GF b m tv w (w5.setCell ⟨b, 1, none⟩ (.slice (some ⟨g, 0, none⟩) (tr.length + 1) cap')) ∧ TX lo tv σ w (.slice (some ⟨g, 0, none⟩) (tr.length + 1) cap') (upd σ T.v X) (w5.setCell ⟨b, 1, none⟩ (.slice (some ⟨g, 0, none⟩) (tr.length + 1) cap'))) :=
        bind_fin HS.out HS2.out HG2.out HM3.out HG3.out HBn.out hg5 hown5 htr hat HQG.out hdec (HX2n.out (by have := HX.out.2.1.top.1; omega)) ⟨p0, Int.le_trans p1 HS.out.big⟩ (HRow.out tr hown)
      clear hown5 hg5 hat hown3 hown
      go_wp2_with fail
      go_region_law (refine step_run rfl (.tmp 31) (.tmp 34) 56 rfl _ _ _ w5 (by simp [Act.eval]) (by simp [Act.eval]) hr ?_)
      all_goals
        go_wp2_with fail
        go_ret
        exact .inl ⟨rfl, _, k, HF.out, hk, by rw [HPut.out]; exact HFin.out.1, HFin.out.2.1, by rw [HPut.out]; exact HFin.out.2.2⟩

  · have hd : decide (T.v > X.v) = false := decide_eq_false (by omega)
    have HPut : Hid (put σ X T = upd σ X.v T) := by rw [Hid, put, if_neg hgt]
    have hdec : T.v = 0 ∨ (0 < T.v ∧ T.v < X.v) := by have := HT.out.2.1.top.1; omega
    have p0 := HX.out.2.1.top.1
    have p1 := HX.out.2.1.top.2.1
    have HQG : Hid (Good w b m tv N T) := HT.out
    clear x0 x1 x2 fx0 fx1 fx2 
    obtain ⟨x0, x1, x2, fx0, fx1, fx2⟩ := block_cells HX1.out
    go_wp2_with fail
    have HG2 : Hid (GF b m tv w w1) := GF.ofG HG1.out
    have HRow : Hid (∀ tr : List Int, w1.ownsRow lo 3 1 tv tr.length (tr.map (Value.int .i64)) → w.ownsRow lo 3 1 tv tr.length (tr.map (Value.int .i64))) := row_back HS.out.own (fun _ _ h => h.kept HG1.out (row_ne (fun g hg => (HS.out.tb g hg).1)))
    have HX2 : Hid (w1.heap[w.heap.size]? = some (.cells #[.int .i64 X.v, .string X.nm, .slice X.a X.len X.cap] 24)) := HX1.out
    have HT2 : Hid (w1.heap[w.heap.size + 1]? = some (.cells #[.int .i64 T.v, .string T.nm, .slice T.a T.len T.cap] 24)) := HT1.out
    have HS2 : Hid (VS w1 b m tv N lo n σ k) := HS1.out
    clear x0 x1 x2 fx0 fx1 fx2 t0 t1 t2 ft0 ft1 ft2 HX1 HT1 HS1 HG1
    generalize w1 = w2 at *
    obtain ⟨v0, v1, v2, kv0, kv1, kv2⟩ := block_cells HS2.out.blk
    obtain ⟨x0, x1, x2, fx0, fx1, fx2⟩ := block_cells HX2.out
    obtain ⟨t0, t1, t2, ft0, ft1, ft2⟩ := block_cells HT2.out
    have HSd : Hid (VS w2.drew b m tv N lo n σ k) := HS2.out.below (Below.refl _ _).drew
    obtain ⟨w3, hrun, hM3, hg3⟩ := HSd.out.map.store (i := X.v) p0 (Int.le_trans p1 HS.out.big) (by omega) T
    have HM3 : Hid (MapIs w3 m (n + 1) (upd σ X.v T)) := hM3
    have HG3 : Hid (w2.drew.grownBy w3 (some m)) := hg3
    clear hM3 hg3
    have z0 : w3.cell? ⟨b, 0, none⟩ = some (.map (some m)) := HG3.out.cell v0 (by simpa using HS.out.ne)
    have z1 : w3.cell? ⟨b, 1, none⟩ = some tv := HG3.out.cell v1 (by simpa using HS.out.ne)
    have y0 : w3.cell? ⟨w.heap.size, 0, none⟩ = some (.int .i64 X.v) := HG3.out.cell x0 (by simp; omega)
    have u0 : w3.cell? ⟨w.heap.size + 1, 0, none⟩ = some (.int .i64 T.v) := HG3.out.cell t0 (by simp; omega)
    have u1 : w3.cell? ⟨w.heap.size + 1, 1, none⟩ = some (.string T.nm) := HG3.out.cell t1 (by simp; omega)
    have u2 : w3.cell? ⟨w.heap.size + 1, 2, none⟩ = some (.slice T.a T.len T.cap) := HG3.out.cell t2 (by simp; omega)
    go_region_held3 (fun w' => w'.cell? ⟨b, 0, none⟩ = some (.map (some m)) ∧ w'.cell? ⟨w.heap.size, 0, none⟩ = some (.int .i64 X.v) ∧ w'.cell? ⟨w.heap.size + 1, 0, none⟩ = some (.int .i64 T.v) ∧ w'.cell? ⟨w.heap.size + 1, 1, none⟩ = some (.string T.nm) ∧ w'.cell? ⟨w.heap.size + 1, 2, none⟩ = some (.slice T.a T.len T.cap)) (first | exact ⟨v0, x0, t0, t1, t2⟩ | exact ⟨z0, y0, u0, u1, u2⟩ | exact ⟨by simpa using v0, by simpa using x0, by simpa using t0, by simpa using t1, by simpa using t2⟩) (fail)
    all_goals
      obtain ⟨tr, hown, htr⟩ := HSd.out.own
      have hown3 : w3.ownsRow lo 3 1 tv tr.length (tr.map (Value.int .i64)) := hown.kept HG3.out (by
        cases hv : tv.ownBlock with
        | none => exact .inl rfl
        | some g => exact .inr (by simpa using (HS.out.tb g hv).2))
      have gz1 : w3.frozen? ⟨b, 1, none⟩ = false := (World.frozen?_of_block (HG3.out.block b HS2.out.lt (by simpa using HS.out.ne))).trans kv1
      have hbB : b < w3.heap.size := Nat.lt_of_lt_of_le HS2.out.lt HG3.out.size
      have hxB : w.heap.size < w3.heap.size := lt_of_cell y0
      have hloB : lo ≤ w3.heap.size := Nat.le_trans HS.out.lob.1 (Nat.le_of_lt hbB)
      clear v0 v1 v2 kv0 kv1 kv2 x0 x1 x2 fx0 fx1 fx2 t0 t1 t2 ft0 ft1 ft2 u0 u1 u2 hrun
      obtain ⟨i0, hi, hz0, hz1, hz2⟩ := info_parts Try.info3
      have HBn : Hid (Below w3.heap.size w3 (w3.alloc (.cells #[.int .i64 X.v] 3)).drew) := ((Below.refl _ _).alloc (Nat.le_refl _) _).drew
      obtain ⟨v', w5, hr, hown5, hg5, _, hat⟩ := run_append_own_at (P := Try.prog) (w3.alloc (.cells #[.int .i64 X.v] 3)).drew lo 56 56 3 i0 (.int .i64 0) 1 8 Try.underlying56 hi hz0 hz1 hz2 rfl (by decide) tv tr.length (tr.map (Value.int .i64)) (hown3.kept (grown_of_below HBn.out none) (by
        cases tv.ownBlock with
        | none => exact .inl rfl
        | some g => exact .inr (by simp))) ⟨w3.heap.size, 0, none⟩ 1 1 [.int .i64 X.v] rfl (cell_one_new w3 _ _) (by intro u hu; simp at hu; subst hu; rfl) (by unfold maxLen; omega) (by omega) (by have := HBn.out.size; omega)
      have HOwn5 : Hid (w5.ownsRow lo 3 1 v' (tr.length + 1) (tr.map (Value.int .i64) ++ [.int .i64 X.v])) := hown5
      have HG5 : Hid ((w3.alloc (.cells #[.int .i64 X.v] 3)).drew.grownBy w5 tv.ownBlock) := hg5
      have HAt : Hid (v'.ownBlock = tv.ownBlock ∨ v'.ownBlock = some (w3.heap.size + 1)) := by rw [Hid]; simpa using hat
      have q1 : w5.cell? ⟨b, 1, none⟩ = some tv := hg5.cell ((HBn.out.cell (p := ⟨b, 1, none⟩) hbB).trans z1) (fun e => (HS.out.tb b e.symm).1 rfl)
      have gq1 : w5.frozen? ⟨b, 1, none⟩ = false := (World.frozen?_of_block (hg5.block b (Nat.lt_of_lt_of_le hbB HBn.out.size) (fun e => (HS.out.tb b e.symm).1 rfl))).trans ((HBn.out.frozen (p := ⟨b, 1, none⟩) hbB).trans gz1)
      have hform : ∃ g cap', v' = .slice (some ⟨g, 0, none⟩) (tr.length + 1) cap' := by
        rcases hown5.2 with ⟨_, h0⟩ | ⟨g, cap', cur, h0, _⟩
        · omega
        · exact ⟨g, cap', h0⟩
      obtain ⟨g, cap', rfl⟩ := hform
      have HFin : Hid (VS (w5.setCell ⟨b, 1, none⟩ (.slice (some ⟨g, 0, none⟩) (tr.length + 1) cap')) b m (.slice (some ⟨g, 0, none⟩) (tr.length + 1) cap') N lo (n + 1) (upd σ X.v T) k ∧ GF b m tv w (w5.setCell ⟨b, 1, none⟩ (.slice (some ⟨g, 0, none⟩) (tr.length + 1) cap')) ∧ TX lo tv σ w (.slice (some ⟨g, 0, none⟩) (tr.length + 1) cap') (upd σ X.v T) (w5.setCell ⟨b, 1, none⟩ (.slice (some ⟨g, 0, none⟩) (tr.length + 1) cap'))) :=
        bind_fin HS.out HS2.out HG2.out HM3.out HG3.out HBn.out hg5 hown5 htr hat HQG.out hdec HX1n.out ⟨p0, Int.le_trans p1 HS.out.big⟩ (HRow.out tr hown)
      clear hown5 hg5 hat hown3 hown
      go_wp2_with fail
      go_region_law (refine step_run rfl (.tmp 31) (.tmp 34) 56 rfl _ _ _ w5 (by simp [Act.eval]) (by simp [Act.eval]) hr ?_)
      all_goals
        go_wp2_with fail
        go_ret
        exact .inl ⟨rfl, _, k, HF.out, hk, by rw [HPut.out]; exact HFin.out.1, HFin.out.2.1, by rw [HPut.out]; exact HFin.out.2.2⟩

end Go.Proofs.Ytmggaclaoefdaaa
