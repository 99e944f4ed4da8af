/- Does a variable not stand in a term? Walked. -/
import Derived.Test.YtmggaclaoefdaaaGBF
namespace Go.Proofs.Ytmggaclaoefdaaa
open Go.RowKit Go.Shelf
set_option linter.unusedVariables false
set_option linter.unusedSimpArgs false
attribute [local go_sem] Oper.semAt_some

def MM (m mb k : Nat) : Prop := k = m ∨ k = mb
def LkP (w : World) (mb vb m : Nat) (bv : Value) (a : Option Addr) (len cap : Nat) (h : Nat → Cl) (r : LkR) (e : Ending) (w' : World) : Prop := e = .returned (.bool r.yes) ∧ (∃ σ', MK w' mb vb m bv r.left a len cap h σ') ∧ Bw (MM m mb) w.heap.size w w'
def LkC (n : Nat) : Prop := ∀ (mb vb m : Nat) (bv : Value) (a : Option Addr) (len cap : Nat) (h : Nat → Cl) (σ : Int → Option Int) (t v : Nat) (w : World), HG h len → len ≤ 1000000 → t < len → MK w mb vb m bv (n : Int) a len cap h σ →
  Calls Try.prog 144 #[.pointer (some ⟨mb, 0, none⟩), .int .i64 (t : Int), .int .i64 (v : Int)] w (LkP w mb vb m bv a len cap h (lkL h len v n [t]))
structure LkB (w : World) (mb vb m : Nat) (bv : Value) (a : Option Addr) (len cap : Nat) (h : Nat → Cl) (v s z : Nat) (left : Int) (W : World) (σ' : Int → Option Int) : Prop where
  b0 : Boxed W s 165 (.pointer (some ⟨mb, 0, none⟩))
  b1 : Boxed W (s + 1) 3 (.int .i64 (v : Int))
  b2 : Boxed W (s + 2) 4 (.bool false)
  mkg : MK W mb vb m bv left a len cap h σ'
  bw : Bw (MM m mb) s w W
  sz : z ≤ W.heap.size
theorem LkB.own {w : World} {mb vb m : Nat} {bv : Value} {a : Option Addr} {len cap : Nat} {h : Nat → Cl} {v s z : Nat} {left : Int} {W Y : World} {σ' : Int → Option Int} {row : Option Nat} {B : Nat} (L : LkB w mb vb m bv a len cap h v s z left W σ') (hm : m < B) (hs : s ≤ z) (hB : s ≤ B) (hg : W.grownBy Y row) (hr : ∀ r, row = some r → B ≤ r ∧ ∃ o : Obj, W.heap[r]? = some o ∧ o.isCells = false) : LkB w mb vb m bv a len cap h v s z left Y σ' :=
  ⟨box_own L.b0 hg hr, box_own L.b1 hg hr, box_own L.b2 hg hr, L.mkg.own hm hg hr, L.bw.own (Nat.le_trans hs L.sz) hB hg hr, Nat.le_trans L.sz hg.size⟩
theorem lkL_stop {h : Nat → Cl} {len v n : Nat} {p l : List Nat} (hp : p <+: l) (hn : (lkL h len v n p).yes = false) : lkL h len v n l = lkL h len v n p := by
  obtain ⟨r, rfl⟩ := hp
  rw [lkL_append]
  cases e : lkL h len v n p with
  | ok k => rw [e] at hn; cases hn
  | hit => rfl
  | over => rfl
def LkI (w : World) (mb vb m : Nat) (bv : Value) (a : Option Addr) (len cap : Nat) (h : Nat → Cl) (v s z n : Nat) (pre : List (Cx len)) (W : World) : Prop := ∃ (k : Nat) (σ' : Int → Option Int), lkL h len v n (vals pre) = .ok k ∧ LkB w mb vb m bv a len cap h v s z (k : Int) W σ'
def LkX (w : World) (mb vb m : Nat) (bv : Value) (a : Option Addr) (len cap : Nat) (h : Nat → Cl) (v s z n : Nat) (c : Code) (pre : List (Cx len)) (W : World) : Prop := c = .ret ∧ (lkL h len v n (vals pre)).yes = false ∧ ∃ σ', LkB w mb vb m bv a len cap h v s z (lkL h len v n (vals pre)).left W σ'
noncomputable def lkOne (h : Nat → Cl) (len v n z : Nat) : LkR := match n with
  | 0 => .over
  | k + 1 => if z = v then .hit k else lkL h len v k (leads h z)
theorem lkL_one (h : Nat → Cl) (len v n t : Nat) : lkL h len v n [t] = lkOne h len v n (endA h len t) := by
  cases n with
  | zero => rfl
  | succ k =>
    show (if endA h len t = v then LkR.hit k else lkL h len v k (leads h (endA h len t) ++ [])) = _
    rw [List.append_nil]; rfl
set_option maxRecDepth 100000 in
set_option maxHeartbeats 8000000 in
theorem mlacks_step (n : Nat) (hn : n ≤ 1000000) (ih : ∀ k, k < n → LkC k) : LkC n := by
  intro mb vb m bv a len cap h σ t v w H hlb ht K
  have HK0 : Hid (MK w mb vb m bv (n : Int) a len cap h σ) := K
  have HG' : Hid (HG h len) := H
  obtain ⟨W0, hW0⟩ : ∃ W0, ((w.alloc (.cells #[.pointer (some ⟨mb, 0, none⟩)] 165)).alloc (.cells #[.int .i64 (v : Int)] 3)).alloc (.cells #[.bool false] 4) = W0 := ⟨_, rfl⟩
  have hB0 : Below w.heap.size w W0 := by rw [← hW0]; exact (((Below.refl _ _).alloc (Nat.le_refl _) _).alloc (by simp) _).alloc (by simp; omega) _
  have hs0 : W0.heap.size = w.heap.size + 3 := by rw [← hW0]; simp
  have x0 : Boxed W0 w.heap.size 165 (.pointer (some ⟨mb, 0, none⟩)) := by rw [← hW0]; exact ((Boxed.new w _ _).alloc _).alloc _
  have x1 : Boxed W0 (w.heap.size + 1) 3 (.int .i64 (v : Int)) := by
    rw [← hW0]
    have := (Boxed.new (w.alloc (.cells #[.pointer (some ⟨mb, 0, none⟩)] 165)) 3 (.int .i64 (v : Int))).alloc (.cells #[.bool false] 4)
    rwa [World.size_alloc] at this
  have x2 : Boxed W0 (w.heap.size + 2) 4 (.bool false) := by
    rw [← hW0]
    have := Boxed.new ((w.alloc (.cells #[.pointer (some ⟨mb, 0, none⟩)] 165)).alloc (.cells #[.int .i64 (v : Int)] 3)) 4 (.bool false)
    rwa [World.size_alloc, World.size_alloc] at this
  have hKm := K.below hB0
  have HDe : Hid (Calls Try.prog 77 #[.pointer (some ⟨vb, 0, none⟩), .int .i64 t] W0 fun e w' => e = .returned (.int .i64 (endA h len t : Nat)) ∧ (∃ σ', VW w' vb m a len cap h σ') ∧ W0.grownBy w' (some m)) := deref_any H hlb ht W0 hKm.view
  have k0 := hKm.cells.1
  have d0 := x0.cell
  have hml : m < w.heap.size := K.view.lt.2
  have hmb : mb < w.heap.size := K.lt
  have HIH : Hid (∀ k, k < n → LkC k) := ih
  have HX0 : Hid (Boxed W0 w.heap.size 165 (.pointer (some ⟨mb, 0, none⟩)) ∧ Boxed W0 (w.heap.size + 1) 3 (.int .i64 (v : Int)) ∧ Boxed W0 (w.heap.size + 2) 4 (.bool false)) := ⟨x0, x1, x2⟩
  have HKm : Hid (MK W0 mb vb m bv (n : Int) a len cap h σ) := hKm
  have HBW : Hid (Bw (MM m mb) w.heap.size w W0) := Bw.ofBelow hB0
  have hz := H.end_lt ht
  have HL : Hid (lkL h len v n [t] = lkOne h len v n (endA h len t)) := lkL_one h len v n t
  generalize hrr : lkL h len v n [t] = rr at *
  clear K H x0 x1 x2 hB0 ih hKm
  generalize endA h len t = z at *
  refine (callsIn_wide (n := 5)).1 (callsIn_of_wp_marks Try.func144 rfl trivial (wpIn_wide.2 ?_) rfl)
  simp only [Try.ntmps144, List.size_toArray, List.length_cons, List.length_nil, Nat.reduceAdd, Nat.reduceSub, Array.replicate_succ, Array.replicate_zero, List.push_toArray, List.append_toArray, List.nil_append, List.cons_append]
  go_wp2_with fail
  try rw [hW0]
  go_wp2_with fail
  generalize hs : w.heap.size = s at *
  refine HDe.out.mono ?_
  rintro e w1 ⟨rfl, ⟨σ1, hV1⟩, hg1⟩
  have hK1 := HKm.out.map hV1 hg1
  have hs1 := hg1.size
  have hnm : ∀ q, s ≤ q → some q ≠ some m := fun q hq e => by have := Option.some.inj e; omega
  have HX1 : Hid (Boxed w1 s 165 (.pointer (some ⟨mb, 0, none⟩)) ∧ Boxed w1 (s + 1) 3 (.int .i64 (v : Int)) ∧ Boxed w1 (s + 2) 4 (.bool false)) := ⟨HX0.out.1.kept hg1 (hnm _ (by omega)), HX0.out.2.1.kept hg1 (hnm _ (by omega)), HX0.out.2.2.kept hg1 (hnm _ (by omega))⟩
  have HB1 : Hid (Bw (MM m mb) s w w1) := HBW.out.grown hg1 (by omega) (fun q e => .inr (.inl (Option.some.inj e).symm))
  have HLo : Hid (Calls Try.prog 134 #[.pointer (some ⟨mb, 0, none⟩)] w1 fun e w' => e = .returned (.bool (decide (0 < n))) ∧ MK w' mb vb m bv ((n : Int) - 1) a len cap h σ1 ∧ w1.grownBy w' (some mb)) := mlook_any hn w1 hK1
  have d1 := HX1.out.1.cell
  clear hV1 hg1 hK1 HX0 HKm HBW HDe d0 k0 hnm
  go_wp2_with fail
  refine HLo.out.mono ?_
  rintro e w2 ⟨rfl, hK2, hg2⟩
  have hs2 := hg2.size
  have hnb : ∀ q, s ≤ q → some q ≠ some mb := fun q hq e => by have := Option.some.inj e; omega
  have HX2 : Hid (Boxed w2 s 165 (.pointer (some ⟨mb, 0, none⟩)) ∧ Boxed w2 (s + 1) 3 (.int .i64 (v : Int)) ∧ Boxed w2 (s + 2) 4 (.bool false)) := ⟨HX1.out.1.kept hg2 (hnb _ (by omega)), HX1.out.2.1.kept hg2 (hnb _ (by omega)), HX1.out.2.2.kept hg2 (hnb _ (by omega))⟩
  have HB2 : Hid (Bw (MM m mb) s w w2) := HB1.out.grown hg2 (by omega) (fun q e => .inr (.inr (Option.some.inj e).symm))
  have HK2 : Hid (MK w2 mb vb m bv ((n : Int) - 1) a len cap h σ1) := hK2
  have f0 := HX2.out.1.cell
  have f1 := HX2.out.2.1.cell
  have f2 := HX2.out.2.2.cell
  have ff2 := HX2.out.2.2.frozen
  have HSt : Hid (∀ b : Bool, MK (w2.setCell ⟨s + 2, 0, none⟩ (.bool b)) mb vb m bv ((n : Int) - 1) a len cap h σ1 ∧ Bw (MM m mb) s w (w2.setCell ⟨s + 2, 0, none⟩ (.bool b)) ∧ (w2.setCell ⟨s + 2, 0, none⟩ (.bool b)).cell? ⟨s + 2, 0, none⟩ = some (.bool b)) := fun b => ⟨HK0.out.low hK2 fun q hq => (grown_set (W := w2) (s + 2) 0 _).block q (by omega) (fun e => by have := Option.some.inj e; omega), HB2.out.grown (grown_set (W := w2) (s + 2) 0 _) (by omega) (fun q e => .inl (by cases e; omega)), (HX2.out.2.2.set _).cell⟩
  clear hK2 hg2 d1 HX1 HB1 HLo hnb
  cases n with
  | zero =>
    have hd : decide (0 < 0) = false := rfl
    have HE : Hid (rr = .over) := HL.out
    go_wp2_with fail
    have y := (HSt.out false).2.2
    refine ⟨.bool false, ?_, ?_, ⟨σ1, ?_⟩, ?_⟩
    · simp [results, Try.results144, go_sem, y]
    · rw [HE.out]; rfl
    · rw [HE.out]; exact (HSt.out false).1
    · rw [hs]; exact (HSt.out false).2.1
  | succ n =>
  have hd : decide (0 < n + 1) = true := decide_eq_true (by omega)
  have hn1 : ((n + 1 : Nat) : Int) - 1 = (n : Int) := by omega
  rw [hn1] at HK2 HSt
  by_cases hzv : z = v
  case pos =>
    have hzb : ((z : Int) == (v : Int)) = true := beq_iff_eq.2 (by omega)
    have HE : Hid (rr = .hit n) := by rw [Hid, HL.out]; show (if z = v then _ else _) = _; rw [if_pos hzv]
    go_wp2_with fail
    have y := (HSt.out false).2.2
    refine ⟨.bool false, ?_, ?_, ⟨σ1, ?_⟩, ?_⟩
    · simp [results, Try.results144, go_sem, y]
    · rw [HE.out]; rfl
    · rw [HE.out]; exact (HSt.out false).1
    · rw [hs]; exact (HSt.out false).2.1
  have hzb : ((z : Int) == (v : Int)) = false := beq_eq_false_iff_ne.2 (by omega)
  have HE : Hid (rr = lkL h len v n (leads h z)) := by rw [Hid, HL.out]; show (if z = v then _ else _) = _; rw [if_neg hzv]
  have HLd : Hid (Calls Try.prog 110 #[.slice a len cap, .int .i64 z] w2 fun e w' => e = .returned (.func (.func 130) #[] #[.pointer (some ⟨w2.heap.size, 0, none⟩), .pointer (some ⟨w2.heap.size + 1, 0, none⟩)]) ∧ w' = (w2.alloc (.cells #[.slice a len cap] 54)).alloc (.cells #[.int .i64 z] 3)) := leads_any a len cap z w2
  have k20 := HK2.out.cells.1
  have v20 := HK2.out.view.cells.1
  clear hzv HSt HL
  go_wp2_with fail
  refine HLd.out.mono ?_
  rintro e w3 ⟨rfl, hw3⟩
  have hB3 : Below w2.heap.size w2 w3 := by rw [hw3]; exact ((Below.refl _ _).alloc (Nat.le_refl _) _).alloc (by simp) _
  have hx3 : w3.heap[w2.heap.size]? = some (.cells #[.slice a len cap] 54) ∧ w3.heap[w2.heap.size + 1]? = some (.cells #[.int .i64 (z : Int)] 3) := by rw [hw3]; exact alloc2 _ _ _
  have hs3 : w3.heap.size = w2.heap.size + 2 := by rw [hw3]; simp
  have HI0 : Hid (∃ (k : Nat) (σ' : Int → Option Int), lkL h len v n (vals ([] : List (Cx len))) = .ok k ∧ LkB w mb vb m bv a len cap h v s w3.heap.size (k : Int) w3 σ') := ⟨n, σ1, lkL_nil _ _ _ _, (hB3.block _ HX2.out.1.lt).trans HX2.out.1, (hB3.block _ HX2.out.2.1.lt).trans HX2.out.2.1, (hB3.block _ HX2.out.2.2.lt).trans HX2.out.2.2, HK2.out.below hB3, HB2.out.trans (Bw.ofBelow (hB3.mono (by omega))), Nat.le_refl _⟩
  have HHin : Hid (HIn w3 a len h) := HK2.out.view.row.below hB3
  have HX3 : Hid (w3.heap[w2.heap.size]? = some (.cells #[.slice a len cap] 54) ∧ w3.heap[w2.heap.size + 1]? = some (.cells #[.int .i64 (z : Int)] 3)) := hx3
  have hkk := HG'.out.kind z hz
  clear hw3 hx3 hB3 k20 v20 f0 f1 f2 ff2 HLd
  go_wp2_with fail
  generalize hr : w2.heap.size = r at *
  refine wpIn_wide.1 (wpIn_rangeFunc_ownG (n := 5) rfl (by omega) (gf := 130) (lb := #[.pointer (some ⟨r, 0, none⟩), .pointer (some ⟨r + 1, 0, none⟩)]) rfl trivial (enters_of Try.func130 (by kernel_rfl) rfl)
    (leads_stops 4 hz r (r + 1) w3 HHin.out HG'.out.ok hkk hlb HX3.out.1 HX3.out.2) (fun h k => Kb.t h k) (Kb.b (by omega)) (Below.refl _ _) (fun _ => rfl)
    (LkI w mb vb m bv a len cap h v s w3.heap.size n) (LkX w mb vb m bv a len cap h v s w3.heap.size n)
    (fun pre X Y row hs' hg hr' => by
      obtain ⟨k, σ', e, L⟩ := hs'
      exact ⟨k, σ', e, L.own (by omega) (by omega) (by omega) hg hr'⟩)
    (fun c pre X Y row hs' hg hr' => by
      obtain ⟨e, h0, σ', L⟩ := hs'
      exact ⟨e, h0, σ', L.own (by omega) (by omega) (by omega) hg hr'⟩)
    HI0.out
    (fun x => { tmps := #[.pointer (some ⟨mb, 0, none⟩), .int .i64 (z : Int), .int .i64 (v : Int), .pointer (some ⟨s, 0, none⟩), undef, .pointer (some ⟨s + 1, 0, none⟩), .pointer (some ⟨s + 2, 0, none⟩), .int .i64 (x.1 : Int), .pointer (some ⟨mb, 0, none⟩), .pointer (some ⟨mb, 0, none⟩), .pointer (some ⟨mb, 0, none⟩), .pointer (some ⟨vb, 0, none⟩), .int .i64 (t : Int), .int .i64 (z : Int), .pointer (some ⟨mb, 0, none⟩), .bool true, .bool false, .bool false, .int .i64 (z : Int), .int .i64 (v : Int), .bool false, .bool false, .pointer (some ⟨mb, 0, none⟩), .pointer (some ⟨mb, 0, none⟩), .pointer (some ⟨mb, 0, none⟩), .pointer (some ⟨vb, 0, none⟩), .pointer (some ⟨vb, 0, none⟩), .pointer (some ⟨vb, 0, none⟩), .slice a len cap, .int .i64 (z : Int), .func (.func 130) #[] #[.pointer (some ⟨r, 0, none⟩), .pointer (some ⟨r + 1, 0, none⟩)], .int .i64 (x.1 : Int), undef, undef, undef, undef, undef], defers := [] }) ?assign ?body ?done ?stop)
  case assign =>
    intro l x W K hK
    gi_wp2
    exact hK
  case stop =>
    rintro D c pre W hD hp ⟨rfl, h0, σ', L⟩ hDK
    refine wpIn_ret ?_
    have hg := grownBy_putObj' W D (.deferred none)
    have hne : ∀ k, k < w3.heap.size → some k ≠ some D := fun k hk e => by have := Option.some.inj e; omega
    have h1' : Boxed (W.putObj D (.deferred none)) (s + 2) 4 (.bool false) := L.b2.kept hg (hne _ (by omega))
    have hE : rr = lkL h len v n (vals pre) := HE.out.trans (lkL_stop hp h0)
    have hz' := L.sz
    refine ⟨by simp, .inl ⟨_, _, rfl, run_takeDeferred hDK, .bool false, ?_, ?_, ⟨σ', ?_⟩, ?_⟩⟩
    · simp [results, Try.results144, go_sem, h1'.cell]
    · rw [hE, h0]
    · rw [hE]; exact HK0.out.low L.mkg fun k hk => hg.block k (by omega) (hne _ (by omega))
    · rw [hs]; exact L.bw.grown (B := s) hg (by omega) (fun k e => .inl (by cases e; omega))
  case done =>
    rintro D ys W hD hys ⟨k, σ', e, L⟩ hDK
    have b2 := L.b2.cell
    have f2 := L.b2.frozen
    have hz' := L.sz
    have HEk : Hid (rr = .ok k) := by rw [Hid, HE.out, ← hys]; exact e
    have HKf : Hid (MK (W.setCell ⟨s + 2, 0, none⟩ (.bool true)) mb vb m bv (k : Int) a len cap h σ') := HK0.out.low L.mkg fun q hq => (grown_set (W := W) (s + 2) 0 _).block q (by omega) (fun e => by have := Option.some.inj e; omega)
    have HB : Hid (Bw (MM m mb) s w (W.setCell ⟨s + 2, 0, none⟩ (.bool true))) := L.bw.grown (grown_set (W := W) (s + 2) 0 _) (by omega) (fun q e => .inl (by cases e; omega))
    have HX : Hid (Boxed (W.setCell ⟨s + 2, 0, none⟩ (.bool true)) (s + 2) 4 (.bool true)) := L.b2.set _
    have HD : Hid ((W.setCell ⟨s + 2, 0, none⟩ (.bool true)).heap[D]? = some (.deferred (some []))) := (KeepsOthers.setCell _ _ _).same D _ hDK rfl
    clear L hDK e hys
    go_wp2_with fail
    have hg := grownBy_putObj' (W.setCell ⟨s + 2, 0, none⟩ (.bool true)) D (.deferred none)
    have hne : ∀ k, k < w3.heap.size → some k ≠ some D := fun k hk e => by have := Option.some.inj e; omega
    have hX := HX.out.kept hg (hne _ (by omega))
    refine ⟨by simp, .inl ⟨_, _, rfl, run_takeDeferred HD.out, .bool true, ?_, ?_, ⟨σ', ?_⟩, ?_⟩⟩
    · simp [results, Try.results144, go_sem, hX.cell]
    · rw [HEk.out]; rfl
    · rw [HEk.out]; exact HK0.out.low HKf.out fun q hq => hg.block q (by simp; omega) (hne _ (by omega))
    · rw [hs]; exact HB.out.grown (B := s) hg (by simp; omega) (fun k e => .inl (by cases e; omega))
  case body =>
    rintro l pre x W ⟨k, σ', e, L⟩ hpl
    have b0 := L.b0.cell
    have b1 := L.b1.cell
    have hxl : x.1 < len := x.2
    have hkn : k ≤ n := (lkL_le h len v n (vals pre)).1 k e
    have HLa : Hid (Calls Try.prog 144 #[.pointer (some ⟨mb, 0, none⟩), .int .i64 (x.1 : Int), .int .i64 (v : Int)] W (LkP W mb vb m bv a len cap h (lkL h len v k [x.1]))) := HIH.out k (by omega) mb vb m bv a len cap h σ' x.1 v W HG'.out hlb hxl L.mkg
    have HEr : Hid (lkL h len v n (vals (pre ++ [x])) = lkL h len v k [x.1]) := by rw [Hid, vals_snoc, lkL_append, e]; rfl
    have HLB : Hid (LkB w mb vb m bv a len cap h v s w3.heap.size (k : Int) W σ') := L
    generalize lkL h len v k [x.1] = rx at *
    clear L e
    gi_wp2
    refine ⟨trivial, CallsIn.inRound l (callsIn_wide.2 (HLa.out.mono ?_))⟩
    rintro e w5 ⟨rfl, ⟨σ5, hK5⟩, hb5⟩
    have hszW := HLB.out.sz
    have hs5 := hb5.size
    have hnM : ∀ q, s ≤ q → ¬ MM m mb q := fun q hq hm => by
      rcases hm with e | e <;> omega
    have HB5 : Hid (LkB w mb vb m bv a len cap h v s w3.heap.size rx.left w5 σ5) := ⟨(hb5.block s (by omega) (hnM _ (by omega))).trans HLB.out.b0, (hb5.block (s + 1) (by omega) (hnM _ (by omega))).trans HLB.out.b1, (hb5.block (s + 2) (by omega) (hnM _ (by omega))).trans HLB.out.b2, hK5, HLB.out.bw.trans (hb5.mono (by omega)), by omega⟩
    have HKp : Hid (KeepsFrom w3.heap.size W w5) := ⟨hb5.size, fun q o hq ho _ => (hb5.block q (Array.getElem?_eq_some_iff.1 ho).1 (hnM _ (by omega))).trans ho⟩
    have HKb : Hid (Kb (r + 1) W w5) := ⟨by omega, hb5.block (r + 1) (by omega) (hnM _ (by omega))⟩
    have g2 := HB5.out.b2.cell
    have gf2 := HB5.out.b2.frozen
    clear hK5 hb5
    cases hy : rx.yes with
    | true =>
      obtain ⟨k', hk'⟩ : ∃ k', rx = .ok k' := by
        cases rx with
        | ok k' => exact ⟨k', rfl⟩
        | hit => cases hy
        | over => cases hy
      have HIn : Hid (LkI w mb vb m bv a len cap h v s w3.heap.size n (pre ++ [x]) w5) := ⟨k', σ5, by rw [HEr.out, hk'], by have h9 := HB5.out; rw [hk'] at h9; exact h9⟩
      gi_wp2
      exact ⟨HKp.out, HKb.out, HIn.out⟩
    | false =>
      have HX : Hid (LkX w mb vb m bv a len cap h v s w3.heap.size n .ret (pre ++ [x]) (w5.setCell ⟨s + 2, 0, none⟩ (.bool false))) := by
        refine ⟨rfl, by rw [HEr.out, hy], σ5, ?_⟩
        rw [HEr.out]
        have hgs := grown_set (W := w5) (s + 2) 0 (.bool false)
        have L := HB5.out
        exact ⟨L.b0.other (by omega) _, L.b1.other (by omega) _, L.b2.set _, HK0.out.low L.mkg fun q hq => hgs.block q (by omega) (fun e => by have := Option.some.inj e; omega), L.bw.grown hgs (by omega) (fun q e => .inl (by cases e; omega)), by simp; omega⟩
      have HKq : Hid (KeepsFrom w3.heap.size W (w5.setCell ⟨s + 2, 0, none⟩ (.bool false))) := HKp.out.trans ((KeepsOthers.setCell _ _ _).from _)
      gi_wp2
      exact ⟨HKq.out, HX.out⟩
theorem mlacks_all : ∀ n, n ≤ 1000000 → LkC n := by
  intro n
  induction n using Nat.strongRecOn with
  | _ n ih => intro hn; exact mlacks_step n hn fun k hk => ih k hk (by omega)
end Go.Proofs.Ytmggaclaoefdaaa
