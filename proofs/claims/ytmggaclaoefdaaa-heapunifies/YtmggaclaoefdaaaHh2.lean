/- The reference's Meet, walked. -/
import Derived.Deep.RegionHeld3
import Derived.BigQuiet
import Derived.Test.YtmggaclaoefdaaaHh1
import Derived.Test.YtmggaclaoefdaaaHm7
namespace Go.Proofs.Ytmggaclaoefdaaa
open Go.RowKit
set_option linter.unusedVariables false
set_option linter.unusedSimpArgs false
attribute [local go_sem] Oper.semAt_some

def MR.code : MR → Int
  | .yes _ => 1
  | .no x _ _ => if x < 0 then 2 else 0
def MBr (xb g : Nat) (bv : Value) (k : Nat) : Prop := k = xb ∨ k = g ∨ bv.ownBlock = some k
section
variable {lo : Nat} {w w' : World} {xb : Nat} {bv : Value} {wk : Int} {g cap : Nat} {l : List Cl} {bs : List Nat}
theorem RH.stored (R : RH lo w xb bv wk g cap l bs) {v t : Nat} (hv : v < l.length) : RH lo (w.setCell ⟨g, v * 3 + 1, none⟩ (.int .i64 (t : Int))) xb bv wk g cap (bndL l v t) bs := by
  have hg := grown_set (W := w) g (v * 3 + 1) (.int .i64 (t : Int))
  obtain ⟨g1, g4⟩ := R.gne
  have hR : CRw lo (w.setCell ⟨g, v * 3 + 1, none⟩ (.int .i64 (t : Int))) (.slice (some ⟨g, 0, none⟩) l.length cap) (bndL l v t) := by
    have h9 := CRw.setN R.row rfl hv (t : Int)
    unfold bndL
    rw [hOf_get hv]
    exact h9
  refine ⟨?_, ?_, R.bnd.kept hg ?_, Nat.le_trans R.low hg.size⟩
  · rw [bndL_len]; exact (hg.block _ R.lt (fun e => g1 (Option.some.inj e).symm)).trans R.blk
  · rw [bndL_len]; exact hR
  · cases hb : bv.ownBlock with
    | none => exact .inl rfl
    | some k => exact .inr (fun e => (R.bne k hb).2.1 (Option.some.inj e))
theorem RH.noted (R : RH lo w xb bv wk g cap l bs) {v : Nat} {bv' : Value} {w6 : World} (ho : w6.ownsRow lo 3 1 bv' (bs.length + 1) ((bs.map fun x : Nat => Value.int .i64 (x : Int)) ++ [.int .i64 (v : Int)])) (hg : w.grownBy w6 bv.ownBlock) (hat : bv'.ownBlock = bv.ownBlock ∨ bv'.ownBlock = some w.heap.size) :
    RH lo (w6.setCell ⟨xb, 1, none⟩ bv') xb bv' wk g cap l (bs ++ [v]) ∧ w6.cell? ⟨xb, 1, none⟩ = some bv ∧ w6.frozen? ⟨xb, 1, none⟩ = false ∧ Bw (MBr xb g bv) w.heap.size w (w6.setCell ⟨xb, 1, none⟩ bv') := by
  have hbl : ∀ k, k < w.heap.size → bv.ownBlock ≠ some k → w6.heap[k]? = w.heap[k]? := fun k hk hne => hg.block k hk (fun e => hne e.symm)
  have hgs := grown_set (W := w6) xb 1 bv'
  have h6 := hg.size
  have hb6 := (hbl xb R.lt (fun e => (R.bne xb e).1 rfl)).trans R.blk
  have h7 : ∀ k, k < w.heap.size → bv.ownBlock ≠ some k → k ≠ xb → (w6.setCell ⟨xb, 1, none⟩ bv').heap[k]? = w.heap[k]? := fun k hk hne hnm => (hgs.block k (by omega) (fun e => hnm (Option.some.inj e))).trans (hbl k hk hne)
  obtain ⟨g1, g4⟩ := R.gne
  have hgo : bv.ownBlock ≠ some g := fun e => (R.bne g e).2.1 rfl
  refine ⟨⟨?_, owns_block R.row (fun k hk => ?_), ?_, by have := R.low; simp; omega⟩, ?_, ?_, ⟨?_, ?_, ?_, by simp; omega, fun k hk hm => ?_⟩⟩
  · simp only [World.setCell, Array.getElem?_modify]
    simp [hb6]
  · have : g = k := Option.some.inj hk
    subst this
    exact h7 g g4 hgo g1
  · rw [List.length_append, List.map_append]
    refine ho.kept hgs ?_
    rcases hat with e | e
    · rw [e]
      cases hb : bv.ownBlock with
      | none => exact .inl rfl
      | some k => exact .inr (fun e => (R.bne k hb).1 (Option.some.inj e))
    · rw [e]
      exact .inr (fun e => by have h8 : w.heap.size = xb := Option.some.inj e; have := R.lt; omega)
  · simp [World.cell?, hb6]
  · simp [World.frozen?, hb6]
  · exact hgs.os.trans hg.os
  · exact hgs.tape.trans hg.tape
  · exact hgs.output.trans hg.output
  · exact h7 k hk (fun e => hm (.inr (.inr e))) (fun e => hm (.inl e))
end
def MtP (w : World) (lo xb : Nat) (bv : Value) (g cap : Nat) (r : MR) (e : Ending) (w' : World) : Prop := e = .returned (.int .i64 r.code) ∧ ∃ bv', RH lo w' xb bv' (4000 - r.left) g cap r.l r.bs ∧ Bw (MBr xb g bv) w.heap.size w w' ∧ (bv'.ownBlock = bv.ownBlock ∨ ∃ q, bv'.ownBlock = some q ∧ w.heap.size ≤ q)
def MtC (f : Nat) : Prop := ∀ (lo xb : Nat) (bv : Value) (g cap : Nat) (s : MS) (a b : Nat) (w : World), s.1 < f → s.1 ≤ 4000 → s.2.2.length + s.1 ≤ 1000000 → MG s → RH lo w xb bv (4000 - (s.1 : Int)) g cap s.2.1 s.2.2 → a < s.2.1.length → b < s.2.1.length →
  Calls Try.prog 47 #[.pointer (some ⟨xb, 0, none⟩), .int .i64 (a : Int), .int .i64 (b : Int)] w (MtP w lo xb bv g cap (smH f a b s))
theorem code_no (q : Nat) (l : List Cl) (bs : List Nat) : (MR.no (q : Int) l bs).code = 0 := by
  show (if (q : Int) < 0 then (2 : Int) else 0) = 0
  rw [if_neg (by omega)]
theorem MtP.done {w w' : World} {lo xb : Nat} {bv : Value} {g cap : Nat} {r : MR} {wk : Int} (R : RH lo w' xb bv wk g cap r.l r.bs) (e : wk = 4000 - r.left) (hb : Bw (MBr xb g bv) w.heap.size w w') : MtP w lo xb bv g cap r (.returned (.int .i64 r.code)) w' := ⟨rfl, bv, R.cast e, hb, .inl rfl⟩
set_option maxRecDepth 100000 in
set_option maxHeartbeats 16000000 in
theorem rmeet_step (f : Nat) (ih : MtC f) : MtC (f + 1) := by
  intro lo xb bv g cap s a b w hf hn1 hbs1 G R ha hb
  obtain ⟨n, l, bs⟩ := s
  have hG : HG (hOf l) l.length := G.hg
  have HG' : Hid (HG (hOf l) l.length) := hG
  have HGd : Hid (MG (n, l, bs)) := G
  have HIH : Hid (MtC f) := ih
  have hfew : l.length ≤ 400000 := hG.ok.few
  have hal : a < l.length := ha
  have hbl : b < l.length := hb
  have hnn : n ≤ 4000 := hn1
  have hbb : bs.length + n ≤ 1000000 := hbs1
  have hff : n < f + 1 := hf
  obtain ⟨wk, hwk⟩ : ∃ wk : Int, 4000 - (n : Int) = wk := ⟨_, rfl⟩
  have R' : RH lo w xb bv wk g cap l bs := RH.cast R hwk
  have HWk : Hid (4000 - (n : Int) = wk) := hwk
  have hw0 : 0 ≤ wk := by omega
  have hw4 : wk ≤ 4000 := by omega
  obtain ⟨c0, c1, c2, cf⟩ := R'.cells
  have cf2 := cf 2
  have hwr : IntKind.i64.wrap (wk + 1) = wk + 1 := by simp [IntKind.wrap, IntKind.bits, IntKind.signed]; omega
  have hS := R'.setW (wk + 1)
  have HS : Hid (RH lo (w.setCell ⟨xb, 2, none⟩ (.int .i64 (wk + 1))) xb bv (wk + 1) g cap l bs) := hS
  have hgs := grown_set (W := w) xb 2 (.int .i64 (wk + 1))
  have HB1 : Hid (Bw (MBr xb g bv) w.heap.size w (w.setCell ⟨xb, 2, none⟩ (.int .i64 (wk + 1)))) := ⟨hgs.os, hgs.tape, hgs.output, hgs.size, fun k hk hm => hgs.block k hk (fun e => hm (.inl (Option.some.inj e)))⟩
  obtain ⟨d0, d1, d2, df⟩ := hS.cells
  have hax := hG.end_lt hal
  have hbx := hG.end_lt hbl
  have hea := hG.end_end hal
  have heb := hG.end_end hbl
  have hEa := hG.endR hal
  have hEb := hG.endR hbl
  have HSm : Hid (smH (f + 1) a b (n, l, bs) = smOne f (endA (hOf l) l.length a) (endA (hOf l) l.length b) n l bs) := smH_one f a b n l bs
  have HNm : Hid (∀ c ∈ l, c.nm.size ≤ maxLen) := G.nm
  generalize hrr : smH (f + 1) a b (n, l, bs) = rr at *
  clear R R' cf df hS hgs hwk hf hn1 hbs1 hrr G ih ha hb
  by_cases hz : n = 0
  case pos =>
    have HE : Hid (rr = .no (-1) l bs) := by rw [Hid, HSm.out, hz]; rfl
    have hgt : decide (wk + 1 > 4000) = true := decide_eq_true (by have := HWk.out; omega)
    have HWe : Hid (wk + 1 = 4000 - (-1)) := by have := HWk.out; rw [Hid]; omega
    clear hz hEa hEb hea heb
    go_enter Try.func47, Try.ntmps47
    go_wp2_with fail
    go_ret
    rw [HE.out]
    exact MtP.done (r := .no (-1) l bs) HS.out HWe.out HB1.out
  obtain ⟨m, hm⟩ : ∃ m, n = m + 1 := ⟨n - 1, by omega⟩
  have HWm : Hid (wk + 1 = 4000 - (m : Int)) := by have := HWk.out; rw [Hid]; omega
  have hgt : decide (wk + 1 > 4000) = false := decide_eq_false (by have := HWm.out; omega)
  have HE : Hid (rr = smE (smH f) (endA (hOf l) l.length a) (endA (hOf l) l.length b) (m, l, bs)) := by rw [Hid, HSm.out, hm]; rfl
  have hmf : m < f := by omega
  have hm4 : m ≤ 4000 := by omega
  have hbm : bs.length + m ≤ 1000000 := by omega
  have HGm : Hid (MG (m, l, bs)) := ⟨HG'.out, HNm.out⟩
  generalize hw2 : w.setCell ⟨xb, 2, none⟩ (.int .i64 (wk + 1)) = w1 at *
  have HEa : Hid (∀ W, Below w1.heap.size w1 W → Calls Try.prog 37 #[.slice (some ⟨g, 0, none⟩) l.length cap, .int .i64 (a : Int)] W fun e w' => e = .returned (.int .i64 (endA (hOf l) l.length a : Nat)) ∧ Below W.heap.size W w') := fun W hW => (endOf_any hEa W ((HS.out.below hW).hin HNm.out)).mono fun e w' h => ⟨h.1, by rw [h.2]; exact Below.refl _ _⟩
  have HEb : Hid (∀ W, Below w1.heap.size w1 W → Calls Try.prog 37 #[.slice (some ⟨g, 0, none⟩) l.length cap, .int .i64 (b : Int)] W fun e w' => e = .returned (.int .i64 (endA (hOf l) l.length b : Nat)) ∧ Below W.heap.size W w') := fun W hW => (endOf_any hEb W ((HS.out.below hW).hin HNm.out)).mono fun e w' h => ⟨h.1, by rw [h.2]; exact Below.refl _ _⟩
  have HKp : Hid (∀ W, Below w1.heap.size w1 W → W.cell? ⟨xb, 0, none⟩ = some (.slice (some ⟨g, 0, none⟩) l.length cap)) := fun W hW => (HS.out.below hW).cells.1
  clear hEa hEb HSm hz hm HWk HGd
  generalize endA (hOf l) l.length a = x at *
  generalize endA (hOf l) l.length b = y at *
  have HB0 : Hid (Below w1.heap.size w1 w1) := Below.refl _ _
  go_enter Try.func47, Try.ntmps47
  go_wp2_with fail
  go_region_held3 (fun W => W.cell? ⟨xb, 0, none⟩ = some (.slice (some ⟨g, 0, none⟩) l.length cap)) ((refine HKp.out _ ?_; repeat (first | exact HB0.out | refine Below.drew ?_))) (first
    | (go_at_call 37
       with_reducible show Calls Try.prog _ #[_, .int .i64 (a : Int)] _ _
       refine (HEa.out _ (by repeat (first | exact HB0.out | refine Below.drew ?_))).mono ?_
       rintro e wq ⟨rfl, hb⟩
       replace HB0 : Hid (Below w1.heap.size w1 wq) := Below.trans (by repeat (first | exact HB0.out | refine Below.drew ?_)) (hb.mono HB0.out.size)
       clear hb)
    | (go_at_call 37
       with_reducible show Calls Try.prog _ #[_, .int .i64 (b : Int)] _ _
       refine (HEb.out _ (by repeat (first | exact HB0.out | refine Below.drew ?_))).mono ?_
       rintro e wq ⟨rfl, hb⟩
       replace HB0 : Hid (Below w1.heap.size w1 wq) := Below.trans (by repeat (first | exact HB0.out | refine Below.drew ?_)) (hb.mono HB0.out.size)
       clear hb))
  all_goals
    have HB2 : Hid (Bw (MBr xb g bv) w.heap.size w wq) := HB1.out.trans (Bw.ofBelow (HB0.out.mono HB1.out.size))
    have HR2 : Hid (RH lo wq xb bv (wk + 1) g cap l bs) := HS.out.below HB0.out
    have HKq : Hid (∀ W, Below wq.heap.size wq W → W.cell? ⟨xb, 0, none⟩ = some (.slice (some ⟨g, 0, none⟩) l.length cap) ∧ W.cell? ⟨g, x * 3, none⟩ = some (.int .i64 (hOf l x).k) ∧ W.cell? ⟨g, y * 3, none⟩ = some (.int .i64 (hOf l y).k)) := fun W hW => ⟨(HR2.out.below hW).cells.1, ((HR2.out.below hW).cellN hax).1, ((HR2.out.below hW).cellN hbx).1⟩
    obtain ⟨x0, x1, x2⟩ := HKq.out wq (Below.refl _ _)
    have hxI : (x : Int) < (l.length : Int) := by omega
    have hyI : (y : Int) < (l.length : Int) := by omega
    clear d0 d1 d2 c0 c1 c2 cf2
    go_wp2_with fail
    go_region_held3 (fun W => W.cell? ⟨xb, 0, none⟩ = some (.slice (some ⟨g, 0, none⟩) l.length cap) ∧ W.cell? ⟨g, x * 3, none⟩ = some (.int .i64 (hOf l x).k) ∧ W.cell? ⟨g, y * 3, none⟩ = some (.int .i64 (hOf l y).k)) ((refine HKq.out _ ?_; repeat (first | exact Below.refl _ _ | refine Below.drew ?_))) (fail)
  have HR3 : Hid (RH lo wq.drew xb bv (wk + 1) g cap l bs) := HR2.out.below ((Below.refl _ _).drew)
  have HB3 : Hid (Bw (MBr xb g bv) w.heap.size w wq.drew) := HB2.out.drew
  clear x0 x1 x2 HKq HKp HEa HEb
  obtain ⟨k0, _, _, kf⟩ := HR3.out.cells
  obtain ⟨u0, u1, u2, _⟩ := HR3.out.cellN hax
  obtain ⟨v0, v1, v2, _⟩ := HR3.out.cellN hbx
  generalize wq.drew = w3 at *
  obtain ⟨j0, hj, hj0, hj1, hj2⟩ := info_parts Try.info3
  clear kf hw2 hG hwr hw0 hw4 hgt
  have hkx := HG'.out.kind x hax
  have hky := HG'.out.kind y hbx
  have HK4 : Hid (∀ j : Nat, (hOf l x).k = 2 → (j : Int) < (hOf l x).n → x + 1 + j < l.length) := fun j h2 hj => (HG'.out.kids x hax h2 j hj).1
  have HK5 : Hid (∀ j : Nat, (hOf l y).k = 2 → (j : Int) < (hOf l y).n → y + 1 + j < l.length) := fun j h2 hj => (HG'.out.kids y hbx h2 j hj).1
  have HN0 : Hid (0 ≤ (hOf l x).n) := HG'.out.ok.n0 x hax
  have HN4 : Hid ((hOf l x).k ≠ 1 → (hOf l x).n ≤ 4) := HG'.out.ok.n4 x hax
  clear hea heb
  by_cases h1 : (hOf l x).k = 1
  case pos =>
    have h1b : ((hOf l x).k == 1) = true := beq_iff_eq.2 h1
    by_cases hxy : x = y
    case pos =>
      have HE1 : Hid (rr = .yes (m, l, bs)) := by rw [Hid, HE.out]; unfold smE; exact if_pos ⟨h1, hxy⟩
      subst hxy
      clear h1
      go_wp2_with fail
      go_ret
      rw [HE1.out]
      exact MtP.done (r := .yes (m, l, bs)) HR3.out HWm.out HB3.out
    have hxb : ((x : Int) == (y : Int)) = false := beq_eq_false_iff_ne.2 (by omega)
    have HE1 : Hid (rr = bdH x y (m, l, bs)) := by
      rw [Hid, HE.out]; unfold smE
      rw [if_neg (fun h => hxy h.2)]
      exact if_pos h1
    by_cases h2 : (hOf l y).k = 1
    case pos =>
      have h2b : ((hOf l y).k == 1) = true := beq_iff_eq.2 h2
      by_cases hlt : x < y
      case pos =>
        have hl1 : decide ((x : Int) < (y : Int)) = true := decide_eq_true (by omega)
        have hl2 : decide ((y : Int) < (x : Int)) = false := decide_eq_false (by omega)
        have HWt : Hid (Calls Try.prog 90 #[.pointer (some ⟨xb, 0, none⟩), .int .i64 (x : Int), .int .i64 (y : Int)] w3 (WhP w3 lo xb bv g cap l bs (lkL (hOf l) l.length x m [y]))) := rwithin_all m hm4 lo xb bv g cap l bs y x w3 HG'.out HNm.out hbx hax h1 (HR3.out.cast HWm.out)
        have HEq : Hid (∀ q, lkL (hOf l) l.length x m [y] = q → rr = (match q with | .ok k => MR.yes (k, bndL l (swB l x y).1 (swB l x y).2, bs ++ [(swB l x y).1]) | q => MR.no q.left l bs)) := fun q hq => by rw [HE1.out, ← hq]; rfl
        go_wp2_with fail
        refine HWt.out.mono ?_
        rintro e w4 ⟨rfl, hR4, hG4⟩
        obtain ⟨r, hr⟩ : ∃ r, lkL (hOf l) l.length x m [y] = r := ⟨_, rfl⟩
        have HEr := HEq.out r hr
        rw [hr] at hR4 ⊢
        have HB4 : Hid (Bw (MBr xb g bv) w.heap.size w w4) := HB3.out.grown hG4 HB3.out.size (fun k e => .inr (.inl (Option.some.inj e).symm))
        clear hG4 hr HEq HWt
        cases r with
        | hit q =>
          have HR4 : Hid (RH lo w4 xb bv (4000 - (q : Int)) g cap l bs) := hR4
          have HEf : Hid (rr = .no (q : Int) l bs) := HEr
          rw [show LkR.code (.hit q) = 1 from rfl]
          clear hR4 HEr
          go_wp2_with fail
          go_ret
          rw [HEf.out]
          exact (code_no q l bs) ▸ MtP.done (r := .no (q : Int) l bs) HR4.out rfl HB4.out
        | over =>
          have HR4 : Hid (RH lo w4 xb bv (4000 - (-1)) g cap l bs) := hR4
          have HEf : Hid (rr = .no (-1) l bs) := HEr
          rw [show LkR.code .over = 2 from rfl]
          clear hR4 HEr
          go_wp2_with fail
          go_ret
          rw [HEf.out]
          exact MtP.done (r := .no (-1) l bs) HR4.out rfl HB4.out
        | ok q =>
          have HR4 : Hid (RH lo w4 xb bv (4000 - (q : Int)) g cap l bs) := hR4
          have HEk : Hid (rr = .yes (q, bndL l (swB l x y).1 (swB l x y).2, bs ++ [(swB l x y).1])) := HEr
          have hs4 := HB4.out.size
          obtain ⟨e0, e1, e2, _⟩ := HR4.out.cells
          rw [show LkR.code (.ok q) = 0 from rfl]
          clear hR4 HEr e2
          have HSw : Hid (swB l x y = (y, x)) := by rw [Hid]; unfold swB; rw [if_pos ⟨h2, hlt⟩]
          have f1 : w4.frozen? ⟨g, y * 3 + 1, none⟩ = false := (HR4.out.cellN hbx).2.2.2 _
          obtain ⟨y1, c1⟩ : ∃ y1, w4.cell? ⟨g, y * 3 + 1, none⟩ = some y1 := ⟨_, (HR4.out.cellN hbx).2.1⟩
          have hR5 := HR4.out.stored (t := x) hbx
          have HR5 : Hid (RH lo (w4.setCell ⟨g, y * 3 + 1, none⟩ (.int .i64 (x : Int))) xb bv (4000 - (q : Int)) g cap (bndL l y x) bs) := hR5
          have hG5 := grown_set (W := w4) g (y * 3 + 1) (.int .i64 (x : Int))
          have HB5 : Hid (Bw (MBr xb g bv) w.heap.size w (w4.setCell ⟨g, y * 3 + 1, none⟩ (.int .i64 (x : Int)))) := HB4.out.grown hG5 hs4 (fun k e => .inr (.inr (.inl (Option.some.inj e).symm)))
          have hs5 : w.heap.size ≤ (w4.setCell ⟨g, y * 3 + 1, none⟩ (.int .i64 (x : Int))).heap.size := Nat.le_trans hs4 hG5.size
          have m21 := hR5.cells.2.1
          clear hR5 hG5
          have hsw : (w4.setCell ⟨g, y * 3 + 1, none⟩ (.int .i64 (x : Int))).heap.size = w4.heap.size := by simp
          have HNc : Hid (∀ j u, [Value.int .i64 (y : Int)][j]? = some u → ((w4.setCell ⟨g, y * 3 + 1, none⟩ (.int .i64 (x : Int))).alloc (.cells #[.int .i64 (y : Int)] 3)).cell? ((⟨w4.heap.size, 0, none⟩ : Addr).add j) = some u) := by
            have h9 := cell_one_new (w4.setCell ⟨g, y * 3 + 1, none⟩ (.int .i64 (x : Int))) (.int .i64 (y : Int)) 3
            rw [hsw] at h9
            exact h9
          have hB6 : Below (w4.setCell ⟨g, y * 3 + 1, none⟩ (.int .i64 (x : Int))).heap.size (w4.setCell ⟨g, y * 3 + 1, none⟩ (.int .i64 (x : Int))) ((w4.setCell ⟨g, y * 3 + 1, none⟩ (.int .i64 (x : Int))).alloc (.cells #[.int .i64 (y : Int)] 3)) := (Below.refl _ _).alloc (Nat.le_refl _) _
          have HR6 : Hid (RH lo ((w4.setCell ⟨g, y * 3 + 1, none⟩ (.int .i64 (x : Int))).alloc (.cells #[.int .i64 (y : Int)] 3)) xb bv (4000 - (q : Int)) g cap (bndL l y x) bs) := HR5.out.below hB6
          have HB6 : Hid (Bw (MBr xb g bv) w.heap.size w ((w4.setCell ⟨g, y * 3 + 1, none⟩ (.int .i64 (x : Int))).alloc (.cells #[.int .i64 (y : Int)] 3))) := HB5.out.trans (Bw.ofBelow (hB6.mono hs5))
          have hs6 : w.heap.size ≤ ((w4.setCell ⟨g, y * 3 + 1, none⟩ (.int .i64 (x : Int))).alloc (.cells #[.int .i64 (y : Int)] 3)).heap.size := by simp; omega
          clear hB6
          go_wp2_with (at_builtin; refine wpList_append_own_at _ rfl (.tmp 119) (.tmp 121) 56 rfl lo 3 j0 (.int .i64 0) 1 8 Try.underlying56 hj hj0 hj1 hj2 rfl (by decide) bv bs.length (bs.map fun x : Nat => Value.int .i64 (x : Int)) rfl HR6.out.bnd ⟨w4.heap.size, 0, none⟩ 1 1 [.int .i64 (y : Int)] rfl rfl HNc.out (by simp [Value.oneCell']) (by unfold maxLen; omega) (by omega) HR6.out.low ?_; intro bv' w6 hown' hgrow hnil hat; have hv' : ∃ g' cap', bv' = .slice (some ⟨g', 0, none⟩) (bs.length + 1) cap' := (by rcases hown'.2 with ⟨_, h0⟩ | ⟨g', cap', _, h, _⟩; (· omega); (· exact ⟨g', cap', h⟩)); obtain ⟨g', cap', rfl⟩ := hv'; have h9 := HR6.out.noted (v := y) hown' hgrow hat; have HN9 : Hid (RH lo (w6.setCell ⟨xb, 1, none⟩ (.slice (some ⟨g', 0, none⟩) (bs.length + 1) cap')) xb (.slice (some ⟨g', 0, none⟩) (bs.length + 1) cap') (4000 - (q : Int)) g cap (bndL l y x) (bs ++ [y])) := h9.1; have q1 := h9.2.1; have qf := h9.2.2.1; have HB9 : Hid (Bw (MBr xb g bv) w.heap.size w (w6.setCell ⟨xb, 1, none⟩ (.slice (some ⟨g', 0, none⟩) (bs.length + 1) cap'))) := HB6.out.trans (h9.2.2.2.mono hs6); have Hat : Hid ((Value.slice (some ⟨g', 0, none⟩) (bs.length + 1) cap').ownBlock = bv.ownBlock ∨ ∃ q, (Value.slice (some ⟨g', 0, none⟩) (bs.length + 1) cap').ownBlock = some q ∧ w.heap.size ≤ q) := (by rcases hat with e | e; (· exact .inl e); (· exact .inr ⟨_, e, hs6⟩)); clear h9 hown' hgrow hnil hat)
          go_ret
          rw [HEk.out, HSw.out]
          exact ⟨rfl, _, HN9.out, HB9.out, Hat.out⟩

      have hl1 : decide ((x : Int) < (y : Int)) = false := decide_eq_false (by omega)
      have hl2 : decide ((y : Int) < (x : Int)) = true := decide_eq_true (by omega)
      have HWt : Hid (Calls Try.prog 90 #[.pointer (some ⟨xb, 0, none⟩), .int .i64 (x : Int), .int .i64 (y : Int)] w3 (WhP w3 lo xb bv g cap l bs (lkL (hOf l) l.length x m [y]))) := rwithin_all m hm4 lo xb bv g cap l bs y x w3 HG'.out HNm.out hbx hax h1 (HR3.out.cast HWm.out)
      have HEq : Hid (∀ q, lkL (hOf l) l.length x m [y] = q → rr = (match q with | .ok k => MR.yes (k, bndL l (swB l x y).1 (swB l x y).2, bs ++ [(swB l x y).1]) | q => MR.no q.left l bs)) := fun q hq => by rw [HE1.out, ← hq]; rfl
      go_wp2_with fail
      refine HWt.out.mono ?_
      rintro e w4 ⟨rfl, hR4, hG4⟩
      obtain ⟨r, hr⟩ : ∃ r, lkL (hOf l) l.length x m [y] = r := ⟨_, rfl⟩
      have HEr := HEq.out r hr
      rw [hr] at hR4 ⊢
      have HB4 : Hid (Bw (MBr xb g bv) w.heap.size w w4) := HB3.out.grown hG4 HB3.out.size (fun k e => .inr (.inl (Option.some.inj e).symm))
      clear hG4 hr HEq HWt
      cases r with
      | hit q =>
        have HR4 : Hid (RH lo w4 xb bv (4000 - (q : Int)) g cap l bs) := hR4
        have HEf : Hid (rr = .no (q : Int) l bs) := HEr
        rw [show LkR.code (.hit q) = 1 from rfl]
        clear hR4 HEr
        go_wp2_with fail
        go_ret
        rw [HEf.out]
        exact (code_no q l bs) ▸ MtP.done (r := .no (q : Int) l bs) HR4.out rfl HB4.out
      | over =>
        have HR4 : Hid (RH lo w4 xb bv (4000 - (-1)) g cap l bs) := hR4
        have HEf : Hid (rr = .no (-1) l bs) := HEr
        rw [show LkR.code .over = 2 from rfl]
        clear hR4 HEr
        go_wp2_with fail
        go_ret
        rw [HEf.out]
        exact MtP.done (r := .no (-1) l bs) HR4.out rfl HB4.out
      | ok q =>
        have HR4 : Hid (RH lo w4 xb bv (4000 - (q : Int)) g cap l bs) := hR4
        have HEk : Hid (rr = .yes (q, bndL l (swB l x y).1 (swB l x y).2, bs ++ [(swB l x y).1])) := HEr
        have hs4 := HB4.out.size
        obtain ⟨e0, e1, e2, _⟩ := HR4.out.cells
        rw [show LkR.code (.ok q) = 0 from rfl]
        clear hR4 HEr e2
        have HSw : Hid (swB l x y = (x, y)) := by rw [Hid]; unfold swB; rw [if_neg (fun h => hlt h.2)]
        have f1 : w4.frozen? ⟨g, x * 3 + 1, none⟩ = false := (HR4.out.cellN hax).2.2.2 _
        obtain ⟨y1, c1⟩ : ∃ y1, w4.cell? ⟨g, x * 3 + 1, none⟩ = some y1 := ⟨_, (HR4.out.cellN hax).2.1⟩
        have hR5 := HR4.out.stored (t := y) hax
        have HR5 : Hid (RH lo (w4.setCell ⟨g, x * 3 + 1, none⟩ (.int .i64 (y : Int))) xb bv (4000 - (q : Int)) g cap (bndL l x y) bs) := hR5
        have hG5 := grown_set (W := w4) g (x * 3 + 1) (.int .i64 (y : Int))
        have HB5 : Hid (Bw (MBr xb g bv) w.heap.size w (w4.setCell ⟨g, x * 3 + 1, none⟩ (.int .i64 (y : Int)))) := HB4.out.grown hG5 hs4 (fun k e => .inr (.inr (.inl (Option.some.inj e).symm)))
        have hs5 : w.heap.size ≤ (w4.setCell ⟨g, x * 3 + 1, none⟩ (.int .i64 (y : Int))).heap.size := Nat.le_trans hs4 hG5.size
        have m21 := hR5.cells.2.1
        clear hR5 hG5
        have hsw : (w4.setCell ⟨g, x * 3 + 1, none⟩ (.int .i64 (y : Int))).heap.size = w4.heap.size := by simp
        have HNc : Hid (∀ j u, [Value.int .i64 (x : Int)][j]? = some u → ((w4.setCell ⟨g, x * 3 + 1, none⟩ (.int .i64 (y : Int))).alloc (.cells #[.int .i64 (x : Int)] 3)).cell? ((⟨w4.heap.size, 0, none⟩ : Addr).add j) = some u) := by
          have h9 := cell_one_new (w4.setCell ⟨g, x * 3 + 1, none⟩ (.int .i64 (y : Int))) (.int .i64 (x : Int)) 3
          rw [hsw] at h9
          exact h9
        have hB6 : Below (w4.setCell ⟨g, x * 3 + 1, none⟩ (.int .i64 (y : Int))).heap.size (w4.setCell ⟨g, x * 3 + 1, none⟩ (.int .i64 (y : Int))) ((w4.setCell ⟨g, x * 3 + 1, none⟩ (.int .i64 (y : Int))).alloc (.cells #[.int .i64 (x : Int)] 3)) := (Below.refl _ _).alloc (Nat.le_refl _) _
        have HR6 : Hid (RH lo ((w4.setCell ⟨g, x * 3 + 1, none⟩ (.int .i64 (y : Int))).alloc (.cells #[.int .i64 (x : Int)] 3)) xb bv (4000 - (q : Int)) g cap (bndL l x y) bs) := HR5.out.below hB6
        have HB6 : Hid (Bw (MBr xb g bv) w.heap.size w ((w4.setCell ⟨g, x * 3 + 1, none⟩ (.int .i64 (y : Int))).alloc (.cells #[.int .i64 (x : Int)] 3))) := HB5.out.trans (Bw.ofBelow (hB6.mono hs5))
        have hs6 : w.heap.size ≤ ((w4.setCell ⟨g, x * 3 + 1, none⟩ (.int .i64 (y : Int))).alloc (.cells #[.int .i64 (x : Int)] 3)).heap.size := by simp; omega
        clear hB6
        go_wp2_with (at_builtin; refine wpList_append_own_at _ rfl (.tmp 119) (.tmp 121) 56 rfl lo 3 j0 (.int .i64 0) 1 8 Try.underlying56 hj hj0 hj1 hj2 rfl (by decide) bv bs.length (bs.map fun x : Nat => Value.int .i64 (x : Int)) rfl HR6.out.bnd ⟨w4.heap.size, 0, none⟩ 1 1 [.int .i64 (x : Int)] rfl rfl HNc.out (by simp [Value.oneCell']) (by unfold maxLen; omega) (by omega) HR6.out.low ?_; intro bv' w6 hown' hgrow hnil hat; have hv' : ∃ g' cap', bv' = .slice (some ⟨g', 0, none⟩) (bs.length + 1) cap' := (by rcases hown'.2 with ⟨_, h0⟩ | ⟨g', cap', _, h, _⟩; (· omega); (· exact ⟨g', cap', h⟩)); obtain ⟨g', cap', rfl⟩ := hv'; have h9 := HR6.out.noted (v := x) hown' hgrow hat; have HN9 : Hid (RH lo (w6.setCell ⟨xb, 1, none⟩ (.slice (some ⟨g', 0, none⟩) (bs.length + 1) cap')) xb (.slice (some ⟨g', 0, none⟩) (bs.length + 1) cap') (4000 - (q : Int)) g cap (bndL l x y) (bs ++ [x])) := h9.1; have q1 := h9.2.1; have qf := h9.2.2.1; have HB9 : Hid (Bw (MBr xb g bv) w.heap.size w (w6.setCell ⟨xb, 1, none⟩ (.slice (some ⟨g', 0, none⟩) (bs.length + 1) cap'))) := HB6.out.trans (h9.2.2.2.mono hs6); have Hat : Hid ((Value.slice (some ⟨g', 0, none⟩) (bs.length + 1) cap').ownBlock = bv.ownBlock ∨ ∃ q, (Value.slice (some ⟨g', 0, none⟩) (bs.length + 1) cap').ownBlock = some q ∧ w.heap.size ≤ q) := (by rcases hat with e | e; (· exact .inl e); (· exact .inr ⟨_, e, hs6⟩)); clear h9 hown' hgrow hnil hat)
        go_ret
        rw [HEk.out, HSw.out]
        exact ⟨rfl, _, HN9.out, HB9.out, Hat.out⟩

    have h2b : ((hOf l y).k == 1) = false := beq_eq_false_iff_ne.2 h2
    have HWt : Hid (Calls Try.prog 90 #[.pointer (some ⟨xb, 0, none⟩), .int .i64 (x : Int), .int .i64 (y : Int)] w3 (WhP w3 lo xb bv g cap l bs (lkL (hOf l) l.length x m [y]))) := rwithin_all m hm4 lo xb bv g cap l bs y x w3 HG'.out HNm.out hbx hax h1 (HR3.out.cast HWm.out)
    have HEq : Hid (∀ q, lkL (hOf l) l.length x m [y] = q → rr = (match q with | .ok k => MR.yes (k, bndL l (swB l x y).1 (swB l x y).2, bs ++ [(swB l x y).1]) | q => MR.no q.left l bs)) := fun q hq => by rw [HE1.out, ← hq]; rfl
    go_wp2_with fail
    refine HWt.out.mono ?_
    rintro e w4 ⟨rfl, hR4, hG4⟩
    obtain ⟨r, hr⟩ : ∃ r, lkL (hOf l) l.length x m [y] = r := ⟨_, rfl⟩
    have HEr := HEq.out r hr
    rw [hr] at hR4 ⊢
    have HB4 : Hid (Bw (MBr xb g bv) w.heap.size w w4) := HB3.out.grown hG4 HB3.out.size (fun k e => .inr (.inl (Option.some.inj e).symm))
    clear hG4 hr HEq HWt
    cases r with
    | hit q =>
      have HR4 : Hid (RH lo w4 xb bv (4000 - (q : Int)) g cap l bs) := hR4
      have HEf : Hid (rr = .no (q : Int) l bs) := HEr
      rw [show LkR.code (.hit q) = 1 from rfl]
      clear hR4 HEr
      go_wp2_with fail
      go_ret
      rw [HEf.out]
      exact (code_no q l bs) ▸ MtP.done (r := .no (q : Int) l bs) HR4.out rfl HB4.out
    | over =>
      have HR4 : Hid (RH lo w4 xb bv (4000 - (-1)) g cap l bs) := hR4
      have HEf : Hid (rr = .no (-1) l bs) := HEr
      rw [show LkR.code .over = 2 from rfl]
      clear hR4 HEr
      go_wp2_with fail
      go_ret
      rw [HEf.out]
      exact MtP.done (r := .no (-1) l bs) HR4.out rfl HB4.out
    | ok q =>
      have HR4 : Hid (RH lo w4 xb bv (4000 - (q : Int)) g cap l bs) := hR4
      have HEk : Hid (rr = .yes (q, bndL l (swB l x y).1 (swB l x y).2, bs ++ [(swB l x y).1])) := HEr
      have hs4 := HB4.out.size
      obtain ⟨e0, e1, e2, _⟩ := HR4.out.cells
      rw [show LkR.code (.ok q) = 0 from rfl]
      clear hR4 HEr e2
      have HSw : Hid (swB l x y = (x, y)) := by rw [Hid]; unfold swB; rw [if_neg (fun h => h2 h.1)]
      have f1 : w4.frozen? ⟨g, x * 3 + 1, none⟩ = false := (HR4.out.cellN hax).2.2.2 _
      obtain ⟨y1, c1⟩ : ∃ y1, w4.cell? ⟨g, x * 3 + 1, none⟩ = some y1 := ⟨_, (HR4.out.cellN hax).2.1⟩
      have hR5 := HR4.out.stored (t := y) hax
      have HR5 : Hid (RH lo (w4.setCell ⟨g, x * 3 + 1, none⟩ (.int .i64 (y : Int))) xb bv (4000 - (q : Int)) g cap (bndL l x y) bs) := hR5
      have hG5 := grown_set (W := w4) g (x * 3 + 1) (.int .i64 (y : Int))
      have HB5 : Hid (Bw (MBr xb g bv) w.heap.size w (w4.setCell ⟨g, x * 3 + 1, none⟩ (.int .i64 (y : Int)))) := HB4.out.grown hG5 hs4 (fun k e => .inr (.inr (.inl (Option.some.inj e).symm)))
      have hs5 : w.heap.size ≤ (w4.setCell ⟨g, x * 3 + 1, none⟩ (.int .i64 (y : Int))).heap.size := Nat.le_trans hs4 hG5.size
      have m21 := hR5.cells.2.1
      clear hR5 hG5
      have hsw : (w4.setCell ⟨g, x * 3 + 1, none⟩ (.int .i64 (y : Int))).heap.size = w4.heap.size := by simp
      have HNc : Hid (∀ j u, [Value.int .i64 (x : Int)][j]? = some u → ((w4.setCell ⟨g, x * 3 + 1, none⟩ (.int .i64 (y : Int))).alloc (.cells #[.int .i64 (x : Int)] 3)).cell? ((⟨w4.heap.size, 0, none⟩ : Addr).add j) = some u) := by
        have h9 := cell_one_new (w4.setCell ⟨g, x * 3 + 1, none⟩ (.int .i64 (y : Int))) (.int .i64 (x : Int)) 3
        rw [hsw] at h9
        exact h9
      have hB6 : Below (w4.setCell ⟨g, x * 3 + 1, none⟩ (.int .i64 (y : Int))).heap.size (w4.setCell ⟨g, x * 3 + 1, none⟩ (.int .i64 (y : Int))) ((w4.setCell ⟨g, x * 3 + 1, none⟩ (.int .i64 (y : Int))).alloc (.cells #[.int .i64 (x : Int)] 3)) := (Below.refl _ _).alloc (Nat.le_refl _) _
      have HR6 : Hid (RH lo ((w4.setCell ⟨g, x * 3 + 1, none⟩ (.int .i64 (y : Int))).alloc (.cells #[.int .i64 (x : Int)] 3)) xb bv (4000 - (q : Int)) g cap (bndL l x y) bs) := HR5.out.below hB6
      have HB6 : Hid (Bw (MBr xb g bv) w.heap.size w ((w4.setCell ⟨g, x * 3 + 1, none⟩ (.int .i64 (y : Int))).alloc (.cells #[.int .i64 (x : Int)] 3))) := HB5.out.trans (Bw.ofBelow (hB6.mono hs5))
      have hs6 : w.heap.size ≤ ((w4.setCell ⟨g, x * 3 + 1, none⟩ (.int .i64 (y : Int))).alloc (.cells #[.int .i64 (x : Int)] 3)).heap.size := by simp; omega
      clear hB6
      go_wp2_with (at_builtin; refine wpList_append_own_at _ rfl (.tmp 119) (.tmp 121) 56 rfl lo 3 j0 (.int .i64 0) 1 8 Try.underlying56 hj hj0 hj1 hj2 rfl (by decide) bv bs.length (bs.map fun x : Nat => Value.int .i64 (x : Int)) rfl HR6.out.bnd ⟨w4.heap.size, 0, none⟩ 1 1 [.int .i64 (x : Int)] rfl rfl HNc.out (by simp [Value.oneCell']) (by unfold maxLen; omega) (by omega) HR6.out.low ?_; intro bv' w6 hown' hgrow hnil hat; have hv' : ∃ g' cap', bv' = .slice (some ⟨g', 0, none⟩) (bs.length + 1) cap' := (by rcases hown'.2 with ⟨_, h0⟩ | ⟨g', cap', _, h, _⟩; (· omega); (· exact ⟨g', cap', h⟩)); obtain ⟨g', cap', rfl⟩ := hv'; have h9 := HR6.out.noted (v := x) hown' hgrow hat; have HN9 : Hid (RH lo (w6.setCell ⟨xb, 1, none⟩ (.slice (some ⟨g', 0, none⟩) (bs.length + 1) cap')) xb (.slice (some ⟨g', 0, none⟩) (bs.length + 1) cap') (4000 - (q : Int)) g cap (bndL l x y) (bs ++ [x])) := h9.1; have q1 := h9.2.1; have qf := h9.2.2.1; have HB9 : Hid (Bw (MBr xb g bv) w.heap.size w (w6.setCell ⟨xb, 1, none⟩ (.slice (some ⟨g', 0, none⟩) (bs.length + 1) cap'))) := HB6.out.trans (h9.2.2.2.mono hs6); have Hat : Hid ((Value.slice (some ⟨g', 0, none⟩) (bs.length + 1) cap').ownBlock = bv.ownBlock ∨ ∃ q, (Value.slice (some ⟨g', 0, none⟩) (bs.length + 1) cap').ownBlock = some q ∧ w.heap.size ≤ q) := (by rcases hat with e | e; (· exact .inl e); (· exact .inr ⟨_, e, hs6⟩)); clear h9 hown' hgrow hnil hat)
      go_ret
      rw [HEk.out, HSw.out]
      exact ⟨rfl, _, HN9.out, HB9.out, Hat.out⟩

  have h1b : ((hOf l x).k == 1) = false := beq_eq_false_iff_ne.2 h1
  by_cases h2 : (hOf l y).k = 1
  case pos =>
    have h2b : ((hOf l y).k == 1) = true := beq_iff_eq.2 h2
    have HE1 : Hid (rr = bdH y x (m, l, bs)) := by
      rw [Hid, HE.out]; unfold smE
      rw [if_neg (fun h => h1 h.1), if_neg h1]
      exact if_pos h2
    have HWt : Hid (Calls Try.prog 90 #[.pointer (some ⟨xb, 0, none⟩), .int .i64 (y : Int), .int .i64 (x : Int)] w3 (WhP w3 lo xb bv g cap l bs (lkL (hOf l) l.length y m [x]))) := rwithin_all m hm4 lo xb bv g cap l bs x y w3 HG'.out HNm.out hax hbx h2 (HR3.out.cast HWm.out)
    have HEq : Hid (∀ q, lkL (hOf l) l.length y m [x] = q → rr = (match q with | .ok k => MR.yes (k, bndL l (swB l y x).1 (swB l y x).2, bs ++ [(swB l y x).1]) | q => MR.no q.left l bs)) := fun q hq => by rw [HE1.out, ← hq]; rfl
    go_wp2_with fail
    refine HWt.out.mono ?_
    rintro e w4 ⟨rfl, hR4, hG4⟩
    obtain ⟨r, hr⟩ : ∃ r, lkL (hOf l) l.length y m [x] = r := ⟨_, rfl⟩
    have HEr := HEq.out r hr
    rw [hr] at hR4 ⊢
    have HB4 : Hid (Bw (MBr xb g bv) w.heap.size w w4) := HB3.out.grown hG4 HB3.out.size (fun k e => .inr (.inl (Option.some.inj e).symm))
    clear hG4 hr HEq HWt
    cases r with
    | hit q =>
      have HR4 : Hid (RH lo w4 xb bv (4000 - (q : Int)) g cap l bs) := hR4
      have HEf : Hid (rr = .no (q : Int) l bs) := HEr
      rw [show LkR.code (.hit q) = 1 from rfl]
      clear hR4 HEr
      go_wp2_with fail
      go_ret
      rw [HEf.out]
      exact (code_no q l bs) ▸ MtP.done (r := .no (q : Int) l bs) HR4.out rfl HB4.out
    | over =>
      have HR4 : Hid (RH lo w4 xb bv (4000 - (-1)) g cap l bs) := hR4
      have HEf : Hid (rr = .no (-1) l bs) := HEr
      rw [show LkR.code .over = 2 from rfl]
      clear hR4 HEr
      go_wp2_with fail
      go_ret
      rw [HEf.out]
      exact MtP.done (r := .no (-1) l bs) HR4.out rfl HB4.out
    | ok q =>
      have HR4 : Hid (RH lo w4 xb bv (4000 - (q : Int)) g cap l bs) := hR4
      have HEk : Hid (rr = .yes (q, bndL l (swB l y x).1 (swB l y x).2, bs ++ [(swB l y x).1])) := HEr
      have hs4 := HB4.out.size
      obtain ⟨e0, e1, e2, _⟩ := HR4.out.cells
      rw [show LkR.code (.ok q) = 0 from rfl]
      clear hR4 HEr e2
      have HSw : Hid (swB l y x = (y, x)) := by rw [Hid]; unfold swB; rw [if_neg (fun h => h1 h.1)]
      have f1 : w4.frozen? ⟨g, y * 3 + 1, none⟩ = false := (HR4.out.cellN hbx).2.2.2 _
      obtain ⟨y1, c1⟩ : ∃ y1, w4.cell? ⟨g, y * 3 + 1, none⟩ = some y1 := ⟨_, (HR4.out.cellN hbx).2.1⟩
      have hR5 := HR4.out.stored (t := x) hbx
      have HR5 : Hid (RH lo (w4.setCell ⟨g, y * 3 + 1, none⟩ (.int .i64 (x : Int))) xb bv (4000 - (q : Int)) g cap (bndL l y x) bs) := hR5
      have hG5 := grown_set (W := w4) g (y * 3 + 1) (.int .i64 (x : Int))
      have HB5 : Hid (Bw (MBr xb g bv) w.heap.size w (w4.setCell ⟨g, y * 3 + 1, none⟩ (.int .i64 (x : Int)))) := HB4.out.grown hG5 hs4 (fun k e => .inr (.inr (.inl (Option.some.inj e).symm)))
      have hs5 : w.heap.size ≤ (w4.setCell ⟨g, y * 3 + 1, none⟩ (.int .i64 (x : Int))).heap.size := Nat.le_trans hs4 hG5.size
      have m21 := hR5.cells.2.1
      clear hR5 hG5
      have hsw : (w4.setCell ⟨g, y * 3 + 1, none⟩ (.int .i64 (x : Int))).heap.size = w4.heap.size := by simp
      have HNc : Hid (∀ j u, [Value.int .i64 (y : Int)][j]? = some u → ((w4.setCell ⟨g, y * 3 + 1, none⟩ (.int .i64 (x : Int))).alloc (.cells #[.int .i64 (y : Int)] 3)).cell? ((⟨w4.heap.size, 0, none⟩ : Addr).add j) = some u) := by
        have h9 := cell_one_new (w4.setCell ⟨g, y * 3 + 1, none⟩ (.int .i64 (x : Int))) (.int .i64 (y : Int)) 3
        rw [hsw] at h9
        exact h9
      have hB6 : Below (w4.setCell ⟨g, y * 3 + 1, none⟩ (.int .i64 (x : Int))).heap.size (w4.setCell ⟨g, y * 3 + 1, none⟩ (.int .i64 (x : Int))) ((w4.setCell ⟨g, y * 3 + 1, none⟩ (.int .i64 (x : Int))).alloc (.cells #[.int .i64 (y : Int)] 3)) := (Below.refl _ _).alloc (Nat.le_refl _) _
      have HR6 : Hid (RH lo ((w4.setCell ⟨g, y * 3 + 1, none⟩ (.int .i64 (x : Int))).alloc (.cells #[.int .i64 (y : Int)] 3)) xb bv (4000 - (q : Int)) g cap (bndL l y x) bs) := HR5.out.below hB6
      have HB6 : Hid (Bw (MBr xb g bv) w.heap.size w ((w4.setCell ⟨g, y * 3 + 1, none⟩ (.int .i64 (x : Int))).alloc (.cells #[.int .i64 (y : Int)] 3))) := HB5.out.trans (Bw.ofBelow (hB6.mono hs5))
      have hs6 : w.heap.size ≤ ((w4.setCell ⟨g, y * 3 + 1, none⟩ (.int .i64 (x : Int))).alloc (.cells #[.int .i64 (y : Int)] 3)).heap.size := by simp; omega
      clear hB6
      go_wp2_with (at_builtin; refine wpList_append_own_at _ rfl (.tmp 119) (.tmp 121) 56 rfl lo 3 j0 (.int .i64 0) 1 8 Try.underlying56 hj hj0 hj1 hj2 rfl (by decide) bv bs.length (bs.map fun x : Nat => Value.int .i64 (x : Int)) rfl HR6.out.bnd ⟨w4.heap.size, 0, none⟩ 1 1 [.int .i64 (y : Int)] rfl rfl HNc.out (by simp [Value.oneCell']) (by unfold maxLen; omega) (by omega) HR6.out.low ?_; intro bv' w6 hown' hgrow hnil hat; have hv' : ∃ g' cap', bv' = .slice (some ⟨g', 0, none⟩) (bs.length + 1) cap' := (by rcases hown'.2 with ⟨_, h0⟩ | ⟨g', cap', _, h, _⟩; (· omega); (· exact ⟨g', cap', h⟩)); obtain ⟨g', cap', rfl⟩ := hv'; have h9 := HR6.out.noted (v := y) hown' hgrow hat; have HN9 : Hid (RH lo (w6.setCell ⟨xb, 1, none⟩ (.slice (some ⟨g', 0, none⟩) (bs.length + 1) cap')) xb (.slice (some ⟨g', 0, none⟩) (bs.length + 1) cap') (4000 - (q : Int)) g cap (bndL l y x) (bs ++ [y])) := h9.1; have q1 := h9.2.1; have qf := h9.2.2.1; have HB9 : Hid (Bw (MBr xb g bv) w.heap.size w (w6.setCell ⟨xb, 1, none⟩ (.slice (some ⟨g', 0, none⟩) (bs.length + 1) cap'))) := HB6.out.trans (h9.2.2.2.mono hs6); have Hat : Hid ((Value.slice (some ⟨g', 0, none⟩) (bs.length + 1) cap').ownBlock = bv.ownBlock ∨ ∃ q, (Value.slice (some ⟨g', 0, none⟩) (bs.length + 1) cap').ownBlock = some q ∧ w.heap.size ≤ q) := (by rcases hat with e | e; (· exact .inl e); (· exact .inr ⟨_, e, hs6⟩)); clear h9 hown' hgrow hnil hat)
      go_ret
      rw [HEk.out, HSw.out]
      exact ⟨rfl, _, HN9.out, HB9.out, Hat.out⟩

  have h2b : ((hOf l y).k == 1) = false := beq_eq_false_iff_ne.2 h2
  have Hh1 : Hid ((hOf l x).k = 2) := hkx.resolve_left h1
  have Hh2 : Hid ((hOf l y).k = 2) := hky.resolve_left h2
  have HE2 : Hid (rr = if ¬ ((hOf l x).n = (hOf l y).n ∧ (hOf l x).nm.toList = (hOf l y).nm.toList) then .no m l bs else smK (smH f) x y (hOf l x).n.toNat (m, l, bs)) := by
    rw [Hid, HE.out]; unfold smE
    rw [if_neg (fun h => h1 h.1), if_neg h1]
    exact if_neg h2
  obtain ⟨N, hN⟩ : ∃ N : Nat, (hOf l x).n = (N : Int) := ⟨(hOf l x).n.toNat, by have := HN0.out; omega⟩
  have hN4 : N ≤ 4 := by have := HN4.out h1; omega
  have HNN : Hid ((hOf l x).n = (N : Int)) := hN
  have HKp1 : Hid (∀ W, Below w3.heap.size w3 W → W.cell? ⟨xb, 0, none⟩ = some (.slice (some ⟨g, 0, none⟩) l.length cap)) := fun W hW => (HR3.out.below hW).cells.1
  clear h1 h2 hkx hky
  have HR3n : Hid (∀ k, RH lo (w3.drewN k) xb bv (wk + 1) g cap l bs) := fun k => HR3.out.below (below_dn (Below.refl _ _) k)
  have HB3n : Hid (∀ k, Bw (MBr xb g bv) w.heap.size w (w3.drewN k)) := fun k => HB3.out.trans (Bw.ofBelow (below_dn (Below.refl _ _) k))
  by_cases hqm : (hOf l x).nm.toList = (hOf l y).nm.toList
  case neg =>
    have HE1 : Hid (rr = .no m l bs) := by rw [Hid, HE2.out]; exact if_pos (fun h => hqm h.2)
    have hqb : ((hOf l x).nm.toList == (hOf l y).nm.toList) = false := beq_eq_false_iff_ne.2 hqm
    clear hqm hN
    go_wp2_with fail
    go_quiet (fail)
    go_wp2_with fail
    go_ret
    rw [HE1.out]
    exact (code_no m l bs) ▸ MtP.done (r := .no (m : Int) l bs) (HR3n.out _) HWm.out (HB3n.out _)
  have hqb : ((hOf l x).nm.toList == (hOf l y).nm.toList) = true := beq_iff_eq.2 hqm
  by_cases hqn : (hOf l x).n = (hOf l y).n
  case neg =>
    have HE1 : Hid (rr = .no m l bs) := by rw [Hid, HE2.out]; exact if_pos (fun h => hqn h.1)
    have hqb2 : ((hOf l x).n == (hOf l y).n) = false := beq_eq_false_iff_ne.2 hqn
    have hqb3 : ((hOf l x).n != (hOf l y).n) = true := bne_iff_ne.2 hqn
    clear hqm hN hqn
    go_wp2_with fail
    go_quiet (fail)
    go_wp2_with fail
    go_ret
    rw [HE1.out]
    exact (code_no m l bs) ▸ MtP.done (r := .no (m : Int) l bs) (HR3n.out _) HWm.out (HB3n.out _)
  have HE1 : Hid (rr = smK (smH f) x y N (m, l, bs)) := by rw [Hid, HE2.out, if_neg (fun h => h ⟨hqn, hqm⟩), hN]; rfl
  have Hkx : Hid (∀ j : Nat, j < N → x + 1 + j < l.length) := fun j hj => HK4.out j Hh1.out (by have := HNN.out; omega)
  have Hky : Hid (∀ j : Nat, j < N → y + 1 + j < l.length) := fun j hj => HK5.out j Hh2.out (by have := HNN.out; omega)
  have hyn : (hOf l y).n = (N : Int) := by rw [← hqn]; exact hN
  rw [hN] at u1
  rw [hyn] at v1
  have hNN : ((N : Int) != (N : Int)) = false := by simp
  clear hqm hN hqn hyn HN0 HN4 HE2 HK4 HK5 Hh1 Hh2
  go_wp2_with fail
  go_quiet (fail)
  have HR3d : Hid (RH lo (w3.drewN nq) xb bv (4000 - (m : Int)) g cap l bs) := (HR3n.out nq).cast HWm.out
  have HB3d : Hid (Bw (MBr xb g bv) w.heap.size w (w3.drewN nq)) := HB3n.out nq
  have z0 := HR3d.out.cells.1
  have z1 : (w3.drewN nq).cell? ⟨g, x * 3 + 1, none⟩ = some (.int .i64 (N : Int)) := by rw [← HNN.out]; exact (HR3d.out.cellN hax).2.1
  generalize w3.drewN nq = w5 at *
  go_wp2_with fail
  go_loopw [13, 14] (fun iv kv wq => ∃ (j : Nat) (s' : MS) (bv' : Value), j ≤ N ∧ iv = .int .i64 ((j : Int) + 1) ∧ smK (smH f) x y j (m, l, bs) = .yes s' ∧ RH lo wq xb bv' (4000 - (s'.1 : Int)) g cap s'.2.1 s'.2.2 ∧ Bw (MBr xb g bv) w.heap.size w wq ∧ (bv'.ownBlock = bv.ownBlock ∨ ∃ q, bv'.ownBlock = some q ∧ w.heap.size ≤ q)) (fun iv _ _ => N + 1 - (intOf iv).toNat)
  case atStart => exact ⟨0, (m, l, bs), bv, Nat.zero_le _, rfl, rfl, HR3d.out, HB3d.out, .inl rfl⟩
  case round =>
    obtain ⟨j, s', bv', hjN, rfl, hsm, hRr, hBr, hat⟩ := hrel
    have Hsm : Hid (smK (smH f) x y j (m, l, bs) = .yes s') := hsm
    have HRr : Hid (RH lo wr xb bv' (4000 - (s'.1 : Int)) g cap s'.2.1 s'.2.2) := hRr
    have HBr : Hid (Bw (MBr xb g bv) w.heap.size w wr) := hBr
    have Hat : Hid (bv'.ownBlock = bv.ownBlock ∨ ∃ q, bv'.ownBlock = some q ∧ w.heap.size ≤ q) := hat
    have hgd : (MR.yes s').Good (m, l, bs) := by
      rw [← hsm]
      exact smK_good HGm.out (fun k hk s1 h1 => smH_good f (x + 1 + k) (y + 1 + k) s1 h1.mg (by have := Hkx.out k (by omega); have h9 : s1.2.1.length = l.length := h1.len; omega) (by have := Hky.out k (by omega); have h9 : s1.2.1.length = l.length := h1.len; omega)) j (Nat.le_refl _)
    have HMg : Hid (MG s') := hgd.mg
    have hl' : s'.2.1.length = l.length := hgd.len
    have hs'm : (s'.1 : Int) ≤ (m : Int) := hgd.le
    have hbs' : (s'.2.2.length : Int) + (s'.1 : Int) ≤ (bs.length : Int) + (m : Int) := hgd.bs rfl
    have hsr := hBr.size
    clear hsm hRr hBr hat hgd z0 z1 k0 u0 u1 u2 v0 v1 v2
    by_cases hlt : j < N
    case pos =>
      have hcmp : decide ((j : Int) + 1 ≤ (N : Int)) = true := decide_eq_true (by omega)
      have hxk := Hkx.out j hlt
      have hyk := Hky.out j hlt
      have HCl : Hid (Calls Try.prog 47 #[.pointer (some ⟨xb, 0, none⟩), .int .i64 ((x + 1 + j : Nat) : Int), .int .i64 ((y + 1 + j : Nat) : Int)] wr (MtP wr lo xb bv' g cap (smH f (x + 1 + j) (y + 1 + j) s'))) := HIH.out lo xb bv' g cap s' (x + 1 + j) (y + 1 + j) wr (by omega) (by omega) (by omega) HMg.out HRr.out (by omega) (by omega)
      have hw2 : IntKind.i64.wrap ((x : Int) + ((j : Int) + 1)) = ((x + 1 + j : Nat) : Int) := by simp [IntKind.wrap, IntKind.bits, IntKind.signed]; omega
      have hw4 : IntKind.i64.wrap ((y : Int) + ((j : Int) + 1)) = ((y + 1 + j : Nat) : Int) := by simp [IntKind.wrap, IntKind.bits, IntKind.signed]; omega
      have HNx : Hid (smK (smH f) x y (j + 1) (m, l, bs) = smH f (x + 1 + j) (y + 1 + j) s') := smK_next Hsm.out
      generalize smH f (x + 1 + j) (y + 1 + j) s' = r at *
      generalize hxx : x + 1 + j = xx at *
      generalize hyy : y + 1 + j = yy at *
      clear hl' hs'm hbs'
      go_wp2_with fail
      refine HCl.out.mono ?_
      rintro e w8 ⟨rfl, bv8, hM8, hB8, hat8⟩
      have HB8 : Hid (Bw (MBr xb g bv) w.heap.size w w8) := HBr.out.trans ((hB8.mono hsr).wide fun q hq hm => by
        rcases hm with e | e | e
        · exact .inl e
        · exact .inr (.inl e)
        · rcases Hat.out with h | ⟨p, h, hp⟩
          · exact .inr (.inr (h ▸ e))
          · rw [h] at e; have := Option.some.inj e; omega)
      have Ha8 : Hid (bv8.ownBlock = bv.ownBlock ∨ ∃ q, bv8.ownBlock = some q ∧ w.heap.size ≤ q) := by
        rcases hat8 with h | ⟨p, h, hp⟩
        · rw [Hid, h]; exact Hat.out
        · exact .inr ⟨p, h, by omega⟩
      cases r with
      | yes s8 =>
        have HM8 : Hid (RH lo w8 xb bv8 (4000 - (s8.1 : Int)) g cap s8.2.1 s8.2.2) := hM8
        clear hM8 hB8 hat8
        rw [show (MR.yes s8).code = 1 from rfl]
        go_wp2_with fail
        go_roundw
        case rel => exact ⟨j + 1, s8, bv8, by omega, by go_num, HNx.out, HM8.out, HB8.out, Ha8.out⟩
        case measure => simp [intOf]; omega
      | no x8 l8 bs8 =>
        have HM8 : Hid (RH lo w8 xb bv8 (4000 - x8) g cap l8 bs8) := hM8
        have HEf : Hid (rr = .no x8 l8 bs8) := by rw [Hid, HE1.out]; exact smK_stop HNx.out N (by omega)
        have hcd : ((MR.no x8 l8 bs8).code != 1) = true := by
          show ((if x8 < 0 then (2 : Int) else 0) != 1) = true
          by_cases h : x8 < 0
          · rw [if_pos h]; rfl
          · rw [if_neg h]; rfl
        generalize hcc : (MR.no x8 l8 bs8).code = cd at *
        have Hcc : Hid ((MR.no x8 l8 bs8).code = cd) := hcc
        clear hM8 hB8 hat8 hcc
        go_wp2_with fail
        go_ret
        rw [HEf.out]
        exact ⟨by rw [Hcc.out]; rfl, bv8, HM8.out, HB8.out, Ha8.out⟩
    have hcmp : decide ((j : Int) + 1 ≤ (N : Int)) = false := decide_eq_false (by omega)
    obtain rfl : j = N := by omega
    have HEf : Hid (rr = .yes s') := HE1.out.trans Hsm.out
    clear hl' hs'm hbs'
    go_wp2_with fail
    go_ret
    rw [HEf.out]
    exact ⟨rfl, bv', HRr.out, HBr.out, Hat.out⟩
theorem rmeet_all : ∀ f, MtC f := by
  intro f
  induction f with
  | zero => intro lo xb bv g cap s a b w hf; exact absurd hf (Nat.not_lt_zero _)
  | succ f ih => exact rmeet_step f ih
end Go.Proofs.Ytmggaclaoefdaaa
