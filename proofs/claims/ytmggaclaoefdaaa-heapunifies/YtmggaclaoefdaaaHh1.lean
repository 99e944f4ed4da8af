/- The reference's Heap in memory; Within, walked. -/
import Derived.Test.YtmggaclaoefdaaaHm6
import Derived.Test.YtmggaclaoefdaaaHp9
namespace Go.Proofs.Ytmggaclaoefdaaa
open Go.RowKit
set_option linter.unusedVariables false
set_option linter.unusedSimpArgs false

/-- A heap that is bound: its cells, which were bound, how much work was done. -/
structure RH (lo : Nat) (w : World) (xb : Nat) (bv : Value) (wk : Int) (g cap : Nat) (l : List Cl) (bs : List Nat) : Prop where
  blk : w.heap[xb]? = some (.cells #[.slice (some ⟨g, 0, none⟩) l.length cap, bv, .int .i64 wk] 73)
  row : CRw lo w (.slice (some ⟨g, 0, none⟩) l.length cap) l
  bnd : w.ownsRow lo 3 1 bv bs.length (bs.map fun x : Nat => Value.int .i64 (x : Int))
  low : lo ≤ w.heap.size
section
variable {lo : Nat} {w w' : World} {xb : Nat} {bv : Value} {wk : Int} {g cap : Nat} {l : List Cl} {bs : List Nat}
theorem RH.lt (R : RH lo w xb bv wk g cap l bs) : xb < w.heap.size := (Array.getElem?_eq_some_iff.1 R.blk).1
theorem RH.cast {wk' : Int} (R : RH lo w xb bv wk g cap l bs) (e : wk = wk') : RH lo w xb bv wk' g cap l bs := e ▸ R
theorem RH.gne (R : RH lo w xb bv wk g cap l bs) : g ≠ xb ∧ g < w.heap.size := by
  obtain ⟨cur, hc⟩ := row_blk R.row (g := g) rfl
  refine ⟨fun e => ?_, (Array.getElem?_eq_some_iff.1 hc).1⟩
  subst e; rw [R.blk] at hc; injection hc with hc; injection hc with h1 h2; cases h2
theorem RH.bne (R : RH lo w xb bv wk g cap l bs) : ∀ k, bv.ownBlock = some k → k ≠ xb ∧ k ≠ g ∧ k < w.heap.size ∧ lo ≤ k := by
  intro k hk
  obtain ⟨cur, hc⟩ := row_blk R.bnd hk
  refine ⟨fun e => ?_, fun e => ?_, (Array.getElem?_eq_some_iff.1 hc).1, (R.bnd.lt k hk).1⟩
  · subst e; rw [R.blk] at hc; injection hc with hc; injection hc with h1 h2; cases h2
  · subst e
    obtain ⟨cur', hc'⟩ := row_blk R.row (g := k) rfl
    rw [hc] at hc'; injection hc' with hc'; injection hc' with h1 h2; cases h2
theorem RH.cells (R : RH lo w xb bv wk g cap l bs) : w.cell? ⟨xb, 0, none⟩ = some (.slice (some ⟨g, 0, none⟩) l.length cap) ∧ w.cell? ⟨xb, 1, none⟩ = some bv ∧ w.cell? ⟨xb, 2, none⟩ = some (.int .i64 wk) ∧ ∀ j, w.frozen? ⟨xb, j, none⟩ = false := by
  have := R.blk
  refine ⟨?_, ?_, ?_, fun j => ?_⟩ <;> simp [World.cell?, World.frozen?, this]
theorem RH.below (R : RH lo w xb bv wk g cap l bs) (hb : Below w.heap.size w w') : RH lo w' xb bv wk g cap l bs :=
  ⟨(hb.block _ R.lt).trans R.blk, World.ownsRow.kept R.row (grown_of_below hb none) (kept_none _), R.bnd.kept (grown_of_below hb none) (kept_none _), Nat.le_trans R.low hb.size⟩
theorem RH.cellN (R : RH lo w xb bv wk g cap l bs) {i : Nat} (hi : i < l.length) : w.cell? ⟨g, i * 3, none⟩ = some (.int .i64 (hOf l i).k) ∧ w.cell? ⟨g, i * 3 + 1, none⟩ = some (.int .i64 (hOf l i).n) ∧ w.cell? ⟨g, i * 3 + 2, none⟩ = some (.string (hOf l i).nm) ∧ ∀ j, w.frozen? ⟨g, j, none⟩ = false := by
  obtain ⟨f0, f1, f2⟩ := flatC_get l i hi
  rw [hOf_get hi]
  refine ⟨(World.ownsRow.cellAt R.row (i * 3) (by omega)).trans f0, (World.ownsRow.cellAt R.row (i * 3 + 1) (by omega)).trans f1, (World.ownsRow.cellAt R.row (i * 3 + 2) (by omega)).trans f2, fun j => ?_⟩
  obtain ⟨cur, hc⟩ := row_blk R.row (g := g) rfl
  simp [World.frozen?, hc]
theorem RH.hin (R : RH lo w xb bv wk g cap l bs) (hm : ∀ c ∈ l, c.nm.size ≤ maxLen) : HIn w (some ⟨g, 0, none⟩) l.length (hOf l) := CRw.hin R.row rfl hm
theorem RH.setW (R : RH lo w xb bv wk g cap l bs) (x : Int) : RH lo (w.setCell ⟨xb, 2, none⟩ (.int .i64 x)) xb bv x g cap l bs := by
  have hg := grown_set (W := w) xb 2 (.int .i64 x)
  refine ⟨?_, R.row.kept hg (.inr (fun e => R.gne.1 (Option.some.inj e))), R.bnd.kept hg ?_, Nat.le_trans R.low hg.size⟩
  · simp only [World.setCell, Array.getElem?_modify]
    simp [R.blk]
  · cases hb : bv.ownBlock with
    | none => exact .inl rfl
    | some k => exact .inr (fun e => (R.bne k hb).1 (Option.some.inj e))
end
def LkR.code : LkR → Int
  | .ok _ => 0
  | .hit _ => 1
  | .over => 2
def WhP (w : World) (lo xb : Nat) (bv : Value) (g cap : Nat) (l : List Cl) (bs : List Nat) (r : LkR) (e : Ending) (w' : World) : Prop := e = .returned (.int .i64 r.code) ∧ RH lo w' xb bv (4000 - r.left) g cap l bs ∧ G xb w w'
def WhC (n : Nat) : Prop := ∀ (lo xb : Nat) (bv : Value) (g cap : Nat) (l : List Cl) (bs : List Nat) (t v : Nat) (w : World), HG (hOf l) l.length → (∀ c ∈ l, c.nm.size ≤ maxLen) → t < l.length → v < l.length → (hOf l v).k = 1 → RH lo w xb bv (4000 - (n : Int)) g cap l bs →
  Calls Try.prog 90 #[.pointer (some ⟨xb, 0, none⟩), .int .i64 (v : Int), .int .i64 (t : Int)] w (WhP w lo xb bv g cap l bs (lkL (hOf l) l.length v n [t]))
def pfx (z k : Nat) : List Nat := (List.range k).map fun j => z + 1 + j
theorem pfx_succ (z k : Nat) : pfx z (k + 1) = pfx z k ++ [z + 1 + k] := by unfold pfx; rw [List.range_succ, List.map_append]; rfl
theorem pfx_pre (z : Nat) {k n : Nat} (h : k ≤ n) : pfx z k <+: pfx z n := by
  obtain ⟨d, rfl⟩ : ∃ d, n = k + d := ⟨n - k, by omega⟩
  clear h
  induction d with
  | zero => exact List.prefix_refl _
  | succ d ih => rw [show k + (d + 1) = k + d + 1 from rfl, pfx_succ]; exact ih.trans (List.prefix_append _ _)
set_option maxRecDepth 100000 in
set_option maxHeartbeats 4000000 in
theorem rwithin_step (n : Nat) (hn : n ≤ 4000) (ih : ∀ k, k < n → WhC k) : WhC n := by
  intro lo xb bv g cap l bs t v w H hnm ht hv hvk R
  have HGd : Hid (HG (hOf l) l.length) := H
  have HNm : Hid (∀ c ∈ l, c.nm.size ≤ maxLen) := hnm
  have HIH : Hid (∀ k, k < n → WhC k) := ih
  have HVk : Hid ((hOf l v).k = 1) := hvk
  obtain ⟨wk, hwk⟩ : ∃ wk : Int, 4000 - (n : Int) = wk := ⟨_, rfl⟩
  rw [hwk] at R
  have HWk : Hid (4000 - (n : Int) = wk) := hwk
  have hw0 : 0 ≤ wk := by omega
  have hw4 : wk ≤ 4000 := by omega
  obtain ⟨c0, c1, c2, cf⟩ := R.cells
  have cf2 := cf 2
  have hwr : IntKind.i64.wrap (wk + 1) = wk + 1 := by simp [IntKind.wrap, IntKind.bits, IntKind.signed]; omega
  have hS := R.setW (wk + 1)
  have HS : Hid (RH lo (w.setCell ⟨xb, 2, none⟩ (.int .i64 (wk + 1))) xb bv (wk + 1) g cap l bs) := hS
  have HGs : Hid (G xb w (w.setCell ⟨xb, 2, none⟩ (.int .i64 (wk + 1)))) := grown_set (W := w) xb 2 _
  obtain ⟨d0, d1, d2, df⟩ := hS.cells
  clear cf R df hS hwk
  by_cases hz : n = 0
  case pos =>
    have HE : Hid (lkL (hOf l) l.length v n [t] = .over) := by rw [Hid, hz]; rfl
    have hgt : decide (wk + 1 > 4000) = true := decide_eq_true (by have := HWk.out; omega)
    have HWe : Hid (wk + 1 = 4000 - (-1)) := by have := HWk.out; rw [Hid]; omega
    clear H hnm hvk hz
    go_enter Try.func90, Try.ntmps90
    go_wp2_with fail
    go_ret
    rw [HE.out]
    exact ⟨rfl, HS.out.cast HWe.out, HGs.out⟩
  obtain ⟨m, hm⟩ : ∃ m, n = m + 1 := ⟨n - 1, by omega⟩
  have HWm : Hid (wk + 1 = 4000 - (m : Int)) := by have := HWk.out; rw [Hid]; omega
  have hgt : decide (wk + 1 > 4000) = false := decide_eq_false (by have := HWm.out; omega)
  have hEn := H.endR ht
  have hzl := H.end_lt ht
  have hor := H.end_or ht
  have HL1 : Hid (lkL (hOf l) l.length v n [t] = if endA (hOf l) l.length t = v then .hit m else lkL (hOf l) l.length v m (leads (hOf l) (endA (hOf l) l.length t))) := by
    rw [Hid, hm, show lkL (hOf l) l.length v (m + 1) [t] = if endA (hOf l) l.length t = v then .hit m else lkL (hOf l) l.length v m (leads (hOf l) (endA (hOf l) l.length t) ++ []) from rfl, List.append_nil]
  have hn4 := H.ok.n4 _ hzl
  have hn0 := H.ok.n0 _ hzl
  have hkd := H.kids _ hzl
  have hfew := H.ok.few
  have HIH' : Hid (∀ k, k ≤ m → WhC k) := fun k hk => ih k (by omega)
  generalize endA (hOf l) l.length t = z at *
  generalize hw2 : w.setCell ⟨xb, 2, none⟩ (.int .i64 (wk + 1)) = w1 at *
  have HEn : Hid (Calls Try.prog 37 #[.slice (some ⟨g, 0, none⟩) l.length cap, .int .i64 t] w1 fun e w' => e = .returned (.int .i64 (z : Nat)) ∧ w' = w1) := endOf_any hEn _ (HS.out.hin hnm)
  obtain ⟨z0, z1, z2, _⟩ := HS.out.cellN hzl
  have hzI : (z : Int) < (l.length : Int) := by omega
  have HLr : Hid (lkL (hOf l) l.length v n [t] = lkL (hOf l) l.length v n [t]) := rfl
  generalize hlr : lkL (hOf l) l.length v n [t] = lr at *
  clear H hnm hEn hvk HLr HIH ih hz hm HWk hlr
  rcases hor with ⟨hk1, hn1⟩ | hk2
  case inl =>
    have hkb : ((hOf l z).k == 1) = true := beq_iff_eq.2 hk1
    by_cases hzv : z = v
    case pos =>
      have hzb : ((z : Int) == (v : Int)) = true := beq_iff_eq.2 (by omega)
      have HLf : Hid (lr = .hit m) := by rw [Hid, HL1.out, if_pos hzv]
      clear hzv
      go_enter Try.func90, Try.ntmps90
      go_wp2_with fail
      refine HEn.out.mono ?_
      rintro e w2 ⟨rfl, h2⟩
      rw [h2]
      go_wp2_with fail
      go_ret
      rw [HLf.out]
      exact ⟨rfl, HS.out.cast HWm.out, HGs.out⟩
    have hzb : ((z : Int) == (v : Int)) = false := beq_eq_false_iff_ne.2 (by omega)
    have HLf : Hid (lr = .ok m) := by
      rw [Hid, HL1.out, if_neg hzv]
      unfold leads
      rw [if_pos hk1, if_pos hn1]
      exact lkL_nil _ _ _ _
    clear hzv
    go_enter Try.func90, Try.ntmps90
    go_wp2_with fail
    refine HEn.out.mono ?_
    rintro e w2 ⟨rfl, h2⟩
    rw [h2]
    go_wp2_with fail
    go_ret
    rw [HLf.out]
    exact ⟨rfl, HS.out.cast HWm.out, HGs.out⟩
  have hkb : ((hOf l z).k == 1) = false := beq_eq_false_iff_ne.2 (by omega)
  have hzv : z ≠ v := fun e => by have := HVk.out; rw [e] at hk2; omega
  obtain ⟨N, hN⟩ : ∃ N : Nat, (hOf l z).n = (N : Int) := ⟨(hOf l z).n.toNat, by omega⟩
  have hN4 : N ≤ 4 := by have := hn4 (by omega); omega
  have HLf : Hid (lr = lkL (hOf l) l.length v m (pfx z N)) := by
    rw [Hid, HL1.out, if_neg hzv]
    unfold leads pfx
    rw [if_neg (by omega), hN]
    rfl
  have HKd : Hid (∀ j, j < N → z + 1 + j < l.length) := fun j hj => (hkd hk2 j (by omega)).1
  rw [hN] at z1
  have HN : Hid ((hOf l z).n = (N : Int)) := hN
  have HCz : Hid (∀ W, RH lo W xb bv 0 g cap l bs → True) := fun _ _ => trivial
  clear hzv hn4 hn0 hkd hN HL1 hk2
  go_enter Try.func90, Try.ntmps90
  go_wp2_with fail
  refine HEn.out.mono ?_
  rintro e w2 ⟨rfl, h2⟩
  rw [h2]
  go_wp2_with fail
  go_loopw [7, 8] (fun iv kv wq => ∃ (j k : Nat), j ≤ N ∧ iv = .int .i64 ((j : Int) + 1) ∧ lkL (hOf l) l.length v m (pfx z j) = .ok k ∧ k ≤ m ∧ RH lo wq xb bv (4000 - (k : Int)) g cap l bs ∧ G xb w wq) (fun iv _ _ => N + 1 - (intOf iv).toNat)
  case atStart => exact ⟨0, m, Nat.zero_le _, rfl, lkL_nil _ _ _ _, Nat.le_refl _, HS.out.cast HWm.out, HGs.out⟩
  case round =>
    obtain ⟨j, k, hj, rfl, hk, hkm, hR, hG⟩ := hrel
    have HK : Hid (lkL (hOf l) l.length v m (pfx z j) = .ok k) := hk
    have HR : Hid (RH lo wr xb bv (4000 - (k : Int)) g cap l bs) := hR
    have HG : Hid (G xb w wr) := hG
    obtain ⟨r0, r1, r2, _⟩ := hR.cells
    obtain ⟨y0, y1, y2, _⟩ := hR.cellN hzl
    rw [HN.out] at y1
    clear hk hR hG z0 z1 z2 d0 d1 d2 c0 c1 c2 r2
    by_cases hjN : j < N
    case neg =>
      obtain rfl : j = N := by omega
      have hcmp : decide ((j : Int) + 1 ≤ (j : Int)) = false := decide_eq_false (by omega)
      go_wp2_with fail
      go_ret
      rw [HLf.out, HK.out]
      exact ⟨rfl, HR.out, HG.out⟩
    have hcmp : decide ((j : Int) + 1 ≤ (N : Int)) = true := decide_eq_true (by omega)
    have hzj := HKd.out j hjN
    have hwz : IntKind.i64.wrap ((z : Int) + ((j : Int) + 1)) = ((z + 1 + j : Nat) : Int) := by simp [IntKind.wrap, IntKind.bits, IntKind.signed]; omega
    have HCl : Hid (Calls Try.prog 90 #[.pointer (some ⟨xb, 0, none⟩), .int .i64 (v : Int), .int .i64 ((z + 1 + j : Nat) : Int)] wr (WhP wr lo xb bv g cap l bs (lkL (hOf l) l.length v k [z + 1 + j]))) := HIH'.out k hkm lo xb bv g cap l bs (z + 1 + j) v wr HGd.out HNm.out hzj hv HVk.out HR.out
    have HNx : Hid (lkL (hOf l) l.length v m (pfx z (j + 1)) = lkL (hOf l) l.length v k [z + 1 + j]) := by rw [Hid, pfx_succ, lkL_append, HK.out]; rfl
    have HLe : Hid (∀ q, lkL (hOf l) l.length v k [z + 1 + j] = .ok q → q ≤ k) := fun q hq => (lkL_le _ _ _ _ _).1 q hq
    generalize hzz : z + 1 + j = zz at *
    go_wp2_with fail
    refine HCl.out.mono ?_
    rintro e w3 ⟨rfl, hR3, hG3⟩
    generalize hq : lkL (hOf l) l.length v k [zz] = q at *
    have HR3 : Hid (RH lo w3 xb bv (4000 - q.left) g cap l bs) := hR3
    have HG3 : Hid (G xb w w3) := HG.out.trans hG3
    clear hR3 hG3 r0 r1 y0 y1 y2
    cases q with
    | ok q =>
      rw [show LkR.code (.ok q) = 0 from rfl]
      go_wp2_with fail
      go_roundw
      case rel => exact ⟨j + 1, q, by omega, by go_num, HNx.out, by have := HLe.out q rfl; omega, HR3.out, HG3.out⟩
      case measure => simp [intOf]; omega
    | hit q =>
      rw [show LkR.code (.hit q) = 1 from rfl]
      have HLz : Hid (lr = .hit q) := by rw [Hid, HLf.out, lkL_stop (pfx_pre z (show j + 1 ≤ N by omega)) (by rw [HNx.out]; rfl), HNx.out]
      go_wp2_with fail
      go_ret
      rw [HLz.out]
      exact ⟨rfl, HR3.out, HG3.out⟩
    | over =>
      rw [show LkR.code .over = 2 from rfl]
      have HLz : Hid (lr = .over) := by rw [Hid, HLf.out, lkL_stop (pfx_pre z (show j + 1 ≤ N by omega)) (by rw [HNx.out]; rfl), HNx.out]
      go_wp2_with fail
      go_ret
      rw [HLz.out]
      exact ⟨rfl, HR3.out, HG3.out⟩
theorem rwithin_all : ∀ n, n ≤ 4000 → WhC n := by
  intro n
  induction n using Nat.strongRecOn with
  | _ n ih => intro hn; exact rwithin_step n hn fun k hk => ih k hk (by omega)
end Go.Proofs.Ytmggaclaoefdaaa
