/- Making two terms the same: Same. -/
import Derived.Test.YtmggaclaoefdaaaBnd4
import Derived.Deep.RegionWith
import Derived.Deep.Cut
import Derived.Deep.CutRange
namespace Go.Proofs.Ytmggaclaoefdaaa
open Go.RowKit

inductive MO where
  | over
  | no (L : Nat)
  | yes (L : Nat) (σ : Sg)
def zipK (S T : Tm) : List (Tm × Tm) := (List.range S.len).map fun i => (S.f i, T.f i)
theorem zipK_drop {S T : Tm} {k : Nat} (h : k < S.len) : (zipK S T).drop k = (S.f k, T.f k) :: (zipK S T).drop (k + 1) := by
  have hl : k < (zipK S T).length := by simp [zipK, h]
  rw [List.drop_eq_getElem_cons hl]
  congr 1
  simp [zipK]
theorem zipK_end {S T : Tm} : (zipK S T).drop S.len = [] := by
  rw [List.drop_eq_nil_iff]; simp [zipK]
/-- Pairs are made the same, one after another; so much may still be looked at. -/
def meetF : Nat → Sg → Nat → List (Tm × Tm) → MO
  | 0, _, _, _ => .over
  | _ + 1, σ, L, [] => .yes L σ
  | _ + 1, _, 0, _ :: _ => .over
  | F + 1, σ, L + 1, (x, y) :: ps =>
    if (wha σ x).v ≠ 0 then
      if (wha σ x).v = (wha σ y).v then meetF F σ L ps
      else match within σ (wha σ x).v L [wha σ y] with
        | .over => .over
        | .found k => .no k
        | .free k => meetF F (put σ (wha σ x) (wha σ y)) k ps
    else if (wha σ y).v ≠ 0 then
      match within σ (wha σ y).v L [wha σ x] with
        | .over => .over
        | .found k => .no k
        | .free k => meetF F (put σ (wha σ y) (wha σ x)) k ps
    else if (wha σ x).nm.toList = (wha σ y).nm.toList ∧ (wha σ x).len = (wha σ y).len then meetF F σ L (zipK (wha σ x) (wha σ y) ++ ps)
    else .no L
theorem Good.gf {w w' : World} {b m : Nat} {tv tv' : Value} {N : Int} {T : Tm} (h : Good w b m tv N T) (hg : GF b m tv w w') (hn : TN tv tv' w) : Good w' b m tv' N T :=
  ⟨h.1.gf hg h.2.2.1 h.2.2.2.1 h.2.2.2.2, h.2.1, h.2.2.1, h.2.2.2.1, fun g hg' => by
    rcases hn g hg' with e | e
    · exact h.2.2.2.2 g e
    · exact h.1.nb e⟩
theorem Good.below {w w' : World} {b m : Nat} {tv : Value} {N : Int} {T : Tm} (h : Good w b m tv N T) (hb : Below w.heap.size w w') : Good w' b m tv N T := h.gf (GF.ofBelow hb) (TN.refl _ _)
theorem Good.kid {w : World} {b m : Nat} {tv : Value} {N : Int} {T : Tm} (h : Good w b m tv N T) {i : Nat} (hi : i < T.len) : Good w b m tv N (T.f i) :=
  ⟨h.1.kid hi, h.2.1.kid hi, h.2.2.1.kid hi, h.2.2.2.1.kid hi, fun g hg => (h.2.2.2.2 g hg).kid hi⟩
theorem VS.good {w : World} {b m : Nat} {tv : Value} {N : Int} {lo n : Nat} {σ : Sg} {L : Int} (h : VS w b m tv N lo n σ L) {T : Tm} (hT : Good w b m tv N T) : Good w b m tv N (wha σ T) := by
  rcases wh_from σ (T.v.toNat + 1) T with e | ⟨v, e⟩
  · unfold wha; rw [e]; exact hT
  · obtain ⟨h1, h2, h3, h4, h5⟩ := h.trm v _ e
    exact ⟨h1, h2, h3, h4, h5⟩
/-- What goes from a term to its arguments. -/
def KidC (K : Tm → Prop) : Prop := ∀ T, K T → ∀ i, i < T.len → K (T.f i)
/-- What variables are now was there, or is a part of the two terms. -/
def KX (σ : Sg) (S T : Tm) (σ' : Sg) : Prop := ∀ K, KidC K → (∀ v U, σ v = some U → K U) → K S → K T → ∀ v U, σ' v = some U → K U
theorem KX.refl (σ : Sg) (S T : Tm) : KX σ S T σ := fun _ _ h _ _ => h
theorem kx_wha {K : Tm → Prop} {σ : Sg} (h : ∀ v U, σ v = some U → K U) {T : Tm} (hT : K T) : K (wha σ T) := by
  rcases wh_from σ (T.v.toNat + 1) T with e | ⟨v, e⟩
  · unfold wha; rw [e]; exact hT
  · exact h v _ e
theorem kx_put {K : Tm → Prop} {σ : Sg} (h : ∀ v U, σ v = some U → K U) {X T : Tm} (hX : K X) (hT : K T) : ∀ v U, put σ X T v = some U → K U := by
  intro v U hv
  unfold put at hv
  split at hv <;>
  · unfold upd at hv
    split at hv
    · obtain rfl := Option.some.inj hv
      assumption
    · exact h v U hv
/-- What Same says of two terms. -/
def SP (w : World) (b m : Nat) (tv : Value) (N : Int) (lo n : Nat) (σ : Sg) (L : Nat) (S T : Tm) (e : Ending) (w' : World) : Prop :=
  (e = .returned (.bool true) ∧ ∃ (k : Nat) (σ' : Sg) (tv' : Value) (n' : Nat), k < L ∧ VS w' b m tv' N lo n' σ' k ∧ n' + k ≤ n + L ∧ GF b m tv w w' ∧ (TX lo tv σ w tv' σ' w' ∧ KX σ S T σ') ∧ ∀ F ps, L < F → ∃ F', k < F' ∧ meetF F σ L ((S, T) :: ps) = meetF F' σ' k ps) ∨
  (e = .returned (.bool false) ∧ ∃ (L' : Int) (σ' : Sg) (tv' : Value) (n' : Nat), VS w' b m tv' N lo n' σ' L' ∧ n' ≤ n + L ∧ GF b m tv w w' ∧ (TX lo tv σ w tv' σ' w' ∧ KX σ S T σ') ∧ ((L' = -1 ∧ ∀ F ps, L < F → meetF F σ L ((S, T) :: ps) = .over) ∨ ∃ k : Nat, L' = k ∧ k < L ∧ ∀ F ps, L < F → meetF F σ L ((S, T) :: ps) = .no k))
def SC (L : Nat) : Prop := ∀ (b m : Nat) (tv : Value) (N : Int) (lo n : Nat) (σ : Sg) (S T : Tm) (w : World), VS w b m tv N lo n σ L → L ≤ 4000 → n + L ≤ 1000000000 → Good w b m tv N S → Good w b m tv N T →
    Calls Try.prog 61 #[.pointer (some ⟨b, 0, none⟩), S.val, T.val] w (SP w b m tv N lo n σ L S T)
theorem what_agg {b m : Nat} {tv : Value} {N : Int} {lo n : Nat} {σ : Sg} {L : Int} (T : Tm) (w : World) (hS : VS w b m tv N lo n σ L) (hT : Okv N T) :
    Calls Try.prog 93 #[.pointer (some ⟨b, 0, none⟩), .agg #[.int .i64 T.v, .string T.nm, .slice T.a T.len T.cap]] w fun e w' => e = .returned (.agg #[.int .i64 (wha σ T).v, .string (wha σ T).nm, .slice (wha σ T).a (wha σ T).len (wha σ T).cap]) ∧ Below w.heap.size w w' ∧ Okv N (wha σ T) := what_any T w hS hT

theorem box2 {w w2 : World} {a0 a1 a2 c0 c1 c2 : Value} (hS : w2.heap[w.heap.size]? = some (.cells #[a0, a1, a2] 24)) (hT : w2.heap[w.heap.size + 1]? = some (.cells #[c0, c1, c2] 24)) (hB : Below w.heap.size w w2) (a0' a1' a2' c0' c1' c2' : Value) :
    (((((((w2.setCell ⟨w.heap.size, 0, none⟩ a0').setCell ⟨w.heap.size, 1, none⟩ a1').setCell ⟨w.heap.size, 2, none⟩ a2').setCell ⟨w.heap.size + 1, 0, none⟩ c0').setCell ⟨w.heap.size + 1, 1, none⟩ c1').setCell ⟨w.heap.size + 1, 2, none⟩ c2').heap[w.heap.size]? = some (.cells #[a0', a1', a2'] 24)) ∧
    (((((((w2.setCell ⟨w.heap.size, 0, none⟩ a0').setCell ⟨w.heap.size, 1, none⟩ a1').setCell ⟨w.heap.size, 2, none⟩ a2').setCell ⟨w.heap.size + 1, 0, none⟩ c0').setCell ⟨w.heap.size + 1, 1, none⟩ c1').setCell ⟨w.heap.size + 1, 2, none⟩ c2').heap[w.heap.size + 1]? = some (.cells #[c0', c1', c2'] 24)) ∧
    Below w.heap.size w ((((((w2.setCell ⟨w.heap.size, 0, none⟩ a0').setCell ⟨w.heap.size, 1, none⟩ a1').setCell ⟨w.heap.size, 2, none⟩ a2').setCell ⟨w.heap.size + 1, 0, none⟩ c0').setCell ⟨w.heap.size + 1, 1, none⟩ c1').setCell ⟨w.heap.size + 1, 2, none⟩ c2') := by
  have hgA : w2.grownBy (((w2.setCell ⟨w.heap.size, 0, none⟩ a0').setCell ⟨w.heap.size, 1, none⟩ a1').setCell ⟨w.heap.size, 2, none⟩ a2') (some w.heap.size) := G.trans (G.trans (grown_set _ 0 _) (grown_set _ 1 _)) (grown_set _ 2 _)
  have hXA := set3 (a := a0') (b := a1') (c := a2') hS
  have hTA := (hgA.block (w.heap.size + 1) (Array.getElem?_eq_some_iff.1 hT).1 (by simp)).trans hT
  have hBA := hB.grown hgA (by have := hB.size; omega) (fun k hk => by have := Option.some.inj hk; omega)
  generalize ((w2.setCell ⟨w.heap.size, 0, none⟩ a0').setCell ⟨w.heap.size, 1, none⟩ a1').setCell ⟨w.heap.size, 2, none⟩ a2' = wA at *
  have hgB : wA.grownBy (((wA.setCell ⟨w.heap.size + 1, 0, none⟩ c0').setCell ⟨w.heap.size + 1, 1, none⟩ c1').setCell ⟨w.heap.size + 1, 2, none⟩ c2') (some (w.heap.size + 1)) := G.trans (G.trans (grown_set _ 0 _) (grown_set _ 1 _)) (grown_set _ 2 _)
  have hTB := set3 (a := c0') (b := c1') (c := c2') hTA
  have hXB := (hgB.block w.heap.size (Array.getElem?_eq_some_iff.1 hXA).1 (by simp)).trans hXA
  exact ⟨hXB, hTB, hBA.grown hgB (by have := hBA.size; omega) (fun k hk => by have := Option.some.inj hk; omega)⟩
theorem SP.ok {w : World} {b m : Nat} {tv : Value} {N : Int} {lo n : Nat} {σ : Sg} {L : Nat} {S T : Tm} {e : Ending} {w' : World} (h : SP w b m tv N lo n σ L S T e w') : ∃ ok : Bool, e = .returned (.bool ok) := by
  rcases h with ⟨h, _⟩ | ⟨h, _⟩
  · exact ⟨_, h⟩
  · exact ⟨_, h⟩
theorem SP.gf {w : World} {b m : Nat} {tv : Value} {N : Int} {lo n : Nat} {σ : Sg} {L : Nat} {S T : Tm} {e : Ending} {w' : World} (h : SP w b m tv N lo n σ L S T e w') : GF b m tv w w' := by
  rcases h with ⟨_, _, _, _, _, _, _, _, h, _⟩ | ⟨_, _, _, _, _, _, _, h, _⟩
  · exact h
  · exact h
/-- The first pair, by what its terms are. -/
theorem meet_var {F : Nat} {σ : Sg} {L : Nat} {S T : Tm} {ps : List (Tm × Tm)} (h : (wha σ S).v ≠ 0) (he : (wha σ S).v = (wha σ T).v) : meetF (F + 1) σ (L + 1) ((S, T) :: ps) = meetF F σ L ps := by
  rw [meetF, if_pos h, if_pos he]
theorem meet_left {F : Nat} {σ : Sg} {L : Nat} {S T : Tm} {ps : List (Tm × Tm)} (h : (wha σ S).v ≠ 0) (he : (wha σ S).v ≠ (wha σ T).v) : meetF (F + 1) σ (L + 1) ((S, T) :: ps) = match within σ (wha σ S).v L [wha σ T] with
        | .over => .over
        | .found k => .no k
        | .free k => meetF F (put σ (wha σ S) (wha σ T)) k ps := by
  rw [meetF, if_pos h, if_neg he]
theorem meet_right {F : Nat} {σ : Sg} {L : Nat} {S T : Tm} {ps : List (Tm × Tm)} (h : (wha σ S).v = 0) (he : (wha σ T).v ≠ 0) : meetF (F + 1) σ (L + 1) ((S, T) :: ps) = match within σ (wha σ T).v L [wha σ S] with
        | .over => .over
        | .found k => .no k
        | .free k => meetF F (put σ (wha σ T) (wha σ S)) k ps := by
  rw [meetF, if_neg (by simpa using h), if_pos he]
theorem meet_on {F : Nat} {σ : Sg} {L : Nat} {S T : Tm} {ps : List (Tm × Tm)} (h : (wha σ S).v = 0) (he : (wha σ T).v = 0) (hn : (wha σ S).nm.toList = (wha σ T).nm.toList) (hl : (wha σ S).len = (wha σ T).len) : meetF (F + 1) σ (L + 1) ((S, T) :: ps) = meetF F σ L (zipK (wha σ S) (wha σ T) ++ ps) := by
  rw [meetF, if_neg (by simpa using h), if_neg (by simpa using he), if_pos ⟨hn, hl⟩]
theorem meet_off {F : Nat} {σ : Sg} {L : Nat} {S T : Tm} {ps : List (Tm × Tm)} (h : (wha σ S).v = 0) (he : (wha σ T).v = 0) (hn : ¬ ((wha σ S).nm.toList = (wha σ T).nm.toList ∧ (wha σ S).len = (wha σ T).len)) : meetF (F + 1) σ (L + 1) ((S, T) :: ps) = .no L := by
  rw [meetF, if_neg (by simpa using h), if_neg (by simpa using he), if_neg hn]

theorem SP.rebase {w W : World} {b m : Nat} {tv : Value} {N : Int} {lo n : Nat} {σ : Sg} {L : Nat} {S T : Tm} {e : Ending} {w' : World} (hW : Below w.heap.size w W) (h : SP W b m tv N lo n σ L S T e w') : SP w b m tv N lo n σ L S T e w' := by
  rcases h with ⟨h0, k, σ', tv', n', h1, h2, h3, h4, h5, h6⟩ | ⟨h0, L', σ', tv', n', h1, h2, h3, h4, h5⟩
  · exact .inl ⟨h0, k, σ', tv', n', h1, h2, h3, (GF.ofBelow hW).trans (TN.refl _ _) h4, ⟨(TX.ofBelow hW).trans h5.1 hW.size, h5.2⟩, h6⟩
  · exact .inr ⟨h0, L', σ', tv', n', h1, h2, (GF.ofBelow hW).trans (TN.refl _ _) h3, ⟨(TX.ofBelow hW).trans h4.1 hW.size, h4.2⟩, h5⟩
theorem GF.cell {b m : Nat} {tv : Value} {w w' : World} (h : GF b m tv w w') {p : Addr} {v : Value} (hc : w.cell? p = some v) (h1 : p.block ≠ b) (h2 : p.block ≠ m) (h3 : ∀ g, tv.ownBlock = some g → g ≠ p.block) : w'.cell? p = some v :=
  (World.cell?_of_block (h.block p.block (lt_of_cell hc) h1 h2 h3)).trans hc

set_option maxRecDepth 100000 in
set_option maxHeartbeats 4000000 in
theorem same_step (L : Nat) (hall : ∀ k, k < L → SC k) : SC L := by
  intro b m tv N lo n σ S T w hS hL hn hGS hGT
  have HAll : Hid (∀ k, k < L → SC k) := hall
  have HS : Hid (VS w b m tv N lo n σ L) := hS
  have HGS : Hid (Good w b m tv N S) := hGS
  have HGT : Hid (Good w b m tv N T) := hGT
  have hbl := hS.lt
  have hml := hS.map.lt
  clear hall hS hGS hGT
  show Calls Try.prog 61 #[.pointer (some ⟨b, 0, none⟩), .agg #[.int .i64 S.v, .string S.nm, .slice S.a S.len S.cap], .agg #[.int .i64 T.v, .string T.nm, .slice T.a T.len T.cap]] w _
  go_enter Try.func61, Try.ntmps61
  go_wp2_with fail
  have HBx : Hid (Below w.heap.size w ((w.alloc (.cells #[.int .i64 S.v, .string S.nm, .slice S.a S.len S.cap] 24)).alloc (.cells #[.int .i64 T.v, .string T.nm, .slice T.a T.len T.cap] 24))) := ((Below.refl _ _).alloc (Nat.le_refl _) _).alloc (by simp) _
  have HX0 : Hid (((w.alloc (.cells #[.int .i64 S.v, .string S.nm, .slice S.a S.len S.cap] 24)).alloc (.cells #[.int .i64 T.v, .string T.nm, .slice T.a T.len T.cap] 24)).heap[w.heap.size]? = some (.cells #[.int .i64 S.v, .string S.nm, .slice S.a S.len S.cap] 24)) := by
    rw [Hid, heapOld _ _ (by simp)]; exact heap_alloc_new w _
  have HT0 : Hid (((w.alloc (.cells #[.int .i64 S.v, .string S.nm, .slice S.a S.len S.cap] 24)).alloc (.cells #[.int .i64 T.v, .string T.nm, .slice T.a T.len T.cap] 24)).heap[w.heap.size + 1]? = some (.cells #[.int .i64 T.v, .string T.nm, .slice T.a T.len T.cap] 24)) := by
    have := heap_alloc_new (w.alloc (.cells #[.int .i64 S.v, .string S.nm, .slice S.a S.len S.cap] 24)) (.cells #[.int .i64 T.v, .string T.nm, .slice T.a T.len T.cap] 24)
    rwa [show (w.alloc (.cells #[.int .i64 S.v, .string S.nm, .slice S.a S.len S.cap] 24)).heap.size = w.heap.size + 1 from by simp] at this
  generalize ((w.alloc (.cells #[.int .i64 S.v, .string S.nm, .slice S.a S.len S.cap] 24)).alloc (.cells #[.int .i64 T.v, .string T.nm, .slice T.a T.len T.cap] 24)) = wb at *
  have hsb : w.heap.size + 1 < wb.heap.size := (Array.getElem?_eq_some_iff.1 HT0.out).1
  have HVb : Hid (∀ W, Below wb.heap.size wb W → VS W b m tv N lo n σ L) := fun W hW => (HS.out.below HBx.out).below hW
  have HCx : Hid (∀ W, Below wb.heap.size wb W → W.heap[w.heap.size]? = some (.cells #[.int .i64 S.v, .string S.nm, .slice S.a S.len S.cap] 24) ∧ W.heap[w.heap.size + 1]? = some (.cells #[.int .i64 T.v, .string T.nm, .slice T.a T.len T.cap] 24)) := fun W hW => ⟨(hW.block _ (by omega)).trans HX0.out, (hW.block _ (by omega)).trans HT0.out⟩
  obtain ⟨x0, x1, x2, f0, f1, f2⟩ := block_cells HX0.out
  obtain ⟨t0, t1, t2, g0, g1, g2⟩ := block_cells HT0.out
  have tok1 : True := trivial
  go_cut [] from 8 to 13 (fun wx => wx.heap[w.heap.size]? = some (.cells #[.int .i64 (wha σ S).v, .string (wha σ S).nm, .slice (wha σ S).a (wha σ S).len (wha σ S).cap] 24) ∧ wx.heap[w.heap.size + 1]? = some (.cells #[.int .i64 (wha σ T).v, .string (wha σ T).nm, .slice (wha σ T).a (wha σ T).len (wha σ T).cap] 24) ∧ Below w.heap.size w wx)
  case first =>
    go_region_with (first
      | (go_at_call 93
         have _t := tok1
         refine (what_agg S _ (HVb.out _ (by repeat (first | exact Below.refl _ _ | refine Below.drew ?_))) HGS.out.2.1).mono ?_
         rintro e w1 ⟨rfl, hb1, hO1⟩
         have HB1 : Hid (Below wb.heap.size wb w1) := Below.trans (by repeat (first | exact Below.refl _ _ | refine Below.drew ?_)) (hb1.mono (Nat.le_refl _))
         obtain ⟨a0, a1, a2, _, _, _⟩ := block_cells (HCx.out _ HB1.out).1
         obtain ⟨c0, c1, c2, _, _, _⟩ := block_cells (HCx.out _ HB1.out).2
         clear hb1 hO1 tok1)
      | (go_at_call 93
         refine (what_agg T _ (HVb.out _ (by repeat (first | exact HB1.out | refine Below.drew ?_))) HGT.out.2.1).mono ?_
         rintro e w2 ⟨rfl, hb2, hO2⟩
         have HB2 : Hid (Below wb.heap.size wb w2) := Below.trans (by repeat (first | exact HB1.out | refine Below.drew ?_)) (hb2.mono HB1.out.size)
         obtain ⟨d0, d1, d2, fd0, fd1, fd2⟩ := block_cells (HCx.out _ HB2.out).1
         obtain ⟨e0, e1, e2, fe0, fe1, fe2⟩ := block_cells (HCx.out _ HB2.out).2
         clear hb2 hO2))
    all_goals
      go_wp2_with fail
      go_meet
      case rel => exact box2 (HCx.out _ HB2.out).1 (HCx.out _ HB2.out).2 (HBx.out.trans (HB2.out.mono HBx.out.size)) _ _ _ _ _ _
  case rest =>
    obtain ⟨hA, hC, hB⟩ := hcut
    have HGU : Hid (Good w b m tv N (wha σ S)) := HS.out.good HGS.out
    have HGV : Hid (Good w b m tv N (wha σ T)) := HS.out.good HGT.out
    have HMv : Hid (∀ F k ps, (wha σ S).v ≠ 0 → (wha σ S).v = (wha σ T).v → meetF (F + 1) σ (k + 1) ((S, T) :: ps) = meetF F σ k ps) := fun F k ps h1 h2 => meet_var h1 h2
    have HMl : Hid (∀ F k ps, (wha σ S).v ≠ 0 → (wha σ S).v ≠ (wha σ T).v → meetF (F + 1) σ (k + 1) ((S, T) :: ps) = match within σ (wha σ S).v k [wha σ T] with
        | .over => .over
        | .found k => .no k
        | .free k => meetF F (put σ (wha σ S) (wha σ T)) k ps) := fun F k ps h1 h2 => meet_left h1 h2
    have HMr : Hid (∀ F k ps, (wha σ S).v = 0 → (wha σ T).v ≠ 0 → meetF (F + 1) σ (k + 1) ((S, T) :: ps) = match within σ (wha σ T).v k [wha σ S] with
        | .over => .over
        | .found k => .no k
        | .free k => meetF F (put σ (wha σ T) (wha σ S)) k ps) := fun F k ps h1 h2 => meet_right h1 h2
    have HMo : Hid (∀ F k ps, (wha σ S).v = 0 → (wha σ T).v = 0 → (wha σ S).nm.toList = (wha σ T).nm.toList → (wha σ S).len = (wha σ T).len → meetF (F + 1) σ (k + 1) ((S, T) :: ps) = meetF F σ k (zipK (wha σ S) (wha σ T) ++ ps)) := fun F k ps h1 h2 h3 h4 => meet_on h1 h2 h3 h4
    have HMf : Hid (∀ F k ps, (wha σ S).v = 0 → (wha σ T).v = 0 → ¬ ((wha σ S).nm.toList = (wha σ T).nm.toList ∧ (wha σ S).len = (wha σ T).len) → meetF (F + 1) σ (k + 1) ((S, T) :: ps) = .no k) := fun F k ps h1 h2 h3 => meet_off h1 h2 h3
    have HKU : Hid (∀ K, KidC K → (∀ v U, σ v = some U → K U) → K S → K T → K (wha σ S) ∧ K (wha σ T)) := fun K _ h1 h2 h3 => ⟨kx_wha h1 h2, kx_wha h1 h3⟩
    have HUn : Hid ((wha σ S).v ≠ 0 → σ (wha σ S).v = none) := fun h => wh_root HS.out.dec _ S HGS.out.2.1.top.1 (by omega) h
    have HVn : Hid ((wha σ T).v ≠ 0 → σ (wha σ T).v = none) := fun h => wh_root HS.out.dec _ T HGT.out.2.1.top.1 (by omega) h
    have HA : Hid (wc.heap[w.heap.size]? = some (.cells #[.int .i64 (wha σ S).v, .string (wha σ S).nm, .slice (wha σ S).a (wha σ S).len (wha σ S).cap] 24)) := hA
    have HC : Hid (wc.heap[w.heap.size + 1]? = some (.cells #[.int .i64 (wha σ T).v, .string (wha σ T).nm, .slice (wha σ T).a (wha σ T).len (wha σ T).cap] 24)) := hC
    have HB : Hid (Below w.heap.size w wc) := hB
    clear hA hC hB x0 x1 x2 f0 f1 f2 t0 t1 t2 g0 g1 g2 HCx HVb HX0 HT0 HBx hsb tok1
    generalize wha σ S = U at *
    generalize wha σ T = V at *
    have hulen : U.len ≤ 2 ^ 63 - 1 := HGU.out.1.len
    have hvlen : V.len ≤ 2 ^ 63 - 1 := HGV.out.1.len
    obtain ⟨x0, x1, x2, f0, f1, f2⟩ := block_cells HA.out
    obtain ⟨t0, t1, t2, g0, g1, g2⟩ := block_cells HC.out
    go_wp2_with fail
    refine (look_any wc (HS.out.below HB.out) hL).mono ?_
    rintro e w3 ⟨rfl, hS3, hG3⟩
    have HS3 : Hid (VS w3 b m tv N lo n σ ((L : Int) - 1)) := hS3
    have hcs : w.heap.size + 1 < wc.heap.size := lt_of_cell t0
    have HF3 : Hid (GF b m tv w w3) := (GF.ofBelow HB.out).trans (TN.refl _ _) (GF.ofG hG3)
    have HT3 : Hid (TX lo tv σ w tv σ w3) := (TX.ofBelow HB.out).trans (TX.ofG hG3 (fun g hg => (HS.out.tb g hg).1)) HB.out.size
    have HA3 : Hid (w3.heap[w.heap.size]? = some (.cells #[.int .i64 U.v, .string U.nm, .slice U.a U.len U.cap] 24)) := (hG3.block _ (by omega) (by simp; omega)).trans HA.out
    have HC3 : Hid (w3.heap[w.heap.size + 1]? = some (.cells #[.int .i64 V.v, .string V.nm, .slice V.a V.len V.cap] 24)) := (hG3.block _ (by omega) (by simp; omega)).trans HC.out
    clear hS3 hG3 x0 x1 x2 f0 f1 f2 t0 t1 t2 g0 g1 g2 HA HC HB
    obtain ⟨x0, x1, x2, f0, f1, f2⟩ := block_cells HA3.out
    obtain ⟨t0, t1, t2, g0, g1, g2⟩ := block_cells HC3.out
    by_cases h0 : L = 0
    · subst h0
      rw [show decide (1 ≤ ((0 : Nat) : Int)) = false from rfl]
      replace HS3 : Hid (VS w3 b m tv N lo n σ (-1)) := HS3.out
      go_wp2_with fail
      go_ret
      exact .inr ⟨rfl, -1, σ, tv, n, HS3.out, by omega, HF3.out, ⟨HT3.out, KX.refl _ _ _⟩, .inl ⟨rfl, fun F ps hF => by
        obtain ⟨F', rfl⟩ : ∃ F', F = F' + 1 := ⟨F - 1, by omega⟩
        rfl⟩⟩
    rw [show decide (1 ≤ (L : Int)) = true from decide_eq_true (by omega)]
    obtain ⟨k, rfl⟩ : ∃ k, L = k + 1 := ⟨L - 1, by omega⟩
    replace HS3 : Hid (VS w3 b m tv N lo n σ (k : Int)) := by
      have := HS3.out
      rwa [show ((k + 1 : Nat) : Int) - 1 = (k : Int) from by omega] at this
    have HGU3 : Hid (Good w3 b m tv N U) := HGU.out.gf HF3.out (TN.refl _ _)
    have HGV3 : Hid (Good w3 b m tv N V) := HGV.out.gf HF3.out (TN.refl _ _)
    by_cases hu : U.v = 0
    case neg =>
      have hub : (U.v != 0) = true := bne_iff_ne.2 hu
      by_cases huv : U.v = V.v
      · have huvb : (U.v == V.v) = true := beq_iff_eq.2 huv
        have HR : Hid (∀ F ps, k + 1 < F → ∃ F', k < F' ∧ meetF F σ (k + 1) ((S, T) :: ps) = meetF F' σ k ps) := fun F ps hF => by
          obtain ⟨F', rfl⟩ : ∃ F', F = F' + 1 := ⟨F - 1, by omega⟩
          exact ⟨F', by omega, HMv.out F' k ps hu huv⟩
        clear hu huv
        go_wp2_with fail
        go_ret
        exact .inl ⟨rfl, k, σ, tv, n, by omega, HS3.out, by omega, HF3.out, ⟨HT3.out, KX.refl _ _ _⟩, HR.out⟩
      · have huvb : (U.v == V.v) = false := beq_eq_false_iff_ne.2 huv
        have HR : Hid (∀ F ps, k + 1 < F → ∃ F', k < F' ∧ meetF F σ (k + 1) ((S, T) :: ps) = match within σ U.v k [V] with
          | .over => .over
          | .found k => .no k
          | .free k => meetF F' (put σ U V) k ps) := fun F ps hF => by
          obtain ⟨F', rfl⟩ : ∃ F', F = F' + 1 := ⟨F - 1, by omega⟩
          exact ⟨F', by omega, HMl.out F' k ps hu huv⟩
        have HBi : Hid (Calls Try.prog 95 #[.pointer (some ⟨b, 0, none⟩), .agg #[.int .i64 U.v, .string U.nm, .slice U.a U.len U.cap], .agg #[.int .i64 V.v, .string V.nm, .slice V.a V.len V.cap]] w3 fun e w' =>
      (e = .returned (.bool true) ∧ ∃ (tv' : Value) (q : Nat), within σ U.v k [V] = .free q ∧ q < k ∧ VS w' b m tv' N lo (n + 1) (put σ U V) q ∧ GF b m tv w3 w' ∧ TX lo tv σ w3 tv' (put σ U V) w') ∨
      (e = .returned (.bool false) ∧ ∃ L' : Int, VS w' b m tv N lo n σ L' ∧ (GF b m tv w3 w' ∧ TX lo tv σ w3 tv σ w') ∧ ((L' = -1 ∧ within σ U.v k [V] = .over) ∨ ∃ q : Nat, L' = q ∧ q < k ∧ within σ U.v k [V] = .found q))) := bind_any U V w3 HS3.out (by omega) (by omega) HGU3.out HGV3.out hu huv (HUn.out hu) HVn.out
        clear hu huv
        go_wp2_with fail
        refine HBi.out.mono ?_
        rintro e w5 (⟨rfl, tv', q, hw, hq, hS5, hG5, hT5⟩ | ⟨rfl, L', hS5, ⟨hG5, hT5⟩, (⟨rfl, hw⟩ | ⟨q, rfl, hq, hw⟩)⟩)
        · have HQ : Hid (∀ F ps, k + 1 < F → ∃ F', q < F' ∧ meetF F σ (k + 1) ((S, T) :: ps) = meetF F' (put σ U V) q ps) := fun F ps hF => by
            obtain ⟨F', h1, h2⟩ := HR.out F ps hF
            exact ⟨F', by omega, by rw [h2, hw]⟩
          have HS5 : Hid (VS w5 b m tv' N lo (n + 1) (put σ U V) q) := hS5
          have HF5 : Hid (GF b m tv w w5) := HF3.out.trans (TN.refl _ _) hG5
          have HT5 : Hid (TX lo tv σ w tv' (put σ U V) w5 ∧ KX σ S T (put σ U V)) := ⟨HT3.out.trans hT5 HF3.out.size, fun K hK h1 h2 h3 => kx_put h1 (HKU.out K hK h1 h2 h3).1 (HKU.out K hK h1 h2 h3).2⟩
          clear hw hS5 hG5 hT5
          go_wp2_with fail
          go_ret
          exact .inl ⟨rfl, q, _, tv', n + 1, by omega, HS5.out, by omega, HF5.out, HT5.out, HQ.out⟩
        · have HQ : Hid (∀ F ps, k + 1 < F → meetF F σ (k + 1) ((S, T) :: ps) = .over) := fun F ps hF => by
            obtain ⟨F', h1, h2⟩ := HR.out F ps hF
            rw [h2, hw]
          have HS5 : Hid (VS w5 b m tv N lo n σ (-1)) := hS5
          have HF5 : Hid (GF b m tv w w5) := HF3.out.trans (TN.refl _ _) hG5
          have HT5 : Hid (TX lo tv σ w tv σ w5 ∧ KX σ S T σ) := ⟨HT3.out.trans hT5 HF3.out.size, KX.refl _ _ _⟩
          clear hw hS5 hG5 hT5
          go_wp2_with fail
          go_ret
          exact .inr ⟨rfl, -1, σ, tv, n, HS5.out, by omega, HF5.out, HT5.out, .inl ⟨rfl, HQ.out⟩⟩
        · have HQ : Hid (∀ F ps, k + 1 < F → meetF F σ (k + 1) ((S, T) :: ps) = .no q) := fun F ps hF => by
            obtain ⟨F', h1, h2⟩ := HR.out F ps hF
            rw [h2, hw]
          have HS5 : Hid (VS w5 b m tv N lo n σ (q : Int)) := hS5
          have HF5 : Hid (GF b m tv w w5) := HF3.out.trans (TN.refl _ _) hG5
          have HT5 : Hid (TX lo tv σ w tv σ w5 ∧ KX σ S T σ) := ⟨HT3.out.trans hT5 HF3.out.size, KX.refl _ _ _⟩
          clear hw hS5 hG5 hT5
          go_wp2_with fail
          go_ret
          exact .inr ⟨rfl, q, σ, tv, n, HS5.out, by omega, HF5.out, HT5.out, .inr ⟨q, rfl, by omega, HQ.out⟩⟩
    case pos =>
    have hub : (U.v != 0) = false := by rw [hu]; rfl
    by_cases hv : V.v = 0
    case neg =>
      have hvb : (V.v != 0) = true := bne_iff_ne.2 hv
      have HR : Hid (∀ F ps, k + 1 < F → ∃ F', k < F' ∧ meetF F σ (k + 1) ((S, T) :: ps) = match within σ V.v k [U] with
          | .over => .over
          | .found k => .no k
          | .free k => meetF F' (put σ V U) k ps) := fun F ps hF => by
          obtain ⟨F', rfl⟩ : ∃ F', F = F' + 1 := ⟨F - 1, by omega⟩
          exact ⟨F', by omega, HMr.out F' k ps hu hv⟩
      have HBi : Hid (Calls Try.prog 95 #[.pointer (some ⟨b, 0, none⟩), .agg #[.int .i64 V.v, .string V.nm, .slice V.a V.len V.cap], .agg #[.int .i64 U.v, .string U.nm, .slice U.a U.len U.cap]] w3 fun e w' =>
      (e = .returned (.bool true) ∧ ∃ (tv' : Value) (q : Nat), within σ V.v k [U] = .free q ∧ q < k ∧ VS w' b m tv' N lo (n + 1) (put σ V U) q ∧ GF b m tv w3 w' ∧ TX lo tv σ w3 tv' (put σ V U) w') ∨
      (e = .returned (.bool false) ∧ ∃ L' : Int, VS w' b m tv N lo n σ L' ∧ (GF b m tv w3 w' ∧ TX lo tv σ w3 tv σ w') ∧ ((L' = -1 ∧ within σ V.v k [U] = .over) ∨ ∃ q : Nat, L' = q ∧ q < k ∧ within σ V.v k [U] = .found q))) := bind_any V U w3 HS3.out (by omega) (by omega) HGV3.out HGU3.out hv (by omega) (HVn.out hv) HUn.out
      clear hu hv
      go_wp2_with fail
      refine HBi.out.mono ?_
      rintro e w5 (⟨rfl, tv', q, hw, hq, hS5, hG5, hT5⟩ | ⟨rfl, L', hS5, ⟨hG5, hT5⟩, (⟨rfl, hw⟩ | ⟨q, rfl, hq, hw⟩)⟩)
      · have HQ : Hid (∀ F ps, k + 1 < F → ∃ F', q < F' ∧ meetF F σ (k + 1) ((S, T) :: ps) = meetF F' (put σ V U) q ps) := fun F ps hF => by
          obtain ⟨F', h1, h2⟩ := HR.out F ps hF
          exact ⟨F', by omega, by rw [h2, hw]⟩
        have HS5 : Hid (VS w5 b m tv' N lo (n + 1) (put σ V U) q) := hS5
        have HF5 : Hid (GF b m tv w w5) := HF3.out.trans (TN.refl _ _) hG5
        have HT5 : Hid (TX lo tv σ w tv' (put σ V U) w5 ∧ KX σ S T (put σ V U)) := ⟨HT3.out.trans hT5 HF3.out.size, fun K hK h1 h2 h3 => kx_put h1 (HKU.out K hK h1 h2 h3).2 (HKU.out K hK h1 h2 h3).1⟩
        clear hw hS5 hG5 hT5
        go_wp2_with fail
        go_ret
        exact .inl ⟨rfl, q, _, tv', n + 1, by omega, HS5.out, by omega, HF5.out, HT5.out, HQ.out⟩
      · have HQ : Hid (∀ F ps, k + 1 < F → meetF F σ (k + 1) ((S, T) :: ps) = .over) := fun F ps hF => by
          obtain ⟨F', h1, h2⟩ := HR.out F ps hF
          rw [h2, hw]
        have HS5 : Hid (VS w5 b m tv N lo n σ (-1)) := hS5
        have HF5 : Hid (GF b m tv w w5) := HF3.out.trans (TN.refl _ _) hG5
        have HT5 : Hid (TX lo tv σ w tv σ w5 ∧ KX σ S T σ) := ⟨HT3.out.trans hT5 HF3.out.size, KX.refl _ _ _⟩
        clear hw hS5 hG5 hT5
        go_wp2_with fail
        go_ret
        exact .inr ⟨rfl, -1, σ, tv, n, HS5.out, by omega, HF5.out, HT5.out, .inl ⟨rfl, HQ.out⟩⟩
      · have HQ : Hid (∀ F ps, k + 1 < F → meetF F σ (k + 1) ((S, T) :: ps) = .no q) := fun F ps hF => by
          obtain ⟨F', h1, h2⟩ := HR.out F ps hF
          rw [h2, hw]
        have HS5 : Hid (VS w5 b m tv N lo n σ (q : Int)) := hS5
        have HF5 : Hid (GF b m tv w w5) := HF3.out.trans (TN.refl _ _) hG5
        have HT5 : Hid (TX lo tv σ w tv σ w5 ∧ KX σ S T σ) := ⟨HT3.out.trans hT5 HF3.out.size, KX.refl _ _ _⟩
        clear hw hS5 hG5 hT5
        go_wp2_with fail
        go_ret
        exact .inr ⟨rfl, q, σ, tv, n, HS5.out, by omega, HF5.out, HT5.out, .inr ⟨q, rfl, by omega, HQ.out⟩⟩
    case pos =>
    have hvb : (V.v != 0) = false := by rw [hv]; rfl
    by_cases hsame : U.nm.toList = V.nm.toList ∧ U.len = V.len
    case neg =>
      have HR : Hid (∀ F ps, k + 1 < F → meetF F σ (k + 1) ((S, T) :: ps) = .no k) := fun F ps hF => by
        obtain ⟨F', rfl⟩ : ∃ F', F = F' + 1 := ⟨F - 1, by omega⟩
        exact HMf.out F' k ps hu hv hsame
      by_cases hnm : U.nm.toList = V.nm.toList
      · have hnb : (U.nm.toList == V.nm.toList) = true := beq_iff_eq.2 hnm
        have hnb2 : (U.nm.toList != V.nm.toList) = false := by rw [hnm]; simp
        have hlb : ((U.len : Int) != (V.len : Int)) = true := bne_iff_ne.2 (fun e => hsame ⟨hnm, by omega⟩)
        clear hsame hnm hu hv
        go_wp2_with fail
        go_ret
        exact .inr ⟨rfl, k, σ, tv, n, HS3.out, by omega, HF3.out, ⟨HT3.out, KX.refl _ _ _⟩, .inr ⟨k, rfl, by omega, HR.out⟩⟩
      · have hnb : (U.nm.toList == V.nm.toList) = false := beq_eq_false_iff_ne.2 hnm
        have hnb2 : (U.nm.toList != V.nm.toList) = true := bne_iff_ne.2 hnm
        clear hsame hnm hu hv
        go_wp2_with fail
        go_ret
        exact .inr ⟨rfl, k, σ, tv, n, HS3.out, by omega, HF3.out, ⟨HT3.out, KX.refl _ _ _⟩, .inr ⟨k, rfl, by omega, HR.out⟩⟩
    case pos =>
    obtain ⟨hnm, hlen⟩ := hsame
    have hnb : (U.nm.toList == V.nm.toList) = true := beq_iff_eq.2 hnm
    have hnb2 : (U.nm.toList != V.nm.toList) = false := by rw [hnm]; simp
    have hlb : ((U.len : Int) != (V.len : Int)) = false := by rw [hlen]; simp
    have HR : Hid (∀ F ps, k + 1 < F → ∃ F', k < F' ∧ meetF F σ (k + 1) ((S, T) :: ps) = meetF F' σ k (zipK U V ++ ps)) := fun F ps hF => by
      obtain ⟨F', rfl⟩ : ∃ F', F = F' + 1 := ⟨F - 1, by omega⟩
      exact ⟨F', by omega, HMo.out F' k ps hu hv hnm hlen⟩
    clear hnm hu hv HMv HMl HMr HMo HMf
    go_wp2_with fail
    generalize hua : U.a = ua at *
    generalize hva : V.a = va at *
    go_loopw [63] (fun i wr => ∃ (j kj nj : Nat) (σj : Sg) (tvj : Value), j ≤ U.len ∧ i = .int .i64 j ∧ kj ≤ k ∧ VS wr b m tvj N lo nj σj kj ∧ nj + kj ≤ n + k ∧ GF b m tv w3 wr ∧ (TX lo tv σ w3 tvj σj wr ∧ KX σ S T σj) ∧ ∀ F ps, k + 1 < F → ∃ F', kj < F' ∧ meetF F σ (k + 1) ((S, T) :: ps) = meetF F' σj kj ((zipK U V).drop j ++ ps)) (fun i _ => U.len - (intOf i).toNat)
    case atStart => exact ⟨0, k, n, σ, tv, Nat.zero_le _, rfl, Nat.le_refl _, HS3.out, Nat.le_refl _, GF.refl _ _ _ _, ⟨TX.ofBelow (Below.refl _ _), KX.refl _ _ _⟩, HR.out⟩
    case round =>
      obtain ⟨j, kj, nj, σj, tvj, hj, rfl, hkj, hSr, hnj, hGr, ⟨hTr, hKr⟩, hRr⟩ := hrel
      have HSr : Hid (VS wr b m tvj N lo nj σj kj) := hSr
      have HGr : Hid (GF b m tv w3 wr) := hGr
      have HTr : Hid (TX lo tv σ w3 tvj σj wr) := hTr
      have HKr : Hid (KX σ S T σj) := hKr
      have HRr : Hid (∀ F ps, k + 1 < F → ∃ F', kj < F' ∧ meetF F σ (k + 1) ((S, T) :: ps) = meetF F' σj kj ((zipK U V).drop j ++ ps)) := hRr
      have hw3 : w.heap.size + 1 < w3.heap.size := lt_of_cell (block_cells HC3.out).1
      clear hSr hGr hTr hKr hRr HR
      by_cases hlt : j < U.len
      case neg =>
        have hje : j = U.len := by omega
        have HQ : Hid (∀ F ps, k + 1 < F → ∃ F', kj < F' ∧ meetF F σ (k + 1) ((S, T) :: ps) = meetF F' σj kj ps) := fun F ps hF => by
          obtain ⟨F', h1, h2⟩ := HRr.out F ps hF
          exact ⟨F', h1, by rw [h2, hje, zipK_end]; rfl⟩
        clear hje
        go_wp2_with fail
        go_ret
        exact .inl ⟨rfl, kj, σj, tvj, nj, by omega, HSr.out, by omega, HF3.out.trans (TN.refl _ _) HGr.out, ⟨HT3.out.trans HTr.out HF3.out.size, HKr.out⟩, HQ.out⟩
      have hGUr : Good wr b m tvj N U := HGU3.out.gf HGr.out HTr.out.1
      have hGVr : Good wr b m tvj N V := HGV3.out.gf HGr.out HTr.out.1
      have HGUj : Hid (Good wr b m tvj N (U.f j)) := hGUr.kid hlt
      have HGVj : Hid (Good wr b m tvj N (V.f j)) := hGVr.kid (by omega)
      have HNb : Hid ((∃ bb o, ua = some ⟨bb, o, none⟩ ∧ bb ≠ b ∧ bb ≠ m ∧ ∀ g, tvj.ownBlock = some g → g ≠ bb) ∧ (∃ bb o, va = some ⟨bb, o, none⟩ ∧ bb ≠ b ∧ bb ≠ m ∧ ∀ g, tvj.ownBlock = some g → g ≠ bb)) := by
        refine ⟨?_, ?_⟩
        · obtain ⟨b1, o1, e1, n1⟩ := hGUr.2.2.1.root (by omega)
          obtain ⟨b2, o2, e2, n2⟩ := hGUr.2.2.2.1.root (by omega)
          rw [hua] at e1 e2
          refine ⟨b1, o1, e1, n1, ?_, fun g hg => ?_⟩
          · rw [e1] at e2; cases e2; exact n2
          · obtain ⟨b3, o3, e3, n3⟩ := (hGUr.2.2.2.2 g hg).root (by omega)
            rw [hua, e1] at e3; cases e3; exact fun e => n3 e.symm
        · obtain ⟨b1, o1, e1, n1⟩ := hGVr.2.2.1.root (by omega)
          obtain ⟨b2, o2, e2, n2⟩ := hGVr.2.2.2.1.root (by omega)
          rw [hva] at e1 e2
          refine ⟨b1, o1, e1, n1, ?_, fun g hg => ?_⟩
          · rw [e1] at e2; cases e2; exact n2
          · obtain ⟨b3, o3, e3, n3⟩ := (hGVr.2.2.2.2 g hg).root (by omega)
            rw [hva, e1] at e3; cases e3; exact fun e => n3 e.symm
      have hru : RowAt wr ua j (U.f j) := hua ▸ hGUr.1.row hlt
      have hrv : RowAt wr va j (V.f j) := hva ▸ hGVr.1.row (by omega)
      have htl := HS.out.trail_lt
      have X2 : wr.cell? ⟨w.heap.size, 2, none⟩ = some (.slice ua U.len U.cap) := HGr.out.cell x2 (by simp; omega) (by simp; omega) (fun g hg => by have := htl g hg; simp; omega)
      have T2 : wr.cell? ⟨w.heap.size + 1, 2, none⟩ = some (.slice va V.len V.cap) := HGr.out.cell t2 (by simp; omega) (by simp; omega) (fun g hg => by have := htl g hg; simp; omega)
      have HTl : Hid (∀ g, tvj.ownBlock = some g → g ≠ w.heap.size ∧ g ≠ w.heap.size + 1) := fun g hg => by
        rcases HTr.out.1 g hg with h | h
        · have := htl g h; omega
        · omega
      have HRj : Hid (∀ F ps, k + 1 < F → ∃ F', kj < F' ∧ meetF F σ (k + 1) ((S, T) :: ps) = meetF F' σj kj ((U.f j, V.f j) :: ((zipK U V).drop (j + 1) ++ ps))) := fun F ps hF => by
        obtain ⟨F', h1, h2⟩ := HRr.out F ps hF
        exact ⟨F', h1, by rw [h2, zipK_drop hlt]; rfl⟩
      obtain ⟨bu, ou, hue, c0, c1, c2⟩ := hru
      obtain ⟨bv, ov, hve, d0, d1, d2⟩ := hrv
      clear hGUr hGVr htl HRr
      subst hue hve
      have hltV : j < V.len := by omega
      have hltI : (j : Int) < (U.len : Int) := by omega
      have hltJ : (j : Int) < (V.len : Int) := by omega
      have HKg : Hid (∀ W, GF b m tvj wr W → W.cell? ⟨w.heap.size, 2, none⟩ = some (.slice (some ⟨bu, ou, none⟩) U.len U.cap) ∧ W.cell? ⟨w.heap.size + 1, 2, none⟩ = some (.slice (some ⟨bv, ov, none⟩) V.len V.cap) ∧ W.cell? ⟨bu, ou + j * 3, none⟩ = some (.int .i64 (U.f j).v) ∧ W.cell? ⟨bu, ou + j * 3 + 1, none⟩ = some (.string (U.f j).nm) ∧ W.cell? ⟨bu, ou + j * 3 + 2, none⟩ = some (.slice (U.f j).a (U.f j).len (U.f j).cap) ∧ W.cell? ⟨bv, ov + j * 3, none⟩ = some (.int .i64 (V.f j).v) ∧ W.cell? ⟨bv, ov + j * 3 + 1, none⟩ = some (.string (V.f j).nm) ∧ W.cell? ⟨bv, ov + j * 3 + 2, none⟩ = some (.slice (V.f j).a (V.f j).len (V.f j).cap)) := fun W hW => by
        obtain ⟨⟨bb, o, e1, n1, n2, n3⟩, ⟨bb', o', e1', n1', n2', n3'⟩⟩ := HNb.out
        cases e1
        cases e1'
        exact ⟨hW.cell X2 (by simp; omega) (by simp; omega) (fun g hg => (HTl.out g hg).1), hW.cell T2 (by simp; omega) (by simp; omega) (fun g hg => (HTl.out g hg).2), hW.cell c0 n1 n2 n3, hW.cell c1 n1 n2 n3, hW.cell c2 n1 n2 n3, hW.cell d0 n1' n2' n3', hW.cell d1 n1' n2' n3', hW.cell d2 n1' n2' n3'⟩
      have HKp : Hid (∀ W, Below wr.heap.size wr W → W.cell? ⟨w.heap.size, 2, none⟩ = some (.slice (some ⟨bu, ou, none⟩) U.len U.cap) ∧ W.cell? ⟨w.heap.size + 1, 2, none⟩ = some (.slice (some ⟨bv, ov, none⟩) V.len V.cap) ∧ W.cell? ⟨bu, ou + j * 3, none⟩ = some (.int .i64 (U.f j).v) ∧ W.cell? ⟨bu, ou + j * 3 + 1, none⟩ = some (.string (U.f j).nm) ∧ W.cell? ⟨bu, ou + j * 3 + 2, none⟩ = some (.slice (U.f j).a (U.f j).len (U.f j).cap) ∧ W.cell? ⟨bv, ov + j * 3, none⟩ = some (.int .i64 (V.f j).v) ∧ W.cell? ⟨bv, ov + j * 3 + 1, none⟩ = some (.string (V.f j).nm) ∧ W.cell? ⟨bv, ov + j * 3 + 2, none⟩ = some (.slice (V.f j).a (V.f j).len (V.f j).cap)) := fun W hW => HKg.out W (GF.ofBelow hW)
      have HCj : Hid (∀ W, Below wr.heap.size wr W → Calls Try.prog 61 #[.pointer (some ⟨b, 0, none⟩), .agg #[.int .i64 (U.f j).v, .string (U.f j).nm, .slice (U.f j).a (U.f j).len (U.f j).cap], .agg #[.int .i64 (V.f j).v, .string (V.f j).nm, .slice (V.f j).a (V.f j).len (V.f j).cap]] W fun e w5 => ∃ ok : Bool, e = .returned (.bool ok) ∧ SP wr b m tvj N lo nj σj kj (U.f j) (V.f j) (.returned (.bool ok)) w5) := fun W hW =>
        (HAll.out kj (by omega) b m tvj N lo nj σj (U.f j) (V.f j) W (HSr.out.below hW) (by omega) (by omega) (HGUj.out.below hW) (HGVj.out.below hW)).mono fun e w5 h5 => by
          obtain ⟨ok, rfl⟩ := h5.ok
          exact ⟨ok, rfl, h5.rebase hW⟩
      clear x0 x1 x2 f0 f1 f2 t0 t1 t2 g0 g1 g2
      go_wp2_with fail
      go_region_held3 (fun w' => w'.cell? ⟨w.heap.size, 2, none⟩ = some (.slice (some ⟨bu, ou, none⟩) U.len U.cap) ∧ w'.cell? ⟨w.heap.size + 1, 2, none⟩ = some (.slice (some ⟨bv, ov, none⟩) V.len V.cap) ∧ w'.cell? ⟨bu, ou + j * 3, none⟩ = some (.int .i64 (U.f j).v) ∧ w'.cell? ⟨bu, ou + j * 3 + 1, none⟩ = some (.string (U.f j).nm) ∧ w'.cell? ⟨bu, ou + j * 3 + 2, none⟩ = some (.slice (U.f j).a (U.f j).len (U.f j).cap) ∧ w'.cell? ⟨bv, ov + j * 3, none⟩ = some (.int .i64 (V.f j).v) ∧ w'.cell? ⟨bv, ov + j * 3 + 1, none⟩ = some (.string (V.f j).nm) ∧ w'.cell? ⟨bv, ov + j * 3 + 2, none⟩ = some (.slice (V.f j).a (V.f j).len (V.f j).cap)) (first | exact HK5.out | ((refine HKp.out _ ?_; repeat (first | exact Below.refl _ _ | refine Below.drew ?_)))) (first
        | (go_at_call 61
           refine (HCj.out _ (by repeat (first | exact Below.refl _ _ | refine Below.drew ?_))).mono ?_
           rintro e w5 ⟨ok, rfl, h5⟩
           have HK5 : Hid (w5.cell? ⟨w.heap.size, 2, none⟩ = some (.slice (some ⟨bu, ou, none⟩) U.len U.cap) ∧ w5.cell? ⟨w.heap.size + 1, 2, none⟩ = some (.slice (some ⟨bv, ov, none⟩) V.len V.cap) ∧ w5.cell? ⟨bu, ou + j * 3, none⟩ = some (.int .i64 (U.f j).v) ∧ w5.cell? ⟨bu, ou + j * 3 + 1, none⟩ = some (.string (U.f j).nm) ∧ w5.cell? ⟨bu, ou + j * 3 + 2, none⟩ = some (.slice (U.f j).a (U.f j).len (U.f j).cap) ∧ w5.cell? ⟨bv, ov + j * 3, none⟩ = some (.int .i64 (V.f j).v) ∧ w5.cell? ⟨bv, ov + j * 3 + 1, none⟩ = some (.string (V.f j).nm) ∧ w5.cell? ⟨bv, ov + j * 3 + 2, none⟩ = some (.slice (V.f j).a (V.f j).len (V.f j).cap)) := HKg.out _ h5.gf
           have H5 : Hid (SP wr b m tvj N lo nj σj kj (U.f j) (V.f j) (.returned (.bool ok)) w5) := h5
           clear h5))
      rcases H5.out with ⟨he, q, σq, tvq, nq, hq, hSq, hnq, hGq, ⟨hTq, hKq⟩, hRq⟩ | ⟨he, L', σq, tvq, nq, hSq, hnq, hGq, ⟨hTq, hKq⟩, hRq⟩
      · obtain rfl : ok = true := by simpa using he
        have HSq : Hid (VS w5 b m tvq N lo nq σq q) := hSq
        have HGq : Hid (GF b m tv w3 w5) := HGr.out.trans HTr.out.1 hGq
        have HTq : Hid (TX lo tv σ w3 tvq σq w5 ∧ KX σ S T σq) := ⟨HTr.out.trans hTq HGr.out.size, fun K hK h1 h2 h3 => hKq K hK (HKr.out K hK h1 h2 h3) (hK _ (HKU.out K hK h1 h2 h3).1 j hlt) (hK _ (HKU.out K hK h1 h2 h3).2 j hltV)⟩
        have HQ : Hid (∀ F ps, k + 1 < F → ∃ F', q < F' ∧ meetF F σ (k + 1) ((S, T) :: ps) = meetF F' σq q ((zipK U V).drop (j + 1) ++ ps)) := fun F ps hF => by
          obtain ⟨F', h1, h2⟩ := HRj.out F ps hF
          obtain ⟨F2, h3, h4⟩ := hRq F' ((zipK U V).drop (j + 1) ++ ps) h1
          exact ⟨F2, h3, by rw [h2, h4]⟩
        clear H5 HK5 hSq hGq hTq hKq hRq he
        go_wp2_with fail
        go_roundw
        case rel => exact ⟨j + 1, q, nq, σq, tvq, by omega, by go_num, by omega, HSq.out, by omega, HGq.out, HTq.out, HQ.out⟩
        case measure => simp [intOf]; omega
      · obtain rfl : ok = false := by simpa using he
        have HSq : Hid (VS w5 b m tvq N lo nq σq L') := hSq
        have HGq : Hid (GF b m tv w w5) := HF3.out.trans (TN.refl _ _) (HGr.out.trans HTr.out.1 hGq)
        have HTq : Hid (TX lo tv σ w tvq σq w5 ∧ KX σ S T σq) := ⟨HT3.out.trans (HTr.out.trans hTq HGr.out.size) HF3.out.size, fun K hK h1 h2 h3 => hKq K hK (HKr.out K hK h1 h2 h3) (hK _ (HKU.out K hK h1 h2 h3).1 j hlt) (hK _ (HKU.out K hK h1 h2 h3).2 j hltV)⟩
        have HQ : Hid ((L' = -1 ∧ ∀ F ps, k + 1 < F → meetF F σ (k + 1) ((S, T) :: ps) = .over) ∨ ∃ q : Nat, L' = q ∧ q < k + 1 ∧ ∀ F ps, k + 1 < F → meetF F σ (k + 1) ((S, T) :: ps) = .no q) := by
          rcases hRq with ⟨h1, h2⟩ | ⟨q, h1, h2, h3⟩
          · refine .inl ⟨h1, fun F ps hF => ?_⟩
            obtain ⟨F', g1, g2⟩ := HRj.out F ps hF
            rw [g2, h2 F' _ g1]
          · refine .inr ⟨q, h1, by omega, fun F ps hF => ?_⟩
            obtain ⟨F', g1, g2⟩ := HRj.out F ps hF
            rw [g2, h3 F' _ g1]
        clear H5 HK5 hSq hGq hTq hKq hRq he
        go_wp2_with fail
        go_ret
        exact .inr ⟨rfl, L', σq, tvq, nq, HSq.out, by omega, HGq.out, HTq.out, HQ.out⟩
theorem same_all : ∀ L, SC L := by
  intro L
  induction L using Nat.strongRecOn with
  | _ L ih => exact same_step L ih
end Go.Proofs.Ytmggaclaoefdaaa
