/- Does a variable stand in a term, and by how much work: lacks. New, Over, Work, Room. -/
import Derived.Test.YtmggaclaoefdaaaGAG
namespace Go.Proofs.Ytmggaclaoefdaaa
open Go.RowKit

theorem NB.kid {k : Nat} {T : Tm} (h : NB k T) {i : Nat} (hi : i < T.len) : NB k (T.f i) := by
  cases T with
  | nil => exact absurd hi (Nat.not_lt_zero i)
  | mk => exact h.2 i hi
theorem NB.root {k : Nat} {T : Tm} (h : NB k T) (h0 : 0 < T.len) : ∃ b o, T.a = some ⟨b, o, none⟩ ∧ b ≠ k := by
  cases T with
  | nil => exact absurd h0 (Nat.not_lt_zero 0)
  | mk => exact h.1 h0
theorem RowAt.grown {w w' : World} {row : Option Nat} {a : Option Addr} {i : Nat} {T : Tm} (h : RowAt w a i T) (hg : w.grownBy w' row) (hn : ∀ k, row = some k → ∃ b o, a = some ⟨b, o, none⟩ ∧ b ≠ k) : RowAt w' a i T := by
  obtain ⟨b, o, rfl, h0, h1, h2⟩ := h
  have hne : some b ≠ row := fun e => by
    obtain ⟨b', o', e1, e2⟩ := hn b e.symm
    exact e2 (by cases e1; rfl)
  exact ⟨b, o, rfl, hg.cell h0 hne, hg.cell h1 hne, hg.cell h2 hne⟩
/-- The arguments of a term. -/
def kidsL (T : Tm) : List Tm := (List.range T.len).map T.f
theorem kidsL_nil {T : Tm} (h : T.len = 0) : kidsL T = [] := by rw [kidsL, h]; rfl
theorem kidsL_drop {T : Tm} {k : Nat} (h : k < T.len) : (kidsL T).drop k = T.f k :: (kidsL T).drop (k + 1) := by
  have hl : k < (kidsL T).length := by simp [kidsL, h]
  rw [List.drop_eq_getElem_cons hl]
  congr 1
  simp [kidsL]
theorem kidsL_end {T : Tm} : (kidsL T).drop T.len = [] := by
  rw [List.drop_eq_nil_iff]; simp [kidsL]
inductive WO where
  | over
  | found (L : Nat)
  | free (L : Nat)
/-- Is one of the terms, or a part of one, the variable x? So much may still be looked at. -/
def within (σ : Sg) (x : Int) : Nat → List Tm → WO
  | L, [] => .free L
  | 0, _ :: _ => .over
  | L + 1, t :: ts => if (wha σ t).v = x then .found L else within σ x L (kidsL (wha σ t) ++ ts)
theorem within_nil (σ : Sg) (x : Int) (L : Nat) : within σ x L [] = .free L := by cases L <;> rfl
theorem within_succ (σ : Sg) (x : Int) (L : Nat) (t : Tm) (ts : List Tm) : within σ x (L + 1) (t :: ts) = if (wha σ t).v = x then .found L else within σ x L (kidsL (wha σ t) ++ ts) := rfl
/-- What lacks says of the term. -/
def LP (σ : Sg) (x : Int) (L : Nat) (T : Tm) (ok : Bool) (L' : Int) : Prop :=
  (ok = true ∧ ∃ k : Nat, L' = k ∧ k < L ∧ ∀ ts, within σ x L (T :: ts) = within σ x k ts) ∨ (ok = false ∧ L' = -1 ∧ ∀ ts, within σ x L (T :: ts) = .over) ∨ (ok = false ∧ ∃ k : Nat, L' = k ∧ k < L ∧ ∀ ts, within σ x L (T :: ts) = .found k)
def LK (L : Nat) : Prop := ∀ (b m : Nat) (tv : Value) (N : Int) (lo n : Nat) (σ : Sg) (T : Tm) (w : World) (x : Int), VS w b m tv N lo n σ L → L ≤ 4000 → Okv N T → TIn w T → NB b T → NB m T → (∀ g, tv.ownBlock = some g → NB g T) →
    Calls Try.prog 119 #[.pointer (some ⟨b, 0, none⟩), T.val, .int .i64 x] w fun e w' => ∃ (ok : Bool) (L' : Int), e = .returned (.bool ok) ∧ VS w' b m tv N lo n σ L' ∧ G b w w' ∧ LP σ x L T ok L'

set_option maxRecDepth 100000 in
set_option maxHeartbeats 4000000 in
theorem lacks_step (L : Nat) (hall : ∀ k, k < L → LK k) : LK L := by
  intro b m tv N lo n σ T w x hS hL hO hT hb hm ht
  have HAll : Hid (∀ k, k < L → LK k) := hall
  have HS : Hid (VS w b m tv N lo n σ L) := hS
  have HO : Hid (Okv N T) := hO
  have hbl := hS.lt
  obtain ⟨hT', hb', hm', ht'⟩ := hS.what hT hb hm ht
  have HU : Hid (TIn w (wha σ T) ∧ NB b (wha σ T) ∧ NB m (wha σ T) ∧ ∀ g, tv.ownBlock = some g → NB g (wha σ T)) := ⟨hT', hb', hm', ht'⟩
  have hlen : (wha σ T).len ≤ 2 ^ 63 - 1 := hT'.len
  clear hall hS hO hT hb hm ht hT' hb' hm' ht'
  show Calls Try.prog 119 #[.pointer (some ⟨b, 0, none⟩), .agg #[.int .i64 T.v, .string T.nm, .slice T.a T.len T.cap], .int .i64 x] w _
  go_enter Try.func119, Try.ntmps119
  go_wp2_with fail
  have HBx : Hid (Below w.heap.size w (w.alloc (.cells #[.int .i64 T.v, .string T.nm, .slice T.a T.len T.cap] 24))) := (Below.refl _ _).alloc (Nat.le_refl _) _
  have HXx : Hid ((w.alloc (.cells #[.int .i64 T.v, .string T.nm, .slice T.a T.len T.cap] 24)).heap[w.heap.size]? = some (.cells #[.int .i64 T.v, .string T.nm, .slice T.a T.len T.cap] 24)) := heap_alloc_new w _
  generalize w.alloc (.cells #[.int .i64 T.v, .string T.nm, .slice T.a T.len T.cap] 24) = wa at *
  refine (what_any T wa (HS.out.below HBx.out) HO.out).mono ?_
  rintro e w1 ⟨rfl, hb1, hO1⟩
  have HOu : Hid (Okv N (wha σ T)) := hO1
  have HB1 : Hid (Below w.heap.size w w1) := HBx.out.trans (hb1.mono HBx.out.size)
  have hla : w.heap.size < wa.heap.size := (Array.getElem?_eq_some_iff.1 HXx.out).1
  have HX1 : Hid (w1.heap[w.heap.size]? = some (.cells #[.int .i64 T.v, .string T.nm, .slice T.a T.len T.cap] 24)) := (hb1.block _ hla).trans HXx.out
  clear hb1 hO1
  have HWith : Hid (∀ ts, within σ x L (T :: ts) = match L with | 0 => .over | k + 1 => if (wha σ T).v = x then .found k else within σ x k (kidsL (wha σ T) ++ ts)) := fun ts => by cases L <;> rfl
  generalize wha σ T = U at *
  rw [show U.val = .agg #[.int .i64 U.v, .string U.nm, .slice U.a U.len U.cap] from rfl]
  obtain ⟨x0, x1, x2, f0, f1, f2⟩ := block_cells HX1.out
  go_wp2_with fail
  obtain ⟨w2, hW, y0, y1, y2, hB2, hgr2⟩ := fin3n (r := w.heap.size) (Nat.le_refl _) HX1.out HB1.out (.int .i64 U.v) (.string U.nm) (.slice U.a U.len U.cap)
  have hX2 := set3 (a := .int .i64 U.v) (b := .string U.nm) (c := .slice U.a U.len U.cap) HX1.out
  rw [hW] at hX2 ⊢
  have HX2 : Hid (w2.heap[w.heap.size]? = some (.cells #[.int .i64 U.v, .string U.nm, .slice U.a U.len U.cap] 24)) := hX2
  have HB2 : Hid (Below w.heap.size w w2) := hB2
  clear hW hX2 hB2 hgr2 x0 x1 x2 f0 f1 f2 y0 y1 y2
  refine (look_any w2 (HS.out.below HB2.out) hL).mono ?_
  rintro e w3 ⟨rfl, hS3, hG3⟩
  have HS3 : Hid (VS w3 b m tv N lo n σ ((L : Int) - 1)) := hS3
  have HG3 : Hid (G b w w3) := (G.below HB2.out).trans hG3
  have hl2 : w.heap.size < w2.heap.size := (Array.getElem?_eq_some_iff.1 HX2.out).1
  have HX3 : Hid (w3.heap[w.heap.size]? = some (.cells #[.int .i64 U.v, .string U.nm, .slice U.a U.len U.cap] 24)) := (hG3.block _ hl2 (by simp; omega)).trans HX2.out
  clear hS3 hG3
  obtain ⟨y0, y1, y2, f0, f1, f2⟩ := block_cells HX3.out
  by_cases h0 : L = 0
  · subst h0
    have hd : decide (1 ≤ ((0 : Nat) : Int)) = false := rfl
    have HF : Hid (∀ ts, within σ x 0 (T :: ts) = .over) := fun ts => HWith.out ts
    rw [hd]
    replace HS3 : Hid (VS w3 b m tv N lo n σ (-1)) := HS3.out
    go_wp2_with fail
    go_ret
    exact ⟨false, -1, rfl, HS3.out, HG3.out, .inr (.inl ⟨rfl, rfl, HF.out⟩)⟩
  have hd : decide (1 ≤ (L : Int)) = true := decide_eq_true (by omega)
  obtain ⟨k, rfl⟩ : ∃ k, L = k + 1 := ⟨L - 1, by omega⟩
  rw [hd]
  have HS4 : Hid (VS w3 b m tv N lo n σ (k : Int)) := by
    have := HS3.out
    rwa [show ((k + 1 : Nat) : Int) - 1 = (k : Int) from by omega] at this
  clear HS3
  by_cases hx : U.v = x
  · have HF : Hid (∀ ts, within σ x (k + 1) (T :: ts) = .found k) := fun ts => by rw [HWith.out ts]; simp only; rw [if_pos hx]
    have hxb : (U.v == x) = true := beq_iff_eq.2 hx
    clear hx
    go_wp2_with fail
    go_ret
    exact ⟨false, k, rfl, HS4.out, HG3.out, .inr (.inr ⟨rfl, k, rfl, by omega, HF.out⟩)⟩
  have HF : Hid (∀ ts, within σ x (k + 1) (T :: ts) = within σ x k (kidsL U ++ ts)) := fun ts => by rw [HWith.out ts]; simp only; rw [if_neg hx]
  have hxb : (U.v == x) = false := beq_eq_false_iff_ne.2 hx
  clear hx HWith
  go_wp2_with fail
  have HLe : Hid (∀ i, i < U.len → RowAt w U.a i (U.f i) ∧ TIn w (U.f i)) := fun i hi => ⟨HU.out.1.row hi, HU.out.1.kid hi⟩
  have HNk : Hid (∀ i, i < U.len → NB b (U.f i) ∧ NB m (U.f i) ∧ (∀ g, tv.ownBlock = some g → NB g (U.f i)) ∧ Okv N (U.f i)) := fun i hi => ⟨HU.out.2.1.kid hi, HU.out.2.2.1.kid hi, fun g hg => (HU.out.2.2.2 g hg).kid hi, HOu.out.kid hi⟩
  generalize hua : U.a = ua at *
  go_loopw [24] (fun i wr => ∃ j : Nat, j ≤ U.len ∧ i = .int .i64 j ∧ ∃ Lj : Nat, Lj ≤ k ∧ VS wr b m tv N lo n σ Lj ∧ G b w wr ∧ ∀ ts, within σ x (k + 1) (T :: ts) = within σ x Lj ((kidsL U).drop j ++ ts)) (fun i _ => U.len - (intOf i).toNat)
  case atStart => exact ⟨0, Nat.zero_le _, rfl, k, Nat.le_refl _, HS4.out, HG3.out, HF.out⟩
  case round =>
    clear HS4 HG3 HF HX3 y0 y1 y2 f0 f1 f2 HX2 HB2
    obtain ⟨j, hj, rfl, Lj, hLj, hSr, hGr, hFr⟩ := hrel
    have HSr : Hid (VS wr b m tv N lo n σ Lj) := hSr
    have HGr : Hid (G b w wr) := hGr
    have HFr : Hid (∀ ts, within σ x (k + 1) (T :: ts) = within σ x Lj ((kidsL U).drop j ++ ts)) := hFr
    clear hSr hGr hFr
    by_cases hlt : j < U.len
    · obtain ⟨hr, hTj⟩ := HLe.out j hlt
      have hTjr : TIn wr (U.f j) := hTj.grown HGr.out (fun q hq => by obtain rfl := Option.some.inj hq; exact (HNk.out j hlt).1)
      have HTj : Hid (TIn wr (U.f j)) := hTjr
      have hr2 : RowAt wr ua j (U.f j) := hr.grown HGr.out (fun q hq => by
        obtain rfl := Option.some.inj hq
        rw [← hua]
        exact HU.out.2.1.root (by omega))
      have HFj : Hid (∀ ts, within σ x (k + 1) (T :: ts) = within σ x Lj (U.f j :: ((kidsL U).drop (j + 1) ++ ts))) := fun ts => by rw [HFr.out ts, kidsL_drop hlt]; rfl
      have HC : Hid (∀ W, Below wr.heap.size wr W → Calls Try.prog 119 #[.pointer (some ⟨b, 0, none⟩), .agg #[.int .i64 (U.f j).v, .string (U.f j).nm, .slice (U.f j).a (U.f j).len (U.f j).cap], .int .i64 x] W fun e w' => ∃ (ok : Bool) (L' : Int), e = .returned (.bool ok) ∧ VS w' b m tv N lo n σ L' ∧ G b W w' ∧ LP σ x Lj (U.f j) ok L') := fun W hW =>
        HAll.out Lj (by omega) b m tv N lo n σ (U.f j) W x (HSr.out.below hW) (by omega) (HNk.out j hlt).2.2.2 (hTjr.below hW) (HNk.out j hlt).1 (HNk.out j hlt).2.1 (HNk.out j hlt).2.2.1
      obtain ⟨bb, o, ha, c0, c1, c2⟩ := hr2
      clear hr hTj hTjr
      subst ha
      go_wp2_with fail
      refine (HC.out _ ((Below.refl _ _).alloc (Nat.le_refl _) _)).mono ?_
      rintro e w5 ⟨ok, L', rfl, hS5, hG5, hP5⟩
      have HG5 : Hid (G b w w5) := HGr.out.trans ((G.below ((Below.refl _ _).alloc (Nat.le_refl _) _)).trans hG5)
      have HS5 : Hid (VS w5 b m tv N lo n σ L') := hS5
      clear hS5 hG5
      rcases hP5 with ⟨rfl, q, rfl, hq, hw⟩ | ⟨rfl, rfl, hw⟩ | ⟨rfl, q, rfl, hq, hw⟩
      · have HF5 : Hid (∀ ts, within σ x (k + 1) (T :: ts) = within σ x q ((kidsL U).drop (j + 1) ++ ts)) := fun ts => by rw [HFj.out ts, hw]
        clear hw
        go_wp2_with fail
        go_roundw
        case rel => exact ⟨j + 1, by omega, by go_num, q, by omega, HS5.out, HG5.out, HF5.out⟩
        case measure => simp [intOf]; omega
      · have HF5 : Hid (∀ ts, within σ x (k + 1) (T :: ts) = .over) := fun ts => by rw [HFj.out ts, hw]
        clear hw
        go_wp2_with fail
        go_ret
        exact ⟨false, -1, rfl, HS5.out, HG5.out, .inr (.inl ⟨rfl, rfl, HF5.out⟩)⟩
      · have HF5 : Hid (∀ ts, within σ x (k + 1) (T :: ts) = .found q) := fun ts => by rw [HFj.out ts, hw]
        clear hw
        go_wp2_with fail
        go_ret
        exact ⟨false, q, rfl, HS5.out, HG5.out, .inr (.inr ⟨rfl, q, rfl, by omega, HF5.out⟩)⟩
    · have hje : j = U.len := by omega
      have HF5 : Hid (∀ ts, within σ x (k + 1) (T :: ts) = within σ x Lj ts) := fun ts => by rw [HFr.out ts, hje, kidsL_end]; rfl
      clear hje
      go_wp2_with fail
      go_ret
      exact ⟨true, Lj, rfl, HSr.out, HGr.out, .inl ⟨rfl, Lj, rfl, by omega, HF5.out⟩⟩
theorem lacks_all : ∀ L, LK L := by
  intro L
  induction L using Nat.strongRecOn with
  | _ L ih => exact lacks_step L ih
end Go.Proofs.Ytmggaclaoefdaaa

namespace Go.Proofs.Ytmggaclaoefdaaa
open Go.RowKit

set_option maxRecDepth 100000 in
set_option maxHeartbeats 1000000 in
theorem new_any (w : World) (N : Int) (hN : N ≤ 1000000) :
    Calls Try.prog 60 #[] w fun e w' => ∃ b m, e = .returned (.pointer (some ⟨b, 0, none⟩)) ∧ VS w' b m (.slice none 0 0) N w.heap.size 0 (fun _ => none) (4000 : Nat) ∧ Below w.heap.size w w' := by
  have hmm := @run_makeMap Try.prog
  go_enter Try.func60, Try.ntmps60
  go_wp2_with fail
  go_ret
  refine ⟨w.heap.size + 1, w.heap.size, by simp, ⟨?_, ?_, ⟨[], World.ownsRow_nil _ _ _ _, Nat.zero_le _⟩, by omega, fun g hg => by simp [Value.ownBlock] at hg, by omega, fun v T h => by simp at h, fun v T h => by simp at h, hN⟩, ((Below.refl _ _).alloc (Nat.le_refl _) _).alloc (by simp) _⟩
  · have := heap_alloc_new (w.alloc (.map #[] 0)) (.cells #[.map (some w.heap.size), .slice none 0 0, .int .i64 4000] 142)
    rwa [show (w.alloc (.map #[] 0)).heap.size = w.heap.size + 1 from by simp] at this
  · have h1 : MapIs (w.alloc (.map #[] 0)) w.heap.size 0 (fun _ => none) := ⟨.map [], World.ownsMap_made w _ _ _, Maps.isMap_empty, fun i _ _ => ⟨rfl, fun T h => by simp at h⟩⟩
    exact h1.kept (World.grownBy_alloc _ _ none) (by simp)

set_option maxRecDepth 100000 in
theorem over_any {b m : Nat} {tv : Value} {N : Int} {lo n : Nat} {σ : Sg} {L : Int} (w : World) (hS : VS w b m tv N lo n σ L) :
    Calls Try.prog 62 #[.pointer (some ⟨b, 0, none⟩)] w fun e w' => e = .returned (.bool (decide (L < 0))) ∧ w' = w := by
  obtain ⟨v0, v1, v2, k0, k1, k2⟩ := block_cells hS.blk
  clear hS
  go_enter Try.func62, Try.ntmps62
  go_wp2_with fail
  go_ret
  exact ⟨rfl, rfl⟩

set_option maxRecDepth 100000 in
theorem work_any {b m : Nat} {tv : Value} {N : Int} {lo n : Nat} {σ : Sg} {L : Nat} (w : World) (hS : VS w b m tv N lo n σ L) (hL : L ≤ 4000) :
    Calls Try.prog 63 #[.pointer (some ⟨b, 0, none⟩)] w fun e w' => e = .returned (.int .i64 (4000 - L : Int)) ∧ w' = w := by
  obtain ⟨v0, v1, v2, k0, k1, k2⟩ := block_cells hS.blk
  clear hS
  go_enter Try.func63, Try.ntmps63
  go_wp2_with fail
  go_ret
  exact ⟨rfl, rfl⟩

/-- How much room is left behind all parts of terms; none: there are more. -/
def roomF (σ : Sg) : Nat → List Tm → Option Nat
  | n, [] => some n
  | 0, _ :: _ => none
  | n + 1, t :: ts => roomF σ n (kidsL (wha σ t) ++ ts)
theorem roomF_nil (σ : Sg) (n : Nat) : roomF σ n [] = some n := by cases n <;> rfl
theorem field2 (x y z : Value) (w : World) : (Instr.field 24 (.agg #[x, y, z]) 2).run Try.prog w = .ok z w := by kernel_rfl
def RMP (σ : Sg) (n : Nat) (T : Tm) (r : Int) : Prop := (∃ k : Nat, r = k ∧ k ≤ n ∧ ∀ ts, roomF σ n (kidsL T ++ ts) = roomF σ k ts) ∨ (r = -1 ∧ ∀ ts, roomF σ n (kidsL T ++ ts) = none)
def RM (n : Nat) : Prop := ∀ (b m : Nat) (tv : Value) (N : Int) (lo nn : Nat) (σ : Sg) (L : Int) (T : Tm) (w : World), VS w b m tv N lo nn σ L → n ≤ 200 → TIn w T → (∀ i, i < T.len → Okv N (T.f i)) →
    Calls Try.prog 96 #[.pointer (some ⟨b, 0, none⟩), .int .i64 n, .slice T.a T.len T.cap] w fun e w' => ∃ r : Int, e = .returned (.int .i64 r) ∧ Below w.heap.size w w' ∧ RMP σ n T r

set_option maxRecDepth 100000 in
set_option maxHeartbeats 4000000 in
theorem room_step (n : Nat) (hall : ∀ k, k < n → RM k) : RM n := by
  intro b m tv N lo nn σ L T w hS hn hT hO
  have HAll : Hid (∀ k, k < n → RM k) := hall
  have HS : Hid (VS w b m tv N lo nn σ L) := hS
  have HT : Hid (TIn w T) := hT
  have HO : Hid (∀ i, i < T.len → Okv N (T.f i)) := hO
  have hlen : T.len ≤ 2 ^ 63 - 1 := hT.len
  have HKid : Hid (∀ i, i < T.len → ∀ W, Below w.heap.size w W → RowAt W T.a i (T.f i) ∧ TIn W (T.f i)) := fun i hi W hW => ⟨(hT.row hi).below hW, (hT.kid hi).below hW⟩
  clear hall hS hT hO
  generalize hua : T.a = ua at *
  go_enter Try.func96, Try.ntmps96
  go_wp2_with fail
  go_loopw [1, 11] (fun a i wr => ∃ j k : Nat, j ≤ T.len ∧ i = .int .i64 j ∧ a = .int .i64 k ∧ k ≤ n ∧ Below w.heap.size w wr ∧ ∀ ts, roomF σ n (kidsL T ++ ts) = roomF σ k ((kidsL T).drop j ++ ts)) (fun _ i _ => T.len - (intOf i).toNat)
  case atStart => exact ⟨0, n, Nat.zero_le _, rfl, rfl, Nat.le_refl _, Below.refl _ _, fun _ => rfl⟩
  case round =>
    obtain ⟨j, k, hj, rfl, rfl, hk, hB, hR⟩ := hrel
    have HB : Hid (Below w.heap.size w wr) := hB
    have HR : Hid (∀ ts, roomF σ n (kidsL T ++ ts) = roomF σ k ((kidsL T).drop j ++ ts)) := hR
    clear hB hR
    by_cases hlt : j < T.len
    case neg =>
      have hje : j = T.len := by omega
      have HQ : Hid (∀ ts, roomF σ n (kidsL T ++ ts) = roomF σ k ts) := fun ts => by rw [HR.out ts, hje, kidsL_end]; rfl
      clear hje
      go_wp2_with fail
      go_ret
      exact ⟨k, rfl, HB.out, .inl ⟨k, rfl, hk, HQ.out⟩⟩
    obtain ⟨hr, hTj⟩ := HKid.out j hlt wr HB.out
    have HTj : Hid (TIn wr (T.f j)) := hTj
    have HRj : Hid (∀ ts, roomF σ n (kidsL T ++ ts) = roomF σ k (T.f j :: ((kidsL T).drop (j + 1) ++ ts))) := fun ts => by rw [HR.out ts, kidsL_drop hlt]; rfl
    obtain ⟨bb, o, ha, c0, c1, c2⟩ := hr
    clear hTj
    subst ha
    by_cases hk0 : k = 0
    · subst hk0
      have HQ : Hid (∀ ts, roomF σ n (kidsL T ++ ts) = none) := fun ts => by rw [HRj.out ts]; rfl
      go_wp2_with fail
      go_ret
      exact ⟨-1, rfl, HB.out.alloc HB.out.size _, .inr ⟨rfl, HQ.out⟩⟩
    have hkb : ((k : Int) == 0) = false := beq_eq_false_iff_ne.2 (by omega)
    have hSw : ∀ W, Below wr.heap.size wr W → VS W b m tv N lo nn σ L := fun W hW => (HS.out.below HB.out).below hW
    have HSw : Hid (∀ W, Below wr.heap.size wr W → VS W b m tv N lo nn σ L) := hSw
    clear hSw
    go_wp2_with fail
    refine (what_any (T.f j) _ (HSw.out _ ((Below.refl _ _).alloc (Nat.le_refl _) _)) (HO.out j hlt)).mono ?_
    rintro e w5 ⟨rfl, hb5, hO5⟩
    have HB5 : Hid (Below wr.heap.size wr w5) := ((Below.refl _ _).alloc (Nat.le_refl _) _).trans (hb5.mono (by simp))
    have HRu : Hid (∀ ts, roomF σ n (kidsL T ++ ts) = roomF σ (k - 1) (kidsL (wha σ (T.f j)) ++ ((kidsL T).drop (j + 1) ++ ts))) := fun ts => by
      rw [HRj.out ts]
      obtain ⟨q, rfl⟩ : ∃ q, k = q + 1 := ⟨k - 1, by omega⟩
      rfl
    have HU : Hid (TIn w5 (wha σ (T.f j))) := by
      rcases wh_from σ ((T.f j).v.toNat + 1) (T.f j) with h | ⟨v, h⟩
      · rw [Hid]; unfold wha; rw [h]; exact HTj.out.below HB5.out
      · exact ((HSw.out _ HB5.out).trm v _ h).1
    have HOu : Hid (Okv N (wha σ (T.f j))) := hO5
    clear hb5 hO5
    generalize wha σ (T.f j) = U at *
    rw [show U.val = .agg #[.int .i64 U.v, .string U.nm, .slice U.a U.len U.cap] from rfl]
    have HC : Hid (Calls Try.prog 96 #[.pointer (some ⟨b, 0, none⟩), .int .i64 ((k : Int) - 1), .slice U.a U.len U.cap] w5 fun e w' => ∃ r : Int, e = .returned (.int .i64 r) ∧ Below w5.heap.size w5 w' ∧ RMP σ (k - 1) U r) := by
      have := HAll.out (k - 1) (by omega) b m tv N lo nn σ L U w5 (HSw.out _ HB5.out) (by omega) HU.out (fun i hi => HOu.out.kid hi)
      rwa [show ((k - 1 : Nat) : Int) = (k : Int) - 1 from by omega] at this
    have hfd := field2 (.int .i64 U.v) (.string U.nm) (.slice U.a U.len U.cap)
    go_wp2_with fail
    refine HC.out.mono ?_
    rintro e w6 ⟨r, rfl, hb6, hP⟩
    have HB6 : Hid (Below w.heap.size w w6) := HB.out.trans ((HB5.out.trans (hb6.mono HB5.out.size)).mono HB.out.size)
    clear hb6
    rcases hP with ⟨q, rfl, hq, hw⟩ | ⟨rfl, hw⟩
    · have HQ : Hid (∀ ts, roomF σ n (kidsL T ++ ts) = roomF σ q ((kidsL T).drop (j + 1) ++ ts)) := fun ts => by rw [HRu.out ts, hw]
      have hqb : decide ((q : Int) < 0) = false := decide_eq_false (by omega)
      clear hw
      go_wp2_with fail
      go_roundw
      case rel => exact ⟨j + 1, q, by omega, by go_num, rfl, by omega, HB6.out, HQ.out⟩
      case measure => simp [intOf]; omega
    · have HQ : Hid (∀ ts, roomF σ n (kidsL T ++ ts) = none) := fun ts => by rw [HRu.out ts, hw]
      clear hw
      go_wp2_with fail
      go_ret
      exact ⟨-1, rfl, HB6.out, .inr ⟨rfl, HQ.out⟩⟩
theorem room_all : ∀ n, RM n := by
  intro n
  induction n using Nat.strongRecOn with
  | _ n ih => exact room_step n ih
end Go.Proofs.Ytmggaclaoefdaaa
