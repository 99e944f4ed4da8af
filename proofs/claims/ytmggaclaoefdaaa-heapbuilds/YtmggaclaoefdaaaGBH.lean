/- Same, walked. heap.Unify, walked. -/
import Derived.Deep.RegionHeld3
import Derived.Test.YtmggaclaoefdaaaHm7
import Derived.Test.YtmggaclaoefdaaaGBB
namespace Go.Proofs.Ytmggaclaoefdaaa
open Go.RowKit
set_option linter.unusedVariables false
set_option linter.unusedSimpArgs false
attribute [local go_sem] Oper.semAt_some

theorem LkR.left_ge (r : LkR) : -1 ≤ r.left := by
  cases r with
  | ok n => show (-1 : Int) ≤ (n : Int); omega
  | hit n => show (-1 : Int) ≤ (n : Int); omega
  | over => exact Int.le_refl _
theorem bdH_left (v t : Nat) (s : MS) : -1 ≤ (bdH v t s).left := by
  unfold bdH
  cases lkL (hOf s.2.1) s.2.1.length v s.1 [t] with
  | ok k => show (-1 : Int) ≤ (k : Int); omega
  | hit n => exact (LkR.hit n).left_ge
  | over => exact LkR.over.left_ge
theorem smK_left {F : Nat → Nat → MS → MR} (hF : ∀ a b s, -1 ≤ (F a b s).left) (a b : Nat) (s : MS) : ∀ k, -1 ≤ (smK F a b k s).left := by
  intro k
  induction k with
  | zero => show (-1 : Int) ≤ (s.1 : Int); omega
  | succ k ih =>
    unfold smK
    cases hq : smK F a b k s with
    | yes s' => exact hF _ _ _
    | no x l bs => rw [hq] at ih; exact ih
theorem smH_left : ∀ (f a b : Nat) (s : MS), -1 ≤ (smH f a b s).left := by
  intro f
  induction f with
  | zero => intro a b s; exact Int.le_refl _
  | succ f ih =>
    intro a b s
    obtain ⟨n, l, bs⟩ := s
    rw [smH_one]
    cases n with
    | zero => exact Int.le_refl _
    | succ n =>
      show -1 ≤ (smE (smH f) _ _ (n, l, bs)).left
      unfold smE
      split
      · show (-1 : Int) ≤ (n : Int); omega
      split
      · exact bdH_left _ _ _
      split
      · exact bdH_left _ _ _
      split
      · show (-1 : Int) ≤ (n : Int); omega
      · exact smK_left ih _ _ _ _
theorem ownsRow_base {w : World} {lo B n s : Nat} {t : TypeId} {v : Value} {xs : List Value} (h : w.ownsRow lo t s v n xs) (hb : ∀ q, v.ownBlock = some q → B ≤ q) : w.ownsRow B t s v n xs := by
  rcases h with ⟨h1, ⟨hv, h0⟩ | ⟨g, cap, cur, hv, hlo, hr⟩⟩
  · exact ⟨h1, .inl ⟨hv, h0⟩⟩
  · exact ⟨h1, .inr ⟨g, cap, cur, hv, hb g (by rw [hv]; rfl), hr⟩⟩
/-- What Same answers. -/
def SaR (w : World) (lo g cap : Nat) (l : List Cl) (k : Nat) (r : MR) (e : Ending) (w' : World) : Prop := ∃ bv, e = .returned (.tuple #[bv, .bool r.ok, .int .i64 ((k : Int) - r.left)]) ∧ CRw lo w' (.slice (some ⟨g, 0, none⟩) l.length cap) r.l ∧ w'.ownsRow w.heap.size 3 1 bv r.bs.length (r.bs.map fun x : Nat => Value.int .i64 (x : Int)) ∧ Bw (fun q => q = g) w.heap.size w w'
set_option maxRecDepth 100000 in
set_option maxHeartbeats 4000000 in
theorem csame_any {lo g cap : Nat} {l : List Cl} {a b k : Nat} (w : World) (hR : CRw lo w (.slice (some ⟨g, 0, none⟩) l.length cap) l) (hlo : lo ≤ w.heap.size) (H : HG (hOf l) l.length) (hm : ∀ c ∈ l, c.nm.size ≤ maxLen) (ha : a < l.length) (hb : b < l.length) (hk : k ≤ 1000000) :
    Calls Try.prog 89 #[.slice (some ⟨g, 0, none⟩) l.length cap, .int .i64 (a : Int), .int .i64 (b : Int), .int .i64 (k : Int)] w (SaR w lo g cap l k (smH (k + 1) a b (k, l, []))) := by
  have hh : HIn w (some ⟨g, 0, none⟩) l.length (hOf l) := CRw.hin hR rfl hm
  have HOn : Hid (Calls Try.prog 76 #[.slice (some ⟨g, 0, none⟩) l.length cap] w fun e w' => ∃ vb m, e = .returned (.pointer (some ⟨vb, 0, none⟩)) ∧ VW w' vb m (some ⟨g, 0, none⟩) l.length cap (hOf l) (fun _ => none) ∧ w.heap.size ≤ vb ∧ w.heap.size ≤ m ∧ Below w.heap.size w w') := on_any w hh
  have HR : Hid (CRw lo w (.slice (some ⟨g, 0, none⟩) l.length cap) l) := hR
  have HG' : Hid (MG (k, l, ([] : List Nat))) := ⟨H, hm⟩
  have hgl := (hR.lt g rfl).2
  have hrl : -1 ≤ (smH (k + 1) a b (k, l, [])).left := smH_left _ _ _ _
  have hgood : (smH (k + 1) a b (k, l, [])).Good (k, l, []) := smH_good (k + 1) a b (k, l, []) ⟨H, hm⟩ ha hb
  have hrl2 : (smH (k + 1) a b (k, l, [])).left ≤ (k : Int) := hgood.le
  have hlen : (smH (k + 1) a b (k, l, [])).l.length = l.length := hgood.len
  have HSa : Hid (∀ (vb m mb : Nat) (w2 : World), MW lo w2 mb vb m (.slice none 0 0) (k : Int) g cap l (fun _ => none) [] → Calls Try.prog 116 #[.pointer (some ⟨mb, 0, none⟩), .int .i64 (a : Int), .int .i64 (b : Int)] w2 (SmP w2 lo mb vb m (.slice none 0 0) g cap (smH (k + 1) a b (k, l, [])))) := fun vb m mb w2 M => msame_all (k + 1) lo mb vb m (.slice none 0 0) g cap (k, l, []) (fun _ => none) a b w2 (by show k < k + 1; omega) hk (by show 0 + k ≤ 1000000; omega) ⟨H, hm⟩ M ha hb
  generalize smH (k + 1) a b (k, l, []) = r at *
  clear hh hR H hm hgood
  have hwk : IntKind.i64.wrap ((k : Int) - r.left) = (k : Int) - r.left := by simp [IntKind.wrap, IntKind.bits, IntKind.signed]; omega
  go_enter Try.func89, Try.ntmps89
  go_wp2_with fail
  refine HOn.out.mono ?_
  rintro e w1 ⟨vb, m, rfl, hV1, hvb, hmm, hb1⟩
  have hs1 := hb1.size
  have hB2 : Below w1.heap.size w1 (w1.alloc (.cells #[.pointer (some ⟨vb, 0, none⟩), .slice none 0 0, .int .i64 (k : Int)] 167)) := (Below.refl _ _).alloc (Nat.le_refl _) _
  have HM2 : Hid (MW lo (w1.alloc (.cells #[.pointer (some ⟨vb, 0, none⟩), .slice none 0 0, .int .i64 (k : Int)] 167)) w1.heap.size vb m (.slice none 0 0) (k : Int) g cap l (fun _ => none) []) := ⟨⟨heap_alloc_new _ _, hV1.below hB2⟩, World.ownsRow.kept (World.ownsRow.kept HR.out (grown_of_below hb1 none) (.inr (by simp [Value.ownBlock]))) (grown_of_below hB2 none) (.inr (by simp [Value.ownBlock])), World.ownsRow_nil _ _ _ _, by simp; omega⟩
  have HB2 : Hid (Below w.heap.size w (w1.alloc (.cells #[.pointer (some ⟨vb, 0, none⟩), .slice none 0 0, .int .i64 (k : Int)] 167))) := below_after2 hb1 hB2
  have hs2 : (w1.alloc (.cells #[.pointer (some ⟨vb, 0, none⟩), .slice none 0 0, .int .i64 (k : Int)] 167)).heap.size = w1.heap.size + 1 := by simp
  clear hV1 hb1 hB2
  go_wp2_with fail
  generalize w1.alloc (.cells #[.pointer (some ⟨vb, 0, none⟩), .slice none 0 0, .int .i64 (k : Int)] 167) = w2 at *
  refine (HSa.out vb m w1.heap.size w2 HM2.out).mono ?_
  rintro e w3 ⟨rfl, bv', σ', hM3, hB3, hat⟩
  have HM3 : Hid (MW lo w3 w1.heap.size vb m bv' r.left g cap r.l σ' r.bs) := hM3
  have m1 := hM3.mkg.cells.2.1
  have m2 := hM3.mkg.cells.2.2.1
  have HO3 : Hid (w3.ownsRow w.heap.size 3 1 bv' r.bs.length (r.bs.map fun x : Nat => Value.int .i64 (x : Int))) := ownsRow_base hM3.bnd fun q hq => by
    rcases hat with e | ⟨p, e, hp⟩
    · rw [e] at hq; cases hq
    · rw [e] at hq; have := Option.some.inj hq; omega
  have HR3 : Hid (CRw lo w3 (.slice (some ⟨g, 0, none⟩) l.length cap) r.l) := by have h9 := hM3.row; rw [hlen] at h9; exact h9
  have HB3 : Hid (Bw (fun q => q = g) w.heap.size w w3) := (Bw.ofBelow HB2.out).trans ((hB3.mono (by have := HB2.out.size; omega)).wide fun q hq hm => by
    rcases hm with e | e | e | e
    · omega
    · omega
    · exact e
    · cases e)
  clear hM3 hB3 hat
  go_wp2_with fail
  go_region_held3 (fun W => W.cell? ⟨w1.heap.size, 1, none⟩ = some bv' ∧ W.cell? ⟨w1.heap.size, 2, none⟩ = some (.int .i64 r.left)) (exact ⟨m1, m2⟩) (fail)
  all_goals
    go_wp2_with fail
    refine bodyPost_ret (v := .tuple #[bv', .bool r.ok, .int .i64 ((k : Int) - r.left)]) (by simp [results, Try.results89, go_sem]) rfl ?_
    exact ⟨bv', rfl, HR3.out, HO3.out, by first | exact HB3.out.drew | exact HB3.out⟩
end Go.Proofs.Ytmggaclaoefdaaa

namespace Go.Proofs.Ytmggaclaoefdaaa
open Go.RowKit
set_option linter.unusedVariables false
set_option linter.unusedSimpArgs false

theorem HG.congr {h h' : Nat → Cl} {len : Nat} (H : HG h len) (he : ∀ i, i < len → h' i = h i) : HG h' len := by
  have hl : ∀ i, i < len → leads h' i = leads h i := fun i hi => by unfold leads; rw [he i hi]
  refine ⟨⟨fun i hi => by rw [he i hi]; exact H.ok.n0 i hi, fun i hi => by rw [he i hi]; exact H.ok.n4 i hi, fun i hi => by rw [hl i hi]; exact H.ok.inn i hi, H.ok.few⟩, ?_, fun i hi => by rw [he i hi]; exact H.kind i hi, fun i hi h2 j hj => ?_, fun i hi => by rw [he i hi]; exact H.nmr i hi, fun i hi => by rw [he i hi]; exact H.nmf i hi⟩
  · obtain ⟨r, hr⟩ := H.acy
    exact ⟨r, fun x hx y hy => hr x hx y (by rw [← hl x hx]; exact hy)⟩
  · rw [he i hi] at h2 hj
    obtain ⟨h3, h4⟩ := H.kids i hi h2 j hj
    exact ⟨h3, by rw [he _ h3]; exact h4⟩
theorem hOf_map {h : Nat → Cl} {len i : Nat} (hi : i < len) : hOf ((List.range len).map h) i = h i := by
  rw [hOf_get (by simpa using hi)]; simp
def U5 (v bv : Value) (ok : Bool) (n c : Int) : Ending := .returned (.tuple #[v, bv, .bool ok, .int .i64 n, .int .i64 c])
/-- What two cells of a heap made the same come to. -/
noncomputable def uniH (h : Nat → Cl) (len : Nat) (a b : Int) : MR := smH 4001 a.toNat b.toNat (4000, (List.range len).map h, [])
def UnR (h : Nat → Cl) (len : Nat) (a b : Int) (w : World) (e : Ending) (w' : World) : Prop := Below w.heap.size w w' ∧ (
  (∃ c : Int, e = U5 (.slice none 0 0) (.slice none 0 0) false 0 c ∧ ((c ≠ 0 ∧ ChkR h len c) ∨ (ChkR h len 0 ∧ c = 5 ∧ (noneB len a = true ∨ noneB len b = true)))) ∨
  (ChkR h len 0 ∧ noneB len a = false ∧ noneB len b = false ∧ (
    ((uniH h len a b).left < 0 ∧ e = U5 (.slice none 0 0) (.slice none 0 0) false 0 2) ∨
    (0 ≤ (uniH h len a b).left ∧ (uniH h len a b).ok = false ∧ e = U5 (.slice none 0 0) (.slice none 0 0) false (4000 - (uniH h len a b).left) 0) ∨
    (0 ≤ (uniH h len a b).left ∧ (uniH h len a b).ok = true ∧ ∃ (v bv : Value), e = U5 v bv true (4000 - (uniH h len a b).left) 0 ∧ CRw w.heap.size w' v (uniH h len a b).l ∧ w'.ownsRow w.heap.size 3 1 bv (uniH h len a b).bs.length ((uniH h len a b).bs.map fun x : Nat => Value.int .i64 (x : Int))))))
set_option maxRecDepth 100000 in
set_option maxHeartbeats 4000000 in
/-- WHAT Unify ANSWERS, on a heap. -/
theorem hunify_any {sa : Option Addr} {len cap : Nat} {h : Nat → Cl} (a b : Int) (w : World) (hh : HIn w sa len h) (hcap : len ≤ cap) (hn : sa = none → len = 0 ∧ cap = 0) :
    Calls Try.prog 46 #[.slice sa len cap, .int .i64 a, .int .i64 b] w (UnR h len a b w) := by
  have hB0 : Below w.heap.size w (w.alloc (.cells #[.int .i64 a, .int .i64 b] 3)) := (Below.refl _ _).alloc (Nat.le_refl _) _
  have HT : Hid (Calls Try.prog 75 #[.slice sa len cap, .slice (some ⟨w.heap.size, 0, none⟩) 2 2] (w.alloc (.cells #[.int .i64 a, .int .i64 b] 3)) fun e w' => ∃ c : Int, e = .returned (.int .i64 c) ∧ ((c ≠ 0 ∧ ChkR h len c) ∨ (ChkR h len 0 ∧ c = 5 ∧ ∃ x ∈ [a, b], noneB len x = true) ∨ (ChkR h len 0 ∧ c = 0 ∧ ∀ x ∈ [a, b], noneB len x = false)) ∧ Below (w.alloc (.cells #[.int .i64 a, .int .i64 b] 3)).heap.size (w.alloc (.cells #[.int .i64 a, .int .i64 b] 3)) w') :=
    there_any [a, b] _ (hh.below hB0) hcap (fun k hk => by
      have hb := heap_alloc_new w (.cells #[.int .i64 a, .int .i64 b] 3)
      have : k = 0 ∨ k = 1 := by simp at hk; omega
      rcases this with rfl | rfl
      · exact ⟨w.heap.size, 0, rfl, by simp only [World.cell?, hb]; rfl⟩
      · exact ⟨w.heap.size, 0, rfl, by simp only [World.cell?, hb]; rfl⟩) (by simp)
  have HB0 : Hid (Below w.heap.size w (w.alloc (.cells #[.int .i64 a, .int .i64 b] 3))) := hB0
  have HH : Hid (∀ W, Below w.heap.size w W → HIn W sa len h) := fun W hW => hh.below hW
  have HN : Hid (sa = none → len = 0 ∧ cap = 0) := hn
  have Hnm : Hid (∀ i, i < len → (h i).nm.size ≤ maxLen) := hh.nm
  clear hh hB0 hn
  go_enter Try.func46, Try.ntmps46
  go_wp2_with fail
  refine HT.out.mono ?_
  rintro e w1 ⟨c, rfl, hc, hb1⟩
  have HB1 : Hid (Below w.heap.size w w1) := HB0.out.trans (hb1.mono HB0.out.size)
  clear hb1 HT HB0
  by_cases hc0 : c = 0
  case neg =>
    have hcb : (c != 0) = true := bne_iff_ne.2 hc0
    have HR : Hid ((c ≠ 0 ∧ ChkR h len c) ∨ (ChkR h len 0 ∧ c = 5 ∧ (noneB len a = true ∨ noneB len b = true))) := by
      rcases hc with h1 | ⟨h1, h2, x, hx, h3⟩ | ⟨_, h2, _⟩
      · exact .inl h1
      · refine .inr ⟨h1, h2, ?_⟩
        simp at hx
        rcases hx with rfl | rfl
        · exact .inl h3
        · exact .inr h3
      · exact absurd h2 hc0
    clear hc hc0
    go_wp2_with fail
    refine bodyPost_ret (v := .tuple #[.slice none 0 0, .slice none 0 0, .bool false, .int .i64 0, .int .i64 c]) (by simp [results, Try.results46, go_sem]) rfl ?_
    exact ⟨HB1.out, .inl ⟨c, rfl, HR.out⟩⟩
  subst hc0
  have HC : Hid (ChkR h len 0 ∧ noneB len a = false ∧ noneB len b = false) := by
    rcases hc with ⟨h1, _⟩ | ⟨_, h2, _⟩ | ⟨h1, _, h3⟩
    · exact absurd rfl h1
    · cases h2
    · exact ⟨h1, h3 a (by simp), h3 b (by simp)⟩
  clear hc
  obtain ⟨hG, hl4⟩ := ChkR.good HC.out.1
  have hab : (0 ≤ a ∧ a < (len : Int)) ∧ 0 ≤ b ∧ b < (len : Int) := by
    have h1 := HC.out.2.1
    have h2 := HC.out.2.2
    unfold noneB at h1 h2
    simp at h1 h2
    omega
  obtain ⟨na, hna⟩ : ∃ na : Nat, a = (na : Int) := ⟨a.toNat, by omega⟩
  obtain ⟨nb, hnb⟩ : ∃ nb : Nat, b = (nb : Int) := ⟨b.toNat, by omega⟩
  subst hna hnb
  have HL : Hid (((List.range len).map h).length = len) := by rw [Hid]; simp
  have HGl : Hid (HG (hOf ((List.range len).map h)) ((List.range len).map h).length) := by rw [Hid, HL.out]; exact hG.congr fun i hi => hOf_map hi
  have HNl : Hid (∀ c ∈ (List.range len).map h, c.nm.size ≤ maxLen) := fun c hc => by
    obtain ⟨i, hi, rfl⟩ := List.mem_map.1 hc
    exact Hnm.out i (List.mem_range.1 hi)
  have HCl : Hid (Calls Try.prog 87 #[.slice sa len cap] w1 fun e w' => ∃ v, e = .returned v ∧ CRw w1.heap.size w' v ((List.range len).map h) ∧ Below w1.heap.size w1 w') := clone_any w1 (HH.out _ HB1.out) HN.out (by omega)
  clear hG
  go_wp2_with fail
  refine HCl.out.mono ?_
  rintro e w2 ⟨v, rfl, hC2, hb2⟩
  obtain ⟨g, cg, rfl⟩ : ∃ g cg, v = .slice (some ⟨g, 0, none⟩) len cg := by
    rcases hC2.2 with ⟨_, h0⟩ | ⟨g, cg, cur, hv, _⟩
    · rw [HL.out] at h0; omega
    · rw [HL.out] at hv; exact ⟨g, cg, hv⟩
  have HB2 : Hid (Below w.heap.size w w2) := below_after2 HB1.out hb2
  have hs1 := HB1.out.size
  have hg2 := (hC2.lt g rfl)
  have HSa : Hid (Calls Try.prog 89 #[.slice (some ⟨g, 0, none⟩) len cg, .int .i64 (na : Int), .int .i64 (nb : Int), .int .i64 4000] w2 (SaR w2 w1.heap.size g cg ((List.range len).map h) 4000 (uniH h len na nb))) := by
    have h9 := csame_any (k := 4000) (a := na) (b := nb) (cap := cg) (g := g) (lo := w1.heap.size) (l := (List.range len).map h) w2 (by rw [HL.out]; exact hC2) (Nat.le_of_lt (Nat.lt_of_le_of_lt hg2.1 hg2.2)) HGl.out HNl.out (by rw [HL.out]; omega) (by rw [HL.out]; omega) (by omega)
    rw [HL.out] at h9
    exact h9
  have hlen : (uniH h len na nb).l.length = len := by
    have h9 := (smH_good 4001 na nb (4000, (List.range len).map h, []) ⟨HGl.out, HNl.out⟩ (by show na < _; rw [HL.out]; omega) (by show nb < _; rw [HL.out]; omega)).len
    exact h9.trans HL.out
  have hok : (uniH h len na nb).ok = true → 0 ≤ (uniH h len na nb).left := fun e => by
    cases hu : uniH h len na nb with
    | yes s => show (0 : Int) ≤ (s.1 : Int); omega
    | no => rw [hu] at e; cases e
  obtain ⟨r, hr⟩ : ∃ r, uniH h len na nb = r := ⟨_, rfl⟩
  rw [hr] at HSa hlen hok
  have Hr : Hid (uniH h len na nb = r) := hr
  clear hr
  clear hC2 hb2 HCl
  go_wp2_with fail
  refine HSa.out.mono ?_
  rintro e w3 ⟨bv, rfl, hC3, hO3, hB3⟩
  have hs2 := HB2.out.size
  have HC3 : Hid (CRw w.heap.size w3 (.slice (some ⟨g, 0, none⟩) len cg) r.l) := ownsRow_mono (by rw [HL.out] at hC3; exact hC3) hs1
  have HO3 : Hid (w3.ownsRow w.heap.size 3 1 bv r.bs.length (r.bs.map fun x : Nat => Value.int .i64 (x : Int))) := ownsRow_mono hO3 hs2
  have HB3 : Hid (Below w.heap.size w w3) := HB2.out.trans ⟨hB3.os, hB3.tape, hB3.output, hB3.size, fun k hk => hB3.block k (by omega) (by omega)⟩
  clear hC3 hO3 hB3
  rw [show ((4000 : Nat) : Int) - r.left = 4000 - r.left from rfl]
  by_cases hlt : r.left < 0
  case pos =>
    have hb : decide (4000 - r.left > 4000) = true := decide_eq_true (by omega)
    go_wp2_with fail
    refine bodyPost_ret (v := .tuple #[.slice none 0 0, .slice none 0 0, .bool false, .int .i64 0, .int .i64 2]) (by simp [results, Try.results46, go_sem]) rfl ?_
    refine ⟨HB3.out, .inr ⟨HC.out.1, HC.out.2.1, HC.out.2.2, ?_⟩⟩
    rw [Hr.out]
    exact .inl ⟨hlt, rfl⟩
  have hb : decide (4000 - r.left > 4000) = false := decide_eq_false (by omega)
  cases hy : r.ok with
  | false =>
    go_wp2_with fail
    refine bodyPost_ret (v := .tuple #[.slice none 0 0, .slice none 0 0, .bool false, .int .i64 (4000 - r.left), .int .i64 0]) (by simp [results, Try.results46, go_sem]) rfl ?_
    refine ⟨HB3.out, .inr ⟨HC.out.1, HC.out.2.1, HC.out.2.2, ?_⟩⟩
    rw [Hr.out]
    exact .inr (.inl ⟨by omega, hy, rfl⟩)
  | true =>
    go_wp2_with fail
    refine bodyPost_ret (v := .tuple #[.slice (some ⟨g, 0, none⟩) len cg, bv, .bool true, .int .i64 (4000 - r.left), .int .i64 0]) (by simp [results, Try.results46, go_sem]) rfl ?_
    refine ⟨HB3.out, .inr ⟨HC.out.1, HC.out.2.1, HC.out.2.2, ?_⟩⟩
    rw [Hr.out]
    exact .inr (.inr ⟨by omega, hy, _, bv, rfl, HC3.out, HO3.out⟩)
end Go.Proofs.Ytmggaclaoefdaaa
