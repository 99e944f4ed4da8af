/- The program's heap: Check, there, Deref. Which term stands at a cell. -/
import Derived.Test.YtmggaclaoefdaaaHr2
import Derived.Test.YtmggaclaoefdaaaGAU
import Derived.Test.YtmggaclaoefdaaaGAR
import Derived.Test.YtmggaclaoefdaaaGAP
namespace Go.Proofs.Ytmggaclaoefdaaa
open Go.RowKit
set_option linter.unusedVariables false
set_option linter.unusedSimpArgs false

theorem kinds_of {h : Nat → Cl} {len : Nat} (h0 : firstE h len len = 0) : ∀ i, i < len → (h i).k = 1 ∨ (h i).k = 2 := fun i hi => by
  have := firstE_zero len h0 i hi
  unfold cellE at this
  by_cases e : (h i).k = 1
  · exact .inl e
  · by_cases e2 : (h i).k = 2
    · exact .inr e2
    · rw [if_neg e, if_neg e2] at this; cases this
theorem ChkR.good {h : Nat → Cl} {len : Nat} (H : ChkR h len 0) : HG h len ∧ len ≤ 400000 := by
  rcases H with ⟨_, e⟩ | ⟨_, e, e'⟩ | ⟨hl, e, ⟨ha, _⟩ | ⟨_, e'⟩⟩
  · cases e
  · exact absurd e'.symm e
  · exact ⟨HG.of hl e ha, hl⟩
  · cases e'
set_option maxRecDepth 100000 in
set_option maxHeartbeats 4000000 in
theorem hcheck_any {a : Option Addr} {len cap : Nat} {h : Nat → Cl} (w : World) (hh : HIn w a len h) (hcap : len ≤ cap) :
    Calls Try.prog 40 #[.slice a len cap] w fun e w' => ∃ c : Int, e = .returned (.int .i64 c) ∧ ChkR h len c ∧ Below w.heap.size w w' := by
  have HH : Hid (∀ W, Below w.heap.size w W → HIn W a len h) := fun W hW => hh.below hW
  have hlb : len ≤ 2 ^ 63 - 1 := hh.big
  clear hh
  by_cases hbig : len > 400000
  · have hb : decide ((len : Int) > 400000) = true := decide_eq_true (by omega)
    have hb2 : (400000 : Int) < (len : Int) := by omega
    go_enter Try.func40, Try.ntmps40
    go_wp2_with fail
    go_ret
    exact ⟨2, rfl, .inl ⟨hbig, rfl⟩, Below.refl _ _⟩
  have hb : decide ((len : Int) > 400000) = false := decide_eq_false (by omega)
  have hb2 : ¬ (400000 : Int) < (len : Int) := by omega
  have hl4 : len ≤ 400000 := by omega
  go_enter Try.func40, Try.ntmps40
  go_wp2_with fail
  go_loopw [10] (fun x wr => ∃ i : Nat, i ≤ len ∧ x = .int .i64 (i : Int) ∧ firstE h len i = 0 ∧ Below w.heap.size w wr) (fun x _ => len - (intOf x).toNat)
  case atStart => exact ⟨0, Nat.zero_le _, rfl, rfl, Below.refl _ _⟩
  case round =>
    obtain ⟨i, hil, rfl, hf, hB⟩ := hrel
    have HF : Hid (firstE h len i = 0) := hf
    have HB : Hid (Below w.heap.size w wr) := hB
    clear hf hB
    by_cases hlt : i < len
    case neg =>
      have hkl : len = i := by omega
      subst hkl
      have HCi : Hid (Calls Try.prog 85 #[.slice a len cap] wr fun e w' => ∃ ok : Bool, e = .returned (.bool ok) ∧ (ok = false ↔ Acy len (leads h)) ∧ Below wr.heap.size wr w') := circle_any wr (HH.out wr HB.out) (cells_ok hl4 HF.out) (kinds_of HF.out)
      go_wp2_with fail
      refine HCi.out.mono ?_
      rintro e w1 ⟨ok, rfl, hok, hb1⟩
      have HB1 : Hid (Below w.heap.size w w1) := HB.out.trans (hb1.mono HB.out.size)
      have HO : Hid (ok = false ↔ Acy len (leads h)) := hok
      clear hok hb1
      cases ok with
      | true =>
        go_wp2_with fail
        go_ret
        exact ⟨4, rfl, .inr (.inr ⟨hl4, HF.out, .inr ⟨fun e => (by have := HO.out.2 e; simp at this), rfl⟩⟩), HB1.out⟩
      | false =>
        go_wp2_with fail
        go_ret
        exact ⟨0, rfl, .inr (.inr ⟨hl4, HF.out, .inl ⟨HO.out.1 (by first | rfl | trivial), rfl⟩⟩), HB1.out⟩
    have hltI : (i : Int) < (len : Int) := by omega
    have HCe : Hid (Calls Try.prog 84 #[.slice a len cap, .int .i64 i] wr fun e w' => e = .returned (.int .i64 (cellE h len i)) ∧ Below wr.heap.size wr w') := cell_any i wr (HH.out wr HB.out) hcap hlt
    go_wp2_with fail
    refine HCe.out.mono ?_
    rintro e w1 ⟨rfl, hb1⟩
    have HB1 : Hid (Below w.heap.size w w1) := HB.out.trans (hb1.mono HB.out.size)
    clear hb1 HCe
    by_cases hc : cellE h len i = 0
    · have hcb : (cellE h len i != 0) = false := by rw [hc]; rfl
      have HF1 : Hid (firstE h len (i + 1) = 0) := by
        show (if firstE h len i ≠ 0 then firstE h len i else cellE h len i) = 0
        rw [if_neg (by simpa using HF.out), hc]
      clear hc
      go_wp2_with fail
      go_roundw
      case rel => exact ⟨i + 1, by omega, by go_num, HF1.out, HB1.out⟩
      case measure => simp [intOf]; omega
    · have hcb : (cellE h len i != 0) = true := bne_iff_ne.2 hc
      have HN : Hid (cellE h len i ≠ 0) := hc
      clear hc
      go_wp2_with fail
      go_ret
      have e := firstE_stop HF.out HN.out len hlt
      exact ⟨cellE h len i, rfl, .inr (.inl ⟨hl4, by rw [e]; exact HN.out, e.symm⟩), HB1.out⟩
set_option maxRecDepth 100000 in
set_option maxHeartbeats 4000000 in
theorem there_any {a sa : Option Addr} {len cap sc : Nat} {h : Nat → Cl} (l : List Int) (w : World) (hh : HIn w a len h) (hcap : len ≤ cap) (hl : IR w sa l) (hlb : l.length ≤ 1000) :
    Calls Try.prog 75 #[.slice a len cap, .slice sa l.length sc] w fun e w' => ∃ c : Int, e = .returned (.int .i64 c) ∧ ((c ≠ 0 ∧ ChkR h len c) ∨ (ChkR h len 0 ∧ c = 5 ∧ ∃ x ∈ l, noneB len x = true) ∨ (ChkR h len 0 ∧ c = 0 ∧ ∀ x ∈ l, noneB len x = false)) ∧ Below w.heap.size w w' := by
  have HL : Hid (∀ W, Below w.heap.size w W → IR W sa l) := fun W hW => hl.below hW
  have HCh : Hid (Calls Try.prog 40 #[.slice a len cap] w fun e w' => ∃ c : Int, e = .returned (.int .i64 c) ∧ ChkR h len c ∧ Below w.heap.size w w') := hcheck_any w hh hcap
  have HNo : Hid (∀ (n : Int) W, Calls Try.prog 105 #[.slice a len cap, .int .i64 n] W fun e w' => e = .returned (.bool (noneB len n)) ∧ w' = W) := fun n W => none_any a len cap n W
  clear hh hl
  go_enter Try.func75, Try.ntmps75
  go_wp2_with fail
  refine HCh.out.mono ?_
  rintro e w1 ⟨c, rfl, hc, hb1⟩
  have HC : Hid (ChkR h len c) := hc
  have HB1 : Hid (Below w.heap.size w w1) := hb1
  clear hc hb1 HCh
  by_cases hc0 : c = 0
  case neg =>
    have hcb : (c != 0) = true := bne_iff_ne.2 hc0
    have HN : Hid (c ≠ 0) := hc0
    clear hc0
    go_wp2_with fail
    go_ret
    exact ⟨c, rfl, .inl ⟨HN.out, HC.out⟩, HB1.out⟩
  subst hc0
  go_wp2_with fail
  go_loopw [15] (fun x wr => ∃ i : Nat, i ≤ l.length ∧ x = .int .i64 (i : Int) ∧ (∀ k (hk : k < l.length), k < i → noneB len l[k] = false) ∧ wr = w1) (fun x _ => l.length - (intOf x).toNat)
  case atStart => exact ⟨0, Nat.zero_le _, rfl, fun k _ hk => absurd hk (Nat.not_lt_zero k), rfl⟩
  case round =>
    obtain ⟨i, hil, rfl, hf, rfl⟩ := hrel
    have HF : Hid (∀ k (hk : k < l.length), k < i → noneB len l[k] = false) := hf
    clear hf
    by_cases hlt : i < l.length
    case neg =>
      have hib : decide ((i : Int) < (l.length : Int)) = false := decide_eq_false (by omega)
      have hi2 : ¬ (i : Int) < (l.length : Int) := by omega
      have HA : Hid (∀ x ∈ l, noneB len x = false) := fun x hx => by
        obtain ⟨k, hk, rfl⟩ := List.getElem_of_mem hx
        exact HF.out k hk (by omega)
      go_wp2_with fail
      go_ret
      exact ⟨0, rfl, .inr (.inr ⟨HC.out, rfl, HA.out⟩), HB1.out⟩
    have hltI : (i : Int) < (l.length : Int) := by omega
    obtain ⟨b, o, rfl, hc⟩ := HL.out wr HB1.out i hlt
    go_wp2_with fail
    refine (HNo.out _ _).mono ?_
    rintro e w2 ⟨rfl, hw2⟩
    rw [hw2]
    cases hn : noneB len l[i] with
    | true =>
      have HN : Hid (noneB len l[i] = true) := hn
      clear hn
      go_wp2_with fail
      go_ret
      exact ⟨5, rfl, .inr (.inl ⟨HC.out, rfl, l[i], List.getElem_mem hlt, HN.out⟩), HB1.out⟩
    | false =>
      have HN : Hid (∀ k (hk : k < l.length), k < i + 1 → noneB len l[k] = false) := fun k hk hki => by
        by_cases e : k < i
        · exact HF.out k hk e
        · have : k = i := by omega
          subst this
          exact hn
      clear hn
      go_wp2_with fail
      go_roundw
      case rel => exact ⟨i + 1, by omega, by go_num, HN.out, by first | rfl | trivial⟩
      case measure => simp [intOf]; omega
set_option maxRecDepth 100000 in
set_option maxHeartbeats 4000000 in
/-- WHAT Deref ANSWERS. -/
theorem hderef_any {a : Option Addr} {len cap : Nat} {h : Nat → Cl} (n : Int) (w : World) (hh : HIn w a len h) (hcap : len ≤ cap) :
    Calls Try.prog 34 #[.slice a len cap, .int .i64 n] w fun e w' => ∃ r c : Int, e = .returned (.tuple #[.int .i64 r, .int .i64 c]) ∧ ((c ≠ 0 ∧ ChkR h len c ∧ r = 0) ∨ (ChkR h len 0 ∧ c = 5 ∧ noneB len n = true ∧ r = 0) ∨ (ChkR h len 0 ∧ c = 0 ∧ noneB len n = false ∧ r = (endA h len n.toNat : Int))) ∧ Below w.heap.size w w' := by
  have hB0 : Below w.heap.size w (w.alloc (.cells #[.int .i64 n] 3)) := (Below.refl _ _).alloc (Nat.le_refl _) _
  have HT : Hid (Calls Try.prog 75 #[.slice a len cap, .slice (some ⟨w.heap.size, 0, none⟩) 1 1] (w.alloc (.cells #[.int .i64 n] 3)) fun e w' => ∃ c : Int, e = .returned (.int .i64 c) ∧ ((c ≠ 0 ∧ ChkR h len c) ∨ (ChkR h len 0 ∧ c = 5 ∧ ∃ x ∈ [n], noneB len x = true) ∨ (ChkR h len 0 ∧ c = 0 ∧ ∀ x ∈ [n], noneB len x = false)) ∧ Below (w.alloc (.cells #[.int .i64 n] 3)).heap.size (w.alloc (.cells #[.int .i64 n] 3)) w') :=
    there_any [n] _ (hh.below hB0) hcap (fun k hk => by
      have : k = 0 := by simp at hk; exact hk
      subst this
      exact ⟨_, _, rfl, cell_of_block (heap_alloc_new w _)⟩) (by simp)
  have HB0 : Hid (Below w.heap.size w (w.alloc (.cells #[.int .i64 n] 3))) := hB0
  have HH : Hid (∀ W, Below w.heap.size w W → HIn W a len h) := fun W hW => hh.below hW
  clear hh hB0
  go_enter Try.func34, Try.ntmps34
  go_wp2_with fail
  refine HT.out.mono ?_
  rintro e w1 ⟨c, rfl, hc, hb1⟩
  have HB1 : Hid (Below w.heap.size w w1) := HB0.out.trans (hb1.mono HB0.out.size)
  clear hb1 HT HB0
  by_cases hc0 : c = 0
  case neg =>
    have hcb : (c != 0) = true := bne_iff_ne.2 hc0
    have HR : Hid ((c ≠ 0 ∧ ChkR h len c) ∨ (ChkR h len 0 ∧ c = 5 ∧ noneB len n = true)) := by
      rcases hc with h1 | ⟨h1, h2, x, hx, h3⟩ | ⟨_, h2, _⟩
      · exact .inl h1
      · rw [List.mem_singleton] at hx
        subst hx
        exact .inr ⟨h1, h2, h3⟩
      · exact absurd h2 hc0
    clear hc hc0
    go_wp2_with fail
    go_ret2
    refine ⟨0, c, rfl, ?_, HB1.out⟩
    rcases HR.out with h1 | h1
    · exact .inl ⟨h1.1, h1.2, rfl⟩
    · exact .inr (.inl ⟨h1.1, h1.2.1, h1.2.2, rfl⟩)
  have HR : Hid (ChkR h len 0 ∧ noneB len n = false) := by
    rcases hc with h1 | ⟨_, h2, _⟩ | ⟨h1, _, h3⟩
    · exact absurd hc0 h1.1
    · omega
    · exact ⟨h1, h3 n (by simp)⟩
  subst hc0
  obtain ⟨m, hm⟩ : ∃ m : Nat, n = (m : Int) := by
    have := HR.out.2
    unfold noneB at this
    simp at this
    exact ⟨n.toNat, by omega⟩
  have hml : m < len := by
    have := HR.out.2
    unfold noneB at this
    simp at this
    omega
  obtain ⟨hG, hl4⟩ := HR.out.1.good
  have HOn : Hid (Calls Try.prog 76 #[.slice a len cap] w1 fun e w' => ∃ vb m, e = .returned (.pointer (some ⟨vb, 0, none⟩)) ∧ VW w' vb m a len cap h (fun _ => none) ∧ w1.heap.size ≤ vb ∧ w1.heap.size ≤ m ∧ Below w1.heap.size w1 w') := on_any w1 (HH.out w1 HB1.out)
  have HDe : Hid (∀ vb mm W, VW W vb mm a len cap h (fun _ => none) → Calls Try.prog 77 #[.pointer (some ⟨vb, 0, none⟩), .int .i64 n] W fun e w' => e = .returned (.int .i64 (endA h len m : Nat)) ∧ (∃ σ', VW w' vb mm a len cap h σ') ∧ W.grownBy w' (some mm)) := fun vb mm W hV => by rw [hm]; exact deref_any hG (by omega) hml W hV
  have HM : Hid (n.toNat = m) := by rw [Hid, hm]; rfl
  clear hc hm hG
  go_wp2_with fail
  refine HOn.out.mono ?_
  rintro e w2 ⟨vb, mm, rfl, hV, hvb, hmm, hb2⟩
  have HB2 : Hid (Below w.heap.size w w2) := HB1.out.trans (hb2.mono HB1.out.size)
  have Hmm : Hid (w.heap.size ≤ mm) := Nat.le_trans HB1.out.size hmm
  have HV : Hid (VW w2 vb mm a len cap h (fun _ => none)) := hV
  clear hV hb2 hmm hvb HOn
  go_wp2_with fail
  refine (HDe.out vb mm w2 HV.out).mono ?_
  rintro e w3 ⟨rfl, _, hg3⟩
  have HB3 : Hid (Below w.heap.size w w3) := HB2.out.grown hg3 HB2.out.size (fun k e => by cases e; exact Hmm.out)
  clear hg3
  go_wp2_with fail
  go_ret2
  exact ⟨_, 0, rfl, .inr (.inr ⟨HR.out.1, rfl, HR.out.2, by rw [HM.out]⟩), HB3.out⟩
end Go.Proofs.Ytmggaclaoefdaaa

namespace Go.Proofs.Ytmggaclaoefdaaa
open Go.RowKit
set_option linter.unusedVariables false
set_option linter.unusedSimpArgs false

theorem HG.kid_leads {h : Nat → Cl} {z j : Nat} (hk : (h z).k = 2) (hj : (j : Int) < (h z).n) : z + 1 + j ∈ leads h z := by
  unfold leads
  rw [if_neg (by omega)]
  exact List.mem_map.2 ⟨j, List.mem_range.2 (by omega), rfl⟩
theorem HG.ind {h : Nat → Cl} {len : Nat} {P : Nat → Prop} (H : HG h len) (step : ∀ i, i < len → (∀ j : Nat, (h (endA h len i)).k = 2 → (j : Int) < (h (endA h len i)).n → P (endA h len i + 1 + j)) → P i) : ∀ i, i < len → P i := by
  obtain ⟨r, hr⟩ := H.acy
  have hle : ∀ i, i < len → r (endA h len i) ≤ r i := fun i hi => by
    rcases H.way hi with e | e
    · rw [e]; exact Nat.le_refl _
    · exact Nat.le_of_lt (e.rank H hr hi)
  have : ∀ m i, r (endA h len i) = m → i < len → P i := by
    intro m
    induction m using Nat.strongRecOn with
    | _ m ih =>
      intro i hm hi
      refine step i hi fun j hk hj => ?_
      have hz := H.end_lt hi
      have hc := (H.kids _ hz hk j hj).1
      have h1 := hr _ hz _ (HG.kid_leads hk hj)
      exact ih _ (by have := hle _ hc; omega) _ rfl hc
  exact fun i hi => this _ i rfl hi
inductive Stn (h : Nat → Cl) (len : Nat) : Nat → Tm → Prop
  | var {i : Nat} : (h (endA h len i)).k = 1 → Stn h len i (can (vT ((endA h len i : Int) + 1)))
  | fn {i n : Nat} {f : Nat → Tm} : (h (endA h len i)).k ≠ 1 → (h (endA h len i)).n = (n : Int) → (∀ j, j < n → Stn h len (endA h len i + 1 + j) (f j)) → Stn h len i (.mk 0 (h (endA h len i)).nm none n 0 (fun j => if j < n then f j else .nil))
theorem Stn.uniq {h : Nat → Cl} {len i : Nat} {T U : Tm} (H : Stn h len i T) (H' : Stn h len i U) : T = U := by
  induction H generalizing U with
  | var hk =>
    cases H' with
    | var _ => rfl
    | fn hk' _ _ => exact absurd hk hk'
  | @fn i n f hk hn _ ih =>
    cases H' with
    | var hk' => exact absurd hk' hk
    | @fn _ n' f' _ hn' hf' =>
      rw [hn] at hn'
      have en := Int.ofNat_inj.1 hn'
      subst en
      congr 1
      funext j
      by_cases hj : j < n
      · rw [if_pos hj, if_pos hj]; exact ih j hj (hf' j hj)
      · rw [if_neg hj, if_neg hj]
theorem Stn.ex {h : Nat → Cl} {len : Nat} (H : HG h len) : ∀ i, i < len → ∃ T, Stn h len i T := by
  refine H.ind fun i hi ih => ?_
  rcases H.end_or hi with e | e
  · exact ⟨_, .var e.1⟩
  · have h0 := H.ok.n0 _ (H.end_lt hi)
    have hn : (h (endA h len i)).n = ((h (endA h len i)).n.toNat : Int) := by omega
    have hc : ∀ j : Nat, ∃ T, j < (h (endA h len i)).n.toNat → Stn h len (endA h len i + 1 + j) T := fun j => by
      by_cases hj : j < (h (endA h len i)).n.toNat
      · obtain ⟨T, hT⟩ := ih j e (by omega)
        exact ⟨T, fun _ => hT⟩
      · exact ⟨.nil, fun h => absurd h hj⟩
    exact ⟨_, .fn (f := fun j => (hc j).choose) (by omega) hn fun j hj => (hc j).choose_spec hj⟩
open Classical in
/-- The term at a cell: its variables are the cells' numbers and 1. -/
noncomputable def std (h : Nat → Cl) (len i : Nat) : Tm := if e : ∃ T, Stn h len i T then e.choose else .nil
theorem std_eq {h : Nat → Cl} {len i : Nat} {T : Tm} (H : Stn h len i T) : std h len i = T := by
  have e : ∃ T, Stn h len i T := ⟨T, H⟩
  unfold std
  rw [dif_pos e]
  exact e.choose_spec.uniq H
theorem HG.stn {h : Nat → Cl} {len i : Nat} (H : HG h len) (hi : i < len) : Stn h len i (std h len i) := by
  obtain ⟨T, hT⟩ := Stn.ex H i hi
  rw [std_eq hT]; exact hT
theorem std_var {h : Nat → Cl} {len i : Nat} (hk : (h (endA h len i)).k = 1) : std h len i = can (vT ((endA h len i : Int) + 1)) := std_eq (.var hk)
theorem std_fn {h : Nat → Cl} {len i n : Nat} (H : HG h len) (hi : i < len) (hk : (h (endA h len i)).k = 2) (hn : (h (endA h len i)).n = (n : Int)) :
    std h len i = .mk 0 (h (endA h len i)).nm none n 0 (fun j => if j < n then std h len (endA h len i + 1 + j) else .nil) :=
  std_eq (.fn (by omega) hn fun j hj => H.stn (H.kids _ (H.end_lt hi) hk j (by omega)).1)
theorem std_end {h : Nat → Cl} {len i : Nat} (H : HG h len) (hi : i < len) : std h len (endA h len i) = std h len i := by
  have e := H.end_end hi
  rcases H.end_or hi with c | c
  · rw [std_var c.1, std_var (by rw [e]; exact c.1), e]
  · have h0 := H.ok.n0 _ (H.end_lt hi)
    have hn : (h (endA h len i)).n = ((h (endA h len i)).n.toNat : Int) := by omega
    rw [std_fn H hi c hn, std_fn (n := (h (endA h len i)).n.toNat) H (H.end_lt hi) (by rw [e]; exact c) (by rw [e]; exact hn), e]
theorem can_var (x : Int) : can (vT x) = .mk x ⟨#[]⟩ none 0 0 (fun _ => .nil) := by
  rw [can_eq]
  show Tm.mk x ⟨#[]⟩ none 0 0 _ = _
  congr 1
/-- How many parts stand at a cell. -/
noncomputable def cntA (h : Nat → Cl) (len i : Nat) : Nat := cnt (std h len i)
theorem cntA_var {h : Nat → Cl} {len i : Nat} (hk : (h (endA h len i)).k = 1) : cntA h len i = 1 := by
  unfold cntA; rw [std_var hk, can_var, cnt_eq]; rfl
theorem cntA_fn {h : Nat → Cl} {len i n : Nat} (H : HG h len) (hi : i < len) (hk : (h (endA h len i)).k = 2) (hn : (h (endA h len i)).n = (n : Int)) :
    cntA h len i = 1 + sumTo (fun j => cntA h len (endA h len i + 1 + j)) n := by
  unfold cntA
  rw [std_fn H hi hk hn, cnt_eq]
  show 1 + sumTo (fun j => cnt (if j < n then std h len (endA h len i + 1 + j) else .nil)) n = _
  congr 1
  have : ∀ k, k ≤ n → sumTo (fun j => cnt (if j < n then std h len (endA h len i + 1 + j) else .nil)) k = sumTo (fun j => cnt (std h len (endA h len i + 1 + j))) k := by
    intro k
    induction k with
    | zero => intro _; rfl
    | succ k ih =>
      intro hk
      show sumTo _ k + cnt (if k < n then std h len (endA h len i + 1 + k) else .nil) = sumTo _ k + cnt (std h len (endA h len i + 1 + k))
      rw [ih (by omega), if_pos (by omega)]
  exact this n (Nat.le_refl n)
theorem cntA_pos {h : Nat → Cl} {len i : Nat} : 1 ≤ cntA h len i := by unfold cntA; rw [cnt_eq]; omega
end Go.Proofs.Ytmggaclaoefdaaa
