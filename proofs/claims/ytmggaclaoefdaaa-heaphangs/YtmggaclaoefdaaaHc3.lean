/- Put, walked. -/
import Derived.Test.YtmggaclaoefdaaaHc2
namespace Go.Proofs.Ytmggaclaoefdaaa
open Go.RowKit
set_option linter.unusedVariables false
set_option linter.unusedSimpArgs false

def MpH (m : Nat) (v : Value) (k : Nat) : Prop := k = m ∨ v.ownBlock = some k
/-- A list that lies where another one lay, or in memory that is new since. -/
def FrH (w : World) (v v' : Value) : Prop := ∀ g, v'.ownBlock = some g → v.ownBlock = some g ∨ w.heap.size ≤ g
structure PtW (lo m : Nat) (w0 : World) (v0 : Value) (w : World) (v : Value) (p : HSt) : Prop where
  row : CRw lo w v p.1
  map : IM w m p.2
  bw : Bw (MpH m v0) w0.heap.size w0 w
  fr : FrH w0 v0 v
theorem PtW.mp {lo m : Nat} {w0 : World} {v0 : Value} {w : World} {v : Value} {p : HSt} (h : PtW lo m w0 v0 w v p) : ∀ k, k < w0.heap.size → MpH m v k → MpH m v0 k := fun k hk hm => by
  rcases hm with e | e
  · exact .inl e
  · rcases h.fr k e with e | e
    · exact .inr e
    · omega
theorem PtW.nm {lo m : Nat} {w0 : World} {v0 : Value} {w : World} {v : Value} {p : HSt} {T : Tm} (h : PtW lo m w0 v0 w v p) (hT : TIn w0 T) (hn : NM (MpH m v0) T) : NM (MpH m v) T := hn.anti hT h.mp
theorem PtW.tin {lo m : Nat} {w0 : World} {v0 : Value} {w : World} {v : Value} {p : HSt} {T : Tm} (h : PtW lo m w0 v0 w v p) (hT : TIn w0 T) (hn : NM (MpH m v0) T) : TIn w T := hT.bw h.bw (Nat.le_refl _) hn
theorem PtW.below {lo m : Nat} {w0 : World} {v0 : Value} {w w' : World} {v : Value} {p : HSt} (h : PtW lo m w0 v0 w v p) (hb : Below w.heap.size w w') : PtW lo m w0 v0 w' v p :=
  ⟨h.row.below hb, h.map.kept (grown_of_below hb none) (by simp), h.bw.trans (Bw.ofBelow (hb.mono h.bw.size)), h.fr⟩
theorem PtW.grown {lo m : Nat} {w0 : World} {v0 : Value} {w w' : World} {v v' : Value} {p : HSt} {l : List Cl} (h : PtW lo m w0 v0 w v p) (hr : CRw lo w' v' l) (hg : w.grownBy w' v.ownBlock) (hat : v'.ownBlock = v.ownBlock ∨ v'.ownBlock = some w.heap.size) : PtW lo m w0 v0 w' v' (l, p.2) := by
  refine ⟨hr, h.map.kept hg (h.map.ne_row h.row), h.bw.grown hg h.bw.size (fun k hk => ?_), fun g hg' => ?_⟩
  · rcases h.fr k hk with e | e
    · exact .inr (.inr e)
    · exact .inl e
  · rcases hat with e | e
    · rw [e] at hg'; exact h.fr g hg'
    · rw [e] at hg'; have : w.heap.size = g := Option.some.inj hg'
      exact .inr (by rw [← this]; exact h.bw.size)
theorem PtW.put {lo m : Nat} {w0 : World} {v0 : Value} {w w' : World} {v : Value} {p : HSt} {q : HSt × Int} {e : Ending} (h : PtW lo m w0 v0 w v p) (hr : PtR w lo m v q e w') : ∃ v', e = .returned (.tuple #[v', .int .i64 q.2]) ∧ PtW lo m w0 v0 w' v' q.1 := by
  obtain ⟨v', rfl, h1, h2, h3, h4⟩ := hr
  refine ⟨v', rfl, h1, h2, h.bw.trans ((h3.mono h.bw.size).wide h.mp), fun g hg => ?_⟩
  rcases h4 with e | ⟨g', e, hg'⟩
  · rw [e] at hg; exact h.fr g hg
  · rw [e] at hg; have : g' = g := Option.some.inj hg
    have := h.bw.size
    exact .inr (by omega)
theorem PtW.out {lo m : Nat} {w0 wa : World} {v0 : Value} {w : World} {v : Value} {q : HSt × Int} (hb : Below w0.heap.size w0 wa) (h : PtW lo m wa v0 w v q.1) (hf : v.ownBlock = v0.ownBlock ∨ ∃ g, v.ownBlock = some g ∧ w0.heap.size ≤ g) : PtR w0 lo m v0 q (.returned (.tuple #[v, .int .i64 q.2])) w :=
  ⟨v, rfl, h.row, h.map, (Bw.ofBelow hb).trans (h.bw.mono hb.size), hf⟩
theorem PtW.last {lo m : Nat} {w0 wa : World} {v0 : Value} {w : World} {v : Value} {p : HSt} (hb : Below w0.heap.size w0 wa) (h : PtW lo m wa v0 w v p) (hl : 0 < p.1.length) : v.ownBlock = v0.ownBlock ∨ ∃ g, v.ownBlock = some g ∧ w0.heap.size ≤ g := by
  rcases h.row.2 with ⟨_, h0⟩ | ⟨g, cap, cur, hv, _⟩
  · omega
  · subst hv
    rcases h.fr g rfl with e | e
    · exact .inl e.symm
    · exact .inr ⟨g, rfl, Nat.le_trans hb.size e⟩
theorem frs_succ (at' k : Nat) : frs at' (k + 1) = frs at' k ++ [frC ((at' : Int) + 1 + (k : Int))] := by
  unfold frs
  rw [List.range_succ, List.map_append]
  simp
def PtC (T : Tm) : Prop := ∀ (lo m : Nat) (v : Value) (p : HSt) (w : World), TIn w T → Okv 12 T → NM (MpH m v) T → CRw lo w v p.1 → IM w m p.2 → lo ≤ w.heap.size → p.1.length + 5 * cnt T ≤ 2000000 → Calls Try.prog 86 #[v, T.val, .map (some m)] w (PtR w lo m v (putT T p))
set_option maxRecDepth 100000 in
set_option maxHeartbeats 4000000 in
theorem put_var {T : Tm} (hv : T.v ≠ 0) : PtC T := by
  intro lo m v p w hT hO hN hC hM hlo hl
  cases T with
  | nil => exact hO.elim
  | mk z nm a len cap f =>
  have hz : z ≠ 0 := hv
  have hb : (z != 0) = true := bne_iff_ne.2 hz
  have HBa : Hid (Below w.heap.size w (w.alloc (.cells #[.int .i64 z, .string nm, .slice a len cap] 24))) := (Below.refl _ _).alloc (Nat.le_refl _) _
  have HP : Hid (PtW lo m (w.alloc (.cells #[.int .i64 z, .string nm, .slice a len cap] 24)) v (w.alloc (.cells #[.int .i64 z, .string nm, .slice a len cap] 24)) v p) := ⟨hC.below HBa.out, hM.kept (grown_of_below HBa.out none) (by simp), Bw.refl _ _ _, fun g hg => .inl hg⟩
  have HC : Hid (Calls Try.prog 114 #[v, .int .i64 z, .map (some m)] (w.alloc (.cells #[.int .i64 z, .string nm, .slice a len cap] 24)) (PtR (w.alloc (.cells #[.int .i64 z, .string nm, .slice a len cap] 24)) lo m v (putV z p))) := putVar_any ⟨by have := hO.1; omega, hO.2.1⟩ _ HP.out.row HP.out.map (Nat.le_trans hlo HBa.out.size) (by omega)
  have HE : Hid (putT (.mk z nm a len cap f) p = putV z p) := by rw [Hid]; unfold putT; rw [if_pos hz]
  clear hT hO hN hC hM hlo hl hz hv
  show Calls Try.prog 86 #[v, .agg #[.int .i64 z, .string nm, .slice a len cap], .map (some m)] w _
  go_enter Try.func86, Try.ntmps86
  go_wp2_with fail
  refine HC.out.mono ?_
  rintro e w1 ⟨v', rfl, h1, h2, h3, h4⟩
  go_wp2_with fail
  refine bodyPost_ret (v := .tuple #[v', .int .i64 (putV z p).2]) (by simp [results, Try.results86, go_sem]) rfl ?_
  rw [HE.out]
  refine ⟨v', rfl, h1, h2, (Bw.ofBelow HBa.out).trans (h3.mono HBa.out.size), ?_⟩
  rcases h4 with e | ⟨g, e, hg⟩
  · exact .inl e
  · exact .inr ⟨g, e, Nat.le_trans HBa.out.size hg⟩
set_option maxRecDepth 100000 in
set_option maxHeartbeats 8000000 in
theorem put_fn {nm : ByteArray} {a : Option Addr} {len cap : Nat} {f : Nat → Tm} (ih : ∀ i, i < len → PtC (f i)) : PtC (.mk 0 nm a len cap f) := by
  intro lo m v p w hT hO hN hC hM hlo hl
  obtain ⟨l, σ⟩ := p
  have hcn : cnt (.mk 0 nm a len cap f) = 1 + sumTo (fun i => cnt (f i)) len := rfl
  have HIH : Hid (∀ i, i < len → PtC (f i)) := ih
  have HOk : Hid (∀ i, i < len → Okv 12 (f i)) := hO.2.2.2.2
  have hl4 : len ≤ 4 := hO.2.2.2.1
  obtain ⟨sa, cp, rfl, hcp, _⟩ := hC.form
  have HBa : Hid (Below w.heap.size w (w.alloc (.cells #[.int .i64 0, .string nm, .slice a len cap] 24))) := (Below.refl _ _).alloc (Nat.le_refl _) _
  have HTa : Hid (TIn (w.alloc (.cells #[.int .i64 0, .string nm, .slice a len cap] 24)) (.mk 0 nm a len cap f)) := hT.below HBa.out
  have HXa : Hid ((w.alloc (.cells #[.int .i64 0, .string nm, .slice a len cap] 24)).heap[w.heap.size]? = some (.cells #[.int .i64 0, .string nm, .slice a len cap] 24)) := heap_alloc_new _ _
  have HPa : Hid (PtW lo m (w.alloc (.cells #[.int .i64 0, .string nm, .slice a len cap] 24)) (.slice sa l.length cp) (w.alloc (.cells #[.int .i64 0, .string nm, .slice a len cap] 24)) (.slice sa l.length cp) (l, σ)) := ⟨hC.below HBa.out, hM.kept (grown_of_below HBa.out none) (by simp), Bw.refl _ _ _, fun g hg => .inl hg⟩
  have hsa : (w.alloc (.cells #[.int .i64 0, .string nm, .slice a len cap] 24)).heap.size = w.heap.size + 1 := by simp
  have HNe : Hid (¬ MpH m (.slice sa l.length cp) w.heap.size) := by
    rintro (e | e)
    · have := hM.lt; omega
    · have := (hC.lt _ e).2; omega
  have HNM : Hid (NM (MpH m (.slice sa l.length cp)) (.mk 0 nm a len cap f)) := hN
  have hlo' : lo ≤ w.heap.size := hlo
  have hll : l.length + 5 * (1 + sumTo (fun i => cnt (f i)) len) ≤ 2000000 := by have h9 := hl; rw [hcn] at h9; exact h9
  have HE : Hid (putT (.mk 0 nm a len cap f) (l, σ) = (putK (fun i => putT (f i)) l.length len (l ++ (⟨2, len, nm⟩ :: frs l.length len), σ), (l.length : Int))) := by rw [Hid]; unfold putT; rw [if_neg (by simp)]
  obtain ⟨i0, hi, hi0, hi1, hi2⟩ := info_parts infoC
  clear hT hO hN hC hM hlo hl ih hcn
  show Calls Try.prog 86 #[.slice sa l.length cp, .agg #[.int .i64 0, .string nm, .slice a len cap], .map (some m)] w _
  go_enter Try.func86, Try.ntmps86
  have HPb : Hid (PtW lo m (w.alloc (.cells #[.int .i64 0, .string nm, .slice a len cap] 24)) (.slice sa l.length cp) ((w.alloc (.cells #[.int .i64 0, .string nm, .slice a len cap] 24)).alloc (.cells #[.int .i64 2, .int .i64 (len : Int), .string nm] 128)) (.slice sa l.length cp) (l, σ)) := HPa.out.below ((Below.refl _ _).alloc (Nat.le_refl _) _)
  have HNb : Hid (∀ j u, (flatC [(⟨2, len, nm⟩ : Cl)])[j]? = some u → ((w.alloc (.cells #[.int .i64 0, .string nm, .slice a len cap] 24)).alloc (.cells #[.int .i64 2, .int .i64 (len : Int), .string nm] 128)).cell? ((⟨w.heap.size + 1, 0, none⟩ : Addr).add j) = some u) := by
    have h9 := newsC1 (w.alloc (.cells #[.int .i64 0, .string nm, .slice a len cap] 24)) (⟨2, len, nm⟩ : Cl)
    rw [hsa] at h9
    exact h9
  have hlb : lo ≤ ((w.alloc (.cells #[.int .i64 0, .string nm, .slice a len cap] 24)).alloc (.cells #[.int .i64 2, .int .i64 (len : Int), .string nm] 128)).heap.size := by simp; omega
  go_wp2_with (at_builtin; refine wpList_append_own_at _ rfl (.tmp 25) (.tmp 32) 54 rfl lo 128 i0 (.agg #[.int .i64 0, .int .i64 0, .string ByteArray.empty]) 3 32 Try.underlying54 hi hi0 hi1 hi2 rfl (by decide) (.slice sa l.length cp) l.length (flatC l) rfl HPb.out.row ⟨w.heap.size + 1, 0, none⟩ 1 1 (flatC [(⟨2, len, nm⟩ : Cl)]) rfl rfl HNb.out (flatC_one _) (by unfold maxLen; omega) (by omega) hlb ?_; intro v' w6 hown' hgrow hnil hat; have HP6 : Hid (PtW lo m (w.alloc (.cells #[.int .i64 0, .string nm, .slice a len cap] 24)) (.slice sa l.length cp) w6 v' (l ++ [(⟨2, len, nm⟩ : Cl)], σ)) := HPb.out.grown (by unfold CRw; rw [flatC_append, List.length_append]; exact hown') hgrow hat; have HX6 : Hid (w6.heap[w.heap.size]? = some (.cells #[.int .i64 0, .string nm, .slice a len cap] 24)) := (HP6.out.bw.block _ (by omega) HNe.out).trans HXa.out; obtain ⟨x0, x1, x2, _⟩ := block_cells HX6.out; clear hown' hgrow hnil hat)
  generalize hwa : w.alloc (.cells #[.int .i64 0, .string nm, .slice a len cap] 24) = wa at *
  clear HPb HNb hlb x0 x1 x2
  go_loopw [0, 37] (fun hv iv wq => ∃ k : Nat, k ≤ len ∧ iv = .int .i64 k ∧ PtW lo m wa (.slice sa l.length cp) wq hv (l ++ (⟨2, len, nm⟩ :: frs l.length k), σ)) (fun _ v _ => len - (intOf v).toNat)
  case atStart => exact ⟨0, Nat.zero_le _, rfl, HP6.out⟩
  case round =>
    obtain ⟨k, hk, rfl, hP⟩ := hrel
    have HP : Hid (PtW lo m wa (.slice sa l.length cp) wr u0 (l ++ (⟨2, len, nm⟩ :: frs l.length k), σ)) := hP
    have hLk : (l ++ ((⟨2, len, nm⟩ : Cl) :: frs l.length k)).length = l.length + 1 + k := by simp [frs]; omega
    obtain ⟨sb, cb, rfl, hcb, _⟩ := hP.row.form
    simp only [hLk] at HP hP hcb ⊢
    have hsr := hP.bw.size
    clear hP HP6 HX6
    by_cases hlt : k < len
    case pos =>
      have hkI : (k : Int) < (len : Int) := by omega
      have HF : Hid (Calls Try.prog 115 #[.int .i64 ((l.length : Int) + 1 + (k : Int))] wr fun e w' => e = .returned (celV (frC ((l.length : Int) + 1 + (k : Int)))) ∧ Below wr.heap.size wr w') := free_any _ wr
      have hw1 : IntKind.i64.wrap ((l.length : Int) + 1) = (l.length : Int) + 1 := by simp [IntKind.wrap, IntKind.bits, IntKind.signed]; omega
      have hw2 : IntKind.i64.wrap ((l.length : Int) + 1 + (k : Int)) = (l.length : Int) + 1 + (k : Int) := by simp [IntKind.wrap, IntKind.bits, IntKind.signed]; omega
      go_wp2_with fail
      refine HF.out.mono ?_
      rintro e w7 ⟨rfl, hb7⟩
      rw [show celV (frC ((l.length : Int) + 1 + (k : Int))) = .agg #[.int .i64 1, .int .i64 ((l.length : Int) + 1 + (k : Int)), .string ⟨#[]⟩] from rfl]
      have HP8 : Hid (PtW lo m wa (.slice sa l.length cp) (w7.alloc (.cells #[.int .i64 1, .int .i64 ((l.length : Int) + 1 + (k : Int)), .string ⟨#[]⟩] 128)) (.slice sb (l.length + 1 + k) cb) (l ++ (⟨2, len, nm⟩ :: frs l.length k), σ)) := HP.out.below (below_alloc hb7 _)
      have HR8 : Hid ((w7.alloc (.cells #[.int .i64 1, .int .i64 ((l.length : Int) + 1 + (k : Int)), .string ⟨#[]⟩] 128)).ownsRow lo 128 3 (.slice sb (l.length + 1 + k) cb) (l.length + 1 + k) (flatC (l ++ (⟨2, len, nm⟩ :: frs l.length k)))) := by
        have h9 := HP8.out.row
        unfold CRw at h9
        rw [hLk] at h9
        exact h9
      have HN8 : Hid (∀ j u, (flatC [frC ((l.length : Int) + 1 + (k : Int))])[j]? = some u → (w7.alloc (.cells #[.int .i64 1, .int .i64 ((l.length : Int) + 1 + (k : Int)), .string ⟨#[]⟩] 128)).cell? ((⟨w7.heap.size, 0, none⟩ : Addr).add j) = some u) := newsC1 w7 (frC ((l.length : Int) + 1 + (k : Int)))
      have hl8 : lo ≤ (w7.alloc (.cells #[.int .i64 1, .int .i64 ((l.length : Int) + 1 + (k : Int)), .string ⟨#[]⟩] 128)).heap.size := by have := hb7.size; simp; omega
      clear hb7
      go_wp2_with (at_builtin; refine wpList_append_own_at _ rfl (.tmp 40) (.tmp 46) 54 rfl lo 128 i0 (.agg #[.int .i64 0, .int .i64 0, .string ByteArray.empty]) 3 32 Try.underlying54 hi hi0 hi1 hi2 rfl (by decide) (.slice sb (l.length + 1 + k) cb) (l.length + 1 + k) (flatC (l ++ (⟨2, len, nm⟩ :: frs l.length k))) rfl HR8.out ⟨w7.heap.size, 0, none⟩ 1 1 (flatC [frC ((l.length : Int) + 1 + (k : Int))]) rfl rfl HN8.out (flatC_one _) (by unfold maxLen; omega) (by omega) hl8 ?_; intro v9 w9 hown' hgrow hnil hat; have HP9 : Hid (PtW lo m wa (.slice sa l.length cp) w9 v9 (l ++ (⟨2, len, nm⟩ :: frs l.length (k + 1)), σ)) := HP8.out.grown (by unfold CRw; rw [frs_succ, ← List.cons_append, ← List.append_assoc, flatC_append, List.length_append, hLk]; exact hown') hgrow hat; clear hown' hgrow hnil hat)
      go_roundw
      case rel => exact ⟨k + 1, by omega, by go_num, HP9.out⟩
      case measure => simp [intOf]; omega
    have hkI : ¬ ((k : Int) < (len : Int)) := by omega
    obtain rfl : k = len := by omega
    have HXr : Hid (wr.heap[w.heap.size]? = some (.cells #[.int .i64 0, .string nm, .slice a k cap] 24)) := (HP.out.bw.block _ (by omega) HNe.out).trans HXa.out
    obtain ⟨x0, x1, x2, _⟩ := block_cells HXr.out
    have HKL : Hid (∀ j, j ≤ k → l.length + 1 + k ≤ (putK (fun i => putT (f i)) l.length j (l ++ (⟨2, k, nm⟩ :: frs l.length k), σ)).1.length ∧ (putK (fun i => putT (f i)) l.length j (l ++ (⟨2, k, nm⟩ :: frs l.length k), σ)).1.length + j ≤ l.length + 1 + k + 2 * sumTo (fun i => cnt (f i)) j) := fun j hj => by
      have h9 := putK_len (g := fun i => putT (f i)) (c := fun i => cnt (f i)) (fun i hi' => putT_len (HOk.out i hi')) l.length (l ++ (⟨2, k, nm⟩ :: frs l.length k), σ) j hj
      rw [show ((l ++ ((⟨2, k, nm⟩ : Cl) :: frs l.length k)), σ).1.length = l.length + 1 + k from hLk] at h9
      exact h9
    generalize hwr : wr = W1 at *
    go_wp2_with fail
    clear x0 x1 x2 HXr
    go_loopw [0, 52] (fun hv iv wq => ∃ j : Nat, j ≤ k ∧ iv = .int .i64 j ∧ PtW lo m wa (.slice sa l.length cp) wq hv (putK (fun i => putT (f i)) l.length j (l ++ (⟨2, k, nm⟩ :: frs l.length k), σ))) (fun _ v _ => k - (intOf v).toNat)
    case atStart => exact ⟨0, Nat.zero_le _, rfl, HP.out⟩
    case round =>
      obtain ⟨j, hj, rfl, hP⟩ := hrel
      obtain ⟨hL1, hL2⟩ := HKL.out j hj
      have hsr := hP.bw.size
      have hSm : sumTo (fun i => cnt (f i)) j ≤ sumTo (fun i => cnt (f i)) k := sumTo_le _ hj
      by_cases hlt : j < k
      case pos =>
        have HKS : Hid (putK (fun i => putT (f i)) l.length (j + 1) (l ++ (⟨2, k, nm⟩ :: frs l.length k), σ) = (((putT (f j) (putK (fun i => putT (f i)) l.length j (l ++ (⟨2, k, nm⟩ :: frs l.length k), σ))).1.1.set (l.length + 1 + j) (setN (hOf (putT (f j) (putK (fun i => putT (f i)) l.length j (l ++ (⟨2, k, nm⟩ :: frs l.length k), σ))).1.1 (l.length + 1 + j)) (putT (f j) (putK (fun i => putT (f i)) l.length j (l ++ (⟨2, k, nm⟩ :: frs l.length k), σ))).2)), (putT (f j) (putK (fun i => putT (f i)) l.length j (l ++ (⟨2, k, nm⟩ :: frs l.length k), σ))).1.2)) := rfl
        generalize putK (fun i => putT (f i)) l.length j (l ++ (⟨2, k, nm⟩ :: frs l.length k), σ) = q at *
        have hSm1 : sumTo (fun i => cnt (f i)) j + cnt (f j) ≤ sumTo (fun i => cnt (f i)) k := sumTo_le (fun i => cnt (f i)) (show j + 1 ≤ k from hlt)
        have HP : Hid (PtW lo m wa (.slice sa l.length cp) wr u0 q) := hP
        obtain ⟨sc, cc, rfl, hcc, _⟩ := hP.row.form
        have hjI : (j : Int) < (k : Int) := by omega
        have hT := hP.tin HTa.out HNM.out
        have hK : TIn wr (f j) := TIn.kid (T := .mk 0 nm a k cap f) hT hlt
        obtain ⟨b, o, ha, c0, c1, c2⟩ := TIn.row (T := .mk 0 nm a k cap f) hT hlt
        have ha' : a = some ⟨b, o, none⟩ := ha
        subst ha'
        have c0' : wr.cell? ⟨b, o + j * 3, none⟩ = some (.int .i64 (f j).v) := c0
        have c1' : wr.cell? ⟨b, o + j * 3 + 1, none⟩ = some (.string (f j).nm) := c1
        have c2' : wr.cell? ⟨b, o + j * 3 + 2, none⟩ = some (.slice (f j).a (f j).len (f j).cap) := c2
        have HNj : Hid (NM (MpH m (.slice sc q.1.length cc)) (f j)) := NM.kid (T := .mk 0 nm (some ⟨b, o, none⟩) k cap f) (hP.nm HTa.out HNM.out) hlt
        have HBb : Hid (Below wr.heap.size wr (wr.alloc (.cells #[.int .i64 (f j).v, .string (f j).nm, .slice (f j).a (f j).len (f j).cap] 24))) := (Below.refl _ _).alloc (Nat.le_refl _) _
        have HPb : Hid (PtW lo m wa (.slice sa l.length cp) (wr.alloc (.cells #[.int .i64 (f j).v, .string (f j).nm, .slice (f j).a (f j).len (f j).cap] 24)) (.slice sc q.1.length cc) q) := hP.below HBb.out
        have hsb := HBb.out.size
        have HCl : Hid (Calls Try.prog 86 #[.slice sc q.1.length cc, .agg #[.int .i64 (f j).v, .string (f j).nm, .slice (f j).a (f j).len (f j).cap], .map (some m)] (wr.alloc (.cells #[.int .i64 (f j).v, .string (f j).nm, .slice (f j).a (f j).len (f j).cap] 24)) (PtR (wr.alloc (.cells #[.int .i64 (f j).v, .string (f j).nm, .slice (f j).a (f j).len (f j).cap] 24)) lo m (.slice sc q.1.length cc) (putT (f j) q))) := HIH.out j hlt lo m (.slice sc q.1.length cc) q _ (hK.below HBb.out) (HOk.out j hlt) HNj.out HPb.out.row HPb.out.map (by omega) (by omega)
        have HTl : Hid (q.1.length ≤ (putT (f j) q).1.1.length) := (putT_len (HOk.out j hlt) q).1
        have hw1 : IntKind.i64.wrap ((l.length : Int) + 1) = (l.length : Int) + 1 := by simp [IntKind.wrap, IntKind.bits, IntKind.signed]; omega
        have hw2 : IntKind.i64.wrap ((l.length : Int) + 1 + (j : Int)) = ((l.length + 1 + j : Nat) : Int) := by simp [IntKind.wrap, IntKind.bits, IntKind.signed]; omega
        clear hP hT hK c0 c1 c2 ha hcc
        go_wp2_with fail
        refine HCl.out.mono ?_
        intro e w8 hR
        obtain ⟨v', rfl, hP8⟩ := HPb.out.put hR
        generalize hrr : putT (f j) q = r at *
        have hl8 : l.length + 1 + j < r.1.1.length := by have := HTl.out; omega
        obtain ⟨g, cg, rfl⟩ : ∃ g cg, v' = .slice (some ⟨g, 0, none⟩) r.1.1.length cg := by
          rcases hP8.row.2 with ⟨_, h0⟩ | ⟨g, cg, cur, hv, _⟩
          · omega
          · exact ⟨g, cg, hv⟩
        have hl8I : (((l.length + 1 + j : Nat) : Int)) < (r.1.1.length : Int) := by omega
        have y1 : ∃ y, w8.cell? ⟨g, (l.length + 1 + j) * 3 + 1, none⟩ = some y := by
          have h9 := World.ownsRow.cellAt hP8.row ((l.length + 1 + j) * 3 + 1) (by omega)
          rw [(flatC_get r.1.1 (l.length + 1 + j) hl8).2.1] at h9
          exact ⟨_, h9⟩
        obtain ⟨y, y1⟩ := y1
        have yf : w8.frozen? ⟨g, (l.length + 1 + j) * 3 + 1, none⟩ = false := by
          rcases hP8.row.2 with ⟨h', _⟩ | ⟨g', cap', cur, h', _, hg', _⟩
          · cases h'
          · cases h'
            simp [World.frozen?, hg']
        have HP9 : Hid (PtW lo m wa (.slice sa l.length cp) (w8.setCell ⟨g, (l.length + 1 + j) * 3 + 1, none⟩ (.int .i64 r.2)) (.slice (some ⟨g, 0, none⟩) r.1.1.length cg) (putK (fun i => putT (f i)) l.length (j + 1) (l ++ (⟨2, k, nm⟩ :: frs l.length k), σ))) := by
          rw [Hid, HKS.out, hOf_get hl8]
          have hg9 := grown_set (W := w8) g ((l.length + 1 + j) * 3 + 1) (.int .i64 r.2)
          exact hP8.grown (hP8.row.setN rfl hl8 r.2) hg9 (.inl rfl)
        clear hR hP8 HKS
        go_wp2_with fail
        go_roundw
        case rel => exact ⟨j + 1, by omega, by go_num, HP9.out⟩
        case measure => simp [intOf]; omega
      have hjI : ¬ ((j : Int) < (k : Int)) := by omega
      obtain rfl : j = k := by omega
      have HP : Hid (PtW lo m wa (.slice sa l.length cp) wr u0 (putK (fun i => putT (f i)) l.length j (l ++ (⟨2, j, nm⟩ :: frs l.length j), σ))) := hP
      have hlast := hP.last (w0 := w) HBa.out (by omega)
      clear hP
      go_wp2_with fail
      refine bodyPost_ret (v := .tuple #[u0, .int .i64 (l.length : Int)]) (by simp [results, Try.results86, go_sem]) rfl ?_
      rw [HE.out]
      exact PtW.out (q := (putK (fun i => putT (f i)) l.length j (l ++ (⟨2, j, nm⟩ :: frs l.length j), σ), (l.length : Int))) HBa.out HP.out hlast
theorem put_all (T : Tm) : PtC T := by
  induction T with
  | nil => intro lo m v p w hT hO; exact hO.elim
  | mk v nm a len cap f ih =>
    by_cases hv : v = 0
    · subst hv; exact put_fn (fun i _ => ih i)
    · exact put_var hv
end Go.Proofs.Ytmggaclaoefdaaa
