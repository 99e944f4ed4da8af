/- Put: a term laid behind a heap; its pure twin; putVar and Put, walked. -/
import Derived.Test.YtmggaclaoefdaaaGBB
import Derived.Test.YtmggaclaoefdaaaGAH
namespace Go.Proofs.Ytmggaclaoefdaaa
open Go.RowKit
set_option linter.unusedVariables false
set_option linter.unusedSimpArgs false

abbrev HSt := List Cl × (Int → Option Int)
/-- A variable put behind a heap: it has one cell. -/
def putV (n : Int) (p : HSt) : HSt × Int := match p.2 n with
  | some at' => (p, at')
  | none => ((p.1 ++ [frC p.1.length], updI p.2 n p.1.length), p.1.length)
def putK (g : Nat → HSt → HSt × Int) (at' : Nat) : Nat → HSt → HSt
  | 0, p => p
  | k + 1, p => (((g k (putK g at' k p)).1.1.set (at' + 1 + k) (setN (hOf (g k (putK g at' k p)).1.1 (at' + 1 + k)) (g k (putK g at' k p)).2)), (g k (putK g at' k p)).1.2)
def frs (at' : Nat) (k : Nat) : List Cl := (List.range k).map fun i : Nat => frC (at' + 1 + i : Nat)
def putT : Tm → HSt → HSt × Int
  | .nil, p => (p, 0)
  | .mk v nm a len cap f, p => if v ≠ 0 then putV v p else (putK (fun i => putT (f i)) p.1.length len (p.1 ++ (⟨2, len, nm⟩ :: frs p.1.length len), p.2), p.1.length)
theorem putV_len (n : Int) (p : HSt) : p.1.length ≤ (putV n p).1.1.length ∧ (putV n p).1.1.length ≤ p.1.length + 1 := by
  unfold putV
  split
  · exact ⟨Nat.le_refl _, Nat.le_succ _⟩
  · simp
theorem putK_len {g : Nat → HSt → HSt × Int} {c : Nat → Nat} {len : Nat} (hg : ∀ k, k < len → ∀ p : HSt, p.1.length ≤ (g k p).1.1.length ∧ (g k p).1.1.length + 1 ≤ p.1.length + 2 * c k) (at' : Nat) (p : HSt) : ∀ k, k ≤ len → p.1.length ≤ (putK g at' k p).1.length ∧ (putK g at' k p).1.length + k ≤ p.1.length + 2 * sumTo c k := by
  intro k
  induction k with
  | zero => intro _; exact ⟨Nat.le_refl _, by simp [putK, sumTo]⟩
  | succ k ih =>
    intro hk
    obtain ⟨h1, h2⟩ := ih (by omega)
    obtain ⟨h3, h4⟩ := hg k (by omega) (putK g at' k p)
    have e : (putK g at' (k + 1) p).1.length = (g k (putK g at' k p)).1.1.length := by simp [putK]
    rw [e]
    refine ⟨by omega, ?_⟩
    show _ ≤ _ + 2 * (sumTo c k + c k)
    omega
theorem putT_len {N : Int} {T : Tm} (hT : Okv N T) : ∀ p : HSt, p.1.length ≤ (putT T p).1.1.length ∧ (putT T p).1.1.length + 1 ≤ p.1.length + 2 * cnt T := by
  induction T with
  | nil => exact hT.elim
  | mk v nm a len cap f ih =>
    intro p
    have hc : cnt (.mk v nm a len cap f) = 1 + sumTo (fun i => cnt (f i)) len := rfl
    unfold putT
    by_cases hv : v = 0
    · rw [if_neg (by simp [hv])]
      have := putK_len (g := fun i => putT (f i)) (c := fun i => cnt (f i)) (fun k hk => ih k (hT.2.2.2.2 k hk)) p.1.length (p.1 ++ (⟨2, len, nm⟩ :: frs p.1.length len), p.2) len (Nat.le_refl _)
      have hL : (p.1 ++ ((⟨2, len, nm⟩ : Cl) :: frs p.1.length len), p.2).1.length = p.1.length + (len + 1) := by simp [frs]
      rw [hL] at this
      rw [hc]
      generalize (putK (fun i => putT (f i)) p.1.length len (p.1 ++ (⟨2, len, nm⟩ :: frs p.1.length len), p.2)) = r at *
      show _ ≤ r.1.length ∧ r.1.length + 1 ≤ _
      omega
    · rw [if_pos hv, hc]
      have := putV_len v p
      omega
theorem newsC1 (w : World) (c : Cl) : ∀ j u, (flatC [c])[j]? = some u → (w.alloc (.cells #[.int .i64 c.k, .int .i64 c.n, .string c.nm] 128)).cell? ((⟨w.heap.size, 0, none⟩ : Addr).add j) = some u := by
  intro j u hj
  have hb := heap_alloc_new w (.cells #[.int .i64 c.k, .int .i64 c.n, .string c.nm] 128)
  rw [addr_add, cell_of_row _ _ _ _ _ _ hb]
  simpa [flatC, cellsC] using hj
/-- What Put answers. -/
def PtR (w : World) (lo m : Nat) (v : Value) (q : HSt × Int) (e : Ending) (w' : World) : Prop := ∃ v', e = .returned (.tuple #[v', .int .i64 q.2]) ∧ CRw lo w' v' q.1.1 ∧ IM w' m q.1.2 ∧ Bw (fun k => k = m ∨ v.ownBlock = some k) w.heap.size w w' ∧ (v'.ownBlock = v.ownBlock ∨ ∃ g, v'.ownBlock = some g ∧ w.heap.size ≤ g)
theorem CRw.kept {lo : Nat} {w w' : World} {v : Value} {l : List Cl} {row : Option Nat} (h : CRw lo w v l) (hg : w.grownBy w' row) (hne : v.ownBlock = none ∨ v.ownBlock ≠ row) : CRw lo w' v l := World.ownsRow.kept h hg hne
theorem CRw.lt {lo : Nat} {w : World} {v : Value} {l : List Cl} (h : CRw lo w v l) : ∀ g, v.ownBlock = some g → lo ≤ g ∧ g < w.heap.size := World.ownsRow.lt h
theorem kept_nn (v : Value) : v.ownBlock = none ∨ v.ownBlock ≠ none := by
  cases v.ownBlock with
  | none => exact .inl rfl
  | some g => exact .inr (by simp)
theorem CRw.below {lo : Nat} {w w' : World} {v : Value} {l : List Cl} (h : CRw lo w v l) (hb : Below w.heap.size w w') : CRw lo w' v l := h.kept (grown_of_below hb none) (kept_nn _)
theorem IM.ne_row {lo : Nat} {w : World} {m : Nat} {σ : Int → Option Int} {v : Value} {l : List Cl} (h : IM w m σ) (hC : CRw lo w v l) : some m ≠ v.ownBlock := fun e => by
  rcases hC.2 with ⟨hv, _⟩ | ⟨g, cap, cur, hv, _, hg, _⟩
  · subst hv; cases e
  · subst hv
    have : m = g := Option.some.inj e
    subst this
    exact h.ne_block hg rfl
set_option maxRecDepth 100000 in
set_option maxHeartbeats 2000000 in
theorem putVar_any {lo m : Nat} {v : Value} {p : HSt} {n : Int} (hn : 0 < n ∧ n ≤ 12) (w : World) (hC : CRw lo w v p.1) (hM : IM w m p.2) (hlo : lo ≤ w.heap.size) (hl : p.1.length ≤ 2000000) :
    Calls Try.prog 114 #[v, .int .i64 n, .map (some m)] w (PtR w lo m v (putV n p)) := by
  obtain ⟨l, σ⟩ := p
  have hlk := hM.look2 (i := n) (by omega) (by omega)
  obtain ⟨sa, cp, rfl, hcp, _⟩ := hC.form
  have HC : Hid (CRw lo w (.slice sa l.length cp) l) := hC
  have HM : Hid (IM w m σ) := hM
  have HNe : Hid (some m ≠ (Value.slice sa l.length cp).ownBlock) := hM.ne_row hC
  have hl' : l.length ≤ 2000000 := hl
  cases hσ : σ n with
  | some x =>
    have HP : Hid (putV n (l, σ) = ((l, σ), x)) := by rw [Hid]; unfold putV; simp only [hσ]
    have hlk' : (Instr.lookup 124 (.map (some m)) (.int .i64 n) true).run Try.prog w = .ok (.tuple #[.int .i64 x, .bool true]) w := by
      have h9 := hlk
      simp only [hσ] at h9
      exact h9
    clear hlk hC hM hl hσ
    go_enter Try.func114, Try.ntmps114
    go_wp2_with fail
    refine bodyPost_ret (v := .tuple #[.slice sa l.length cp, .int .i64 x]) ?_ rfl (by rw [HP.out]; exact ⟨_, rfl, HC.out, HM.out, Bw.refl _ _ _, .inl rfl⟩)
    simp [results, Try.results114, go_sem]
  | none =>
    have HP : Hid (putV n (l, σ) = ((l ++ [frC l.length], updI σ n l.length), (l.length : Int))) := by rw [Hid]; unfold putV; simp only [hσ]
    have hlk' : (Instr.lookup 124 (.map (some m)) (.int .i64 n) true).run Try.prog w = .ok (.tuple #[.int .i64 0, .bool false]) w := by
      have h9 := hlk
      simp only [hσ] at h9
      exact h9
    obtain ⟨w1, hrun, hm1, hg1⟩ := hM.store (i := n) (by omega) (by omega) (l.length : Int)
    have HC1 : Hid (CRw lo w1 (.slice sa l.length cp) l) := hC.kept hg1 (.inr fun e => HNe.out e.symm)
    have HM1 : Hid (IM w1 m (updI σ n l.length)) := hm1
    have HB1 : Hid (Bw (fun k => k = m ∨ (Value.slice sa l.length cp).ownBlock = some k) w.heap.size w w1) := ⟨hg1.os, hg1.tape, hg1.output, hg1.size, fun k hk hn => hg1.block k hk (fun e => hn (.inl (Option.some.inj e)))⟩
    have HF : Hid (∀ W : World, Calls Try.prog 115 #[.int .i64 (l.length : Int)] W fun e w' => e = .returned (celV (frC l.length)) ∧ Below W.heap.size W w') := fun W => free_any _ W
    have hs1 := hg1.size
    obtain ⟨i0, hi, hi0, hi1, hi2⟩ := info_parts infoC
    clear hlk hC hM hl hσ hm1 hg1
    go_enter Try.func114, Try.ntmps114
    go_wp2_with fail
    refine (HF.out _).mono ?_
    rintro e w2 ⟨rfl, hb2⟩
    rw [show celV (frC (l.length : Int)) = .agg #[.int .i64 1, .int .i64 (l.length : Int), .string ⟨#[]⟩] from rfl]
    have HB3 : Hid (Below w1.heap.size w1 (w2.alloc (.cells #[.int .i64 1, .int .i64 (l.length : Int), .string ⟨#[]⟩] 128))) := below_alloc hb2 _
    have HC3 : Hid (CRw lo (w2.alloc (.cells #[.int .i64 1, .int .i64 (l.length : Int), .string ⟨#[]⟩] 128)) (.slice sa l.length cp) l) := HC1.out.below HB3.out
    have HN3 : Hid (∀ j u, (flatC [frC (l.length : Int)])[j]? = some u → (w2.alloc (.cells #[.int .i64 1, .int .i64 (l.length : Int), .string ⟨#[]⟩] 128)).cell? ((⟨w2.heap.size, 0, none⟩ : Addr).add j) = some u) := newsC1 w2 (frC (l.length : Int))
    have hs3 : w.heap.size ≤ (w2.alloc (.cells #[.int .i64 1, .int .i64 (l.length : Int), .string ⟨#[]⟩] 128)).heap.size := by have := HB3.out.size; omega
    have hlo3 : lo ≤ (w2.alloc (.cells #[.int .i64 1, .int .i64 (l.length : Int), .string ⟨#[]⟩] 128)).heap.size := by omega
    have HM3 : Hid (IM (w2.alloc (.cells #[.int .i64 1, .int .i64 (l.length : Int), .string ⟨#[]⟩] 128)) m (updI σ n l.length)) := HM1.out.kept (grown_of_below HB3.out none) (by simp)
    have HW3 : Hid (Bw (fun k => k = m ∨ (Value.slice sa l.length cp).ownBlock = some k) w.heap.size w (w2.alloc (.cells #[.int .i64 1, .int .i64 (l.length : Int), .string ⟨#[]⟩] 128))) := HB1.out.trans (Bw.ofBelow (HB3.out.mono hs1))
    clear hb2
    go_wp2_with (at_builtin; refine wpList_append_own_at _ rfl (.tmp 24) (.tmp 27) 54 rfl lo 128 i0 (.agg #[.int .i64 0, .int .i64 0, .string ByteArray.empty]) 3 32 Try.underlying54 hi hi0 hi1 hi2 rfl (by decide) (.slice sa l.length cp) l.length (flatC l) rfl HC3.out ⟨w2.heap.size, 0, none⟩ 1 1 (flatC [frC (l.length : Int)]) rfl rfl HN3.out (flatC_one _) (by unfold maxLen; omega) (by omega) hlo3 ?_; intro v' w6 hown' hgrow hnil hat)
    refine bodyPost_ret (v := .tuple #[v', .int .i64 (l.length : Int)]) (by simp [results, Try.results114, go_sem]) rfl ?_
    rw [HP.out]
    refine ⟨v', rfl, ?_, HM3.out.kept hgrow HNe.out, HW3.out.grown hgrow hs3 (fun k hk => .inr (.inr hk)), ?_⟩
    · unfold CRw
      rw [flatC_append, List.length_append]
      exact hown'
    · rcases hat with h | h
      · exact .inl h
      · exact .inr ⟨_, h, hs3⟩
end Go.Proofs.Ytmggaclaoefdaaa
