/- The reference's CheckHeap: what it answers. The program's heap: one cell, looked at. Terms without their places: making them the same, and what they are, does not hang on the places. -/
import Derived.Test.YtmggaclaoefdaaaHp3
import Derived.Test.YtmggaclaoefdaaaGAB
import Derived.Test.YtmggaclaoefdaaaGAC
import Derived.Test.YtmggaclaoefdaaaUni4
namespace Go.Proofs.Ytmggaclaoefdaaa
open Go.RowKit

def kidsB (h : Nat → Cl) (i m : Nat) : Bool := allTo (fun j => (h (i + 1 + j)).k == 1) m
/-- The error of one cell. -/
def cellE (h : Nat → Cl) (len i : Nat) : Int :=
  if (h i).k = 1 then (if btw (h i).n 0 ((len : Int) - 1) = true then (if (h i).nm.toList = [] then 0 else 1) else 5)
  else if (h i).k = 2 then (if nameB (h i).nm = true ∧ btw (h i).n 0 4 = true ∧ ¬ ((h i).nm.toList = [33] ∧ 0 < (h i).n) then (if (len : Int) - 1 < (i : Int) + (h i).n then 5 else if kidsB h i (h i).n.toNat = true then 0 else 1) else 1)
  else 1
def firstE (h : Nat → Cl) (len : Nat) : Nat → Int
  | 0 => 0
  | k + 1 => if firstE h len k ≠ 0 then firstE h len k else cellE h len k
theorem firstE_stop {h : Nat → Cl} {len i : Nat} (h0 : firstE h len i = 0) (h1 : cellE h len i ≠ 0) : ∀ k, i < k → firstE h len k = cellE h len i := by
  intro k
  induction k with
  | zero => intro hk; omega
  | succ k ih =>
    intro hk
    show (if firstE h len k ≠ 0 then firstE h len k else cellE h len k) = _
    by_cases e : k = i
    · subst e; rw [if_neg (by simpa using h0)]
    · have := ih (by omega)
      rw [if_pos (by rw [this]; exact h1), this]
theorem firstE_zero {h : Nat → Cl} {len : Nat} : ∀ k, firstE h len k = 0 → ∀ i, i < k → cellE h len i = 0 := by
  intro k
  induction k with
  | zero => intro _ i hi; omega
  | succ k ih =>
    intro h0 i hi
    have h1 : firstE h len k = 0 := by
      by_cases e : firstE h len k = 0
      · exact e
      · have : firstE h len (k + 1) = firstE h len k := if_pos e
        rw [this] at h0; exact h0
    by_cases e : i = k
    · subst e
      have : firstE h len (i + 1) = cellE h len i := if_neg (by simpa using h1)
      rw [this] at h0; exact h0
    · exact ih h1 i (by omega)
/-- What Check says of a heap. -/
def ChkR (h : Nat → Cl) (len : Nat) (e : Int) : Prop :=
  (400000 < len ∧ e = 2) ∨ (len ≤ 400000 ∧ firstE h len len ≠ 0 ∧ e = firstE h len len) ∨ (len ≤ 400000 ∧ firstE h len len = 0 ∧ ((Acy len (leads h) ∧ e = 0) ∨ (¬ Acy len (leads h) ∧ e = 4)))
theorem ChkR.same {h : Nat → Cl} {len : Nat} {e e' : Int} (H : ChkR h len e) (H' : ChkR h len e') : e = e' := by
  rcases H with ⟨a, b⟩ | ⟨a, b, c⟩ | ⟨a, b, c⟩ <;> rcases H' with ⟨a', b'⟩ | ⟨a', b', c'⟩ | ⟨a', b', c'⟩ <;> first | omega | skip
  rcases c with ⟨c, d⟩ | ⟨c, d⟩ <;> rcases c' with ⟨c', d'⟩ | ⟨c', d'⟩
  · omega
  · exact absurd c c'
  · exact absurd c' c
  · omega
theorem btw_iff {n l m : Int} : btw n l m = true ↔ l ≤ n ∧ n ≤ m := by unfold btw; simp
/-- Cells that are right, one by one. -/
theorem cells_ok {h : Nat → Cl} {len : Nat} (hl : len ≤ 400000) (h0 : firstE h len len = 0) : HOk h len := by
  have hz := firstE_zero len h0
  have hcase : ∀ i, i < len → ((h i).k = 1 ∧ 0 ≤ (h i).n ∧ (h i).n ≤ (len : Int) - 1) ∨ ((h i).k = 2 ∧ 0 ≤ (h i).n ∧ (h i).n ≤ 4 ∧ (i : Int) + (h i).n ≤ (len : Int) - 1) := fun i hi => by
    have h1 := hz i hi
    unfold cellE at h1
    by_cases hk : (h i).k = 1
    · rw [if_pos hk] at h1
      by_cases hb : btw (h i).n 0 ((len : Int) - 1) = true
      · have := btw_iff.1 hb; exact .inl ⟨hk, this.1, this.2⟩
      · rw [if_neg hb] at h1; omega
    · rw [if_neg hk] at h1
      by_cases hk2 : (h i).k = 2
      · rw [if_pos hk2] at h1
        split at h1
        · rename_i hc
          have := btw_iff.1 hc.2.1
          split at h1
          · omega
          · exact .inr ⟨hk2, this.1, this.2, by omega⟩
        · omega
      · rw [if_neg hk2] at h1; omega
  refine ⟨fun i hi => ?_, fun i hi hk => ?_, fun i hi y hy => ?_, hl⟩
  · rcases hcase i hi with h | h <;> omega
  · rcases hcase i hi with h | h <;> omega
  · unfold leads at hy
    rcases hcase i hi with ⟨hk, h1, h2⟩ | ⟨hk, h1, h2, h3⟩
    · rw [if_pos hk] at hy
      split at hy
      · cases hy
      · rw [List.mem_singleton] at hy; omega
    · rw [if_neg (by omega)] at hy
      obtain ⟨j, hj, rfl⟩ := List.mem_map.1 hy
      have := List.mem_range.1 hj
      omega
end Go.Proofs.Ytmggaclaoefdaaa

namespace Go.Proofs.Ytmggaclaoefdaaa
open Go.RowKit

def noneB (len : Nat) (n : Int) : Bool := decide (n < 0) || decide (n ≥ (len : Int))
theorem none_any (a : Option Addr) (len cap : Nat) (n : Int) (w : World) :
    Calls Try.prog 105 #[.slice a len cap, .int .i64 n] w fun e w' => e = .returned (.bool (noneB len n)) ∧ w' = w := by
  by_cases h0 : n < 0
  · have h0b : decide (n < 0) = true := decide_eq_true h0
    have HR : Hid (noneB len n = true) := by rw [Hid]; unfold noneB; rw [h0b]; rfl
    clear h0
    go_enter Try.func105, Try.ntmps105
    go_wp2_with fail
    go_ret
    exact ⟨by rw [HR.out]; rfl, rfl⟩
  · have h0b : decide (n < 0) = false := decide_eq_false h0
    have HR : Hid (noneB len n = decide (n ≥ (len : Int))) := by rw [Hid]; unfold noneB; rw [h0b]; rfl
    clear h0
    go_enter Try.func105, Try.ntmps105
    go_wp2_with fail
    go_ret
    exact ⟨by rw [HR.out]; rfl, rfl⟩
def refV (len : Nat) (n : Int) (nm : ByteArray) : Int := if noneB len n = true then 5 else if nm.toList = [] then 0 else 1
theorem ref_any (a : Option Addr) (len cap : Nat) (k n : Int) (nm : ByteArray) (w : World) :
    Calls Try.prog 112 #[.slice a len cap, .agg #[.int .i64 k, .int .i64 n, .string nm]] w fun e w' => e = .returned (.int .i64 (refV len n nm)) ∧ Below w.heap.size w w' := by
  have HNo : Hid (∀ W, Calls Try.prog 105 #[.slice a len cap, .int .i64 n] W fun e w' => e = .returned (.bool (noneB len n)) ∧ w' = W) := fun W => none_any a len cap n W
  go_enter Try.func112, Try.ntmps112
  go_wp2_with fail
  refine (HNo.out _).mono ?_
  rintro e w1 ⟨rfl, h1⟩
  rw [h1]
  clear h1 w1
  cases hb : noneB len n with
  | true =>
    have HR : Hid (refV len n nm = 5) := by rw [Hid]; unfold refV; rw [if_pos hb]
    clear hb
    go_wp2_with fail
    go_ret
    exact ⟨by rw [HR.out]; rfl, (Below.refl _ _).alloc (Nat.le_refl _) _⟩
  | false =>
    by_cases h0 : nm.toList = []
    · have HR : Hid (refV len n nm = 0) := by rw [Hid]; unfold refV; rw [if_neg (by rw [hb]; simp), if_pos h0]
      clear hb
      go_wp2_with fail
      go_ret
      exact ⟨by rw [HR.out]; rfl, (Below.refl _ _).alloc (Nat.le_refl _) _⟩
    · have hie : (!nm.toList.isEmpty) = true := by cases hx : nm.toList with
        | nil => exact absurd hx h0
        | cons => rfl
      have HR : Hid (refV len n nm = 1) := by rw [Hid]; unfold refV; rw [if_neg (by rw [hb]; simp), if_neg h0]
      clear hb
      go_wp2_with fail
      go_ret
      exact ⟨by rw [HR.out]; rfl, (Below.refl _ _).alloc (Nat.le_refl _) _⟩
def nmT (nm : ByteArray) : Tm := .mk 0 nm none 0 0 (fun _ => .nil)
theorem nmT_in {w : World} {nm : ByteArray} (h : nm.size ≤ maxLen) : TIn w (nmT nm) := ⟨h, Nat.zero_le _, fun i hi => absurd hi (Nat.not_lt_zero i)⟩
theorem nmT_check (nm : ByteArray) : checkV (nmT nm) = if nameB nm = true then 0 else 1 := by
  have hc : cnt (nmT nm) = 1 := rfl
  have he : err (nmT nm) = if partE 0 nm 0 = 0 then 0 else partE 0 nm 0 := rfl
  have hp : partE 0 nm 0 = if nameB nm = true then 0 else 1 := by
    unfold partE
    rw [if_neg (by simp)]
    cases nameB nm <;> simp
  unfold checkV
  rw [hc, if_pos (by decide), he, hp]
  cases nameB nm <;> simp
def namedB (n : Int) (nm : ByteArray) : Bool := decide (0 ≤ n) && (decide (n ≤ if (nm.toList == [33]) = true then 0 else 4) && nameB nm)
theorem named_any (k n : Int) (nm : ByteArray) (w : World) (hs : nm.size ≤ maxLen) :
    Calls Try.prog 131 #[.agg #[.int .i64 k, .int .i64 n, .string nm]] w fun e w' => e = .returned (.bool (namedB n nm)) ∧ Below w.heap.size w w' := by
  have HCk : Hid (∀ W, Calls Try.prog 16 #[.agg #[.int .i64 0, .string nm, .slice none 0 0]] W fun e w' => e = .returned (.int .i64 (if nameB nm = true then 0 else 1)) ∧ Below W.heap.size W w') := fun W => by
    have := check_any (nmT nm) W (nmT_in hs)
    rw [nmT_check] at this
    exact this
  have HBa : Hid (Below w.heap.size w (w.alloc (.cells #[.int .i64 k, .int .i64 n, .string nm] 128))) := (Below.refl _ _).alloc (Nat.le_refl _) _
  clear hs
  cases hc : (nm.toList == [33]) with
  | true =>
    have hmm : (if (nm.toList == [33]) = true then (0 : Int) else 4) = 0 := by rw [hc]; simp
    by_cases h0 : 0 ≤ n
    case neg =>
      have h0b : decide (n ≥ 0) = false := decide_eq_false (by omega)
      have HR : Hid (namedB n nm = false) := by rw [Hid]; unfold namedB; rw [decide_eq_false h0]; rfl
      clear h0 hmm
      go_enter Try.func131, Try.ntmps131
      go_wp2_with fail
      go_ret
      exact ⟨by rw [HR.out]; rfl, HBa.out⟩
    have h0b : decide (n ≥ 0) = true := decide_eq_true (by omega)
    by_cases h1 : n ≤ 0
    case neg =>
      have h1b : decide (n ≤ 0) = false := decide_eq_false h1
      have HR : Hid (namedB n nm = false) := by rw [Hid]; unfold namedB; rw [hmm, h1b]; simp
      clear h0 h1 hmm
      go_enter Try.func131, Try.ntmps131
      go_wp2_with fail
      go_ret
      exact ⟨by rw [HR.out]; rfl, HBa.out⟩
    have h1b : decide (n ≤ 0) = true := decide_eq_true h1
    have HR : Hid (namedB n nm = nameB nm) := by rw [Hid]; unfold namedB; rw [hmm, h1b, decide_eq_true h0]; simp
    clear h0 h1 hmm
    go_enter Try.func131, Try.ntmps131
    go_wp2_with fail
    refine (HCk.out _).mono ?_
    rintro e w2 ⟨rfl, hb2⟩
    have HB2 : Hid (Below w.heap.size w w2) := HBa.out.trans (hb2.mono HBa.out.size)
    clear hb2 HCk
    cases hn : nameB nm with
    | true =>
      have HN : Hid (nameB nm = true) := hn
      clear hn
      go_wp2_with fail
      go_ret
      exact ⟨by rw [HR.out, HN.out]; rfl, HB2.out⟩
    | false =>
      have HN : Hid (nameB nm = false) := hn
      clear hn
      go_wp2_with fail
      go_ret
      exact ⟨by rw [HR.out, HN.out]; rfl, HB2.out⟩
  | false =>
    have hmm : (if (nm.toList == [33]) = true then (0 : Int) else 4) = 4 := by rw [hc]; simp
    by_cases h0 : 0 ≤ n
    case neg =>
      have h0b : decide (n ≥ 0) = false := decide_eq_false (by omega)
      have HR : Hid (namedB n nm = false) := by rw [Hid]; unfold namedB; rw [decide_eq_false h0]; rfl
      clear h0 hmm
      go_enter Try.func131, Try.ntmps131
      go_wp2_with fail
      go_ret
      exact ⟨by rw [HR.out]; rfl, HBa.out⟩
    have h0b : decide (n ≥ 0) = true := decide_eq_true (by omega)
    by_cases h1 : n ≤ 4
    case neg =>
      have h1b : decide (n ≤ 4) = false := decide_eq_false h1
      have HR : Hid (namedB n nm = false) := by rw [Hid]; unfold namedB; rw [hmm, h1b]; simp
      clear h0 h1 hmm
      go_enter Try.func131, Try.ntmps131
      go_wp2_with fail
      go_ret
      exact ⟨by rw [HR.out]; rfl, HBa.out⟩
    have h1b : decide (n ≤ 4) = true := decide_eq_true h1
    have HR : Hid (namedB n nm = nameB nm) := by rw [Hid]; unfold namedB; rw [hmm, h1b, decide_eq_true h0]; simp
    clear h0 h1 hmm
    go_enter Try.func131, Try.ntmps131
    go_wp2_with fail
    refine (HCk.out _).mono ?_
    rintro e w2 ⟨rfl, hb2⟩
    have HB2 : Hid (Below w.heap.size w w2) := HBa.out.trans (hb2.mono HBa.out.size)
    clear hb2 HCk
    cases hn : nameB nm with
    | true =>
      have HN : Hid (nameB nm = true) := hn
      clear hn
      go_wp2_with fail
      go_ret
      exact ⟨by rw [HR.out, HN.out]; rfl, HB2.out⟩
    | false =>
      have HN : Hid (nameB nm = false) := hn
      clear hn
      go_wp2_with fail
      go_ret
      exact ⟨by rw [HR.out, HN.out]; rfl, HB2.out⟩
end Go.Proofs.Ytmggaclaoefdaaa

namespace Go.Proofs.Ytmggaclaoefdaaa
open Go.RowKit

theorem can_v (T : Tm) : (can T).v = T.v := by rw [can_eq]; rfl
theorem can_nm (T : Tm) : (can T).nm = T.nm := by rw [can_eq]; rfl
theorem can_len (T : Tm) : (can T).len = T.len := by rw [can_eq]; rfl
theorem can_f (T : Tm) {i : Nat} (h : i < T.len) : (can T).f i = can (T.f i) := by
  rw [can_eq]; show (if i < T.len then can (T.f i) else .nil) = _; rw [if_pos h]
/-- What variables are, without places. -/
def cs (σ : Sg) : Sg := fun v => (σ v).map can
theorem wh_cs (σ : Sg) : ∀ (k : Nat) (T : Tm), wh (cs σ) k (can T) = can (wh σ k T) := by
  intro k
  induction k with
  | zero => intro T; rfl
  | succ k ih =>
    intro T
    rw [wh, wh, can_v]
    by_cases hv : T.v = 0
    · rw [if_pos hv, if_pos hv]
    · rw [if_neg hv, if_neg hv]
      unfold cs
      cases hs : σ T.v with
      | none => rfl
      | some U => exact ih U
theorem wha_cs (σ : Sg) (T : Tm) : wha (cs σ) (can T) = can (wha σ T) := by
  unfold wha; rw [can_v]; exact wh_cs σ _ T
theorem kidsL_can (T : Tm) : kidsL (can T) = (kidsL T).map can := by
  unfold kidsL
  rw [can_len, List.map_map]
  apply List.map_congr_left
  intro i hi
  exact can_f T (List.mem_range.1 hi)
theorem within_cs (σ : Sg) (x : Int) : ∀ (L : Nat) (ts : List Tm), within (cs σ) x L (ts.map can) = within σ x L ts := by
  intro L
  induction L with
  | zero => intro ts; cases ts <;> rfl
  | succ L ih =>
    intro ts
    cases ts with
    | nil => rfl
    | cons t ts =>
      rw [List.map_cons, within_succ, within_succ, wha_cs, can_v, kidsL_can, ← List.map_append, ih]
theorem put_cs (σ : Sg) (X T : Tm) : put (cs σ) (can X) (can T) = cs (put σ X T) := by
  unfold put
  rw [can_v, can_v]
  have e : ∀ (i : Int) (U : Tm), upd (cs σ) i (can U) = cs (upd σ i U) := fun i U => by
    funext j
    show (if j = i then some (can U) else (σ j).map can) = (if j = i then some U else σ j).map can
    split <;> rfl
  split
  · exact e _ _
  · exact e _ _
def can2 (p : Tm × Tm) : Tm × Tm := (can p.1, can p.2)
theorem zipK_can {S T : Tm} (h : S.len = T.len) : zipK (can S) (can T) = (zipK S T).map can2 := by
  unfold zipK
  rw [can_len, List.map_map]
  apply List.map_congr_left
  intro i hi
  have hi := List.mem_range.1 hi
  show ((can S).f i, (can T).f i) = (can (S.f i), can (T.f i))
  rw [can_f S hi, can_f T (h ▸ hi)]
def csO : MO → MO
  | .over => .over
  | .no k => .no k
  | .yes k σ => .yes k (cs σ)
theorem meetF_cs : ∀ (F : Nat) (σ : Sg) (L : Nat) (ps : List (Tm × Tm)), meetF F (cs σ) L (ps.map can2) = csO (meetF F σ L ps) := by
  intro F
  induction F with
  | zero => intro σ L ps; rfl
  | succ F ih =>
    intro σ L ps
    cases ps with
    | nil => cases L <;> rfl
    | cons p ps =>
      obtain ⟨x, y⟩ := p
      cases L with
      | zero => rfl
      | succ L =>
        show meetF (F + 1) (cs σ) (L + 1) ((can x, can y) :: ps.map can2) = _
        have w1 : ∀ (a : Int) (t : Tm), within (cs σ) a L [can t] = within σ a L [t] := fun a t => within_cs σ a L [t]
        rw [meetF, meetF, wha_cs, wha_cs, can_v, can_v, can_nm, can_nm, can_len, can_len, w1, w1]
        by_cases h1 : (wha σ x).v ≠ 0
        · rw [if_pos h1, if_pos h1]
          by_cases h2 : (wha σ x).v = (wha σ y).v
          · rw [if_pos h2, if_pos h2]; exact ih σ L ps
          · rw [if_neg h2, if_neg h2]
            cases within σ (wha σ x).v L [wha σ y] with
            | over => rfl
            | found k => rfl
            | free k => show meetF F (put (cs σ) (can (wha σ x)) (can (wha σ y))) k (ps.map can2) = csO (meetF F (put σ (wha σ x) (wha σ y)) k ps); rw [put_cs]; exact ih _ _ _
        · rw [if_neg h1, if_neg h1]
          by_cases h2 : (wha σ y).v ≠ 0
          · rw [if_pos h2, if_pos h2]
            cases within σ (wha σ y).v L [wha σ x] with
            | over => rfl
            | found k => rfl
            | free k => show meetF F (put (cs σ) (can (wha σ y)) (can (wha σ x))) k (ps.map can2) = csO (meetF F (put σ (wha σ y) (wha σ x)) k ps); rw [put_cs]; exact ih _ _ _
          · rw [if_neg h2, if_neg h2]
            by_cases h3 : (wha σ x).nm.toList = (wha σ y).nm.toList ∧ (wha σ x).len = (wha σ y).len
            · rw [if_pos h3, if_pos h3, zipK_can h3.2, ← List.map_append]; exact ih _ _ _
            · rw [if_neg h3, if_neg h3]; rfl
theorem ex_cs (σ : Sg) : ∀ (d : Nat) (T : Tm), can (ex (cs σ) d (can T)) = can (ex σ d T) := by
  intro d
  induction d with
  | zero => intro T; rfl
  | succ d ih =>
    intro T
    rw [ex, ex, wha_cs, can_v, can_nm, can_len]
    by_cases h : (wha σ T).v = 0
    · rw [if_pos h, if_pos h]
      refine can_ext rfl rfl rfl (fun i hi => ?_)
      have hi : i < (wha σ T).len := hi
      show can (ex (cs σ) d ((can (wha σ T)).f i)) = can (ex σ d ((wha σ T).f i))
      rw [can_f _ hi]; exact ih _
    · rw [if_neg h, if_neg h]
/-- The variables of a term, as they come. -/
def vsT : Tm → List Int
  | .nil => []
  | .mk v _ _ len _ f => if v = 0 then ((List.range len).map fun i => vsT (f i)).flatten else [v]
theorem vsT_can (T : Tm) : vsT (can T) = vsT T := by
  induction T with
  | nil => rfl
  | mk v nm a len cap f ih =>
    show (if v = 0 then ((List.range len).map fun i => vsT (if i < len then can (f i) else .nil)).flatten else [v]) = (if v = 0 then ((List.range len).map fun i => vsT (f i)).flatten else [v])
    have e : ((List.range len).map fun i => vsT (if i < len then can (f i) else .nil)) = (List.range len).map fun i => vsT (f i) := by
      apply List.map_congr_left
      intro i hi
      rw [if_pos (List.mem_range.1 hi)]; exact ih i
    rw [e]
/-- Numbers as they first come. -/
def addV (s : List Int) (l : List Int) : List Int := l.foldl (fun s v => if v ∈ s then s else s ++ [v]) s
theorem addV_nil (s : List Int) : addV s [] = s := rfl
theorem addV_append (s l m : List Int) : addV s (l ++ m) = addV (addV s l) m := by unfold addV; rw [List.foldl_append]
theorem addV_one (s : List Int) (v : Int) : addV s [v] = if v ∈ s then s else s ++ [v] := rfl
/-- The number of a variable: its place, from 1 on. -/
def num (s : List Int) (v : Int) : Int := (s.idxOf v : Int) + 1
theorem addV_pre (l : List Int) : ∀ s : List Int, s <+: addV s l := by
  induction l with
  | nil => intro s; exact List.prefix_refl s
  | cons v l ih =>
    intro s
    show s <+: addV (if v ∈ s then s else s ++ [v]) l
    refine List.IsPrefix.trans ?_ (ih _)
    split
    · exact List.prefix_refl s
    · exact List.prefix_append s [v]
theorem addV_mem (l : List Int) : ∀ (s : List Int) (v : Int), v ∈ l → v ∈ addV s l := by
  induction l with
  | nil => intro s v h; simp at h
  | cons x l ih =>
    intro s v h
    rcases List.mem_cons.1 h with rfl | h
    · show v ∈ addV (if v ∈ s then s else s ++ [v]) l
      refine (addV_pre l _).subset ?_
      split
      · assumption
      · exact List.mem_append.2 (.inr (by simp))
    · exact ih _ v h
theorem num_pre {s s' : List Int} (h : s <+: s') {v : Int} (hv : v ∈ s) : num s' v = num s v := by
  obtain ⟨t, rfl⟩ := h
  unfold num
  rw [List.idxOf_append, if_pos hv]
end Go.Proofs.Ytmggaclaoefdaaa
