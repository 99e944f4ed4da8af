/- A term's parts, up to 1000; numbering by any one-to-one map; how great what is found is. Answers that are the same: SameAnswers, SameResult. -/
import Derived.Test.YtmggaclaoefdaaaSrB
import Derived.Test.YtmggaclaoefdaaaGK
import Derived.Test.YtmggaclaoefdaaaGC
import Derived.Test.YtmggaclaoefdaaaGI
import Derived.Test.YtmggaclaoefdaaaGM
namespace Go.Proofs.Ytmggaclaoefdaaa
open Go.RowKit

set_option maxHeartbeats 800000 in
theorem partsBig_any (T : Tm) : ∀ (w : World), TIn w T → cnt T ≤ 1000 →
    Calls Try.prog 51 #[T.val] w fun r w' => ∃ g cp : Nat, r = .returned (.slice (some ⟨g, 0, none⟩) (cnt T) cp) ∧ w'.ownsRow w.heap.size 24 3 (.slice (some ⟨g, 0, none⟩) (cnt T) cp) (cnt T) (flat (pre T)) ∧ Below w.heap.size w w' := by
  induction T with
  | nil => intro w hin; exact False.elim hin
  | mk v nm a len cap f ih =>
    intro w hin hcnt
    have IH : Hid (∀ i (w : World), TIn w (f i) → cnt (f i) ≤ 1000 → Calls Try.prog 51 #[(f i).val] w fun r w' => ∃ g cp : Nat, r = .returned (.slice (some ⟨g, 0, none⟩) (cnt (f i)) cp) ∧ w'.ownsRow w.heap.size 24 3 (.slice (some ⟨g, 0, none⟩) (cnt (f i)) cp) (cnt (f i)) (flat (pre (f i))) ∧ Below w.heap.size w w') := ih
    have HIn : Hid (TIn w (.mk v nm a len cap f)) := hin
    have hlen : len ≤ 2 ^ 63 - 1 := TIn.len (T := .mk v nm a len cap f) hin
    have HC : Hid (cnt (.mk v nm a len cap f) = 1 + sumTo (fun i => cnt (f i)) len) := rfl
    have HP : Hid (pre (.mk v nm a len cap f) = .mk v nm a len cap f :: preTo (fun i => pre (f i)) len) := rfl
    have HL : Hid (1 + sumTo (fun i => cnt (f i)) len ≤ 1000) := hcnt
    obtain ⟨i0, hi, hz0, hz1, hz2⟩ := info_parts Try.info24
    clear ih hin hcnt
    show Calls Try.prog 51 #[.agg #[.int .i64 v, .string nm, .slice a len cap]] w _
    go_enter Try.func51, Try.ntmps51
    go_wp2_with fail
    go_loopw [3, 4] (fun out i wr => ∃ k g cp : Nat, k ≤ len ∧ i = .int .i64 k ∧ out = .slice (some ⟨g, 0, none⟩) (1 + sumTo (fun i => cnt (f i)) k) cp ∧ wr.ownsRow (w.heap.size + 1) 24 3 (.slice (some ⟨g, 0, none⟩) (1 + sumTo (fun i => cnt (f i)) k) cp) (1 + sumTo (fun i => cnt (f i)) k) (flat (.mk v nm a len cap f :: preTo (fun i => pre (f i)) k)) ∧ Below (w.heap.size + 1) (w.alloc (.cells #[.int .i64 v, .string nm, .slice a len cap] 24)) wr) (fun _ i _ => len - (intOf i).toNat)
    case atStart =>
      refine ⟨0, w.heap.size + 1, 1, Nat.zero_le _, rfl, rfl, ?_, (Below.refl _ _).alloc (by simp) _⟩
      have := World.ownsRow_lit (base := w.heap.size + 1) (e := 24) (size := 3) (w.alloc (.cells #[.int .i64 v, .string nm, .slice a len cap] 24)) #[.int .i64 v, .string nm, .slice a len cap] 1 (by simp) (by unfold maxLen; omega) rfl
      simpa [sumTo, preTo, flat, cells3, Tm.v, Tm.nm, Tm.a, Tm.len, Tm.cap] using this
    case round =>
      obtain ⟨k, g, cp, hk, rfl, rfl, hown, hb⟩ := hrel
      have hbox : wr.cell? ⟨w.heap.size, 2, none⟩ = some (.slice a len cap) := (hb.cell (p := ⟨w.heap.size, 2, none⟩) (by simp)).trans (by go_simp)
      have HB : Hid (Below (w.heap.size + 1) (w.alloc (.cells #[.int .i64 v, .string nm, .slice a len cap] 24)) wr) := hb
      have HBW : Hid (Below w.heap.size w wr) := ((Below.refl _ _).alloc (Nat.le_refl _) _).trans (hb.mono (by omega))
      have hsz : w.heap.size + 1 ≤ wr.heap.size := by have := hb.size; simpa using this
      have HO : Hid (wr.ownsRow (w.heap.size + 1) 24 3 (.slice (some ⟨g, 0, none⟩) (1 + sumTo (fun i => cnt (f i)) k) cp) (1 + sumTo (fun i => cnt (f i)) k) (flat (.mk v nm a len cap f :: preTo (fun i => pre (f i)) k))) := hown
      clear hown hb
      by_cases hlt : k < len
      · have hr : RowAt wr a k (f k) := (TIn.row (T := .mk v nm a len cap f) HIn.out hlt).below HBW.out
        obtain ⟨b, o, ha, c0, c1, c2⟩ := hr
        have HT : Hid (TIn wr (f k)) := (TIn.kid (T := .mk v nm a len cap f) HIn.out hlt).below HBW.out
        have HM : Hid (sumTo (fun i => cnt (f i)) (k + 1) ≤ sumTo (fun i => cnt (f i)) len) := sumTo_le _ hlt
        have HE : Hid (sumTo (fun i => cnt (f i)) (k + 1) = sumTo (fun i => cnt (f i)) k + cnt (f k)) := rfl
        have HQ : Hid (flat (.mk v nm a len cap f :: preTo (fun i => pre (f i)) (k + 1)) = flat (.mk v nm a len cap f :: preTo (fun i => pre (f i)) k) ++ flat (pre (f k))) := by
          rw [Hid, preTo, ← flat_append]; rfl
        generalize hfl : flat (.mk v nm a len cap f :: preTo (fun i => pre (f i)) k) = fl at *
        clear hfl
        have hle : 1 + sumTo (fun i => cnt (f i)) k + cnt (f k) ≤ 1000 := by have := HM.out; have := HE.out; have := HL.out; omega
        generalize sumTo (fun i => cnt (f i)) k = sk at *
        subst ha
        go_wp2_with fail
        refine (IH.out k _ HT.out (by omega)).mono ?_
        rintro r w1 ⟨g1, cp1, rfl, hown1, hb1⟩
        have HO1 : Hid (w1.ownsRow (w.heap.size + 1) 24 3 (.slice (some ⟨g, 0, none⟩) (1 + sk) cp) (1 + sk) fl) := HO.out.kept (grown_of_below hb1 none) (Or.inr (by simp [Value.ownBlock]))
        have HO2 : Hid (w1.ownsRow wr.heap.size 24 3 (.slice (some ⟨g1, 0, none⟩) (cnt (f k)) cp1) (cnt (f k)) (flat (pre (f k)))) := hown1
        have HB1 : Hid (Below (w.heap.size + 1) (w.alloc (.cells #[.int .i64 v, .string nm, .slice (some ⟨b, o, none⟩) len cap] 24)) w1) := HB.out.trans (hb1.mono hsz)
        have hsz1 : w.heap.size + 1 ≤ w1.heap.size := Nat.le_trans hsz hb1.size
        clear hown1 hb1
        go_wp2_with (at_builtin; refine wpList_append_own _ rfl (.tmp 14) (.tmp 20) 22 rfl (w.heap.size + 1) 24 i0 (.agg #[.int .i64 0, .string ByteArray.empty, .slice none 0 0]) 3 48 Try.underlying22 hi hz0 hz1 hz2 rfl (by decide) (.slice (some ⟨g, 0, none⟩) (1 + sk) cp) (1 + sk) fl rfl HO1.out ⟨g1, 0, none⟩ (cnt (f k)) cp1 (flat (pre (f k))) rfl HO2.out.1 (HO2.out.cells rfl) (flat_one _) (by unfold maxLen; omega) (by omega) hsz1 ?_; intro v' w2 hown' hgrow hnil)
        have HB2 : Hid (Below (w.heap.size + 1) (w.alloc (.cells #[.int .i64 v, .string nm, .slice (some ⟨b, o, none⟩) len cap] 24)) w2) := HB1.out.grown hgrow hsz1 (fun j hj => (HO1.out.lt j hj).1)
        rcases hown'.2 with ⟨hv', _⟩ | ⟨g', cap', cur, hv', _⟩
        · exact absurd (hnil.1 hv').1 (by simp)
        · have HO3 : Hid (w2.ownsRow (w.heap.size + 1) 24 3 (.slice (some ⟨g', 0, none⟩) (1 + sk + cnt (f k)) cap') (1 + sk + cnt (f k)) (fl ++ flat (pre (f k)))) := by rw [← hv']; exact hown'
          subst hv'
          clear hown' hnil hgrow
          go_roundw
          case rel => exact ⟨k + 1, g', cap', by omega, by go_num, by rw [HE.out, ← Nat.add_assoc], by rw [HE.out, ← Nat.add_assoc, HQ.out]; exact HO3.out, HB2.out⟩
          case measure => simp [intOf]; omega
      · have hke : k = len := by omega
        subst hke
        go_wp2_with fail
        go_ret
        exact ⟨g, cp, rfl, ownsRow_mono HO.out (by omega), HBW.out⟩

section
variable {U : Int → Prop} {ι : Int → Int}
def Ij (U : Int → Prop) (ι : Int → Int) : Prop := ∀ u v, U u → U v → ι u = ι v → u = v
theorem mem_ij (hM : Ij U ι) {v : Int} (hv : U v) {s : List Int} (hs : ∀ u ∈ s, U u) : ι v ∈ s.map ι ↔ v ∈ s := by
  constructor
  · intro h
    obtain ⟨u, hu, e⟩ := List.mem_map.1 h
    rw [← hM u v (hs u hu) hv e]; exact hu
  · intro h; exact List.mem_map.2 ⟨v, h, rfl⟩
theorem addV_ij (hM : Ij U ι) : ∀ (l s : List Int), (∀ u ∈ s, U u) → (∀ u ∈ l, U u) → addV (s.map ι) (l.map ι) = (addV s l).map ι ∧ ∀ u ∈ addV s l, U u := by
  intro l
  induction l with
  | nil => intro s hs _; exact ⟨rfl, hs⟩
  | cons v l ih =>
    intro s hs hl
    have hv := hl v (by simp)
    have hl' : ∀ u ∈ l, U u := fun u hu => hl u (by simp [hu])
    show addV (if ι v ∈ s.map ι then s.map ι else s.map ι ++ [ι v]) (l.map ι) = (addV (if v ∈ s then s else s ++ [v]) l).map ι ∧ ∀ u ∈ addV (if v ∈ s then s else s ++ [v]) l, U u
    have hm := mem_ij hM hv hs
    by_cases e : v ∈ s
    · rw [if_pos e, if_pos (hm.2 e)]; exact ih s hs hl'
    · rw [if_neg e, if_neg (fun h => e (hm.1 h)), show s.map ι ++ [ι v] = (s ++ [v]).map ι from by simp]
      refine ih (s ++ [v]) (fun u hu => ?_) hl'
      rcases List.mem_append.1 hu with hu | hu
      · exact hs u hu
      · rw [List.mem_singleton] at hu; rw [hu]; exact hv
theorem idx_ij (hM : Ij U ι) {v : Int} (hv : U v) : ∀ s : List Int, (∀ u ∈ s, U u) → (s.map ι).idxOf (ι v) = s.idxOf v := by
  intro s
  induction s with
  | nil => intro _; rfl
  | cons u s ih =>
    intro hs
    have hu := hs u (by simp)
    rw [List.map_cons, List.idxOf_cons, List.idxOf_cons, ih (fun x hx => hs x (by simp [hx]))]
    by_cases e : u = v
    · rw [e]; simp
    · have : (ι u == ι v) = false := beq_eq_false_iff_ne.2 (fun h => e (hM u v hu hv h))
      rw [this, beq_eq_false_iff_ne.2 e]
end
theorem vs_one (x : Int) : vsT (can (vT x)) = if x = 0 then [] else [x] := by rw [vsT_can]; rfl
theorem vsT_ap {π : Int → Int} {T : Tm} (h : ∀ v ∈ vsT T, π v ≠ 0) : vsT (ap (nmOf π) T) = (vsT T).map π := by
  induction T with
  | nil => rfl
  | mk v nm a len cap f ih =>
    by_cases hv : v = 0
    · rw [ap_fn _ (T := .mk v nm a len cap f) hv]
      have h' : ∀ u ∈ ((List.range len).map fun i => vsT (f i)).flatten, π u ≠ 0 := by
        have : vsT (.mk v nm a len cap f) = ((List.range len).map fun i => vsT (f i)).flatten := by show (if v = 0 then _ else _) = _; rw [if_pos hv]
        rw [this] at h; exact h
      show (if (0 : Int) = 0 then ((List.range len).map fun i => vsT (if i < len then ap (nmOf π) (f i) else .nil)).flatten else _) = (if v = 0 then ((List.range len).map fun i => vsT (f i)).flatten else [v]).map π
      rw [if_pos rfl, if_pos hv, List.map_flatten, List.map_map]
      congr 1
      refine List.map_congr_left fun i hi => ?_
      have hi' := List.mem_range.1 hi
      rw [if_pos hi']
      exact ih i (fun u hu => h' u (List.mem_flatten.2 ⟨vsT (f i), List.mem_map.2 ⟨i, hi, rfl⟩, hu⟩))
    · rw [ap_var _ (T := .mk v nm a len cap f) hv]
      have e : vsT (.mk v nm a len cap f) = [v] := by show (if v = 0 then _ else _) = _; rw [if_neg hv]
      rw [e] at h ⊢
      show vsT (can (vT (π v))) = [π v]
      rw [vs_one, if_neg (h v (by simp))]
theorem ap_vs {π π' : Int → Int} {T : Tm} (h : ∀ v ∈ vsT T, π v = π' v) : ap (nmOf π) T = ap (nmOf π') T := by
  induction T with
  | nil => rfl
  | mk v nm a len cap f ih =>
    by_cases hv : v = 0
    · rw [ap_fn _ (T := .mk v nm a len cap f) hv, ap_fn _ (T := .mk v nm a len cap f) hv]
      have h' : ∀ u ∈ ((List.range len).map fun i => vsT (f i)).flatten, π u = π' u := by
        have : vsT (.mk v nm a len cap f) = ((List.range len).map fun i => vsT (f i)).flatten := by show (if v = 0 then _ else _) = _; rw [if_pos hv]
        rw [this] at h; exact h
      show Tm.mk 0 nm none len 0 (fun i => if i < len then ap (nmOf π) (f i) else .nil) = Tm.mk 0 nm none len 0 (fun i => if i < len then ap (nmOf π') (f i) else .nil)
      congr 1
      funext i
      by_cases hi : i < len
      · rw [if_pos hi, if_pos hi]
        exact ih i (fun u hu => h' u (List.mem_flatten.2 ⟨vsT (f i), List.mem_map.2 ⟨i, List.mem_range.2 hi, rfl⟩, hu⟩))
      · rw [if_neg hi, if_neg hi]
    · rw [ap_var _ (T := .mk v nm a len cap f) hv, ap_var _ (T := .mk v nm a len cap f) hv]
      have e : vsT (.mk v nm a len cap f) = [v] := by show (if v = 0 then _ else _) = _; rw [if_neg hv]
      rw [e] at h
      show can (vT (π v)) = can (vT (π' v))
      rw [h v (by simp)]
theorem ap_two {π p : Int → Int} {T : Tm} (h : ∀ v ∈ vsT T, π v ≠ 0) : ap (nmOf p) (ap (nmOf π) T) = ap (nmOf fun v => p (π v)) T := by
  induction T with
  | nil => show ap (nmOf p) (.mk 0 ⟨#[]⟩ none 0 0 (fun _ => .nil)) = .mk 0 ⟨#[]⟩ none 0 0 (fun _ => .nil)
           rw [ap_fn _ rfl]; rfl
  | mk v nm a len cap f ih =>
    by_cases hv : v = 0
    · rw [ap_fn (nmOf π) (T := .mk v nm a len cap f) hv, ap_fn _ (T := .mk v nm a len cap f) hv, ap_fn _ rfl]
      have h' : ∀ u ∈ ((List.range len).map fun i => vsT (f i)).flatten, π u ≠ 0 := by
        have : vsT (.mk v nm a len cap f) = ((List.range len).map fun i => vsT (f i)).flatten := by show (if v = 0 then _ else _) = _; rw [if_pos hv]
        rw [this] at h; exact h
      show Tm.mk 0 nm none len 0 (fun i => if i < len then ap (nmOf p) (if i < len then ap (nmOf π) (f i) else .nil) else .nil) = Tm.mk 0 nm none len 0 (fun i => if i < len then ap (nmOf fun v => p (π v)) (f i) else .nil)
      congr 1
      funext i
      by_cases hi : i < len
      · rw [if_pos hi, if_pos hi, if_pos hi]
        exact ih i (fun u hu => h' u (List.mem_flatten.2 ⟨vsT (f i), List.mem_map.2 ⟨i, List.mem_range.2 hi, rfl⟩, hu⟩))
      · rw [if_neg hi, if_neg hi]
    · have e : vsT (.mk v nm a len cap f) = [v] := by show (if v = 0 then _ else _) = _; rw [if_neg hv]
      rw [e] at h
      rw [ap_var (nmOf π) (T := .mk v nm a len cap f) hv, ap_var _ (T := .mk v nm a len cap f) hv]
      show ap (nmOf p) (can (vT (π v))) = nmOf _ v
      rw [ap_can, ap_var _ (T := vT (π v)) (h v (by simp))]
      rfl
theorem can_apn {π : Int → Int} (T : Tm) : can (ap (nmOf π) T) = ap (nmOf π) T := by
  induction T with
  | nil => show can (.mk 0 ⟨#[]⟩ none 0 0 (fun _ => .nil)) = _; rw [can_eq]; show Tm.mk 0 ⟨#[]⟩ none 0 0 _ = Tm.mk 0 ⟨#[]⟩ none 0 0 _; congr 1
  | mk v nm a len cap f ih =>
    by_cases hv : v = 0
    · rw [ap_fn _ (T := .mk v nm a len cap f) hv, can_eq]
      show Tm.mk 0 nm none len 0 (fun i => if i < len then can (if i < len then ap (nmOf π) (f i) else .nil) else .nil) = Tm.mk 0 nm none len 0 (fun i => if i < len then ap (nmOf π) (f i) else .nil)
      congr 1
      funext i
      by_cases hi : i < len
      · rw [if_pos hi, if_pos hi, ih i]
      · rw [if_neg hi, if_neg hi]
    · rw [ap_var _ (T := .mk v nm a len cap f) hv]
      exact can_can _
theorem sumTo_congr {g h : Nat → Nat} {k : Nat} (e : ∀ i, i < k → g i = h i) : sumTo g k = sumTo h k := by
  induction k with
  | zero => rfl
  | succ k ih => rw [sumTo, sumTo, ih (fun i hi => e i (by omega)), e k (by omega)]
theorem cnt_can (T : Tm) : cnt (can T) = cnt T := by
  induction T with
  | nil => rfl
  | mk v nm a len cap f ih =>
    show 1 + sumTo (fun i => cnt (if i < len then can (f i) else .nil)) len = 1 + sumTo (fun i => cnt (f i)) len
    rw [sumTo_congr fun i hi => by rw [if_pos hi, ih i]]
theorem cnt_ap {N : Int} {π : Int → Int} {T : Tm} (hT : Okv N T) : cnt (ap (nmOf π) T) = cnt T := by
  induction T with
  | nil => exact hT.elim
  | mk v nm a len cap f ih =>
    by_cases hv : v = 0
    · rw [ap_fn _ (T := .mk v nm a len cap f) hv]
      show 1 + sumTo (fun i => cnt (if i < len then ap (nmOf π) (f i) else .nil)) len = 1 + sumTo (fun i => cnt (f i)) len
      rw [sumTo_congr fun i hi => by rw [if_pos hi, ih i (hT.2.2.2.2 i hi)]]
    · rw [ap_var _ (T := .mk v nm a len cap f) hv]
      have hl : len = 0 := (hT.2.2.1 hv).2
      subst hl
      rfl
/-- The variables among parts. -/
def pv (l : List Tm) : List Int := (l.filter fun q => decide (q.v ≠ 0)).map Tm.v
theorem pv_append (l k : List Tm) : pv (l ++ k) = pv l ++ pv k := by unfold pv; rw [List.filter_append, List.map_append]
theorem pv_to (g : Nat → List Tm) (k : Nat) : pv (preTo g k) = ((List.range k).map fun i => pv (g i)).flatten := by
  induction k with
  | zero => rfl
  | succ k ih => rw [preTo, pv_append, ih, List.range_succ, List.map_append, List.flatten_append]; simp
theorem pv_pre {N : Int} {T : Tm} (hT : Okv N T) : pv (pre T) = vsT T := by
  induction T with
  | nil => exact hT.elim
  | mk v nm a len cap f ih =>
    show pv ([Tm.mk v nm a len cap f] ++ preTo (fun i => pre (f i)) len) = (if v = 0 then ((List.range len).map fun i => vsT (f i)).flatten else [v])
    rw [pv_append, pv_to]
    by_cases hv : v = 0
    · rw [if_pos hv]
      have e : pv [Tm.mk v nm a len cap f] = [] := by unfold pv; simp [Tm.v, hv]
      rw [e, List.nil_append]
      congr 1
      exact List.map_congr_left fun i hi => ih i (hT.2.2.2.2 i (List.mem_range.1 hi))
    · rw [if_neg hv]
      have hl : len = 0 := (hT.2.2.1 hv).2
      subst hl
      have e : pv [Tm.mk v nm a 0 cap f] = [v] := by unfold pv; simp [Tm.v, hv]
      rw [e]; rfl
/-- How many parts: no more than the room that they took. -/
theorem room_cnt {N : Int} {σ : Sg} (hO : ∀ v U, σ v = some U → Okv N U) : ∀ (n : Nat) (ts : List Tm) (k : Nat), (∀ t ∈ ts, Okv N t) → roomF σ n ts = some k → ∀ d, n ≤ d → (ts.map fun t => cnt (ex σ d t)).sum ≤ n := by
  intro n
  induction n with
  | zero =>
    intro ts k _ h d _
    cases ts with
    | nil => simp
    | cons t ts => simp [roomF] at h
  | succ n ih =>
    intro ts k ht h d hd
    cases ts with
    | nil => simp
    | cons t ts =>
      have h2 : roomF σ n (kidsL (wha σ t) ++ ts) = some k := h
      obtain ⟨d', rfl⟩ : ∃ d', d = d' + 1 := ⟨d - 1, by omega⟩
      have hw := wha_okv hO (ht t (by simp))
      have h3 := ih (kidsL (wha σ t) ++ ts) k (fun q hq => by
        rcases List.mem_append.1 hq with hq | hq
        · obtain ⟨i, hi, rfl⟩ := List.mem_map.1 hq
          exact hw.kid (List.mem_range.1 hi)
        · exact ht q (by simp [hq])) h2 d' (by omega)
      rw [List.map_append, List.sum_append] at h3
      have hrest : (ts.map fun t => cnt (ex σ (d' + 1) t)) = ts.map fun t => cnt (ex σ d' t) := List.map_congr_left fun q hq => by
        have hF : Fin σ n q := room_fin n _ k h2 q (by simp [hq])
        have hF' : Fin σ d' q := fin_up hF (by omega)
        have e := ex_more d' q hF'
        rw [← cnt_can (ex σ (d' + 1) q), e, cnt_can]
      have hhd : cnt (ex σ (d' + 1) t) = 1 + ((kidsL (wha σ t)).map fun t => cnt (ex σ d' t)).sum := by
        show cnt (if (wha σ t).v = 0 then _ else _) = _
        by_cases hv : (wha σ t).v = 0
        · rw [if_pos hv]
          show 1 + sumTo (fun i => cnt (ex σ d' ((wha σ t).f i))) (wha σ t).len = _
          rw [sumTo_sum, kidsL, List.map_map]; rfl
        · rw [if_neg hv, kidsL_nil (hw.top.2.2 hv).2]; rfl
      rw [List.map_cons, List.sum_cons, hrest, hhd]
      omega
where
  fin_up {σ : Sg} {n d : Nat} {q : Tm} (h : Fin σ n q) (hd : n ≤ d) : Fin σ d q := by
    induction hd with
    | refl => exact h
    | step _ ih => exact ih.mono
  sumTo_sum (g : Nat → Nat) (k : Nat) : sumTo g k = ((List.range k).map g).sum := by
    induction k with
    | zero => rfl
    | succ k ih => rw [sumTo, ih, List.range_succ, List.map_append, List.sum_append]; simp
/-- The roots of the reference. -/
def Rt (N : Int) (ρ : Int → Tm) (u : Int) : Prop := ∃ T, Okv N T ∧ (lk ρ T).v = u ∧ u ≠ 0
open Classical in
theorem roots {N : Int} {σ : Sg} {ρ : Int → Tm} (hR : Rel N σ ρ) (hd : Dec σ) (hO : ∀ v U, σ v = some U → Okv N U) (hN : 0 ≤ N) : ∃ ι : Int → Int, Ren N σ ρ ι ∧ (∀ u, ι u ≠ 0) ∧ Ij (Rt N ρ) ι ∧ ∀ X C : Tm, (∀ π, Ren N σ ρ π → ap (nmOf π) X = C) → ∀ v ∈ vsT X, Rt N ρ v := by
  have hren := nmD_ren hR hd hO hN
  have hv : ∀ T, Okv N T → (lk ρ T).v ≠ 0 → nmD ρ N N.toNat (lk ρ T).v ≠ 0 := fun T hT h => by rw [hren T hT h]; exact hR.vr T hT h
  have hc : ∀ c : Int, Ren N σ ρ (fun u => if Rt N ρ u then nmD ρ N N.toNat u else c) := fun c T hT h => by
    show (if Rt N ρ (lk ρ T).v then _ else _) = _
    rw [if_pos ⟨T, hT, rfl, h⟩]; exact hren T hT h
  have hz : ∀ c : Int, c ≠ 0 → ∀ u, (fun u => if Rt N ρ u then nmD ρ N N.toNat u else c) u ≠ 0 := fun c h0 u => by
    show (if Rt N ρ u then _ else _) ≠ _
    by_cases h : Rt N ρ u
    · rw [if_pos h]
      obtain ⟨T, hT, rfl, hu⟩ := h
      exact hv T hT hu
    · rw [if_neg h]; exact h0
  refine ⟨_, hc 1, hz 1 (by decide), fun u v hu hw e => ?_, fun X C hX v hm => ?_⟩
  · rw [show (fun u => if Rt N ρ u then nmD ρ N N.toNat u else 1) u = nmD ρ N N.toNat u from if_pos hu, show (fun u => if Rt N ρ u then nmD ρ N N.toNat u else 1) v = nmD ρ N N.toNat v from if_pos hw] at e
    obtain ⟨S, hS, rfl, hs⟩ := hu
    obtain ⟨T, hT, rfl, ht⟩ := hw
    rw [hren S hS hs, hren T hT ht] at e
    exact (hR.cls S T hS hT hs).2 e
  · have e1 := congrArg vsT (hX _ (hc 1))
    have e2 := congrArg vsT (hX _ (hc 2))
    rw [vsT_ap (fun v _ => hz 1 (by decide) v)] at e1
    rw [vsT_ap (fun v _ => hz 2 (by decide) v)] at e2
    have e3 := (List.map_inj_left.1 (e1.trans e2.symm)) v hm
    by_cases h : Rt N ρ v
    · exact h
    · simp only [if_neg h] at e3
      exact absurd e3 (by decide)
/-- What is found, over what the reference holds. -/
theorem found_of {N : Int} {σ : Sg} {ρ : Int → Tm} {ι : Int → Int} (hι : ∀ u, ι u ≠ 0) (hI : Ij (Rt N ρ) ι) {n : Nat} (Xs : List Tm) (hl : Xs.length = n) (hX : ∀ i (hi : i < Xs.length), ap (nmOf ι) Xs[i] = can (ex σ 200 (vT ((i : Int) + 1))) ∧ ∀ v ∈ vsT Xs[i], Rt N ρ v) : foundP σ n = Xs.map fun X => ap (nmOf (num (addV [] (Xs.map vsT).flatten))) X := by
  have hvs : ((List.range n).map fun i : Nat => ex σ 200 (vT ((i : Int) + 1))).map vsT = (Xs.map vsT).map fun l => l.map ι := by
    refine List.ext_getElem (by simp [hl]) fun i h1 h2 => ?_
    have hi : i < Xs.length := by simpa using h2
    have e := congrArg vsT (hX i hi).1
    rw [vsT_ap (fun v _ => hι v), vsT_can] at e
    simp only [List.getElem_map, List.getElem_range]
    exact e.symm
  have hall : ∀ u ∈ (Xs.map vsT).flatten, Rt N ρ u := fun u hu => by
    obtain ⟨l, hl1, hl2⟩ := List.mem_flatten.1 hu
    obtain ⟨X, hX1, rfl⟩ := List.mem_map.1 hl1
    obtain ⟨i, hi, rfl⟩ := List.getElem_of_mem hX1
    exact (hX i hi).2 u hl2
  have hadd := addV_ij hI (Xs.map vsT).flatten [] (fun u hu => by simp at hu) hall
  unfold foundP
  simp only []
  rw [hvs, ← List.map_flatten, show ([] : List Int) = ([] : List Int).map ι from rfl, hadd.1, List.map_nil]
  refine List.ext_getElem (by simp [hl]) fun i h1 h2 => ?_
  have hi : i < Xs.length := by simpa using h2
  simp only [List.getElem_map, List.getElem_range]
  rw [← ap_can, ← (hX i hi).1, can_apn, ap_two (fun v _ => hι v)]
  refine ap_vs fun v hv => ?_
  unfold num
  rw [idx_ij hI ((hX i hi).2 v hv) _ hadd.2]
end Go.Proofs.Ytmggaclaoefdaaa

namespace Go.Proofs.Ytmggaclaoefdaaa
open Go.RowKit

/-- Answers in memory, wherever they lie. -/
def AR (w : World) (sa : Option Addr) (l : List Tm) : Prop := ∀ k (hk : k < l.length), (∃ b o, sa = some ⟨b, o, none⟩ ∧ w.cell? ⟨b, o + k, none⟩ = some (.slice l[k].a l[k].len l[k].cap)) ∧ TIn w l[k]
theorem AR.below {w w' : World} {sa : Option Addr} {l : List Tm} (h : AR w sa l) (hb : Below w.heap.size w w') : AR w' sa l := fun k hk => by
  obtain ⟨⟨b, o, e, hc⟩, hT⟩ := h k hk
  exact ⟨⟨b, o, e, (hb.cell (lt_of_cell hc)).trans hc⟩, hT.below hb⟩
def sameAs (l m : List Tm) : Bool := ((l.length : Int) == (m.length : Int)) && allTo (fun i => sameTs (l.getD i .nil) (m.getD i .nil)) l.length
theorem allTo_fail {g : Nat → Bool} {k n : Nat} (hk : k < n) (h : g k = false) : allTo g n = false := by
  cases hn : allTo g n with
  | false => rfl
  | true =>
    have := allTo_le (show k + 1 ≤ n by omega) hn
    rw [allTo, h, Bool.and_false] at this
    cases this
set_option maxRecDepth 100000 in
set_option maxHeartbeats 4000000 in
theorem sameAns_any {sa sb : Option Addr} {ca cb : Nat} (l m : List Tm) (w : World) (hl : AR w sa l) (hm : AR w sb m) (hlb : l.length ≤ 2 ^ 63 - 1) :
    Calls Try.prog 33 #[.slice sa l.length ca, .slice sb m.length cb] w fun e w' => e = .returned (.bool (sameAs l m)) ∧ Below w.heap.size w w' := by
  have HL : Hid (AR w sa l) := hl
  have HM : Hid (AR w sb m) := hm
  clear hl hm
  by_cases hlm : l.length = m.length
  case neg =>
    have hnb : ((l.length : Int) != (m.length : Int)) = true := bne_iff_ne.2 (by omega)
    have HR : Hid (sameAs l m = false) := by
      rw [Hid]; unfold sameAs
      rw [beq_eq_false_iff_ne.2 (show (l.length : Int) ≠ (m.length : Int) by omega), Bool.false_and]
    go_enter Try.func33, Try.ntmps33
    go_wp2_with fail
    go_ret
    exact ⟨by rw [HR.out]; rfl, Below.refl _ _⟩
  have hnb : ((l.length : Int) != (m.length : Int)) = false := by rw [hlm]; simp
  have HR : Hid (sameAs l m = allTo (fun i => sameTs (l.getD i .nil) (m.getD i .nil)) l.length) := by
    rw [Hid]; unfold sameAs
    rw [beq_iff_eq.2 (show (l.length : Int) = (m.length : Int) by omega), Bool.true_and]
  have HLM : Hid (l.length = m.length) := hlm
  clear hlm
  go_enter Try.func33, Try.ntmps33
  go_wp2_with fail
  go_loopw [5] (fun x wr => ∃ j : Nat, j ≤ l.length ∧ x = .int .i64 j ∧ allTo (fun i => sameTs (l.getD i .nil) (m.getD i .nil)) j = true ∧ Below w.heap.size w wr) (fun x _ => l.length - (intOf x).toNat)
  case atStart => exact ⟨0, Nat.zero_le _, rfl, rfl, Below.refl _ _⟩
  case round =>
    obtain ⟨j, hj, rfl, hA, hB⟩ := hrel
    have HA : Hid (allTo (fun i => sameTs (l.getD i .nil) (m.getD i .nil)) j = true) := hA
    have HB : Hid (Below w.heap.size w wr) := hB
    clear hA hB
    by_cases hlt : j < l.length
    case neg =>
      have hje : j = l.length := by omega
      have HE : Hid (sameAs l m = true) := by rw [Hid, HR.out, ← hje]; exact HA.out
      clear hje
      go_wp2_with fail
      go_ret
      exact ⟨by rw [HE.out]; rfl, HB.out⟩
    have hltm : j < m.length := by have := HLM.out; omega
    obtain ⟨⟨b1, o1, rfl, d1⟩, hT1⟩ := HL.out.below HB.out j hlt
    obtain ⟨⟨b2, o2, rfl, d2⟩, hT2⟩ := HM.out.below HB.out j hltm
    have hg1 : l.getD j .nil = l[j] := by simp [List.getD, hlt]
    have hg2 : m.getD j .nil = m[j] := by simp [List.getD, hltm]
    have HT : Hid (TIn wr l[j] ∧ TIn wr m[j]) := ⟨hT1, hT2⟩
    have HNx : Hid (∀ b, sameTs l[j] m[j] = b → (b = true → allTo (fun i => sameTs (l.getD i .nil) (m.getD i .nil)) (j + 1) = true) ∧ (b = false → sameAs l m = false)) := fun b hb => by
      refine ⟨fun e => ?_, fun e => ?_⟩
      · rw [allTo, HA.out, hg1, hg2, hb, e]; rfl
      · rw [HR.out]; exact allTo_fail hlt (by rw [hg1, hg2, hb, e])
    clear hT1 hT2 hg1 hg2
    generalize l[j] = A at *
    generalize m[j] = B at *
    have hltI : (j : Int) < (l.length : Int) := by omega
    have hltJ : (j : Int) < (m.length : Int) := by omega
    have HKp : Hid (∀ W, Below wr.heap.size wr W → W.cell? ⟨b1, o1 + j, none⟩ = some (.slice A.a A.len A.cap) ∧ W.cell? ⟨b2, o2 + j, none⟩ = some (.slice B.a B.len B.cap)) := fun W hW => ⟨(hW.cell (lt_of_cell d1)).trans d1, (hW.cell (lt_of_cell d2)).trans d2⟩
    have HC : Hid (∀ W, Below wr.heap.size wr W → Calls Try.prog 24 #[.slice A.a A.len A.cap, .slice B.a B.len B.cap] W fun e w' => e = .returned (.bool (sameTs A B)) ∧ Below W.heap.size W w') := fun W hW => same18 A B W (HT.out.1.below hW) (HT.out.2.below hW)
    go_wp2_with fail
    go_region_held3 (fun w' => w'.cell? ⟨b1, o1 + j, none⟩ = some (.slice A.a A.len A.cap) ∧ w'.cell? ⟨b2, o2 + j, none⟩ = some (.slice B.a B.len B.cap)) ((refine HKp.out _ ?_; repeat (first | exact HB5.out | exact Below.refl _ _ | refine Below.drew ?_))) (first
      | (go_at_call 24
         refine (HC.out _ (by repeat (first | exact Below.refl _ _ | refine Below.drew ?_))).mono ?_
         rintro e w5 ⟨rfl, hb5⟩
         have HB5 : Hid (Below wr.heap.size wr w5) := Below.trans (by repeat (first | exact Below.refl _ _ | refine Below.drew ?_)) (hb5.mono (Nat.le_refl _))
         clear hb5))
    all_goals
      have HBf : Hid (Below w.heap.size w w5) := HB.out.trans (HB5.out.mono HB.out.size)
      cases hs : sameTs A B with
      | true =>
        have HN := (HNx.out true hs).1 rfl
        have HN' : Hid (allTo (fun i => sameTs (l.getD i .nil) (m.getD i .nil)) (j + 1) = true) := HN
        clear hs HN
        go_wp2_with fail
        go_roundw
        case rel => exact ⟨j + 1, by omega, by go_num, HN'.out, HBf.out⟩
        case measure => simp [intOf]; omega
      | false =>
        have HN : Hid (sameAs l m = false) := (HNx.out false hs).2 rfl
        clear hs
        go_wp2_with fail
        go_ret
        exact ⟨by rw [HN.out]; rfl, HBf.out⟩
/-- A result, as it lies: answers, end, steps. -/
def rsV (sa : Option Addr) (n ca : Nat) (fin st : Int) : Value := .agg #[.slice sa n ca, .int .i64 fin, .int .i64 st]
set_option maxRecDepth 100000 in
set_option maxHeartbeats 4000000 in
theorem sameRes_any {sa sb : Option Addr} {ca cb : Nat} (l m : List Tm) (f1 s1 f2 s2 : Int) (w : World) (hl : AR w sa l) (hm : AR w sb m) (hlb : l.length ≤ 2 ^ 63 - 1) :
    Calls Try.prog 32 #[rsV sa l.length ca f1 s1, rsV sb m.length cb f2 s2] w fun e w' => e = .returned (.bool ((f1 == f2) && ((s1 == s2) && sameAs l m))) ∧ Below w.heap.size w w' := by
  have HL : Hid (AR w sa l) := hl
  have HM : Hid (AR w sb m) := hm
  have HC : Hid (∀ W, Below w.heap.size w W → Calls Try.prog 33 #[.slice sa l.length ca, .slice sb m.length cb] W fun e w' => e = .returned (.bool (sameAs l m)) ∧ Below W.heap.size W w') := fun W hW => sameAns_any l m W (hl.below hW) (hm.below hW) hlb
  clear hl hm
  show Calls Try.prog 32 #[.agg #[.slice sa l.length ca, .int .i64 f1, .int .i64 s1], .agg #[.slice sb m.length cb, .int .i64 f2, .int .i64 s2]] w _
  have HBx : Hid (Below w.heap.size w ((w.alloc (.cells #[.slice sa l.length ca, .int .i64 f1, .int .i64 s1] 44)).alloc (.cells #[.slice sb m.length cb, .int .i64 f2, .int .i64 s2] 44))) := ((Below.refl _ _).alloc (Nat.le_refl _) _).alloc (by simp) _
  cases h1 : (f1 == f2) with
  | false =>
    go_enter Try.func32, Try.ntmps32
    go_wp2_with fail
    go_ret
    exact ⟨rfl, HBx.out⟩
  | true =>
    cases h2 : (s1 == s2) with
    | false =>
      go_enter Try.func32, Try.ntmps32
      go_wp2_with fail
      go_ret
      exact ⟨rfl, HBx.out⟩
    | true =>
      go_enter Try.func32, Try.ntmps32
      go_wp2_with fail
      refine (HC.out _ HBx.out).mono ?_
      rintro e w5 ⟨rfl, hb5⟩
      have HB5 : Hid (Below w.heap.size w w5) := HBx.out.trans (hb5.mono HBx.out.size)
      clear hb5
      go_wp2_with fail
      go_ret
      exact ⟨by rw [Bool.true_and, Bool.true_and]; rfl, HB5.out⟩
end Go.Proofs.Ytmggaclaoefdaaa
