/- Variables with other numbers: what is found is the same: over terms alone. Renew, Mark, Back. -/
import Derived.Test.YtmggaclaoefdaaaSr1
import Derived.Test.YtmggaclaoefdaaaGJ
namespace Go.Proofs.Ytmggaclaoefdaaa
open Go.RowKit

section
variable {U : Int → Prop} {ι : Int → Int} {σ σ' : Sg}
theorem vsT_ovu {T : Tm} (h : OvU U T) : ∀ v ∈ vsT T, U v := by
  induction T with
  | nil => exact h.elim
  | mk v nm a len cap f ih =>
    intro u hu
    rw [vsT] at hu
    split at hu
    · obtain ⟨l, hl, hul⟩ := List.mem_flatten.1 hu
      obtain ⟨i, hi, rfl⟩ := List.mem_map.1 hl
      exact ih i (h.2 i (List.mem_range.1 hi)) u hul
    · rename_i hv
      rw [List.mem_singleton] at hu; subst hu; exact (h.1 hv).1
theorem vsT_ren (hM : Mo U ι) {T : Tm} (h : OvU U T) : vsT (ren ι T) = (vsT T).map ι := by
  induction T with
  | nil => exact h.elim
  | mk v nm a len cap f ih =>
    by_cases hv : v = 0
    · rw [ren_fn ι (T := .mk v nm a len cap f) hv]
      show (if (0 : Int) = 0 then ((List.range len).map fun i => vsT (if i < len then ren ι (f i) else .nil)).flatten else [0]) = (if v = 0 then ((List.range len).map fun i => vsT (f i)).flatten else [v]).map ι
      rw [if_pos rfl, if_pos hv, List.map_flatten, List.map_map]
      congr 1
      apply List.map_congr_left
      intro i hi
      have hi := List.mem_range.1 hi
      rw [if_pos hi]
      exact ih i (h.2 i hi)
    · have hp := hM.pos v (h.1 hv).1
      rw [ren_var ι (T := .mk v nm a len cap f) hv]
      show vsT (vT (ι v)) = (if v = 0 then _ else [v]).map ι
      rw [if_neg hv]
      show (if ι v = 0 then _ else [ι v]) = [ι v]
      rw [if_neg (by omega)]
theorem mem_ren (hM : Mo U ι) {v : Int} (hv : U v) {s : List Int} (hs : ∀ u ∈ s, U u) : ι v ∈ s.map ι ↔ v ∈ s := by
  constructor
  · intro h
    obtain ⟨u, hu, e⟩ := List.mem_map.1 h
    rw [← hM.inj (hs u hu) hv e]; exact hu
  · intro h; exact List.mem_map.2 ⟨v, h, rfl⟩
theorem addV_ren (hM : Mo U ι) : ∀ (l s : List Int), (∀ u ∈ s, U u) → (∀ u ∈ l, U u) → addV (s.map ι) (l.map ι) = (addV s l).map ι ∧ ∀ u ∈ addV s l, U u := by
  intro l
  induction l with
  | nil => intro s hs _; exact ⟨rfl, hs⟩
  | cons v l ih =>
    intro s hs hl
    have hv := hl v (by simp)
    have hl' : ∀ u ∈ l, U u := fun u hu => hl u (by simp [hu])
    show addV (if ι v ∈ s.map ι then s.map ι else s.map ι ++ [ι v]) (l.map ι) = (addV (if v ∈ s then s else s ++ [v]) l).map ι ∧ ∀ u ∈ addV (if v ∈ s then s else s ++ [v]) l, U u
    have hm := mem_ren hM hv hs
    by_cases e : v ∈ s
    · rw [if_pos e, if_pos (hm.2 e)]; exact ih s hs hl'
    · rw [if_neg e, if_neg (fun h => e (hm.1 h)), show s.map ι ++ [ι v] = (s ++ [v]).map ι from by simp]
      refine ih (s ++ [v]) (fun u hu => ?_) hl'
      rcases List.mem_append.1 hu with hu | hu
      · exact hs u hu
      · rw [List.mem_singleton] at hu; rw [hu]; exact hv
theorem idx_ren (hM : Mo U ι) {v : Int} (hv : U v) : ∀ s : List Int, (∀ u ∈ s, U u) → (s.map ι).idxOf (ι v) = s.idxOf v := by
  intro s
  induction s with
  | nil => intro _; rfl
  | cons u s ih =>
    intro hs
    have hu := hs u (by simp)
    rw [List.map_cons, List.idxOf_cons, List.idxOf_cons, ih (fun x hx => hs x (by simp [hx]))]
    by_cases e : u = v
    · rw [e]; simp
    · have : (ι u == ι v) = false := beq_eq_false_iff_ne.2 (fun h => e (hM.inj hu hv h))
      rw [this, beq_eq_false_iff_ne.2 e]
theorem num_ren (hM : Mo U ι) {v : Int} (hv : U v) {s : List Int} (hs : ∀ u ∈ s, U u) : num (s.map ι) (ι v) = num s v := by
  unfold num; rw [idx_ren hM hv s hs]
theorem ap_nm_ren {π π' : Int → Int} {T : Tm} (h : OvU U T) (hπ : ∀ v, U v → π' (ι v) = π v) (hp : ∀ v, U v → ι v ≠ 0) : ap (nmOf π') (ren ι T) = ap (nmOf π) T := by
  induction T with
  | nil => exact h.elim
  | mk v nm a len cap f ih =>
    by_cases hv : v = 0
    · rw [ren_fn ι (T := .mk v nm a len cap f) hv, ap_fn _ (T := .mk v nm a len cap f) hv]
      show (if (0 : Int) = 0 then Tm.mk 0 nm none len 0 (fun i => if i < len then ap (nmOf π') (if i < len then ren ι (f i) else .nil) else .nil) else _) = Tm.mk 0 nm none len 0 (fun i => if i < len then ap (nmOf π) (f i) else .nil)
      rw [if_pos rfl]
      congr 1
      funext i
      by_cases hi : i < len
      · rw [if_pos hi, if_pos hi, if_pos hi]; exact ih i (h.2 i hi)
      · rw [if_neg hi, if_neg hi]
    · have hu := (h.1 hv).1
      rw [ren_var ι (T := .mk v nm a len cap f) hv, ap_var _ (T := .mk v nm a len cap f) hv]
      show ap (nmOf π') (vT (ι v)) = nmOf π v
      rw [ap_var _ (T := vT (ι v)) (hp v hu)]
      show can (vT (π' (ι v))) = can (vT (π v))
      rw [hπ v hu]
/-- What is found does not hang on how variables are numbered. -/
theorem found_ren (h : SgR U ι σ σ') (hM : Mo U ι) {n : Nat} (hU : ∀ i : Nat, i < n → U ((i : Int) + 1) ∧ ι ((i : Int) + 1) = (i : Int) + 1) (hF : ∀ i : Nat, i < n → Fin σ 200 (vT ((i : Int) + 1))) : foundP σ' n = foundP σ n := by
  have hex : ∀ i : Nat, i < n → can (ex σ' 200 (vT ((i : Int) + 1))) = ren ι (ex σ 200 (vT ((i : Int) + 1))) ∧ OvU U (ex σ 200 (vT ((i : Int) + 1))) := fun i hi => by
    have := h.ex hM 200 (vT ((i : Int) + 1)) (hF i hi) (ovu_vT (hU i hi).1)
    rw [ren_var ι (T := vT ((i : Int) + 1)) (by show (i : Int) + 1 ≠ 0; omega), show ι (vT ((i : Int) + 1)).v = (i : Int) + 1 from (hU i hi).2] at this
    exact this
  have hvs : ((List.range n).map fun i : Nat => vsT (ex σ' 200 (vT ((i : Int) + 1)))).flatten = (((List.range n).map fun i : Nat => vsT (ex σ 200 (vT ((i : Int) + 1)))).flatten).map ι := by
    rw [List.map_flatten, List.map_map]
    congr 1
    apply List.map_congr_left
    intro i hi
    have hi := List.mem_range.1 hi
    show vsT (ex σ' 200 (vT ((i : Int) + 1))) = (vsT (ex σ 200 (vT ((i : Int) + 1)))).map ι
    rw [← vsT_can, (hex i hi).1, vsT_ren hM (hex i hi).2]
  have hal : ∀ u ∈ ((List.range n).map fun i : Nat => vsT (ex σ 200 (vT ((i : Int) + 1)))).flatten, U u := fun u hu => by
    obtain ⟨l, hl, hul⟩ := List.mem_flatten.1 hu
    obtain ⟨i, hi, rfl⟩ := List.mem_map.1 hl
    exact vsT_ovu (hex i (List.mem_range.1 hi)).2 u hul
  obtain ⟨ha1, ha2⟩ := addV_ren hM _ [] (fun u hu => by simp at hu) hal
  have e1 : foundP σ' n = (List.range n).map fun i : Nat => can (ap (nmOf (num (addV [] ((List.range n).map fun i : Nat => vsT (ex σ' 200 (vT ((i : Int) + 1)))).flatten))) (ex σ' 200 (vT ((i : Int) + 1)))) := by
    unfold foundP; simp only [List.map_map]; rfl
  have e2 : foundP σ n = (List.range n).map fun i : Nat => can (ap (nmOf (num (addV [] ((List.range n).map fun i : Nat => vsT (ex σ 200 (vT ((i : Int) + 1)))).flatten))) (ex σ 200 (vT ((i : Int) + 1)))) := by
    unfold foundP; simp only [List.map_map]; rfl
  rw [e1, e2]
  apply List.map_congr_left
  intro i hi
  have hi := List.mem_range.1 hi
  rw [← ap_can _ (ex σ' 200 (vT ((i : Int) + 1))), (hex i hi).1, hvs]
  have ha1' : addV [] ((((List.range n).map fun i : Nat => vsT (ex σ 200 (vT ((i : Int) + 1)))).flatten).map ι) = (addV [] ((List.range n).map fun i : Nat => vsT (ex σ 200 (vT ((i : Int) + 1)))).flatten).map ι := ha1
  rw [ha1', ap_nm_ren (hex i hi).2 (fun v hv => num_ren hM hv ha2) (fun v hv => by have := (hM.pos v hv).2; omega)]
end
end Go.Proofs.Ytmggaclaoefdaaa

namespace Go.Proofs.Ytmggaclaoefdaaa
open Go.RowKit

set_option maxRecDepth 100000 in
theorem renew_any {b m : Nat} {tv : Value} {N : Int} {lo n : Nat} {σ : Sg} {L : Int} (w : World) (hS : VS w b m tv N lo n σ L) :
    Calls Try.prog 124 #[.pointer (some ⟨b, 0, none⟩)] w fun e w' => e = .returned (.tuple #[]) ∧ VS w' b m tv N lo n σ (4000 : Nat) ∧ G b w w' := by
  have HS : Hid (VS w b m tv N lo n σ L) := hS
  obtain ⟨v0, v1, v2, k0, k1, k2⟩ := block_cells hS.blk
  have HX : Hid ((w.setCell ⟨b, 2, none⟩ (.int .i64 4000)).heap[b]? = some (.cells #[.map (some m), tv, .int .i64 4000] 142)) := setL (c := .int .i64 4000) hS.blk
  have HG : Hid (G b w (w.setCell ⟨b, 2, none⟩ (.int .i64 4000))) := G.set b w 2 _
  clear hS
  go_enter Try.func124, Try.ntmps124
  go_wp2_with fail
  go_end0
  exact ⟨rfl, HS.out.atB HG.out HX.out, HG.out⟩

theorem tr_form {w : World} {lo : Nat} {tv : Value} {tr : List Int} (h : w.ownsRow lo 3 1 tv tr.length (tr.map (Value.int .i64))) : ∃ a cp, tv = .slice a tr.length cp ∧ tr.length ≤ cp ∧ cp ≤ maxLen ∧ ∀ k (hk : k < tr.length), ∃ g, a = some ⟨g, 0, none⟩ ∧ w.cell? ⟨g, k, none⟩ = some (.int .i64 tr[k]) := by
  rcases h.2 with ⟨rfl, h0⟩ | ⟨g, cap, cur, rfl, hlo, hg, hnc, hcm, hsz, htk⟩
  · exact ⟨none, 0, by rw [h0], by omega, by unfold maxLen; omega, fun k hk => by omega⟩
  · exact ⟨some ⟨g, 0, none⟩, cap, rfl, hnc, hcm, fun k hk => ⟨g, rfl, by
      rw [h.cellAt k (by omega)]; simp [hk]⟩⟩
set_option maxRecDepth 100000 in
theorem mark_any {b m : Nat} {tv : Value} {N : Int} {lo n : Nat} {σ : Sg} {L : Int} {tr : List Int} (w : World) (hS : VS w b m tv N lo n σ L) (hT : TrOk w lo tv tr σ) :
    Calls Try.prog 140 #[.pointer (some ⟨b, 0, none⟩)] w fun e w' => e = .returned (.int .i64 tr.length) ∧ w' = w := by
  obtain ⟨a, cp, rfl, h1, h2, _⟩ := tr_form hT.1
  obtain ⟨v0, v1, v2, k0, k1, k2⟩ := block_cells hS.blk
  clear hS hT
  go_enter Try.func140, Try.ntmps140
  go_wp2_with fail
  go_ret
  exact ⟨rfl, rfl⟩
/-- What is something of those of a list alone. -/
def rst (σ : Sg) (l : List Int) : Sg := fun v => if v ∈ l then σ v else none
def del (σ : Sg) (i : Int) : Sg := fun j => if j = i then none else σ j
theorem MapIs.dropped {w' : World} {m n : Nat} {σ : Sg} {D : DataW Value} (hm : Maps.IsMap D) (hs : ∀ i : Int, 0 ≤ i → i ≤ 1000000 → Maps.has D (.int .i64 i) = (σ i).isSome ∧ ∀ T, σ i = some T → ∀ z, D.atKey (.int .i64 i) z = .held T.val) {i : Int} (ho : w'.ownsMap Try.prog 3 heldR m n (D.del (.int .i64 i))) : MapIs w' m n (del σ i) := by
  refine ⟨_, ho, hm.del _, fun j j0 j1 => ?_⟩
  by_cases e : j = i
  · subst e
    exact ⟨by rw [Maps.has_del_same]; simp [del], fun T' hT' z => by simp [del] at hT'⟩
  · have hne : (Lit.int .i64 j) ≠ .int .i64 i := fun h => e (by injection h)
    obtain ⟨g1, g2⟩ := hs j j0 j1
    refine ⟨by rw [Maps.has_del_other hne, g1, del, if_neg e], fun T' hT' z => ?_⟩
    rw [Maps.atKey_del_other hne]
    rw [del, if_neg e] at hT'
    exact g2 T' hT' z
/-- Those of a list are nothing any more. -/
def dl (σ : Sg) (l : List Int) : Sg := fun v => if v ∈ l then none else σ v
theorem dl_nil (σ : Sg) : dl σ [] = σ := by funext v; simp [dl]
theorem dl_next (σ : Sg) (l : List Int) (j : Nat) (h : j < l.length) : del (dl σ (l.take j)) l[j] = dl σ (l.take (j + 1)) := by
  funext v
  unfold del dl
  rw [List.take_succ_eq_append_getElem h]
  by_cases e : v = l[j]
  · rw [if_pos e, if_pos (List.mem_append.2 (.inr (by simp [e])))]
  · rw [if_neg e]
    by_cases h2 : v ∈ l.take j
    · rw [if_pos h2, if_pos (List.mem_append.2 (.inl h2))]
    · rw [if_neg h2, if_neg (fun h' => by rcases List.mem_append.1 h' with h' | h'; (· exact h2 h'); (· simp at h'; exact e h'))]
theorem dl_rst {σ : Sg} {tr : List Int} (hn : tr.Nodup) (hs : ∀ v, (σ v).isSome = true ↔ v ∈ tr) (k : Nat) : dl σ (tr.drop k) = rst σ (tr.take k) := by
  funext v
  unfold dl rst
  by_cases h1 : v ∈ tr.take k
  · have h2 : v ∉ tr.drop k := fun h2 => by
      rw [← List.take_append_drop k tr, List.nodup_append] at hn
      exact hn.2.2 v h1 v h2 rfl
    rw [if_pos h1, if_neg h2]
  · rw [if_neg h1]
    by_cases h2 : v ∈ tr.drop k
    · rw [if_pos h2]
    · rw [if_neg h2]
      have : v ∉ tr := fun h => by
        rw [← List.take_append_drop k tr] at h
        rcases List.mem_append.1 h with h | h
        · exact h1 h
        · exact h2 h
      cases hv : σ v with
      | none => rfl
      | some U => exact absurd ((hs v).1 (by rw [hv]; rfl)) this
theorem from_run (g ln cp k : Nat) (h : k ≤ ln) (hc : ln ≤ cp) : ∃ o, (∀ W : World, (Instr.slice 56 (.slice (some ⟨g, 0, none⟩) ln cp) (some (.int .i64 k)) none none).run Try.prog W = .ok (.slice (some ⟨g, o, none⟩) (ln - k) (cp - k)) W) ∧ (k < ln → o = k) := by
  obtain ⟨i0, hi, hz0, hz1, hz2⟩ := info_parts Try.info3
  have h' : (k : Int) ≤ (ln : Int) := by omega
  refine ⟨if cp = k then 0 else k, fun W => ?_, fun h1 => by rw [if_neg (by omega)]⟩
  simp [Instr.slice, run_underlying Try.underlying56, Instr.sliceBounds, run_sliceBound, sizeOf, typeInfo, hi, hz1, h', Addr.add]
  by_cases h1 : cp = k
  · rw [if_pos h1, if_pos h1]
  · rw [if_neg h1, if_neg h1]
    by_cases h2 : k = 0
    · rw [if_pos h2, h2]
    · rw [if_neg h2]
theorem to_run (g ln cp k : Nat) (h : k ≤ ln) (hc : ln ≤ cp) (W : World) : (Instr.slice 56 (.slice (some ⟨g, 0, none⟩) ln cp) none (some (.int .i64 k)) none).run Try.prog W = .ok (.slice (some ⟨g, 0, none⟩) k cp) W := by
  obtain ⟨i0, hi, hz0, hz1, hz2⟩ := info_parts Try.info3
  have h' : (k : Int) ≤ (cp : Int) := by omega
  simp [Instr.slice, run_underlying Try.underlying56, Instr.sliceBounds, run_sliceBound, sizeOf, typeInfo, hi, h', Addr.add]
theorem from_nil (W : World) : (Instr.slice 56 (.slice none 0 0) (some (.int .i64 0)) none none).run Try.prog W = .ok (.slice none 0 0) W := by
  obtain ⟨i0, hi, hz0, hz1, hz2⟩ := info_parts Try.info3
  simp [Instr.slice, run_underlying Try.underlying56, Instr.sliceBounds, run_sliceBound, sizeOf, typeInfo, hi, Addr.add]
theorem to_nil (W : World) : (Instr.slice 56 (.slice none 0 0) none (some (.int .i64 0)) none).run Try.prog W = .ok (.slice none 0 0) W := by
  obtain ⟨i0, hi, hz0, hz1, hz2⟩ := info_parts Try.info3
  simp [Instr.slice, run_underlying Try.underlying56, Instr.sliceBounds, run_sliceBound, sizeOf, typeInfo, hi, Addr.add]
theorem VS.back {w w1 : World} {b m : Nat} {g cp k : Nat} {N : Int} {lo n : Nat} {σ σ' : Sg} {L : Int} {tr : List Int} (hS : VS w b m (.slice (some ⟨g, 0, none⟩) tr.length cp) N lo n σ L) (hT : TrOk w lo (.slice (some ⟨g, 0, none⟩) tr.length cp) tr σ) (hk : k ≤ tr.length) (hM : MapIs w1 m n σ') (hσ : σ' = rst σ (tr.take k)) (hg : w.grownBy w1 (some m)) :
    VS (w1.setCell ⟨b, 1, none⟩ (.slice (some ⟨g, 0, none⟩) k cp)) b m (.slice (some ⟨g, 0, none⟩) k cp) N lo n (rst σ (tr.take k)) L ∧ TrOk (w1.setCell ⟨b, 1, none⟩ (.slice (some ⟨g, 0, none⟩) k cp)) lo (.slice (some ⟨g, 0, none⟩) k cp) (tr.take k) (rst σ (tr.take k)) ∧ GF b m (.slice (some ⟨g, 0, none⟩) tr.length cp) w (w1.setCell ⟨b, 1, none⟩ (.slice (some ⟨g, 0, none⟩) k cp)) := by
  have hset := G.set b w1 1 (.slice (some ⟨g, 0, none⟩) k cp)
  have hgb := hS.tb g rfl
  have hgl : g < w.heap.size := hS.trail_lt g rfl
  have hGF : GF b m (.slice (some ⟨g, 0, none⟩) tr.length cp) w (w1.setCell ⟨b, 1, none⟩ (.slice (some ⟨g, 0, none⟩) k cp)) :=
    ⟨hset.os.trans hg.os, hset.tape.trans hg.tape, hset.output.trans hg.output, Nat.le_trans hg.size hset.size, fun j hj h1 h2 _ => (hset.block j (by have := hg.size; omega) (by simpa using h1)).trans (hg.block j hj (by simpa using h2))⟩
  have hgw : (w1.setCell ⟨b, 1, none⟩ (.slice (some ⟨g, 0, none⟩) k cp)).heap[g]? = w.heap[g]? := (hset.block g (by have := hg.size; omega) (by simpa using hgb.1)).trans (hg.block g hgl (by simpa using hgb.2))
  have hrow : (w1.setCell ⟨b, 1, none⟩ (.slice (some ⟨g, 0, none⟩) k cp)).ownsRow lo 3 1 (.slice (some ⟨g, 0, none⟩) k cp) (tr.take k).length ((tr.take k).map (Value.int .i64)) := by
    have hl : (tr.take k).length = k := by rw [List.length_take]; omega
    rcases hT.1.2 with ⟨h, _⟩ | ⟨g', cap, cur, he, hlo, hgg, hnc, hcm, hsz, htk⟩
    · simp at h
    · simp only [Value.slice.injEq, Option.some.injEq, Addr.mk.injEq, and_true, true_and] at he
      obtain ⟨rfl, rfl⟩ := he
      rw [hl]
      refine ⟨by rw [List.length_map, hl, Nat.mul_one], .inr ⟨g, cp, cur, rfl, hlo, hgw.trans hgg, by omega, hcm, hsz, ?_⟩⟩
      rw [List.map_take, ← htk, List.take_take]
      congr 1
      omega
  have hsub : ∀ v U, rst σ (tr.take k) v = some U → σ v = some U := fun v U h => by
    unfold rst at h
    split at h
    · exact h
    · simp at h
  refine ⟨⟨setT ((hg.block b hS.lt (by simpa using hS.ne)).trans hS.blk), ?_, ⟨tr.take k, hrow, ?_⟩, hS.ne, fun g' h => hS.tb g' h, hS.lob, fun v T h => ?_, fun v T h => hS.dec v T (hsub v T h), hS.big⟩, ⟨hrow, ?_, fun v => ?_, fun v h => hT.2.2.2 v (List.mem_of_mem_take h)⟩, hGF⟩
  · rw [← hσ]; exact hM.kept hset (fun e => hS.ne (Option.some.inj e).symm)
  · obtain ⟨tr0, h1, h2⟩ := hS.own
    have := (owns_one hT.1 h1).1
    rw [List.length_take]; omega
  · obtain ⟨h1, h2, h3, h4, h5⟩ := hS.trm v T (hsub v T h)
    exact ⟨h1.gf hGF h3 h4 h5, h2, h3, h4, fun g' hg' => h5 g' hg'⟩
  · exact hT.2.1.sublist (List.take_sublist k tr)
  · unfold rst
    constructor
    · intro h
      split at h
      · assumption
      · simp at h
    · intro h
      rw [if_pos h]
      exact (hT.2.2.1 v).2 (List.mem_of_mem_take h)
set_option maxRecDepth 100000 in
set_option maxHeartbeats 4000000 in
theorem back_any {b m : Nat} {tv : Value} {N : Int} {lo n : Nat} {σ : Sg} {L : Int} {tr : List Int} (k : Nat) (w : World) (hS : VS w b m tv N lo n σ L) (hT : TrOk w lo tv tr σ) (hk : k ≤ tr.length) :
    Calls Try.prog 138 #[.pointer (some ⟨b, 0, none⟩), .int .i64 k] w fun e w' => e = .returned (.tuple #[]) ∧ ∃ tv' : Value, tv'.ownBlock = tv.ownBlock ∧ VS w' b m tv' N lo n (rst σ (tr.take k)) L ∧ TrOk w' lo tv' (tr.take k) (rst σ (tr.take k)) ∧ GF b m tv w w' := by
  obtain ⟨a, cp, rfl, hc1, hc2, hcell⟩ := tr_form hT.1
  have HS : Hid (VS w b m (.slice a tr.length cp) N lo n σ L) := hS
  have HT : Hid (TrOk w lo (.slice a tr.length cp) tr σ) := hT
  obtain ⟨v0, v1, v2, k0, k1, k2⟩ := block_cells hS.blk
  have hm : m < w.heap.size := hS.map.lt
  have hbl := hS.lt
  have hne := hS.ne
  have hcm : cp ≤ 2 ^ 63 - 1 := hc2
  cases a with
  | none =>
    have h0 : tr = [] := by
      cases tr with
      | nil => rfl
      | cons x r => obtain ⟨g, h, _⟩ := hcell 0 (by simp); simp at h
    subst h0
    have hk0 : k = 0 := by simpa using hk
    subst hk0
    have hcp : cp = 0 := by
      rcases hT.1.2 with ⟨h, _⟩ | ⟨g', cap, cur, he, _⟩
      · simp at h; exact h
      · simp at he
    subst hcp
    have hf := from_nil
    have ht := to_nil
    have HX : Hid ((w.setCell ⟨b, 1, none⟩ (.slice none 0 0)).heap[b]? = some (.cells #[.map (some m), .slice none 0 0, .int .i64 L] 142)) := setT (c := .slice none 0 0) hS.blk
    have HG : Hid (G b w (w.setCell ⟨b, 1, none⟩ (.slice none 0 0))) := G.set b w 1 _
    have HE : Hid (rst σ (([] : List Int).take 0) = σ) := by
      have := dl_rst hT.2.1 hT.2.2.1 0
      rw [Hid, ← this]; exact dl_nil σ
    clear hS hT hk hcell
    simp only [List.length_nil] at *
    go_enter Try.func138, Try.ntmps138
    go_wp2_with fail
    go_loopw [13] (fun i wr => i = .int .i64 0 ∧ wr = w) (fun _ _ => 0)
    case atStart => exact ⟨rfl, rfl⟩
    case round =>
      obtain ⟨rfl, rfl⟩ := hrel
      go_wp2_with fail
      go_end0
      refine ⟨rfl, .slice none 0 0, rfl, ?_, ?_, GF.ofG HG.out⟩
      · rw [HE.out]; exact HS.out.atB HG.out HX.out
      · rw [HE.out]
        exact ⟨HT.out.1.kept HG.out (.inl rfl), HT.out.2⟩
  | some ad =>
    have hg0 : ∃ g, ad = ⟨g, 0, none⟩ := by
      rcases hT.1.2 with ⟨h, _⟩ | ⟨g', cap, cur, he, _⟩
      · simp at h
      · simp at he; exact ⟨g', he.1⟩
    obtain ⟨g, rfl⟩ := hg0
    obtain ⟨o, hf, hof⟩ := from_run g tr.length cp k hk hc1
    have ht := to_run g tr.length cp k hk hc1
    have HCell : Hid (∀ j (hj : k + j < tr.length), w.cell? ⟨g, k + j, none⟩ = some (.int .i64 tr[k + j])) := fun j hj => by
      obtain ⟨g', h1, h2⟩ := hcell (k + j) hj
      simp at h1; subst h1; exact h2
    have hgm := (hS.tb g rfl).2
    have HD0 : Hid (MapIs w m n (dl σ ((tr.drop k).take 0))) := by rw [Hid, List.take_zero, dl_nil]; exact hS.map
    have hkl : k ≤ tr.length := hk
    clear hS hT hk hcell
    go_enter Try.func138, Try.ntmps138
    go_wp2_with fail
    go_loopw [13] (fun i wr => ∃ j : Nat, j ≤ tr.length - k ∧ i = .int .i64 j ∧ MapIs wr m n (dl σ ((tr.drop k).take j)) ∧ w.grownBy wr (some m)) (fun i _ => tr.length - k - (intOf i).toNat)
    case atStart => exact ⟨0, Nat.zero_le _, rfl, HD0.out, G.refl _ _⟩
    case round =>
      obtain ⟨j, hj, rfl, hMj, hGj⟩ := hrel
      have HGj : Hid (w.grownBy wr (some m)) := hGj
      have r0 : wr.cell? ⟨b, 0, none⟩ = some (.map (some m)) := hGj.cell v0 (by simpa using hne)
      have r1 : wr.cell? ⟨b, 1, none⟩ = some (.slice (some ⟨g, 0, none⟩) tr.length cp) := hGj.cell v1 (by simpa using hne)
      have rf1 : wr.frozen? ⟨b, 1, none⟩ = false := (World.frozen?_of_block (hGj.block b hbl (by simpa using hne))).trans k1
      have HMj : Hid (MapIs wr m n (dl σ ((tr.drop k).take j))) := hMj
      by_cases hlt : j < tr.length - k
      case neg =>
        have hje : j = tr.length - k := by omega
        have HMe : Hid (MapIs wr m n (rst σ (tr.take k))) := by
          have := HMj.out
          rw [hje, List.take_of_length_le (by rw [List.length_drop]; omega), dl_rst HT.out.2.1 HT.out.2.2.1] at this
          exact this
        clear hMj hGj hje
        go_wp2_with fail
        go_end0
        obtain ⟨h1, h2, h3⟩ := VS.back HS.out HT.out hkl HMe.out rfl HGj.out
        exact ⟨rfl, .slice (some ⟨g, 0, none⟩) k cp, rfl, h1, h2, h3⟩
      have hlj : k + j < tr.length := by omega
      have ho : o = k := hof (by omega)
      have hc : wr.cell? ⟨g, o + j, none⟩ = some (.int .i64 tr[k + j]) := by rw [ho]; exact hGj.cell (HCell.out j hlj) (by simpa using hgm)
      have hr := HT.out.2.2.2 tr[k + j] (List.getElem_mem _)
      have HNx : Hid (del (dl σ ((tr.drop k).take j)) tr[k + j] = dl σ ((tr.drop k).take (j + 1))) := by
        have := dl_next σ (tr.drop k) j (by rw [List.length_drop]; omega)
        rw [List.getElem_drop] at this
        exact this
      obtain ⟨D, hD, hIs, hs⟩ := hMj
      have HIs : Hid (Maps.IsMap D) := hIs
      have HSs : Hid (∀ i : Int, 0 ≤ i → i ≤ 1000000 → Maps.has D (.int .i64 i) = (dl σ ((tr.drop k).take j) i).isSome ∧ ∀ T, dl σ ((tr.drop k).take j) i = some T → ∀ z, D.atKey (.int .i64 i) z = .held T.val) := hs
      have HDD : Hid (wr.ownsMap Try.prog 3 heldR m n D) := hD
      have HKy := key3 hr.1 hr.2
      clear hD hIs hs hGj ho
      generalize tr[k + j] = q at *
      go_wp2_with (at_delete; refine wpList_delete_own _ rfl _ _ 140 3 rfl 24 keyed3 Try.underlying140 heldR m n D rfl HDD.out _ _ rfl HKy ?_; intro w1 hown1 hturn1)
      go_roundw
      case rel => exact ⟨j + 1, by omega, by go_num, by rw [← HNx.out]; exact MapIs.dropped HIs.out HSs.out hown1, G.trans HGj.out hturn1.grown⟩
      case measure => simp [intOf]; omega
end Go.Proofs.Ytmggaclaoefdaaa
