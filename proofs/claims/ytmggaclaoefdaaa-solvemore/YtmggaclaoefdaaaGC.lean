/- Renew, Mark, Back. A search in memory: its record; is, own, fit, ahead. fit: the first clause that fits. fit, walked; goals in memory, and ahead. A search in memory: what holds between its steps. -/
import Derived.Test.YtmggaclaoefdaaaSv4
namespace Go.Proofs.Ytmggaclaoefdaaa
open Go.RowKit

set_option maxRecDepth 100000 in
theorem renew_any {b m : Nat} {tv : Value} {N : Int} {lo n : Nat} {σ : Sg} {L : Int} (w : World) (hS : VS w b m tv N lo n σ L) :
    Calls Try.prog 124 #[.pointer (some ⟨b, 0, none⟩)] w fun e w' => e = .returned (.tuple #[]) ∧ VS w' b m tv N lo n σ (4000 : Nat) ∧ G b w w' := by
  have HS : Hid (VS w b m tv N lo n σ L) := hS
  obtain ⟨v0, v1, v2, k0, k1, k2⟩ := block_cells hS.blk
  have HX : Hid ((w.setCell ⟨b, 2, none⟩ (.int .i64 4000)).heap[b]? = some (.cells #[.map (some m), tv, .int .i64 4000] 142)) := setL (c := .int .i64 4000) hS.blk
  have HG : Hid (G b w (w.setCell ⟨b, 2, none⟩ (.int .i64 4000))) := G.set b w 2 _
  clear hS
  go_enter Try.func124, Try.ntmps124
  go_wp2_with fail
  go_end0
  exact ⟨rfl, HS.out.atB HG.out HX.out, HG.out⟩

theorem tr_form {w : World} {lo : Nat} {tv : Value} {tr : List Int} (h : w.ownsRow lo 3 1 tv tr.length (tr.map (Value.int .i64))) : ∃ a cp, tv = .slice a tr.length cp ∧ tr.length ≤ cp ∧ cp ≤ maxLen ∧ ∀ k (hk : k < tr.length), ∃ g, a = some ⟨g, 0, none⟩ ∧ w.cell? ⟨g, k, none⟩ = some (.int .i64 tr[k]) := by
  rcases h.2 with ⟨rfl, h0⟩ | ⟨g, cap, cur, rfl, hlo, hg, hnc, hcm, hsz, htk⟩
  · exact ⟨none, 0, by rw [h0], by omega, by unfold maxLen; omega, fun k hk => by omega⟩
  · exact ⟨some ⟨g, 0, none⟩, cap, rfl, hnc, hcm, fun k hk => ⟨g, rfl, by
      rw [h.cellAt k (by omega)]; simp [hk]⟩⟩
set_option maxRecDepth 100000 in
theorem mark_any {b m : Nat} {tv : Value} {N : Int} {lo n : Nat} {σ : Sg} {L : Int} {tr : List Int} (w : World) (hS : VS w b m tv N lo n σ L) (hT : TrOk w lo tv tr σ) :
    Calls Try.prog 140 #[.pointer (some ⟨b, 0, none⟩)] w fun e w' => e = .returned (.int .i64 tr.length) ∧ w' = w := by
  obtain ⟨a, cp, rfl, h1, h2, _⟩ := tr_form hT.1
  obtain ⟨v0, v1, v2, k0, k1, k2⟩ := block_cells hS.blk
  clear hS hT
  go_enter Try.func140, Try.ntmps140
  go_wp2_with fail
  go_ret
  exact ⟨rfl, rfl⟩
/-- What is something of those of a list alone. -/
def rst (σ : Sg) (l : List Int) : Sg := fun v => if v ∈ l then σ v else none
def del (σ : Sg) (i : Int) : Sg := fun j => if j = i then none else σ j
theorem MapIs.dropped {w' : World} {m n : Nat} {σ : Sg} {D : DataW Value} (hm : Maps.IsMap D) (hs : ∀ i : Int, 0 ≤ i → i ≤ 1000000 → Maps.has D (.int .i64 i) = (σ i).isSome ∧ ∀ T, σ i = some T → ∀ z, D.atKey (.int .i64 i) z = .held T.val) {i : Int} (ho : w'.ownsMap Try.prog 3 heldR m n (D.del (.int .i64 i))) : MapIs w' m n (del σ i) := by
  refine ⟨_, ho, hm.del _, fun j j0 j1 => ?_⟩
  by_cases e : j = i
  · subst e
    exact ⟨by rw [Maps.has_del_same]; simp [del], fun T' hT' z => by simp [del] at hT'⟩
  · have hne : (Lit.int .i64 j) ≠ .int .i64 i := fun h => e (by injection h)
    obtain ⟨g1, g2⟩ := hs j j0 j1
    refine ⟨by rw [Maps.has_del_other hne, g1, del, if_neg e], fun T' hT' z => ?_⟩
    rw [Maps.atKey_del_other hne]
    rw [del, if_neg e] at hT'
    exact g2 T' hT' z
/-- Those of a list are nothing any more. -/
def dl (σ : Sg) (l : List Int) : Sg := fun v => if v ∈ l then none else σ v
theorem dl_nil (σ : Sg) : dl σ [] = σ := by funext v; simp [dl]
theorem dl_next (σ : Sg) (l : List Int) (j : Nat) (h : j < l.length) : del (dl σ (l.take j)) l[j] = dl σ (l.take (j + 1)) := by
  funext v
  unfold del dl
  rw [List.take_succ_eq_append_getElem h]
  by_cases e : v = l[j]
  · rw [if_pos e, if_pos (List.mem_append.2 (.inr (by simp [e])))]
  · rw [if_neg e]
    by_cases h2 : v ∈ l.take j
    · rw [if_pos h2, if_pos (List.mem_append.2 (.inl h2))]
    · rw [if_neg h2, if_neg (fun h' => by rcases List.mem_append.1 h' with h' | h'; (· exact h2 h'); (· simp at h'; exact e h'))]
theorem dl_rst {σ : Sg} {tr : List Int} (hn : tr.Nodup) (hs : ∀ v, (σ v).isSome = true ↔ v ∈ tr) (k : Nat) : dl σ (tr.drop k) = rst σ (tr.take k) := by
  funext v
  unfold dl rst
  by_cases h1 : v ∈ tr.take k
  · have h2 : v ∉ tr.drop k := fun h2 => by
      rw [← List.take_append_drop k tr, List.nodup_append] at hn
      exact hn.2.2 v h1 v h2 rfl
    rw [if_pos h1, if_neg h2]
  · rw [if_neg h1]
    by_cases h2 : v ∈ tr.drop k
    · rw [if_pos h2]
    · rw [if_neg h2]
      have : v ∉ tr := fun h => by
        rw [← List.take_append_drop k tr] at h
        rcases List.mem_append.1 h with h | h
        · exact h1 h
        · exact h2 h
      cases hv : σ v with
      | none => rfl
      | some U => exact absurd ((hs v).1 (by rw [hv]; rfl)) this
theorem from_run (g ln cp k : Nat) (h : k ≤ ln) (hc : ln ≤ cp) : ∃ o, (∀ W : World, (Instr.slice 56 (.slice (some ⟨g, 0, none⟩) ln cp) (some (.int .i64 k)) none none).run Try.prog W = .ok (.slice (some ⟨g, o, none⟩) (ln - k) (cp - k)) W) ∧ (k < ln → o = k) := by
  obtain ⟨i0, hi, hz0, hz1, hz2⟩ := info_parts Try.info3
  have h' : (k : Int) ≤ (ln : Int) := by omega
  refine ⟨if cp = k then 0 else k, fun W => ?_, fun h1 => by rw [if_neg (by omega)]⟩
  simp [Instr.slice, run_underlying Try.underlying56, Instr.sliceBounds, run_sliceBound, sizeOf, typeInfo, hi, hz1, h', Addr.add]
  by_cases h1 : cp = k
  · rw [if_pos h1, if_pos h1]
  · rw [if_neg h1, if_neg h1]
    by_cases h2 : k = 0
    · rw [if_pos h2, h2]
    · rw [if_neg h2]
theorem to_run (g ln cp k : Nat) (h : k ≤ ln) (hc : ln ≤ cp) (W : World) : (Instr.slice 56 (.slice (some ⟨g, 0, none⟩) ln cp) none (some (.int .i64 k)) none).run Try.prog W = .ok (.slice (some ⟨g, 0, none⟩) k cp) W := by
  obtain ⟨i0, hi, hz0, hz1, hz2⟩ := info_parts Try.info3
  have h' : (k : Int) ≤ (cp : Int) := by omega
  simp [Instr.slice, run_underlying Try.underlying56, Instr.sliceBounds, run_sliceBound, sizeOf, typeInfo, hi, h', Addr.add]
theorem from_nil (W : World) : (Instr.slice 56 (.slice none 0 0) (some (.int .i64 0)) none none).run Try.prog W = .ok (.slice none 0 0) W := by
  obtain ⟨i0, hi, hz0, hz1, hz2⟩ := info_parts Try.info3
  simp [Instr.slice, run_underlying Try.underlying56, Instr.sliceBounds, run_sliceBound, sizeOf, typeInfo, hi, Addr.add]
theorem to_nil (W : World) : (Instr.slice 56 (.slice none 0 0) none (some (.int .i64 0)) none).run Try.prog W = .ok (.slice none 0 0) W := by
  obtain ⟨i0, hi, hz0, hz1, hz2⟩ := info_parts Try.info3
  simp [Instr.slice, run_underlying Try.underlying56, Instr.sliceBounds, run_sliceBound, sizeOf, typeInfo, hi, Addr.add]
theorem VS.back {w w1 : World} {b m : Nat} {g cp k : Nat} {N : Int} {lo n : Nat} {σ σ' : Sg} {L : Int} {tr : List Int} (hS : VS w b m (.slice (some ⟨g, 0, none⟩) tr.length cp) N lo n σ L) (hT : TrOk w lo (.slice (some ⟨g, 0, none⟩) tr.length cp) tr σ) (hk : k ≤ tr.length) (hM : MapIs w1 m n σ') (hσ : σ' = rst σ (tr.take k)) (hg : w.grownBy w1 (some m)) :
    VS (w1.setCell ⟨b, 1, none⟩ (.slice (some ⟨g, 0, none⟩) k cp)) b m (.slice (some ⟨g, 0, none⟩) k cp) N lo n (rst σ (tr.take k)) L ∧ TrOk (w1.setCell ⟨b, 1, none⟩ (.slice (some ⟨g, 0, none⟩) k cp)) lo (.slice (some ⟨g, 0, none⟩) k cp) (tr.take k) (rst σ (tr.take k)) ∧ GF b m (.slice (some ⟨g, 0, none⟩) tr.length cp) w (w1.setCell ⟨b, 1, none⟩ (.slice (some ⟨g, 0, none⟩) k cp)) := by
  have hset := G.set b w1 1 (.slice (some ⟨g, 0, none⟩) k cp)
  have hgb := hS.tb g rfl
  have hgl : g < w.heap.size := hS.trail_lt g rfl
  have hGF : GF b m (.slice (some ⟨g, 0, none⟩) tr.length cp) w (w1.setCell ⟨b, 1, none⟩ (.slice (some ⟨g, 0, none⟩) k cp)) :=
    ⟨hset.os.trans hg.os, hset.tape.trans hg.tape, hset.output.trans hg.output, Nat.le_trans hg.size hset.size, fun j hj h1 h2 _ => (hset.block j (by have := hg.size; omega) (by simpa using h1)).trans (hg.block j hj (by simpa using h2))⟩
  have hgw : (w1.setCell ⟨b, 1, none⟩ (.slice (some ⟨g, 0, none⟩) k cp)).heap[g]? = w.heap[g]? := (hset.block g (by have := hg.size; omega) (by simpa using hgb.1)).trans (hg.block g hgl (by simpa using hgb.2))
  have hrow : (w1.setCell ⟨b, 1, none⟩ (.slice (some ⟨g, 0, none⟩) k cp)).ownsRow lo 3 1 (.slice (some ⟨g, 0, none⟩) k cp) (tr.take k).length ((tr.take k).map (Value.int .i64)) := by
    have hl : (tr.take k).length = k := by rw [List.length_take]; omega
    rcases hT.1.2 with ⟨h, _⟩ | ⟨g', cap, cur, he, hlo, hgg, hnc, hcm, hsz, htk⟩
    · simp at h
    · simp only [Value.slice.injEq, Option.some.injEq, Addr.mk.injEq, and_true, true_and] at he
      obtain ⟨rfl, rfl⟩ := he
      rw [hl]
      refine ⟨by rw [List.length_map, hl, Nat.mul_one], .inr ⟨g, cp, cur, rfl, hlo, hgw.trans hgg, by omega, hcm, hsz, ?_⟩⟩
      rw [List.map_take, ← htk, List.take_take]
      congr 1
      omega
  have hsub : ∀ v U, rst σ (tr.take k) v = some U → σ v = some U := fun v U h => by
    unfold rst at h
    split at h
    · exact h
    · simp at h
  refine ⟨⟨setT ((hg.block b hS.lt (by simpa using hS.ne)).trans hS.blk), ?_, ⟨tr.take k, hrow, ?_⟩, hS.ne, fun g' h => hS.tb g' h, hS.lob, fun v T h => ?_, fun v T h => hS.dec v T (hsub v T h), hS.big⟩, ⟨hrow, ?_, fun v => ?_, fun v h => hT.2.2.2 v (List.mem_of_mem_take h)⟩, hGF⟩
  · rw [← hσ]; exact hM.kept hset (fun e => hS.ne (Option.some.inj e).symm)
  · obtain ⟨tr0, h1, h2⟩ := hS.own
    have := (owns_one hT.1 h1).1
    rw [List.length_take]; omega
  · obtain ⟨h1, h2, h3, h4, h5⟩ := hS.trm v T (hsub v T h)
    exact ⟨h1.gf hGF h3 h4 h5, h2, h3, h4, fun g' hg' => h5 g' hg'⟩
  · exact hT.2.1.sublist (List.take_sublist k tr)
  · unfold rst
    constructor
    · intro h
      split at h
      · assumption
      · simp at h
    · intro h
      rw [if_pos h]
      exact (hT.2.2.1 v).2 (List.mem_of_mem_take h)
set_option maxRecDepth 100000 in
set_option maxHeartbeats 4000000 in
theorem back_any {b m : Nat} {tv : Value} {N : Int} {lo n : Nat} {σ : Sg} {L : Int} {tr : List Int} (k : Nat) (w : World) (hS : VS w b m tv N lo n σ L) (hT : TrOk w lo tv tr σ) (hk : k ≤ tr.length) :
    Calls Try.prog 138 #[.pointer (some ⟨b, 0, none⟩), .int .i64 k] w fun e w' => e = .returned (.tuple #[]) ∧ ∃ tv' : Value, tv'.ownBlock = tv.ownBlock ∧ VS w' b m tv' N lo n (rst σ (tr.take k)) L ∧ TrOk w' lo tv' (tr.take k) (rst σ (tr.take k)) ∧ GF b m tv w w' := by
  obtain ⟨a, cp, rfl, hc1, hc2, hcell⟩ := tr_form hT.1
  have HS : Hid (VS w b m (.slice a tr.length cp) N lo n σ L) := hS
  have HT : Hid (TrOk w lo (.slice a tr.length cp) tr σ) := hT
  obtain ⟨v0, v1, v2, k0, k1, k2⟩ := block_cells hS.blk
  have hm : m < w.heap.size := hS.map.lt
  have hbl := hS.lt
  have hne := hS.ne
  have hcm : cp ≤ 2 ^ 63 - 1 := hc2
  cases a with
  | none =>
    have h0 : tr = [] := by
      cases tr with
      | nil => rfl
      | cons x r => obtain ⟨g, h, _⟩ := hcell 0 (by simp); simp at h
    subst h0
    have hk0 : k = 0 := by simpa using hk
    subst hk0
    have hcp : cp = 0 := by
      rcases hT.1.2 with ⟨h, _⟩ | ⟨g', cap, cur, he, _⟩
      · simp at h; exact h
      · simp at he
    subst hcp
    have hf := from_nil
    have ht := to_nil
    have HX : Hid ((w.setCell ⟨b, 1, none⟩ (.slice none 0 0)).heap[b]? = some (.cells #[.map (some m), .slice none 0 0, .int .i64 L] 142)) := setT (c := .slice none 0 0) hS.blk
    have HG : Hid (G b w (w.setCell ⟨b, 1, none⟩ (.slice none 0 0))) := G.set b w 1 _
    have HE : Hid (rst σ (([] : List Int).take 0) = σ) := by
      have := dl_rst hT.2.1 hT.2.2.1 0
      rw [Hid, ← this]; exact dl_nil σ
    clear hS hT hk hcell
    simp only [List.length_nil] at *
    go_enter Try.func138, Try.ntmps138
    go_wp2_with fail
    go_loopw [13] (fun i wr => i = .int .i64 0 ∧ wr = w) (fun _ _ => 0)
    case atStart => exact ⟨rfl, rfl⟩
    case round =>
      obtain ⟨rfl, rfl⟩ := hrel
      go_wp2_with fail
      go_end0
      refine ⟨rfl, .slice none 0 0, rfl, ?_, ?_, GF.ofG HG.out⟩
      · rw [HE.out]; exact HS.out.atB HG.out HX.out
      · rw [HE.out]
        exact ⟨HT.out.1.kept HG.out (.inl rfl), HT.out.2⟩
  | some ad =>
    have hg0 : ∃ g, ad = ⟨g, 0, none⟩ := by
      rcases hT.1.2 with ⟨h, _⟩ | ⟨g', cap, cur, he, _⟩
      · simp at h
      · simp at he; exact ⟨g', he.1⟩
    obtain ⟨g, rfl⟩ := hg0
    obtain ⟨o, hf, hof⟩ := from_run g tr.length cp k hk hc1
    have ht := to_run g tr.length cp k hk hc1
    have HCell : Hid (∀ j (hj : k + j < tr.length), w.cell? ⟨g, k + j, none⟩ = some (.int .i64 tr[k + j])) := fun j hj => by
      obtain ⟨g', h1, h2⟩ := hcell (k + j) hj
      simp at h1; subst h1; exact h2
    have hgm := (hS.tb g rfl).2
    have HD0 : Hid (MapIs w m n (dl σ ((tr.drop k).take 0))) := by rw [Hid, List.take_zero, dl_nil]; exact hS.map
    have hkl : k ≤ tr.length := hk
    clear hS hT hk hcell
    go_enter Try.func138, Try.ntmps138
    go_wp2_with fail
    go_loopw [13] (fun i wr => ∃ j : Nat, j ≤ tr.length - k ∧ i = .int .i64 j ∧ MapIs wr m n (dl σ ((tr.drop k).take j)) ∧ w.grownBy wr (some m)) (fun i _ => tr.length - k - (intOf i).toNat)
    case atStart => exact ⟨0, Nat.zero_le _, rfl, HD0.out, G.refl _ _⟩
    case round =>
      obtain ⟨j, hj, rfl, hMj, hGj⟩ := hrel
      have HGj : Hid (w.grownBy wr (some m)) := hGj
      have r0 : wr.cell? ⟨b, 0, none⟩ = some (.map (some m)) := hGj.cell v0 (by simpa using hne)
      have r1 : wr.cell? ⟨b, 1, none⟩ = some (.slice (some ⟨g, 0, none⟩) tr.length cp) := hGj.cell v1 (by simpa using hne)
      have rf1 : wr.frozen? ⟨b, 1, none⟩ = false := (World.frozen?_of_block (hGj.block b hbl (by simpa using hne))).trans k1
      have HMj : Hid (MapIs wr m n (dl σ ((tr.drop k).take j))) := hMj
      by_cases hlt : j < tr.length - k
      case neg =>
        have hje : j = tr.length - k := by omega
        have HMe : Hid (MapIs wr m n (rst σ (tr.take k))) := by
          have := HMj.out
          rw [hje, List.take_of_length_le (by rw [List.length_drop]; omega), dl_rst HT.out.2.1 HT.out.2.2.1] at this
          exact this
        clear hMj hGj hje
        go_wp2_with fail
        go_end0
        obtain ⟨h1, h2, h3⟩ := VS.back HS.out HT.out hkl HMe.out rfl HGj.out
        exact ⟨rfl, .slice (some ⟨g, 0, none⟩) k cp, rfl, h1, h2, h3⟩
      have hlj : k + j < tr.length := by omega
      have ho : o = k := hof (by omega)
      have hc : wr.cell? ⟨g, o + j, none⟩ = some (.int .i64 tr[k + j]) := by rw [ho]; exact hGj.cell (HCell.out j hlj) (by simpa using hgm)
      have hr := HT.out.2.2.2 tr[k + j] (List.getElem_mem _)
      have HNx : Hid (del (dl σ ((tr.drop k).take j)) tr[k + j] = dl σ ((tr.drop k).take (j + 1))) := by
        have := dl_next σ (tr.drop k) j (by rw [List.length_drop]; omega)
        rw [List.getElem_drop] at this
        exact this
      obtain ⟨D, hD, hIs, hs⟩ := hMj
      have HIs : Hid (Maps.IsMap D) := hIs
      have HSs : Hid (∀ i : Int, 0 ≤ i → i ≤ 1000000 → Maps.has D (.int .i64 i) = (dl σ ((tr.drop k).take j) i).isSome ∧ ∀ T, dl σ ((tr.drop k).take j) i = some T → ∀ z, D.atKey (.int .i64 i) z = .held T.val) := hs
      have HDD : Hid (wr.ownsMap Try.prog 3 heldR m n D) := hD
      have HKy := key3 hr.1 hr.2
      clear hD hIs hs hGj ho
      generalize tr[k + j] = q at *
      go_wp2_with (at_delete; refine wpList_delete_own _ rfl _ _ 140 3 rfl 24 keyed3 Try.underlying140 heldR m n D rfl HDD.out _ _ rfl HKy ?_; intro w1 hown1 hturn1)
      go_roundw
      case rel => exact ⟨j + 1, by omega, by go_num, by rw [← HNx.out]; exact MapIs.dropped HIs.out HSs.out hown1, G.trans HGj.out hturn1.grown⟩
      case measure => simp [intOf]; omega
end Go.Proofs.Ytmggaclaoefdaaa

namespace Go.Proofs.Ytmggaclaoefdaaa
open Go.RowKit

/-- A search's cells. -/
structure Sr where
  av : Value
  fin : Int
  st : Int
  P : Pg
  limit : Int
  asked : Int
  last : Int
  b : Nat
  first : Value
  cv : Value
def Sr.cells (r : Sr) : Array Value := #[r.av, .int .i64 r.fin, .int .i64 r.st, .slice r.P.a r.P.len r.P.cap, .int .i64 r.limit, .int .i64 r.asked, .int .i64 r.last, .pointer (some ⟨r.b, 0, none⟩), r.first, r.cv]
def SBk (w : World) (s : Nat) (r : Sr) : Prop := w.heap[s]? = some (.cells r.cells 103)
theorem SBk.lt {w : World} {s : Nat} {r : Sr} (h : SBk w s r) : s < w.heap.size := (Array.getElem?_eq_some_iff.1 h).1
theorem SBk.get {w : World} {s : Nat} {r : Sr} (h : SBk w s r) : w.cell? ⟨s, 0, none⟩ = some r.av ∧ w.cell? ⟨s, 1, none⟩ = some (.int .i64 r.fin) ∧ w.cell? ⟨s, 2, none⟩ = some (.int .i64 r.st) ∧ w.cell? ⟨s, 3, none⟩ = some (.slice r.P.a r.P.len r.P.cap) ∧ w.cell? ⟨s, 4, none⟩ = some (.int .i64 r.limit) ∧ w.cell? ⟨s, 5, none⟩ = some (.int .i64 r.asked) ∧ w.cell? ⟨s, 6, none⟩ = some (.int .i64 r.last) ∧ w.cell? ⟨s, 7, none⟩ = some (.pointer (some ⟨r.b, 0, none⟩)) ∧ w.cell? ⟨s, 8, none⟩ = some r.first ∧ w.cell? ⟨s, 9, none⟩ = some r.cv ∧ ∀ i, w.frozen? ⟨s, i, none⟩ = false := by
  unfold SBk Sr.cells at h
  refine ⟨?_, ?_, ?_, ?_, ?_, ?_, ?_, ?_, ?_, ?_, fun i => ?_⟩ <;> simp [World.cell?, World.frozen?, h]
theorem SBk.kept {w w' : World} {s : Nat} {r : Sr} (h : SBk w s r) (hb : w'.heap[s]? = w.heap[s]?) : SBk w' s r := hb.trans h
theorem SBk.set {w : World} {s : Nat} {r r' : Sr} (i : Nat) (v : Value) (h : SBk w s r) (hr : r'.cells = r.cells.setIfInBounds i v) : SBk (w.setCell ⟨s, i, none⟩ v) s r' := by
  unfold SBk at *
  rw [hr]
  simp only [World.setCell, Array.getElem?_modify]
  simp [h]
set_option maxRecDepth 100000 in
theorem is_any (T : Tm) (nm : ByteArray) (n : Nat) (w : World) :
    Calls Try.prog 125 #[T.val, .string nm, .int .i64 n] w fun e w' => e = .returned (.bool (isT T nm n)) ∧ Below w.heap.size w w' := by
  show Calls Try.prog 125 #[.agg #[.int .i64 T.v, .string T.nm, .slice T.a T.len T.cap], .string nm, .int .i64 n] w _
  by_cases h1 : T.nm.toList = nm.toList
  · have h1b : (T.nm.toList == nm.toList) = true := beq_iff_eq.2 h1
    have HR : Hid (isT T nm n = ((T.len : Int) == (n : Int))) := by
      rw [Hid]; unfold isT; rw [h1b, Bool.true_and]
      by_cases h : T.len = n
      · rw [decide_eq_true h]; exact (beq_iff_eq.2 (by omega)).symm
      · rw [decide_eq_false h]; exact (beq_eq_false_iff_ne.2 (by omega)).symm
    clear h1
    go_enter Try.func125, Try.ntmps125
    go_wp2_with fail
    go_ret
    exact ⟨by rw [HR.out]; rfl, (Below.refl _ _).alloc (Nat.le_refl _) _⟩
  · have h1b : (T.nm.toList == nm.toList) = false := beq_eq_false_iff_ne.2 h1
    have HR : Hid (isT T nm n = false) := by rw [Hid]; unfold isT; rw [h1b, Bool.false_and]
    clear h1
    go_enter Try.func125, Try.ntmps125
    go_wp2_with fail
    go_ret
    exact ⟨by rw [HR.out]; rfl, (Below.refl _ _).alloc (Nat.le_refl _) _⟩
set_option maxRecDepth 100000 in
theorem own_any {s : Nat} {r : Sr} (w : World) (hr : SBk w s r) (hl : 0 ≤ r.last ∧ r.last ≤ 1000000) :
    Calls Try.prog 141 #[.pointer (some ⟨s, 0, none⟩)] w fun e w' => e = .returned (.func (.func 145) #[] #[.pointer (some ⟨w.heap.size, 0, none⟩)]) ∧ w' = (w.setCell ⟨s, 6, none⟩ (.int .i64 (r.last + 12))).alloc (.cells #[.int .i64 r.last] 3) := by
  have hmf : ∀ (fn : Fn) (first cap : Array Value) (w : World), (Instr.makeFunc fn first cap).run Try.prog w = .ok (.func fn first cap) w := fun _ _ _ _ => rfl
  have hs := hr.lt
  obtain ⟨_, _, _, _, _, _, c6, _, _, _, cf⟩ := hr.get
  have f6 := cf 6
  clear hr cf
  go_enter Try.func141, Try.ntmps141
  go_wp2_with fail
  go_ret
  exact ⟨rfl, rfl⟩
theorem can_vT (n : Int) : can (vT n) = vT n := by
  unfold vT
  rw [can_eq]
  show Tm.mk n ⟨#[]⟩ none 0 0 _ = _
  congr 1
/-- The function that own hands out. -/
def ownT (o : Nat) (last : Int) : Tell where
  S := Unit
  I := fun _ w => w.heap[o]? = some (.cells #[.int .i64 last] 3)
  nx := fun _ _ => ()
  le := fun _ _ => True
  O := fun _ v => ownV last v
  M := fun _ => False
  B := o + 1
theorem ownT_ok (o : Nat) (last : Int) : TellOk (ownT o last) :=
  ⟨fun _ => trivial, fun _ _ _ _ _ => trivial, fun _ _ => trivial, fun _ _ _ h hb => (hb.block o (Nat.lt_succ_self o)).trans h, fun _ h => h.elim⟩
set_option maxRecDepth 100000 in
theorem own1_any (o : Nat) (last v : Int) (hl : 0 ≤ last ∧ last ≤ 1000000) (hv : 0 ≤ v ∧ v ≤ 1000000) : TC (ownT o last) 145 #[.pointer (some ⟨o, 0, none⟩)] v := by
  intro s w hB hI
  have HI : Hid (w.heap[o]? = some (.cells #[.int .i64 last] 3)) := hI
  have hB : o < w.heap.size := hB
  have HZ : Hid (Below w.heap.size w (w.alloc (.cells #[.int .i64 0, .string ⟨#[]⟩, .slice none 0 0] 24))) := (Below.refl _ _).alloc (Nat.le_refl _) _
  have c0 : (w.alloc (.cells #[.int .i64 0, .string ⟨#[]⟩, .slice none 0 0] 24)).cell? ⟨o, 0, none⟩ = some (.int .i64 last) := by
    rw [HZ.out.cell (p := ⟨o, 0, none⟩) hB]; simp [World.cell?, HI.out]
  have hw : IntKind.i64.wrap (last + v) = last + v := by simp [IntKind.wrap, IntKind.bits, IntKind.signed]; omega
  clear hI
  show Calls Try.prog 145 #[.int .i64 v, .pointer (some ⟨o, 0, none⟩)] w _
  go_enter Try.func145, Try.ntmps145
  go_wp2_with fail
  refine bodyPost_ret (v := (vT (last + v)).val) ?_ rfl ⟨vT (last + v), rfl, Bw.ofBelow ((Below.refl _ _).alloc (Nat.le_refl _) _), (heap_alloc_old _ _ hB).trans HI.out, vT_in _ _, ⟨fun h => absurd h (Nat.lt_irrefl 0), fun i hi => absurd hi (Nat.not_lt_zero i)⟩, fun _ _ => can_vT _⟩
  simp [results, Try.results145, go_sem, Tm.val, vT, Tm.v, Tm.nm, Tm.a, Tm.len, Tm.cap]
theorem own1_ent : Ent 145 := ent_of Try.func145 rfl rfl
theorem vsT_okv {N : Int} {T : Tm} (h : Okv N T) : ∀ v ∈ vsT T, 0 ≤ v ∧ v ≤ N := by
  induction T with
  | nil => exact h.elim
  | mk v nm a len cap f ih =>
    intro u hu
    rw [vsT] at hu
    split at hu
    · obtain ⟨l, hl, hul⟩ := List.mem_flatten.1 hu
      obtain ⟨i, hi, rfl⟩ := List.mem_map.1 hl
      exact ih i (h.2.2.2.2 i (List.mem_range.1 hi)) u hul
    · rw [List.mem_singleton] at hu; subst hu; exact ⟨h.1, h.2.1⟩
/-- A term of a clause, with variables of its own. -/
theorem each_own {o : Nat} {last : Int} {T : Tm} (w : World) (hI : w.heap[o]? = some (.cells #[.int .i64 last] 3)) (hl : 0 ≤ last ∧ last ≤ 1000000) (hT : TIn w T) (hO : Okv 12 T) :
    Calls Try.prog 120 #[T.val, .func (.func 145) #[] #[.pointer (some ⟨o, 0, none⟩)]] w fun e w' => ∃ X : Tm, e = .returned X.val ∧ Below w.heap.size w w' ∧ TIn w' X ∧ Above w.heap.size X ∧ can X = ap (ownV last) T := by
  refine (each_gen (ownT_ok o last) own1_ent T hO.fo (fun v hv => own1_any o last v hl (by have := vsT_okv hO v hv; omega)) () w (Array.getElem?_eq_some_iff.1 hI).1 hI hT (NM.old hT (fun k h => h.elim))).mono ?_
  rintro e w' ⟨X, h1, h2, h3, h4, h5, h6⟩
  exact ⟨X, h1, ⟨h2.os, h2.tape, h2.output, h2.size, fun k hk => h2.block k hk (fun h => h)⟩, h4, h5, h6 () trivial⟩
end Go.Proofs.Ytmggaclaoefdaaa

namespace Go.Proofs.Ytmggaclaoefdaaa
open Go.RowKit

/-- Clauses, without places. -/
def cls (P : Pg) : Cls := (List.range P.len).map fun i => (can (P.hd i), (kidsL (P.bd i)).map can)
theorem cls_len (P : Pg) : (cls P).length = P.len := by simp [cls]
theorem cls_get (P : Pg) {i : Nat} (h : i < P.len) : (cls P).getD i (.nil, []) = (can (P.hd i), (kidsL (P.bd i)).map can) := by
  simp [cls, List.getD, h]
theorem isT_can (T : Tm) (nm : ByteArray) (n : Nat) : isT (can T) nm n = isT T nm n := by unfold isT; rw [can_nm, can_len]
def fitI : Option Nat → Int
  | none => -1
  | some j => j
theorem fit_none {P : Pg} {t : Tm} {i : Nat} (h : ∀ k, i ≤ k → k < P.len → isT (P.hd k) t.nm t.len = false) : fitP (cls P) t i = none := by
  unfold fitP
  rw [List.find?_eq_none]
  intro k hk
  rw [cls_len] at hk
  have hk := List.mem_range.1 hk
  rw [cls_get P hk, isT_can]
  by_cases hi : i ≤ k
  · rw [h k hi hk]; simp
  · simp [hi]
theorem fit_some {P : Pg} {t : Tm} {i j : Nat} (hi : i ≤ j) (hj : j < P.len) (hm : isT (P.hd j) t.nm t.len = true) (h : ∀ k, i ≤ k → k < j → isT (P.hd k) t.nm t.len = false) : fitP (cls P) t i = some j := by
  unfold fitP
  rw [List.find?_range_eq_some, cls_len, cls_get P hj, isT_can]
  refine ⟨by simp [hi, hm], List.mem_range.2 hj, fun k hk => ?_⟩
  rw [cls_get P (by omega), isT_can]
  by_cases hik : i ≤ k
  · rw [h k hik hk]; simp
  · simp [hik]
theorem Try.info82 : (Try.prog.info? 82).map (fun i => (i.zero, i.size, i.bytes)) = some (some (.agg #[.int .i64 0, .string ⟨#[]⟩, .slice none 0 0, .slice none 0 0]), 4, 72) := by kernel_rfl
theorem pfrom (a : Option Addr) (ln cp k : Nat) (h : k ≤ ln) (hc : ln ≤ cp) : ∃ a', (∀ W : World, (Instr.slice 26 (.slice a ln cp) (some (.int .i64 k)) none none).run Try.prog W = .ok (.slice a' (ln - k) (cp - k)) W) ∧ ∀ b o, a = some ⟨b, o, none⟩ → k < ln → a' = some ⟨b, o + k * 4, none⟩ := by
  obtain ⟨i0, hi, hz0, hz1, hz2⟩ := info_parts Try.info82
  have h' : (k : Int) ≤ (ln : Int) := by omega
  refine ⟨if cp = k then a else a.map fun ad => ad.add (k * 4), fun W => ?_, fun b o ha h1 => ?_⟩
  · simp [Instr.slice, run_underlying Try.underlying26, Instr.sliceBounds, run_sliceBound, sizeOf, typeInfo, hi, hz1, h']
  · rw [if_neg (by omega), ha]
    simp [Addr.add]
end Go.Proofs.Ytmggaclaoefdaaa

namespace Go.Proofs.Ytmggaclaoefdaaa
open Go.RowKit

set_option maxRecDepth 100000 in
set_option maxHeartbeats 4000000 in
theorem fit_any {s : Nat} {r : Sr} (T : Tm) (i : Nat) (w : World) (hr : SBk w s r) (hP : PIn w r.P) (hc : r.P.len ≤ r.P.cap) (hT : T.len ≤ maxLen) (hi : i ≤ r.P.len) :
    Calls Try.prog 139 #[.pointer (some ⟨s, 0, none⟩), T.val, .int .i64 i] w fun e w' => e = .returned (.int .i64 (fitI (fitP (cls r.P) T i))) ∧ Below w.heap.size w w' := by
  have HR : Hid (SBk w s r) := hr
  have HP : Hid (PIn w r.P) := hP
  have hs := hr.lt
  have hlen : r.P.len ≤ 2 ^ 63 - 1 := hP.1
  have hTl : T.len ≤ 2 ^ 63 - 1 := hT
  have HNo : Hid (∀ k, (∀ j, i ≤ j → j < r.P.len → isT (r.P.hd j) T.nm T.len = false) → k = r.P.len → fitP (cls r.P) T i = none) := fun k h _ => fit_none h
  have HYes : Hid (∀ j, i ≤ j → j < r.P.len → isT (r.P.hd j) T.nm T.len = true → (∀ k, i ≤ k → k < j → isT (r.P.hd k) T.nm T.len = false) → fitP (cls r.P) T i = some j) := fun j h1 h2 h3 h4 => fit_some h1 h2 h3 h4
  obtain ⟨a', hsl, hao⟩ := pfrom r.P.a r.P.len r.P.cap i hi hc
  have HAo : Hid (∀ b o, r.P.a = some ⟨b, o, none⟩ → i < r.P.len → a' = some ⟨b, o + i * 4, none⟩) := hao
  have HRow : Hid (∀ k, k < r.P.len → ∀ wr, Below w.heap.size w wr → ClAt wr r.P.a k (r.P.hd k) (r.P.bd k)) := fun k hk wr hb => ((HP.out.below hb).2 k hk).1
  have HBx : Hid (Below w.heap.size w (w.alloc (.cells #[.int .i64 T.v, .string T.nm, .slice T.a T.len T.cap] 24))) := (Below.refl _ _).alloc (Nat.le_refl _) _
  have HX0 : Hid ((w.alloc (.cells #[.int .i64 T.v, .string T.nm, .slice T.a T.len T.cap] 24)).heap[w.heap.size]? = some (.cells #[.int .i64 T.v, .string T.nm, .slice T.a T.len T.cap] 24)) := heap_alloc_new w _
  obtain ⟨_, _, _, c3, _, _, _, _, _, _, _⟩ := (hr.kept (HBx.out.block s hs)).get
  clear hr hP hT hao
  show Calls Try.prog 139 #[.pointer (some ⟨s, 0, none⟩), .agg #[.int .i64 T.v, .string T.nm, .slice T.a T.len T.cap], .int .i64 i] w _
  go_enter Try.func139, Try.ntmps139
  go_wp2_with fail
  generalize w.alloc (.cells #[.int .i64 T.v, .string T.nm, .slice T.a T.len T.cap] 24) = W at *
  have hW : w.heap.size < W.heap.size := (Array.getElem?_eq_some_iff.1 HX0.out).1
  go_loopw [16] (fun x wr => ∃ j : Nat, j ≤ r.P.len - i ∧ x = .int .i64 j ∧ (∀ k, i ≤ k → k < i + j → isT (r.P.hd k) T.nm T.len = false) ∧ Below W.heap.size W wr) (fun x _ => r.P.len - i - (intOf x).toNat)
  case atStart => exact ⟨0, Nat.zero_le _, rfl, fun k h1 h2 => absurd h1 (by omega), Below.refl _ _⟩
  case round =>
    obtain ⟨j, hj, rfl, hno, hB⟩ := hrel
    have HNj : Hid (∀ k, i ≤ k → k < i + j → isT (r.P.hd k) T.nm T.len = false) := hno
    have HB : Hid (Below W.heap.size W wr) := hB
    have HBw : Hid (Below w.heap.size w wr) := HBx.out.trans (hB.mono HBx.out.size)
    clear hno hB c3
    by_cases hlt : j < r.P.len - i
    case neg =>
      have HE : Hid (fitP (cls r.P) T i = none) := HNo.out _ (fun k h1 h2 => HNj.out k h1 (by omega)) rfl
      go_wp2_with fail
      go_ret
      exact ⟨by rw [HE.out]; rfl, HBw.out⟩
    obtain ⟨b, o, ha, c0, c1, c2, c3⟩ := HRow.out (i + j) (by omega) wr HBw.out
    have ha' := HAo.out b o ha (by omega)
    rw [show o + (i + j) * 4 = o + i * 4 + j * 4 from by rw [Nat.add_mul]; omega] at c0 c1 c2 c3
    clear ha
    subst ha'
    have hltI : (j : Int) < ((r.P.len - i : Nat) : Int) := by omega
    have HXr : Hid (wr.heap[w.heap.size]? = some (.cells #[.int .i64 T.v, .string T.nm, .slice T.a T.len T.cap] 24)) := (HB.out.block _ hW).trans HX0.out
    have hrs : w.heap.size < wr.heap.size := Nat.lt_of_lt_of_le hW HB.out.size
    have HM : Hid (isT (r.P.hd (i + j)) T.nm T.len = true → fitP (cls r.P) T i = some (i + j)) := fun h => HYes.out (i + j) (by omega) (by omega) h (fun k h1 h2 => HNj.out k h1 h2)
    have HNx : Hid (isT (r.P.hd (i + j)) T.nm T.len = false → ∀ k, i ≤ k → k < i + (j + 1) → isT (r.P.hd k) T.nm T.len = false) := fun h k h1 h2 => by
      by_cases e : k = i + j
      · rw [e]; exact h
      · exact HNj.out k h1 (by omega)
    generalize hH : r.P.hd (i + j) = H at *
    generalize hBd : r.P.bd (i + j) = Bd at *
    clear hH hBd
    have HBn : Hid (Below wr.heap.size wr (wr.alloc (.cells #[.int .i64 H.v, .string H.nm, .slice H.a H.len H.cap, .slice Bd.a Bd.len Bd.cap] 82))) := (Below.refl _ _).alloc (Nat.le_refl _) _
    obtain ⟨x0, x1, x2, _, _, _⟩ := block_cells ((HBn.out.block _ hrs).trans HXr.out)
    go_wp2_with fail
    refine (is_any H T.nm T.len _).mono ?_
    rintro e w1 ⟨rfl, hb1⟩
    have HB1 : Hid (Below wr.heap.size wr w1) := HBn.out.trans (hb1.mono HBn.out.size)
    have HBW1 : Hid (Below W.heap.size W w1) := HB.out.trans (HB1.out.mono HB.out.size)
    have HBw1 : Hid (Below w.heap.size w w1) := HBw.out.trans (HB1.out.mono HBw.out.size)
    clear hb1 c0 c1 c2 c3 x0 x1 x2
    cases hm : isT H T.nm T.len with
    | true =>
      have HE : Hid (fitP (cls r.P) T i = some (i + j)) := HM.out hm
      have hwr : IntKind.i64.wrap ((i : Int) + (j : Int)) = (i : Int) + (j : Int) := by simp [IntKind.wrap, IntKind.bits, IntKind.signed]; omega
      clear hm
      go_wp2_with fail
      go_ret
      exact ⟨by rw [HE.out]; show _ = Ending.returned (.int .i64 ((i + j : Nat) : Int)); rw [Int.natCast_add]; rfl, HBw1.out⟩
    | false =>
      have HN2 : Hid (∀ k, i ≤ k → k < i + (j + 1) → isT (r.P.hd k) T.nm T.len = false) := HNx.out hm
      clear hm
      go_wp2_with fail
      go_roundw
      case rel => exact ⟨j + 1, by omega, by go_num, HN2.out, HBW1.out⟩
      case measure => simp [intOf]; omega
/-- The blocks of a search itself that turn; all that turn. -/
def Ms (s : Nat) (cv av : Value) (k : Nat) : Prop := k = s ∨ cv.ownBlock = some k ∨ av.ownBlock = some k
def Mu (s b m : Nat) (tv cv av : Value) (k : Nat) : Prop := (k = b ∨ k = m ∨ tv.ownBlock = some k) ∨ Ms s cv av k
/-- Goals in memory, one behind the other; none of them turns. -/
def GL (w : World) (M : Nat → Prop) (N : Int) : Value → List Gl → Prop
  | p, [] => p = .pointer none
  | p, (T, c) :: r => ∃ (k : Nat) (q : Value), p = .pointer (some ⟨k, 0, none⟩) ∧ ¬ M k ∧ w.heap[k]? = some (.cells #[.int .i64 T.v, .string T.nm, .slice T.a T.len T.cap, .int .i64 c, q] 149) ∧ TIn w T ∧ NM M T ∧ Okv N T ∧ GL w M N q r
theorem GL.next {w w' : World} {M M' : Nat → Prop} {N : Int} : ∀ {gl : List Gl} {p : Value}, GL w M N p gl → Bw M w.heap.size w w' → (∀ k, k < w.heap.size → M' k → M k) → GL w' M' N p gl := by
  intro gl
  induction gl with
  | nil => intro p h _ _; exact h
  | cons g r ih =>
    intro p h hb hm
    obtain ⟨T, c⟩ := g
    obtain ⟨k, q, h1, h2, h3, h4, h5, h6, h7⟩ := h
    have hk : k < w.heap.size := (Array.getElem?_eq_some_iff.1 h3).1
    exact ⟨k, q, h1, fun e => h2 (hm k hk e), (hb.block k hk h2).trans h3, h4.bw hb (Nat.le_refl _) h5, h5.anti h4 hm, h6, ih h7 hb hm⟩
theorem GL.tail {w : World} {M : Nat → Prop} {N : Int} {p : Value} {g : Gl} {r : List Gl} (h : GL w M N p (g :: r)) : ∃ q, GL w M N q r := by
  obtain ⟨T, c⟩ := g
  obtain ⟨k, q, _, _, _, _, _, _, h7⟩ := h
  exact ⟨q, h7⟩
set_option maxRecDepth 100000 in
set_option maxHeartbeats 4000000 in
theorem ahead_any {M : Nat → Prop} {N : Int} (B : Tm) (cut : Nat) (p : Value) (gl : List Gl) (w : World) (hB : TIn w B) (hBM : NM M B) (hBO : ∀ i, i < B.len → Okv N (B.f i)) (hG : GL w M N p gl) (hM : ∀ k, M k → k < w.heap.size) (hp : ∃ ad, p = .pointer ad) :
    Calls Try.prog 70 #[.slice B.a B.len B.cap, .int .i64 cut, p] w fun e w' => ∃ q, e = .returned q ∧ (∃ ad, q = .pointer ad) ∧ GL w' M N q (((kidsL B).map fun t => (t, cut)) ++ gl) ∧ Below w.heap.size w w' := by
  have HB : Hid (TIn w B ∧ NM M B ∧ ∀ i, i < B.len → Okv N (B.f i)) := ⟨hB, hBM, hBO⟩
  have HG : Hid (GL w M N p gl) := hG
  have HM : Hid (∀ k, M k → k < w.heap.size) := hM
  have hlen : B.len ≤ 2 ^ 63 - 1 := hB.len
  obtain ⟨pa, rfl⟩ := hp
  have HRow : Hid (∀ k, k < B.len → ∀ wr, Below w.heap.size w wr → RowAt wr B.a k (B.f k) ∧ TIn wr (B.f k)) := fun k hk wr hb => ⟨(HB.out.1.row hk).below hb, (HB.out.1.kid hk).below hb⟩
  clear hB hBM hBO hG hM
  generalize hua : B.a = ua at *
  go_enter Try.func70, Try.ntmps70
  go_wp2_with fail
  go_loopw [2, 7] (fun g x wr => ∃ (j : Nat) (q : Option Addr), j ≤ B.len ∧ x = .int .i64 ((B.len : Int) - 1 - j) ∧ g = .pointer q ∧ GL wr M N (.pointer q) ((((kidsL B).drop (B.len - j)).map fun t => (t, cut)) ++ gl) ∧ Below w.heap.size w wr) (fun _ x _ => ((intOf x) + 1).toNat)
  case atStart =>
    refine ⟨0, pa, Nat.zero_le _, by simp, rfl, ?_, Below.refl _ _⟩
    rw [Nat.sub_zero, kidsL_end]; exact HG.out
  case round =>
    obtain ⟨j, q, hj, rfl, rfl, hGj, hBj⟩ := hrel
    have HGj : Hid (GL wr M N (.pointer q) ((((kidsL B).drop (B.len - j)).map fun t => (t, cut)) ++ gl)) := hGj
    have HBj : Hid (Below w.heap.size w wr) := hBj
    clear hGj hBj
    by_cases hlt : j < B.len
    case neg =>
      have hje : j = B.len := by omega
      have HGe : Hid (GL wr M N (.pointer q) (((kidsL B).map fun t => (t, cut)) ++ gl)) := by
        have := HGj.out
        rw [hje, Nat.sub_self, List.drop_zero] at this
        exact this
      have hd : decide ((B.len : Int) - 1 - (j : Int) ≥ 0) = false := decide_eq_false (by omega)
      clear hje
      go_wp2_with fail
      go_ret
      exact ⟨_, rfl, ⟨q, rfl⟩, HGe.out, HBj.out⟩
    obtain ⟨hr, hTk⟩ := HRow.out (B.len - (j + 1)) (by omega) wr HBj.out
    have HTk : Hid (TIn wr (B.f (B.len - (j + 1)))) := hTk
    obtain ⟨bb, o, ha, c0, c1, c2⟩ := hr
    have hx : ((B.len : Int) - 1 - (j : Int)) = ((B.len - (j + 1) : Nat) : Int) := by omega
    have hd : decide (((B.len - (j + 1) : Nat) : Int) ≥ 0) = true := decide_eq_true (by omega)
    have hk1 : ((B.len - (j + 1) : Nat) : Int) < (B.len : Int) := by omega
    have HNm : Hid (NM M (B.f (B.len - (j + 1))) ∧ Okv N (B.f (B.len - (j + 1)))) := ⟨HB.out.2.1.kid (by omega), HB.out.2.2 _ (by omega)⟩
    have HDr : Hid ((kidsL B).drop (B.len - (j + 1)) = B.f (B.len - (j + 1)) :: (kidsL B).drop (B.len - j)) := by
      rw [Hid, kidsL_drop (by omega), show B.len - (j + 1) + 1 = B.len - j from by omega]
    have hnx : ((B.len - (j + 1) : Nat) : Int) - 1 = (B.len : Int) - 1 - ((j + 1 : Nat) : Int) := by omega
    have HNX : Hid (((B.len - (j + 1) : Nat) : Int) - 1 = (B.len : Int) - 1 - ((j + 1 : Nat) : Int)) := hnx
    clear hTk hnx
    subst ha
    rw [hx]
    clear hx
    generalize hkk : B.len - (j + 1) = kk at *
    generalize hT : B.f kk = T at *
    go_wp2_with fail
    have HBn : Hid (Below wr.heap.size wr (wr.alloc (.cells #[.int .i64 T.v, .string T.nm, .slice T.a T.len T.cap, .int .i64 cut, .pointer q] 149))) := (Below.refl _ _).alloc (Nat.le_refl _) _
    have HGn : Hid (GL (wr.alloc (.cells #[.int .i64 T.v, .string T.nm, .slice T.a T.len T.cap, .int .i64 cut, .pointer q] 149)) M N (.pointer (some ⟨wr.heap.size, 0, none⟩)) ((((kidsL B).drop kk).map fun t => (t, cut)) ++ gl)) := by
      rw [Hid, HDr.out, List.map_cons, List.cons_append]
      exact ⟨wr.heap.size, .pointer q, rfl, fun e => by have := HM.out _ e; have := HBj.out.size; omega, heap_alloc_new wr _, HTk.out.below HBn.out, HNm.out.1, HNm.out.2, HGj.out.next (Bw.ofBelow HBn.out) (fun _ _ h => h)⟩
    go_roundw
    case rel => exact ⟨j + 1, some ⟨wr.heap.size, 0, none⟩, by omega, by rw [← HNX.out], by first | rfl | simp, by rw [hkk]; exact HGn.out, HBj.out.trans (HBn.out.mono HBj.out.size)⟩
    case measure => simp [intOf]
end Go.Proofs.Ytmggaclaoefdaaa

namespace Go.Proofs.Ytmggaclaoefdaaa
open Go.RowKit

/-- A choice, as it lies, and what variables were then. -/
structure Cr where
  p : Value
  gl : List Gl
  k : Nat
  mark : Nat
  σ : Sg
def cellsR (c : Cr) : List Value := [c.p, .int .i64 c.k, .int .i64 c.mark]
def flatR (l : List Cr) : List Value := (l.map cellsR).flatten
def slA (A : Tm) : Value := .slice A.a A.len A.cap
structure SS (w0 w : World) (s m : Nat) (r : Sr) (tv : Value) (n : Nat) (σ : Sg) (L : Int) (tr : List Int) (gl : List Gl) (ch : List Cr) (an : List Tm) : Prop where
  blk : SBk w s r
  vs : VS w r.b m tv 1000000 w0.heap.size n σ L
  trk : TrOk w w0.heap.size tv tr σ
  sg : ∀ v T, σ v = some T → NM (Ms s r.cv r.av) T
  gls : GL w (Mu s r.b m tv r.cv r.av) 1000000 r.first gl
  chr : w.ownsRow w0.heap.size 183 3 r.cv ch.length (flatR ch)
  chg : ∀ c ∈ ch, GL w (Mu s r.b m tv r.cv r.av) 1000000 c.p c.gl
  chs : ∀ c ∈ ch, c.mark ≤ tr.length ∧ c.σ = rst σ (tr.take c.mark)
  chm : ch.Pairwise fun a b => a.mark ≤ b.mark
  anr : w.ownsRow w0.heap.size 112 1 r.av an.length (an.map slA)
  ant : ∀ A ∈ an, TIn w A ∧ NM (Mu s r.b m tv r.cv r.av) A
  low : Below w0.heap.size w0 w
  los : w0.heap.size ≤ s
  dsb : s ≠ r.b ∧ s ≠ m ∧ ∀ g, tv.ownBlock = some g → g ≠ s
  dcv : ∀ g, r.cv.ownBlock = some g → g ≠ s ∧ g ≠ r.b ∧ g ≠ m ∧ tv.ownBlock ≠ some g
  dav : ∀ g, r.av.ownBlock = some g → g ≠ s ∧ g ≠ r.b ∧ g ≠ m ∧ tv.ownBlock ≠ some g ∧ r.cv.ownBlock ≠ some g
theorem rowk {w w' : World} {lo sz : Nat} {t : TypeId} {v : Value} {n : Nat} {xs : List Value} (h : w.ownsRow lo t sz v n xs) (hb : ∀ g, v.ownBlock = some g → w'.heap[g]? = w.heap[g]?) : w'.ownsRow lo t sz v n xs := by
  refine ⟨h.1, ?_⟩
  rcases h.2 with hn | ⟨g, cap, cur, rfl, hb', hg, rest⟩
  · exact .inl hn
  · exact .inr ⟨g, cap, cur, rfl, hb', (hb g rfl).trans hg, rest⟩
section
variable {w0 w : World} {s m : Nat} {r : Sr} {tv : Value} {n : Nat} {σ : Sg} {L : Int} {tr : List Int} {gl : List Gl} {ch : List Cr} {an : List Tm}
theorem SS.mu (h : SS w0 w s m r tv n σ L tr gl ch an) {k : Nat} (hk : Mu s r.b m tv r.cv r.av k) : w0.heap.size ≤ k ∧ k < w.heap.size := by
  rcases hk with (rfl | rfl | hk) | (rfl | hk | hk)
  · exact ⟨h.vs.lob.1, h.vs.lt⟩
  · exact ⟨h.vs.lob.2, h.vs.map.lt⟩
  · exact h.trk.1.lt k hk
  · exact ⟨h.los, h.blk.lt⟩
  · exact h.chr.lt k hk
  · exact h.anr.lt k hk
theorem SS.lows (h : SS w0 w s m r tv n σ L tr gl ch an) {w' : World} (hb : Bw (Mu s r.b m tv r.cv r.av) w.heap.size w w') : Below w0.heap.size w0 w' :=
  ⟨hb.os.trans h.low.os, hb.tape.trans h.low.tape, hb.output.trans h.low.output, Nat.le_trans h.low.size hb.size, fun k hk => (hb.block k (Nat.lt_of_lt_of_le hk h.low.size) (fun e => by have := (h.mu e).1; omega)).trans (h.low.block k hk)⟩
theorem SS.ofGF {w' : World} (hg : GF r.b m tv w w') : Bw (Mu s r.b m tv r.cv r.av) w.heap.size w w' :=
  ⟨hg.os, hg.tape, hg.output, hg.size, fun k hk hm => hg.block k hk (fun e => hm (.inl (.inl e))) (fun e => hm (.inl (.inr (.inl e)))) (fun _ hg' e => hm (.inl (.inr (.inr (e ▸ hg')))))⟩
/-- A term that may be made the same with another one. -/
theorem SS.good (_h : SS w0 w s m r tv n σ L tr gl ch an) {T : Tm} (hT : TIn w T) (hO : Okv 1000000 T) (hM : NM (Mu s r.b m tv r.cv r.av) T) : Good w r.b m tv 1000000 T :=
  ⟨hT, hO, hM.nb (.inl (.inl rfl)), hM.nb (.inl (.inr (.inl rfl))), fun _ hg => hM.nb (.inl (.inr (.inr hg)))⟩
theorem rst_pre {σ σ' : Sg} {tr new : List Int} (hs : ∀ v ∈ tr, σ' v = σ v) {k : Nat} (hk : k ≤ tr.length) : rst σ' ((tr ++ new).take k) = rst σ (tr.take k) := by
  rw [List.take_append_of_le_length hk]
  funext v
  unfold rst
  by_cases h : v ∈ tr.take k
  · rw [if_pos h, if_pos h]; exact hs v (List.mem_of_mem_take h)
  · rw [if_neg h, if_neg h]
theorem rst_all {σ : Sg} {tr : List Int} (hs : ∀ v, (σ v).isSome = true ↔ v ∈ tr) : rst σ (tr.take tr.length) = σ := by
  rw [List.take_length]
  funext v
  unfold rst
  by_cases h : v ∈ tr
  · rw [if_pos h]
  · rw [if_neg h]
    cases hv : σ v with
    | none => rfl
    | some U => exact absurd ((hs v).1 (by rw [hv]; rfl)) h
theorem nm_mu {s b m : Nat} {tv cv av : Value} {T : Tm} (h1 : NB b T) (h2 : NB m T) (h3 : ∀ g, tv.ownBlock = some g → NB g T) (h4 : NM (Ms s cv av) T) : NM (Mu s b m tv cv av) T := by
  induction T with
  | nil => trivial
  | mk v nm a len cap f ih =>
    refine ⟨fun h0 => ?_, fun i hi => ih i (h1.2 i hi) (h2.2 i hi) (fun g hg => (h3 g hg).2 i hi) (h4.2 i hi)⟩
    obtain ⟨x, o, e, hx⟩ := h4.1 h0
    refine ⟨x, o, e, fun hm => ?_⟩
    rcases hm with (hm | hm | hm) | hm
    · obtain ⟨y, o', e', hy⟩ := h1.1 h0
      rw [e] at e'; cases e'; exact hy hm
    · obtain ⟨y, o', e', hy⟩ := h2.1 h0
      rw [e] at e'; cases e'; exact hy hm
    · obtain ⟨y, o', e', hy⟩ := (h3 x hm).1 h0
      rw [e] at e'; cases e'; exact hy rfl
    · exact hx hm
/-- What a term is can be made the same with another one, if it can. -/
theorem SS.wha (h : SS w0 w s m r tv n σ L tr gl ch an) {T : Tm} (hT : TIn w T ∧ Okv 1000000 T ∧ NM (Mu s r.b m tv r.cv r.av) T) : TIn w (wha σ T) ∧ Okv 1000000 (wha σ T) ∧ NM (Mu s r.b m tv r.cv r.av) (wha σ T) := by
  rcases wh_from σ (T.v.toNat + 1) T with e | ⟨v, e⟩
  · unfold Go.Proofs.Ytmggaclaoefdaaa.wha; rw [e]; exact hT
  · obtain ⟨h1, h2, h3, h4, h5⟩ := h.vs.trm v _ e
    exact ⟨h1, h2, nm_mu h3 h4 h5 (h.sg v _ e)⟩
/-- Variables have become something. -/
theorem SS.vars (h : SS w0 w s m r tv n σ L tr gl ch an) {w' : World} {tv' : Value} {n' : Nat} {σ' : Sg} {L' : Int} (hv : VS w' r.b m tv' 1000000 w0.heap.size n' σ' L') (hg : GF r.b m tv w w') (ht : TX w0.heap.size tv σ w tv' σ' w') (hk : ∀ v T, σ' v = some T → NM (Ms s r.cv r.av) T) :
    ∃ tr', SS w0 w' s m r tv' n' σ' L' tr' gl ch an ∧ (tr.length ≤ tr'.length ∧ tr'.take tr.length = tr) ∧ rst σ' (tr'.take tr.length) = σ ∧ ∀ k, k < w.heap.size → Mu s r.b m tv' r.cv r.av k → Mu s r.b m tv r.cv r.av k := by
  obtain ⟨new, h1, h2⟩ := ht.2 tr h.trk
  have hb := SS.ofGF (s := s) hg
  have hsz := hg.size
  have hmu : ∀ k, k < w.heap.size → Mu s r.b m tv' r.cv r.av k → Mu s r.b m tv r.cv r.av k := fun k hk' e => by
    rcases e with (e | e | e) | e
    · exact .inl (.inl e)
    · exact .inl (.inr (.inl e))
    · rcases ht.1 k e with e' | e'
      · exact .inl (.inr (.inr e'))
      · omega
    · exact .inr e
  have hne : ∀ k, k < w.heap.size → tv.ownBlock ≠ some k → tv'.ownBlock ≠ some k := fun k hk' h1 e => by
    rcases ht.1 k e with e' | e'
    · exact h1 e'
    · omega
  have hs := h.blk.lt
  have hst : w'.heap[s]? = w.heap[s]? := hg.block s hs h.dsb.1 h.dsb.2.1 (fun g hg' e => h.dsb.2.2 g hg' e)
  refine ⟨tr ++ new, ⟨h.blk.kept hst, hv, h1, hk, h.gls.next hb hmu, rowk h.chr (fun g hg' => ?_), fun c hc => (h.chg c hc).next hb hmu, fun c hc => ?_, h.chm, rowk h.anr (fun g hg' => ?_), fun A hA => ⟨(h.ant A hA).1.bw hb (Nat.le_refl _) (h.ant A hA).2, (h.ant A hA).2.anti (h.ant A hA).1 hmu⟩, h.lows hb, h.los, ⟨h.dsb.1, h.dsb.2.1, fun g hg' e => ?_⟩, fun g hg' => ?_, fun g hg' => ?_⟩, ⟨by simp, by simp⟩, by rw [rst_pre h2 (Nat.le_refl _)]; exact rst_all h.trk.2.2.1, hmu⟩
  · obtain ⟨d1, d2, d3, d4⟩ := h.dcv g hg'
    exact hg.block g (h.chr.lt g hg').2 d2 d3 (fun g' h' e => d4 (e ▸ h'))
  · obtain ⟨h3, h4⟩ := h.chs c hc
    exact ⟨by rw [List.length_append]; omega, by rw [rst_pre h2 h3]; exact h4⟩
  · obtain ⟨d1, d2, d3, d4, d5⟩ := h.dav g hg'
    exact hg.block g (h.anr.lt g hg').2 d2 d3 (fun g' h' e => d4 (e ▸ h'))
  · subst e
    exact hne g hs (fun e => h.dsb.2.2 g e rfl) hg'
  · obtain ⟨d1, d2, d3, d4⟩ := h.dcv g hg'
    exact ⟨d1, d2, d3, hne g (h.chr.lt g hg').2 d4⟩
  · obtain ⟨d1, d2, d3, d4, d5⟩ := h.dav g hg'
    exact ⟨d1, d2, d3, hne g (h.anr.lt g hg').2 d4, d5⟩
/-- New memory. -/
theorem SS.below (h : SS w0 w s m r tv n σ L tr gl ch an) {w' : World} (hb : Below w.heap.size w w') : SS w0 w' s m r tv n σ L tr gl ch an := by
  have hw : Bw (Mu s r.b m tv r.cv r.av) w.heap.size w w' := Bw.ofBelow hb
  have hr : ∀ (v : Value), (∀ g, v.ownBlock = some g → g < w.heap.size) → ∀ g, v.ownBlock = some g → w'.heap[g]? = w.heap[g]? := fun v h1 g hg => hb.block g (h1 g hg)
  exact ⟨h.blk.kept (hb.block s h.blk.lt), h.vs.below hb, ⟨rowk h.trk.1 (hr tv (fun g hg => (h.trk.1.lt g hg).2)), h.trk.2⟩, h.sg, h.gls.next hw (fun _ _ e => e), rowk h.chr (hr _ (fun g hg => (h.chr.lt g hg).2)), fun c hc => (h.chg c hc).next hw (fun _ _ e => e), h.chs, h.chm, rowk h.anr (hr _ (fun g hg => (h.anr.lt g hg).2)), fun A hA => ⟨(h.ant A hA).1.below hb, (h.ant A hA).2⟩, h.lows hw, h.los, h.dsb, h.dcv, h.dav⟩
/-- A cell of the record is stored, but for choices and answers. -/
theorem SS.put (h : SS w0 w s m r tv n σ L tr gl ch an) (i : Nat) (v : Value) {r' : Sr} {gl' : List Gl} (hr : r'.cells = r.cells.setIfInBounds i v) (hb : r'.b = r.b) (hc : r'.cv = r.cv) (ha : r'.av = r.av) (hg : GL w (Mu s r.b m tv r.cv r.av) 1000000 r'.first gl') : SS w0 (w.setCell ⟨s, i, none⟩ v) s m r' tv n σ L tr gl' ch an := by
  have hG := G.set s w i v
  have hw : Bw (Mu s r.b m tv r.cv r.av) w.heap.size w (w.setCell ⟨s, i, none⟩ v) := (Bw.refl _ _ _).grown hG (Nat.le_refl _) (fun k hk => .inr (.inr (.inl (Option.some.inj hk).symm)))
  have hvs := h.vs.atK hG h.dsb.1 h.dsb.2.1 h.dsb.2.2 (fun v T hv => (h.sg v T hv).nb (.inl rfl))
  refine ⟨h.blk.set i v hr, by rw [hb]; exact hvs, ⟨h.trk.1.kept hG (row_ne h.dsb.2.2), h.trk.2⟩, by rw [hc, ha]; exact h.sg, ?_, ?_, ?_, h.chs, h.chm, ?_, ?_, h.lows hw, h.los, by rw [hb]; exact h.dsb, by rw [hb, hc]; exact h.dcv, by rw [hb, hc, ha]; exact h.dav⟩
  · rw [hb, hc, ha]; exact hg.next hw (fun _ _ e => e)
  · rw [hc]; exact h.chr.kept hG (row_ne (fun g hg' => (h.dcv g hg').1))
  · rw [hb, hc, ha]; exact fun c hc' => (h.chg c hc').next hw (fun _ _ e => e)
  · rw [ha]; exact h.anr.kept hG (row_ne (fun g hg' => (h.dav g hg').1))
  · rw [hb, hc, ha]; exact fun A hA => ⟨(h.ant A hA).1.bw hw (Nat.le_refl _) (h.ant A hA).2, (h.ant A hA).2⟩
end
end Go.Proofs.Ytmggaclaoefdaaa
