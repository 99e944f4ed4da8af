/- Names of variables: numbers as they are first asked for. -/
import Derived.Test.YtmggaclaoefdaaaHr6
import Derived.Test.YtmggaclaoefdaaaGAP
import Derived.Test.YtmggaclaoefdaaaGAJ
namespace Go.Proofs.Ytmggaclaoefdaaa
open Go.RowKit
set_option linter.unusedVariables false
set_option linter.unusedSimpArgs false

/-- What numbers are told: of a cell its place in the list, where it stands as its number and 1. -/
def nmS (t : List Int) : Int → Option Int := fun i => if i + 1 ∈ t then some (num t (i + 1)) else none
/-- Names in memory. -/
structure NMs (w : World) (lo nb nm : Nat) (v : Value) (t : List Int) : Prop where
  blk : w.heap[nb]? = some (.cells #[.map (some nm), v] 126)
  mp : IM w nm (nmS t)
  row : w.ownsRow lo 3 1 v t.length (t.map fun x : Int => Value.int .i64 (x - 1))
  nd : t.Nodup ∧ ∀ x ∈ t, 1 ≤ x ∧ x ≤ 1000001
  lo : lo ≤ nb ∧ lo ≤ nm
theorem NMs.few {w : World} {lo nb nm : Nat} {v : Value} {t : List Int} (h : NMs w lo nb nm v t) : t.length ≤ 1000002 := by
  have h1 : (t.map Int.toNat).Nodup := by
    rw [List.nodup_iff_pairwise_ne, List.pairwise_map]
    have h0 := List.nodup_iff_pairwise_ne.1 h.nd.1
    exact h0.imp_of_mem (fun ha hb hab e => hab (by have := h.nd.2 _ ha; have := h.nd.2 _ hb; omega))
  have h2 : (t.map Int.toNat) ⊆ List.range 1000002 := fun x hx => by
    obtain ⟨i, hi, rfl⟩ := List.mem_map.1 hx
    have := h.nd.2 i hi
    exact List.mem_range.2 (by omega)
  have h3 := List.Nodup.length_le_of_subset h1 h2
  rw [List.length_map, List.length_range] at h3
  exact h3
/-- Which blocks may turn while variables are numbered. -/
def Mn (nb nm : Nat) (v : Value) (k : Nat) : Prop := k = nb ∨ k = nm ∨ v.ownBlock = some k
theorem NMs.lt {w : World} {lo nb nm : Nat} {v : Value} {t : List Int} (h : NMs w lo nb nm v t) : nb < w.heap.size ∧ nm < w.heap.size ∧ ∀ g, v.ownBlock = some g → lo ≤ g ∧ g < w.heap.size :=
  ⟨(Array.getElem?_eq_some_iff.1 h.blk).1, h.mp.lt, fun g hg => h.row.lt g hg⟩
theorem NMs.keep {w w' : World} {lo nb nm : Nat} {v : Value} {t : List Int} (h : NMs w lo nb nm v t) (hk : ∀ k, Mn nb nm v k → w'.heap[k]? = w.heap[k]?) : NMs w' lo nb nm v t :=
  ⟨(hk _ (.inl rfl)).trans h.blk, h.mp.keep (hk _ (.inr (.inl rfl))), owns_block h.row (fun g hg => hk _ (.inr (.inr hg))), h.nd, h.lo⟩
theorem NMs.below {w w' : World} {lo nb nm : Nat} {v : Value} {t : List Int} (h : NMs w lo nb nm v t) (hb : Below w.heap.size w w') : NMs w' lo nb nm v t :=
  h.keep fun k hk => hb.block k (by
    have := h.lt
    rcases hk with e | e | e
    · omega
    · omega
    · exact (this.2.2 k e).2)
set_option maxRecDepth 100000 in
set_option maxHeartbeats 4000000 in
theorem newNames_any (w : World) : Calls Try.prog 80 #[] w fun e w' => ∃ nb nm, e = .returned (.pointer (some ⟨nb, 0, none⟩)) ∧ NMs w' w.heap.size nb nm (.slice none 0 0) [] ∧ Below w.heap.size w w' := by
  have HF : Hid (NMs ((w.alloc (.map #[] 0)).alloc (.cells #[.map (some w.heap.size), .slice none 0 0] 126)) w.heap.size (w.heap.size + 1) w.heap.size (.slice none 0 0) [] ∧ Below w.heap.size w ((w.alloc (.map #[] 0)).alloc (.cells #[.map (some w.heap.size), .slice none 0 0] 126))) := by
    have hB : Below w.heap.size w ((w.alloc (.map #[] 0)).alloc (.cells #[.map (some w.heap.size), .slice none 0 0] 126)) := ((Below.refl _ _).alloc (Nat.le_refl _) _).alloc (by simp) _
    refine ⟨⟨?_, ?_, World.ownsRow_nil _ _ _ _, ⟨List.nodup_nil, fun x h => by cases h⟩, by omega, Nat.le_refl _⟩, hB⟩
    · have := heap_alloc_new (w.alloc (.map #[] 0)) (.cells #[.map (some w.heap.size), .slice none 0 0] 126)
      rwa [show (w.alloc (.map #[] 0)).heap.size = w.heap.size + 1 from by simp] at this
    · have e : nmS [] = fun _ => none := by funext i; unfold nmS; rw [if_neg (by simp)]
      rw [e]
      exact (IM.made w).keep (heapOld _ _ (by simp))
  have hmm := @run_makeMap Try.prog
  go_enter Try.func80, Try.ntmps80
  go_wp2_with fail
  go_ret
  exact ⟨_, _, rfl, HF.out.1, HF.out.2⟩
theorem nmS_snoc {t : List Int} {x : Int} (hx : x ∉ t) : updI (nmS t) (x - 1) ((t.length : Int) + 1) = nmS (t ++ [x]) := by
  funext i
  unfold updI nmS
  by_cases e : i = x - 1
  · subst e
    rw [if_pos rfl, show x - 1 + 1 = x from by omega, if_pos (by simp)]
    unfold num
    rw [List.idxOf_append, if_neg hx]
    simp
  · rw [if_neg e]
    have hne : i + 1 ≠ x := by omega
    by_cases hi : i + 1 ∈ t
    · rw [if_pos hi, if_pos (List.mem_append.2 (.inl hi)), num_pre (List.prefix_append t [x]) hi]
    · rw [if_neg hi, if_neg (by simp [hi, hne])]
theorem nmS_get {t : List Int} {x : Int} : (nmS t (x - 1)).getD 0 = if x ∈ t then num t x else 0 := by
  unfold nmS
  rw [show x - 1 + 1 = x from by omega]
  by_cases h : x ∈ t
  · rw [if_pos h, if_pos h]; rfl
  · rw [if_neg h, if_neg h]; rfl
def NbP (w : World) (lo nb nm : Nat) (v : Value) (t : List Int) (x : Int) (e : Ending) (w' : World) : Prop := ∃ v', e = .returned (.int .i64 (num (addV t [x]) x)) ∧ NMs w' lo nb nm v' (addV t [x]) ∧ Bw (Mn nb nm v) w.heap.size w w' ∧ (v'.ownBlock = v.ownBlock ∨ ∃ g, v'.ownBlock = some g ∧ w.heap.size ≤ g)
set_option maxRecDepth 100000 in
set_option maxHeartbeats 4000000 in
theorem nnum_any {lo nb nm : Nat} {v : Value} {t : List Int} (z : Nat) (hz : z ≤ 1000000) (w : World) (h : NMs w lo nb nm v t) (hlo : lo ≤ w.heap.size) :
    Calls Try.prog 82 #[.pointer (some ⟨nb, 0, none⟩), .int .i64 z] w (NbP w lo nb nm v t ((z : Int) + 1)) := by
  have n0 : w.cell? ⟨nb, 0, none⟩ = some (.map (some nm)) := by simp [World.cell?, h.blk]
  have n1 : w.cell? ⟨nb, 1, none⟩ = some v := by simp [World.cell?, h.blk]
  have nf : w.frozen? ⟨nb, 1, none⟩ = false := by simp [World.frozen?, h.blk]
  have hlk := h.mp.look1 (i := (z : Int)) (by omega) (by omega)
  have hge := nmS_get (t := t) (x := (z : Int) + 1)
  rw [show (z : Int) + 1 - 1 = z from by omega] at hge
  rw [hge] at hlk
  have hfw := h.few
  have hlt := h.lt
  by_cases hm : (z : Int) + 1 ∈ t
  · rw [if_pos hm] at hlk
    have hadd : addV t [(z : Int) + 1] = t := by rw [addV_one, if_pos hm]
    have hnum : 1 ≤ num t ((z : Int) + 1) := by unfold num; omega
    have hnz : (num t ((z : Int) + 1) == 0) = false := beq_eq_false_iff_ne.2 (by omega)
    have HF : Hid (NMs w lo nb nm v t) := h
    have HA : Hid (addV t [(z : Int) + 1] = t) := hadd
    clear h hge hm hadd
    go_enter Try.func82, Try.ntmps82
    go_wp2_with fail
    go_ret
    exact ⟨v, by rw [HA.out]; rfl, by rw [HA.out]; exact HF.out, Bw.refl _ _ _, .inl rfl⟩
  · rw [if_neg hm] at hlk
    have hadd : addV t [(z : Int) + 1] = t ++ [(z : Int) + 1] := by rw [addV_one, if_neg hm]
    obtain ⟨i0, hi, hi0, hi1, hi2⟩ := info_parts Try.info3
    have hBa : Below w.heap.size w (w.alloc (.cells #[.int .i64 (z : Int)] 3)) := (Below.refl _ _).alloc (Nat.le_refl _) _
    obtain ⟨v6, w6, hrun, ho6, hg6, _, hat6⟩ := run_append_own_at (P := Try.prog) (w.alloc (.cells #[.int .i64 (z : Int)] 3)) lo 56 56 3 i0 (.int .i64 0) 1 8 Try.underlying56 hi hi0 hi1 hi2 rfl (by decide) v t.length _ (owns_block h.row (fun g hg => hBa.block g (hlt.2.2 g hg).2)) ⟨w.heap.size, 0, none⟩ 1 1 [.int .i64 (z : Int)] rfl (cell_one_new _ _ _) (by simp [Value.oneCell']) (by unfold maxLen; omega) (by omega) (by simp; omega)
    obtain ⟨g6, cap6, rfl⟩ := ownsRow_succ ho6
    have hnv : some nb ≠ v.ownBlock := fun e => by
      rcases h.row.2 with ⟨hv, _⟩ | ⟨g, cap, cur, hv, _, hg, _⟩
      · subst hv; cases e
      · subst hv
        have : nb = g := Option.some.inj e
        subst this
        rw [h.blk] at hg
        cases hg
    have hmv : some nm ≠ v.ownBlock := fun e => by
      rcases h.row.2 with ⟨hv, _⟩ | ⟨g, cap, cur, hv, _, hg, _⟩
      · subst hv; cases e
      · subst hv
        have : nm = g := Option.some.inj e
        subst this
        exact h.mp.ne_block hg rfl
    have hb6 : w6.heap[nb]? = some (.cells #[.map (some nm), v] 126) := (hg6.block nb (by simp; omega) hnv).trans ((hBa.block nb hlt.1).trans h.blk)
    have c60 : w6.cell? ⟨nb, 0, none⟩ = some (.map (some nm)) := by simp [World.cell?, hb6]
    have c61 : w6.cell? ⟨nb, 1, none⟩ = some v := by simp [World.cell?, hb6]
    have cf6 : w6.frozen? ⟨nb, 1, none⟩ = false := by simp [World.frozen?, hb6]
    have hg7 := grown_set (W := w6) nb 1 (.slice (some ⟨g6, 0, none⟩) (t.length + 1) cap6)
    have hb7 : (w6.setCell ⟨nb, 1, none⟩ (.slice (some ⟨g6, 0, none⟩) (t.length + 1) cap6)).heap[nb]? = some (.cells #[.map (some nm), .slice (some ⟨g6, 0, none⟩) (t.length + 1) cap6] 126) := by
      simp only [World.setCell, Array.getElem?_modify]
      simp [hb6]
    have hs6 : w.heap.size + 1 ≤ w6.heap.size := by have := hg6.size; simp at this; omega
    have hgn : g6 ≠ nb := fun e => by
      rcases ho6.2 with ⟨hv, _⟩ | ⟨g, cap, cur, hv, _, hg, _⟩
      · cases hv
      · cases hv
        rw [e, hb6] at hg
        cases hg
    have hm7 : IM (w6.setCell ⟨nb, 1, none⟩ (.slice (some ⟨g6, 0, none⟩) (t.length + 1) cap6)) nm (nmS t) := h.mp.keep ((hg7.block nm (by omega) (fun e => by have := Option.some.inj e; exact h.mp.ne_block h.blk this.symm)).trans ((hg6.block nm (by simp; omega) hmv).trans (hBa.block nm hlt.2.1)))
    have hgm : g6 ≠ nm := fun e => by
      rcases ho6.2 with ⟨hv, _⟩ | ⟨g, cap, cur, hv, _, hg, _⟩
      · cases hv
      · cases hv
        have hm6 : IM w6 nm (nmS t) := h.mp.keep ((hg6.block nm (by simp; omega) hmv).trans (hBa.block nm hlt.2.1))
        exact hm6.ne_block hg e
    have ho7 : (w6.setCell ⟨nb, 1, none⟩ (.slice (some ⟨g6, 0, none⟩) (t.length + 1) cap6)).ownsRow lo 3 1 (.slice (some ⟨g6, 0, none⟩) (t.length + 1) cap6) (t.length + 1) ((t.map fun x : Int => Value.int .i64 (x - 1)) ++ [.int .i64 (z : Int)]) := ho6.kept hg7 (.inr (fun e => hgn (Option.some.inj e)))
    have c70 : (w6.setCell ⟨nb, 1, none⟩ (.slice (some ⟨g6, 0, none⟩) (t.length + 1) cap6)).cell? ⟨nb, 0, none⟩ = some (.map (some nm)) := by simp [World.cell?, hb7]
    have c71 : (w6.setCell ⟨nb, 1, none⟩ (.slice (some ⟨g6, 0, none⟩) (t.length + 1) cap6)).cell? ⟨nb, 1, none⟩ = some (.slice (some ⟨g6, 0, none⟩) (t.length + 1) cap6) := by simp [World.cell?, hb7]
    obtain ⟨w8, hrun8, hm8, hg8⟩ := (hm7.keep (w' := (w6.setCell ⟨nb, 1, none⟩ (.slice (some ⟨g6, 0, none⟩) (t.length + 1) cap6)).drew) rfl).store (i := (z : Int)) (by omega) (by omega) ((t.length : Int) + 1)
    have hm8' : IM w8 nm (nmS (t ++ [(z : Int) + 1])) := by
      rw [← nmS_snoc hm, show (z : Int) + 1 - 1 = z from by omega]
      exact hm8
    have hb8 : w8.heap[nb]? = some (.cells #[.map (some nm), .slice (some ⟨g6, 0, none⟩) (t.length + 1) cap6] 126) := (hg8.block nb (by simp; omega) (fun e => by have := Option.some.inj e; exact h.mp.ne_block h.blk this)).trans hb7
    have c80 : w8.cell? ⟨nb, 0, none⟩ = some (.map (some nm)) := by simp [World.cell?, hb8]
    have hlk8 := hm8'.look1 (i := (z : Int)) (by omega) (by omega)
    have hge8 := nmS_get (t := t ++ [(z : Int) + 1]) (x := (z : Int) + 1)
    rw [show (z : Int) + 1 - 1 = z from by omega, if_pos (by simp)] at hge8
    rw [hge8] at hlk8
    have HN : Hid (NMs w8 lo nb nm (.slice (some ⟨g6, 0, none⟩) (t.length + 1) cap6) (t ++ [(z : Int) + 1])) := by
      refine ⟨hb8, hm8', ?_, ⟨?_, fun x hx => ?_⟩, h.lo⟩
      · rw [List.length_append, List.map_append]
        refine owns_block ?_ (fun g hg => hg8.block g (by have := (ho7.lt g hg).2; exact this) (fun e => hgm ((Option.some.inj hg).trans (Option.some.inj e))))
        have e : (List.map (fun x : Int => Value.int .i64 (x - 1)) [(z : Int) + 1]) = [.int .i64 (z : Int)] := by simp
        rw [e]
        exact ho7
      · rw [List.nodup_append]
        exact ⟨h.nd.1, by simp, fun a ha c hc => by rw [List.mem_singleton] at hc; subst hc; exact fun e => hm (e ▸ ha)⟩
      · rcases List.mem_append.1 hx with h' | h'
        · exact h.nd.2 x h'
        · rw [List.mem_singleton] at h'; subst h'; omega
    have HBw : Hid (Bw (Mn nb nm v) w.heap.size w w8) := by
      refine (((Bw.ofBelow hBa).grown hg6 (by simp) (fun k e => .inr (.inr (.inr e)))).grown hg7 (by omega) (fun k e => .inr (.inl (Option.some.inj e).symm))).drew.grown hg8 (by simp; omega) (fun k e => .inr (.inr (.inl (Option.some.inj e).symm)))
    have HAt : Hid ((Value.slice (some ⟨g6, 0, none⟩) (t.length + 1) cap6).ownBlock = v.ownBlock ∨ ∃ g, (Value.slice (some ⟨g6, 0, none⟩) (t.length + 1) cap6).ownBlock = some g ∧ w.heap.size ≤ g) := by
      rcases hat6 with e | e
      · exact .inl e
      · exact .inr ⟨_, e, by simp⟩
    have HA : Hid (addV t [(z : Int) + 1] = t ++ [(z : Int) + 1]) := hadd
    have Hhr8 : Hid ((Instr.mapUpdate 124 (.map (some nm)) (.int .i64 (z : Int)) (.int .i64 ((t.length : Int) + 1))).run Try.prog (w6.setCell ⟨nb, 1, none⟩ (.slice (some ⟨g6, 0, none⟩) (t.length + 1) cap6)).drew = .ok () w8) := hrun8
    clear h hge hge8 hm hadd hm7 hm8 hm8' ho6 ho7 hg6 hg7 hg8 hat6 hb7 hb8 hBa hrun8 hb6
    go_enter Try.func82, Try.ntmps82
    go_wp2_with (at_builtin; refine apPl _ rfl _ _ 56 rfl rfl rfl hrun ?_)
    have hrun8 := Hhr8.out
    go_region
    all_goals
      go_wp2_with fail
      go_ret
      exact ⟨_, by rw [HA.out]; rfl, by rw [HA.out]; exact HN.out, HBw.out, HAt.out⟩
end Go.Proofs.Ytmggaclaoefdaaa
