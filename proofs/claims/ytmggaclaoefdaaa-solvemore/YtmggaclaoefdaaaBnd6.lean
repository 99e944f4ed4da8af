/- New, Over, Work, Room. -/
import Derived.Test.YtmggaclaoefdaaaBnd3
namespace Go.Proofs.Ytmggaclaoefdaaa
open Go.RowKit

set_option maxRecDepth 100000 in
set_option maxHeartbeats 1000000 in
theorem new_any (w : World) (N : Int) (hN : N ≤ 1000000) :
    Calls Try.prog 60 #[] w fun e w' => ∃ b m, e = .returned (.pointer (some ⟨b, 0, none⟩)) ∧ VS w' b m (.slice none 0 0) N w.heap.size 0 (fun _ => none) (4000 : Nat) ∧ Below w.heap.size w w' := by
  have hmm := @run_makeMap Try.prog
  go_enter Try.func60, Try.ntmps60
  go_wp2_with fail
  go_ret
  refine ⟨w.heap.size + 1, w.heap.size, by simp, ⟨?_, ?_, ⟨[], World.ownsRow_nil _ _ _ _, Nat.zero_le _⟩, by omega, fun g hg => by simp [Value.ownBlock] at hg, by omega, fun v T h => by simp at h, fun v T h => by simp at h, hN⟩, ((Below.refl _ _).alloc (Nat.le_refl _) _).alloc (by simp) _⟩
  · have := heap_alloc_new (w.alloc (.map #[] 0)) (.cells #[.map (some w.heap.size), .slice none 0 0, .int .i64 4000] 142)
    rwa [show (w.alloc (.map #[] 0)).heap.size = w.heap.size + 1 from by simp] at this
  · have h1 : MapIs (w.alloc (.map #[] 0)) w.heap.size 0 (fun _ => none) := ⟨.map [], World.ownsMap_made w _ _ _, Maps.isMap_empty, fun i _ _ => ⟨rfl, fun T h => by simp at h⟩⟩
    exact h1.kept (World.grownBy_alloc _ _ none) (by simp)

set_option maxRecDepth 100000 in
theorem over_any {b m : Nat} {tv : Value} {N : Int} {lo n : Nat} {σ : Sg} {L : Int} (w : World) (hS : VS w b m tv N lo n σ L) :
    Calls Try.prog 62 #[.pointer (some ⟨b, 0, none⟩)] w fun e w' => e = .returned (.bool (decide (L < 0))) ∧ w' = w := by
  obtain ⟨v0, v1, v2, k0, k1, k2⟩ := block_cells hS.blk
  clear hS
  go_enter Try.func62, Try.ntmps62
  go_wp2_with fail
  go_ret
  exact ⟨rfl, rfl⟩

set_option maxRecDepth 100000 in
theorem work_any {b m : Nat} {tv : Value} {N : Int} {lo n : Nat} {σ : Sg} {L : Nat} (w : World) (hS : VS w b m tv N lo n σ L) (hL : L ≤ 4000) :
    Calls Try.prog 63 #[.pointer (some ⟨b, 0, none⟩)] w fun e w' => e = .returned (.int .i64 (4000 - L : Int)) ∧ w' = w := by
  obtain ⟨v0, v1, v2, k0, k1, k2⟩ := block_cells hS.blk
  clear hS
  go_enter Try.func63, Try.ntmps63
  go_wp2_with fail
  go_ret
  exact ⟨rfl, rfl⟩

/-- How much room is left behind all parts of terms; none: there are more. -/
def roomF (σ : Sg) : Nat → List Tm → Option Nat
  | n, [] => some n
  | 0, _ :: _ => none
  | n + 1, t :: ts => roomF σ n (kidsL (wha σ t) ++ ts)
theorem roomF_nil (σ : Sg) (n : Nat) : roomF σ n [] = some n := by cases n <;> rfl
theorem field2 (x y z : Value) (w : World) : (Instr.field 24 (.agg #[x, y, z]) 2).run Try.prog w = .ok z w := by kernel_rfl
def RMP (σ : Sg) (n : Nat) (T : Tm) (r : Int) : Prop := (∃ k : Nat, r = k ∧ k ≤ n ∧ ∀ ts, roomF σ n (kidsL T ++ ts) = roomF σ k ts) ∨ (r = -1 ∧ ∀ ts, roomF σ n (kidsL T ++ ts) = none)
def RM (n : Nat) : Prop := ∀ (b m : Nat) (tv : Value) (N : Int) (lo nn : Nat) (σ : Sg) (L : Int) (T : Tm) (w : World), VS w b m tv N lo nn σ L → n ≤ 200 → TIn w T → (∀ i, i < T.len → Okv N (T.f i)) →
    Calls Try.prog 96 #[.pointer (some ⟨b, 0, none⟩), .int .i64 n, .slice T.a T.len T.cap] w fun e w' => ∃ r : Int, e = .returned (.int .i64 r) ∧ Below w.heap.size w w' ∧ RMP σ n T r

set_option maxRecDepth 100000 in
set_option maxHeartbeats 4000000 in
theorem room_step (n : Nat) (hall : ∀ k, k < n → RM k) : RM n := by
  intro b m tv N lo nn σ L T w hS hn hT hO
  have HAll : Hid (∀ k, k < n → RM k) := hall
  have HS : Hid (VS w b m tv N lo nn σ L) := hS
  have HT : Hid (TIn w T) := hT
  have HO : Hid (∀ i, i < T.len → Okv N (T.f i)) := hO
  have hlen : T.len ≤ 2 ^ 63 - 1 := hT.len
  have HKid : Hid (∀ i, i < T.len → ∀ W, Below w.heap.size w W → RowAt W T.a i (T.f i) ∧ TIn W (T.f i)) := fun i hi W hW => ⟨(hT.row hi).below hW, (hT.kid hi).below hW⟩
  clear hall hS hT hO
  generalize hua : T.a = ua at *
  go_enter Try.func96, Try.ntmps96
  go_wp2_with fail
  go_loopw [1, 11] (fun a i wr => ∃ j k : Nat, j ≤ T.len ∧ i = .int .i64 j ∧ a = .int .i64 k ∧ k ≤ n ∧ Below w.heap.size w wr ∧ ∀ ts, roomF σ n (kidsL T ++ ts) = roomF σ k ((kidsL T).drop j ++ ts)) (fun _ i _ => T.len - (intOf i).toNat)
  case atStart => exact ⟨0, n, Nat.zero_le _, rfl, rfl, Nat.le_refl _, Below.refl _ _, fun _ => rfl⟩
  case round =>
    obtain ⟨j, k, hj, rfl, rfl, hk, hB, hR⟩ := hrel
    have HB : Hid (Below w.heap.size w wr) := hB
    have HR : Hid (∀ ts, roomF σ n (kidsL T ++ ts) = roomF σ k ((kidsL T).drop j ++ ts)) := hR
    clear hB hR
    by_cases hlt : j < T.len
    case neg =>
      have hje : j = T.len := by omega
      have HQ : Hid (∀ ts, roomF σ n (kidsL T ++ ts) = roomF σ k ts) := fun ts => by rw [HR.out ts, hje, kidsL_end]; rfl
      clear hje
      go_wp2_with fail
      go_ret
      exact ⟨k, rfl, HB.out, .inl ⟨k, rfl, hk, HQ.out⟩⟩
    obtain ⟨hr, hTj⟩ := HKid.out j hlt wr HB.out
    have HTj : Hid (TIn wr (T.f j)) := hTj
    have HRj : Hid (∀ ts, roomF σ n (kidsL T ++ ts) = roomF σ k (T.f j :: ((kidsL T).drop (j + 1) ++ ts))) := fun ts => by rw [HR.out ts, kidsL_drop hlt]; rfl
    obtain ⟨bb, o, ha, c0, c1, c2⟩ := hr
    clear hTj
    subst ha
    by_cases hk0 : k = 0
    · subst hk0
      have HQ : Hid (∀ ts, roomF σ n (kidsL T ++ ts) = none) := fun ts => by rw [HRj.out ts]; rfl
      go_wp2_with fail
      go_ret
      exact ⟨-1, rfl, HB.out.alloc HB.out.size _, .inr ⟨rfl, HQ.out⟩⟩
    have hkb : ((k : Int) == 0) = false := beq_eq_false_iff_ne.2 (by omega)
    have hSw : ∀ W, Below wr.heap.size wr W → VS W b m tv N lo nn σ L := fun W hW => (HS.out.below HB.out).below hW
    have HSw : Hid (∀ W, Below wr.heap.size wr W → VS W b m tv N lo nn σ L) := hSw
    clear hSw
    go_wp2_with fail
    refine (what_any (T.f j) _ (HSw.out _ ((Below.refl _ _).alloc (Nat.le_refl _) _)) (HO.out j hlt)).mono ?_
    rintro e w5 ⟨rfl, hb5, hO5⟩
    have HB5 : Hid (Below wr.heap.size wr w5) := ((Below.refl _ _).alloc (Nat.le_refl _) _).trans (hb5.mono (by simp))
    have HRu : Hid (∀ ts, roomF σ n (kidsL T ++ ts) = roomF σ (k - 1) (kidsL (wha σ (T.f j)) ++ ((kidsL T).drop (j + 1) ++ ts))) := fun ts => by
      rw [HRj.out ts]
      obtain ⟨q, rfl⟩ : ∃ q, k = q + 1 := ⟨k - 1, by omega⟩
      rfl
    have HU : Hid (TIn w5 (wha σ (T.f j))) := by
      rcases wh_from σ ((T.f j).v.toNat + 1) (T.f j) with h | ⟨v, h⟩
      · rw [Hid]; unfold wha; rw [h]; exact HTj.out.below HB5.out
      · exact ((HSw.out _ HB5.out).trm v _ h).1
    have HOu : Hid (Okv N (wha σ (T.f j))) := hO5
    clear hb5 hO5
    generalize wha σ (T.f j) = U at *
    rw [show U.val = .agg #[.int .i64 U.v, .string U.nm, .slice U.a U.len U.cap] from rfl]
    have HC : Hid (Calls Try.prog 96 #[.pointer (some ⟨b, 0, none⟩), .int .i64 ((k : Int) - 1), .slice U.a U.len U.cap] w5 fun e w' => ∃ r : Int, e = .returned (.int .i64 r) ∧ Below w5.heap.size w5 w' ∧ RMP σ (k - 1) U r) := by
      have := HAll.out (k - 1) (by omega) b m tv N lo nn σ L U w5 (HSw.out _ HB5.out) (by omega) HU.out (fun i hi => HOu.out.kid hi)
      rwa [show ((k - 1 : Nat) : Int) = (k : Int) - 1 from by omega] at this
    have hfd := field2 (.int .i64 U.v) (.string U.nm) (.slice U.a U.len U.cap)
    go_wp2_with fail
    refine HC.out.mono ?_
    rintro e w6 ⟨r, rfl, hb6, hP⟩
    have HB6 : Hid (Below w.heap.size w w6) := HB.out.trans ((HB5.out.trans (hb6.mono HB5.out.size)).mono HB.out.size)
    clear hb6
    rcases hP with ⟨q, rfl, hq, hw⟩ | ⟨rfl, hw⟩
    · have HQ : Hid (∀ ts, roomF σ n (kidsL T ++ ts) = roomF σ q ((kidsL T).drop (j + 1) ++ ts)) := fun ts => by rw [HRu.out ts, hw]
      have hqb : decide ((q : Int) < 0) = false := decide_eq_false (by omega)
      clear hw
      go_wp2_with fail
      go_roundw
      case rel => exact ⟨j + 1, q, by omega, by go_num, rfl, by omega, HB6.out, HQ.out⟩
      case measure => simp [intOf]; omega
    · have HQ : Hid (∀ ts, roomF σ n (kidsL T ++ ts) = none) := fun ts => by rw [HRu.out ts, hw]
      clear hw
      go_wp2_with fail
      go_ret
      exact ⟨-1, rfl, HB6.out, .inr ⟨rfl, HQ.out⟩⟩
theorem room_all : ∀ n, RM n := by
  intro n
  induction n using Nat.strongRecOn with
  | _ n ih => exact room_step n ih
end Go.Proofs.Ytmggaclaoefdaaa
