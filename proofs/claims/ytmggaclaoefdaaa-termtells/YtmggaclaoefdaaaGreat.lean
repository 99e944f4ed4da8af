/- What greatest answers. -/
import Derived.Test.YtmggaclaoefdaaaRefProg
import Derived.Deep.RegionWith
namespace Go.Proofs.Ytmggaclaoefdaaa
open Go.RowKit

def grTo (g : Nat → Int) : Nat → Int
  | 0 => 0
  | k + 1 => max (grTo g k) (g k)
def gr : Tm → Int
  | .nil => max 0 0
  | .mk v _ _ len _ f => max v (grTo (fun i => gr (f i)) len)
def grs (T : Tm) : Int := grTo (fun i => gr (T.f i)) T.len
theorem gr_eq (T : Tm) : gr T = max T.v (grs T) := by cases T <;> rfl

theorem max3 (a b c : Int) : max a (max b c) = if (if a < b then b else a) < c then c else if a < b then b else a := by
  split <;> split <;> omega

set_option maxHeartbeats 800000 in
theorem greatest_any (T : Tm) : ∀ (w : World), TIn w T →
    Calls Try.prog 50 #[.slice T.a T.len T.cap] w fun e w' => e = .returned (.int .i64 (grs T)) ∧ Below w.heap.size w w' := by
  induction T with
  | nil => intro w hin; exact False.elim hin
  | mk v nm a len cap f ih =>
    intro w hin
    have IH : Hid (∀ i (w : World), TIn w (f i) → Calls Try.prog 50 #[.slice (f i).a (f i).len (f i).cap] w fun e w' => e = .returned (.int .i64 (grs (f i))) ∧ Below w.heap.size w w') := ih
    have HIn : Hid (TIn w (.mk v nm a len cap f)) := hin
    have hlen : len ≤ 2 ^ 63 - 1 := TIn.len (T := .mk v nm a len cap f) hin
    have HS : Hid (grs (.mk v nm a len cap f) = grTo (fun i => gr (f i)) len) := rfl
    clear ih hin
    show Calls Try.prog 50 #[.slice a len cap] w _
    go_enter Try.func50, Try.ntmps50
    go_wp2_with fail
    go_loopw [3, 8] (fun n' i wr => ∃ k : Nat, k ≤ len ∧ i = .int .i64 k ∧ n' = .int .i64 (grTo (fun i => gr (f i)) k) ∧ Below w.heap.size w wr) (fun _ i _ => len - (intOf i).toNat)
    case atStart => exact ⟨0, Nat.zero_le _, rfl, rfl, Below.refl _ _⟩
    case round =>
      obtain ⟨k, hk, rfl, rfl, hb⟩ := hrel
      have HB : Hid (Below w.heap.size w wr) := hb
      have hsz := hb.size
      clear hb
      by_cases hlt : k < len
      · have hr : RowAt wr a k (f k) := (TIn.row (T := .mk v nm a len cap f) HIn.out hlt).below HB.out
        obtain ⟨b, o, ha, c0, c1, c2⟩ := hr
        have HT : Hid (TIn wr (f k)) := (TIn.kid (T := .mk v nm a len cap f) HIn.out hlt).below HB.out
        have HE : Hid (grTo (fun i => gr (f i)) (k + 1) = max (grTo (fun i => gr (f i)) k) (max (f k).v (grs (f k)))) := by rw [Hid, grTo, gr_eq]
        generalize grTo (fun i => gr (f i)) k = sk at *
        subst ha
        go_wp2_with fail
        go_region_with (
          go_at_call 50
          refine (IH.out k _ (HT.out.below (by exact ((Below.refl _ _).alloc (Nat.le_refl _) _).drew))).mono ?_
          rintro e w1 ⟨rfl, hb1⟩
          have hc0 : w1.cell? ⟨wr.heap.size, 0, none⟩ = some (.int .i64 (f k).v) := (hb1.cell (p := ⟨wr.heap.size, 0, none⟩) (by simp)).trans (by go_simp)
          have HX : Hid (Below w.heap.size w w1) := by
            refine HB.out.trans (Below.trans ?_ (hb1.mono (by simp; omega)))
            exact (((Below.refl _ _).alloc (Nat.le_refl _) _).drew).mono hsz
          clear hb1)
        all_goals
          go_wp2_with fail
          go_roundw
          case rel => exact ⟨k + 1, by omega, by go_num, by rw [HE.out, max3], HX.out⟩
          case measure => simp [intOf]; omega
      · have hke : k = len := by omega
        have HR : Hid (grs (.mk v nm a len cap f) = grTo (fun i => gr (f i)) k) := by rw [Hid, HS.out, ← hke]
        clear hke
        go_wp2_with fail
        go_ret
        exact ⟨by rw [HR.out]; rfl, HB.out⟩
end Go.Proofs.Ytmggaclaoefdaaa
