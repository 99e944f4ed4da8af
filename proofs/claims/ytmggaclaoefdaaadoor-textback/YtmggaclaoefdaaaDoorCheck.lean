/- What Check answers. -/
import Derived.Test.YtmggaclaoefdaaaDoorParts
namespace Go.Proofs.YtmggaclaoefdaaaDoor
open Go.RowKit

/-- The answer of Check. -/
def checkV (T : Tm) : Int := if cnt T ≤ 60 then err T else 2

/-- A list of one term that has just been laid. -/
def one (b : Nat) (T : Tm) : Tm := .mk 0 ByteArray.empty (some ⟨b, 0, none⟩) 1 1 (fun _ => T)
theorem kids_one (b : Nat) (T : Tm) : kids (one b T) = cnt T := by show 0 + cnt T = _; omega
theorem errs_one (b : Nat) (T : Tm) : errs (one b T) = err T := rfl
theorem one_in {w : World} {T : Tm} {b : Nat} (hb : b = w.heap.size) (h : TIn w T) : TIn (w.alloc (.cells #[.int .i64 T.v, .string T.nm, .slice T.a T.len T.cap] 48)) (one b T) := by
  subst hb
  refine ⟨Nat.zero_le _, by unfold maxLen; omega, fun i hi => ?_⟩
  have hi0 : i = 0 := by omega
  subst hi0
  exact ⟨⟨w.heap.size, 0, rfl, by go_simp, by go_simp, by go_simp⟩, h.below ((Below.refl _ _).alloc (Nat.le_refl _) _)⟩

set_option maxHeartbeats 400000 in
theorem check_any (T : Tm) (w : World) (hin : TIn w T) :
    Calls Tryd.prog 40 #[T.val] w fun e w' => e = .returned (.int .i64 (checkV T)) ∧ Below w.heap.size w w' := by
  have HIn : Hid (TIn w T) := hin
  clear hin
  show Calls Tryd.prog 40 #[.agg #[.int .i64 T.v, .string T.nm, .slice T.a T.len T.cap]] w _
  have H1 : Hid (TIn (w.alloc (.cells #[.int .i64 T.v, .string T.nm, .slice T.a T.len T.cap] 48)) T) := HIn.out.below ((Below.refl _ _).alloc (Nat.le_refl _) _)
  have H2 : Hid (TIn ((w.alloc (.cells #[.int .i64 T.v, .string T.nm, .slice T.a T.len T.cap] 48)).alloc (.cells #[.int .i64 T.v, .string T.nm, .slice T.a T.len T.cap] 48)) (one (w.heap.size + 1) T)) := one_in (by simp) H1.out
  by_cases hc : cnt T ≤ 60
  · have HR : Hid (checkV T = err T) := by rw [Hid, checkV, if_pos hc]
    have HV : Hid (roomV 60 (kids (one (w.heap.size + 1) T)) = 60 - cnt T) := by rw [Hid, kids_one, roomV, if_pos (by omega)]
    go_enter Tryd.func40, Tryd.ntmps40
    go_wp2_with fail
    refine (room_any (one (w.heap.size + 1) T) 60 _ H2.out (by omega) (by omega)).mono ?_
    rintro e w1 ⟨rfl, hb1⟩
    rw [HV.out]
    have HB1 : Hid (Below (w.heap.size + 2) ((w.alloc (.cells #[.int .i64 T.v, .string T.nm, .slice T.a T.len T.cap] 48)).alloc (.cells #[.int .i64 T.v, .string T.nm, .slice T.a T.len T.cap] 48)) w1) := by
      have := hb1; rw [Hid]; simpa using this
    clear hb1
    have hsz1 : w.heap.size + 2 ≤ w1.heap.size := by have := HB1.out.size; simpa using this
    have hc0 : w1.cell? ⟨w.heap.size, 0, none⟩ = some (.int .i64 T.v) := (HB1.out.cell (p := ⟨w.heap.size, 0, none⟩) (by simp)).trans (by go_simp)
    have hc1 : w1.cell? ⟨w.heap.size, 1, none⟩ = some (.string T.nm) := (HB1.out.cell (p := ⟨w.heap.size, 1, none⟩) (by simp)).trans (by go_simp)
    have hc2 : w1.cell? ⟨w.heap.size, 2, none⟩ = some (.slice T.a T.len T.cap) := (HB1.out.cell (p := ⟨w.heap.size, 2, none⟩) (by simp)).trans (by go_simp)
    have HW1 : Hid (Below w.heap.size w w1) := (((Below.refl _ _).alloc (Nat.le_refl _) _).alloc (by simp) _).trans (HB1.out.mono (by omega))
    have H3 : Hid (TIn (w1.alloc (.cells #[.int .i64 T.v, .string T.nm, .slice T.a T.len T.cap] 48)) (one w1.heap.size T)) := one_in rfl (HIn.out.below HW1.out)
    go_wp2_with fail
    refine (parts_any (one w1.heap.size T) _ H3.out).mono ?_
    rintro e w2 ⟨rfl, hb2⟩
    rw [errs_one]
    go_wp2_with fail
    go_ret
    exact ⟨by rw [HR.out]; rfl, (HW1.out.trans (((Below.refl _ _).alloc (Nat.le_refl _) _).mono (by omega))).trans (hb2.mono (by simp; omega))⟩
  · have HR : Hid (checkV T = 2) := by rw [Hid, checkV, if_neg hc]
    have HV : Hid (roomV 60 (kids (one (w.heap.size + 1) T)) = -1) := by rw [Hid, kids_one, roomV, if_neg (by omega)]
    go_enter Tryd.func40, Tryd.ntmps40
    go_wp2_with fail
    refine (room_any (one (w.heap.size + 1) T) 60 _ H2.out (by omega) (by omega)).mono ?_
    rintro e w1 ⟨rfl, hb1⟩
    rw [HV.out]
    have HB1 : Hid (Below (w.heap.size + 2) ((w.alloc (.cells #[.int .i64 T.v, .string T.nm, .slice T.a T.len T.cap] 48)).alloc (.cells #[.int .i64 T.v, .string T.nm, .slice T.a T.len T.cap] 48)) w1) := by
      have := hb1; rw [Hid]; simpa using this
    clear hb1
    go_wp2_with fail
    go_ret
    exact ⟨by rw [HR.out]; rfl, (((Below.refl _ _).alloc (Nat.le_refl _) _).alloc (by simp) _).trans (HB1.out.mono (by omega))⟩
end Go.Proofs.YtmggaclaoefdaaaDoor
