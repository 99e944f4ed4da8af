/- What SizeOf answers. -/
import Derived.Test.YtmggaclaoefdaaaDoorTm
namespace Go.Proofs.YtmggaclaoefdaaaDoor
open Go.RowKit

def sizeV (e : Int) (c : Nat) : Int := if (c : Int) ≤ e then c else e + 1

set_option maxHeartbeats 400000 in
theorem sizeOf_any (T : Tm) : ∀ (e : Int) (w : World), TIn w T → 0 ≤ e → e ≤ 60 →
    Calls Tryd.prog 41 #[T.val, .int .i64 e] w fun r w' => r = .returned (.int .i64 (sizeV e (cnt T))) ∧ Below w.heap.size w w' := by
  induction T with
  | nil => intro e w hin; exact False.elim hin
  | mk v nm a len cap f ih =>
    intro e w hin hn0 hn60
    have IH : Hid (∀ i (e : Int) (w : World), TIn w (f i) → 0 ≤ e → e ≤ 60 → Calls Tryd.prog 41 #[(f i).val, .int .i64 e] w fun r w' => r = .returned (.int .i64 (sizeV e (cnt (f i)))) ∧ Below w.heap.size w w') := ih
    have HIn : Hid (TIn w (.mk v nm a len cap f)) := hin
    have hlen : len ≤ 2 ^ 63 - 1 := TIn.len (T := .mk v nm a len cap f) hin
    clear ih hin
    show Calls Tryd.prog 41 #[.agg #[.int .i64 v, .string nm, .slice a len cap], .int .i64 e] w _
    go_enter Tryd.func41, Tryd.ntmps41
    go_wp2_with fail
    go_loopw [5, 6] (fun n' i wr => ∃ k : Nat, k ≤ len ∧ i = .int .i64 k ∧ n' = .int .i64 (sizeV e (1 + sumTo (fun i => cnt (f i)) k)) ∧ Below (w.heap.size + 1) (w.alloc (.cells #[.int .i64 v, .string nm, .slice a len cap] 48)) wr) (fun _ i _ => len - (intOf i).toNat)
    case atStart => exact ⟨0, Nat.zero_le _, rfl, by simp [sumTo, sizeV]; omega, Below.refl _ _⟩
    case round =>
      obtain ⟨k, hk, rfl, rfl, hb⟩ := hrel
      have HC : Hid (cnt (.mk v nm a len cap f) = 1 + sumTo (fun i => cnt (f i)) len) := rfl
      have hbw : Below w.heap.size w wr := ((Below.refl _ _).alloc (Nat.le_refl _) _).trans (hb.mono (by omega))
      have hbox : wr.cell? ⟨w.heap.size, 2, none⟩ = some (.slice a len cap) := (hb.cell (p := ⟨w.heap.size, 2, none⟩) (by simp)).trans (by go_simp)
      have HB : Hid (Below (w.heap.size + 1) (w.alloc (.cells #[.int .i64 v, .string nm, .slice a len cap] 48)) wr) := hb
      have HBW : Hid (Below w.heap.size w wr) := hbw
      have hsz : w.heap.size + 1 ≤ wr.heap.size := by have := hb.size; simpa using this
      generalize hsk : sumTo (fun i => cnt (f i)) k = sk at *
      have HK : Hid (sumTo (fun i => cnt (f i)) k = sk) := hsk
      clear hsk hb hbw
      by_cases hlt : k < len
      · have HM : Hid (sumTo (fun i => cnt (f i)) (k + 1) ≤ sumTo (fun i => cnt (f i)) len) := sumTo_le _ hlt
        have HE : Hid (sumTo (fun i => cnt (f i)) (k + 1) = sk + cnt (f k)) := by rw [Hid, sumTo, HK.out]
        by_cases hle : ((1 + sk : Nat) : Int) ≤ e
        · have hr : RowAt wr a k (f k) := (TIn.row (T := .mk v nm a len cap f) HIn.out hlt).below HBW.out
          obtain ⟨b, o, ha, c0, c1, c2⟩ := hr
          have HT : Hid (TIn wr (f k)) := (TIn.kid (T := .mk v nm a len cap f) HIn.out hlt).below HBW.out
          have hv : sizeV e (1 + sk) = 1 + sk := by rw [sizeV, if_pos hle]; omega
          rw [hv]
          clear hv
          subst ha
          have hle' : 1 + (sk : Int) ≤ e := by omega
          have HV : Hid (1 + (sk : Int) + sizeV (e - (1 + sk)) (cnt (f k)) = sizeV e (1 + (sk + cnt (f k)))) := by
            unfold Hid sizeV; split <;> split <;> omega
          generalize hx : sizeV (e - (1 + sk)) (cnt (f k)) = x at *
          have hx0 : 0 ≤ x ∧ x ≤ 61 := by rw [← hx]; unfold sizeV; split <;> omega
          obtain ⟨hx1, hx2⟩ := hx0
          have HX : Hid (sizeV (e - (1 + sk)) (cnt (f k)) = x) := hx
          clear hx hle
          go_wp2_with fail
          refine (IH.out k (e - (1 + sk)) _ HT.out (by omega) (by omega)).mono ?_
          rintro r w1 ⟨rfl, hb1⟩
          rw [HX.out]
          go_wp2_with fail
          go_roundw
          case rel => exact ⟨k + 1, by omega, by go_num, by rw [HE.out, ← HV.out], HB.out.trans (hb1.mono hsz)⟩
          case measure => simp [intOf]; omega
        · have hv : sizeV e (1 + sk) = e + 1 := by rw [sizeV, if_neg hle]
          rw [hv]
          have HR : Hid (sizeV e (cnt (.mk v nm a len cap f)) = e + 1) := by
            rw [Hid, HC.out, sizeV, if_neg]; have := HM.out; have := HE.out; omega
          clear hv
          go_wp2_with fail
          go_ret
          exact ⟨by rw [HR.out]; rfl, HBW.out⟩
      · have hke : k = len := by omega
        have HR : Hid (sizeV e (cnt (.mk v nm a len cap f)) = sizeV e (1 + sk)) := by
          rw [Hid, HC.out, ← hke, HK.out]
        clear hke
        go_wp2_with fail
        all_goals
          go_ret
          exact ⟨by rw [HR.out]; rfl, HBW.out⟩
end Go.Proofs.YtmggaclaoefdaaaDoor
