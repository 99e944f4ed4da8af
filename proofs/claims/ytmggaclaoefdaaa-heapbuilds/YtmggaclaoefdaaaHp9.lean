/- The reference's ReadOf, walked. -/
import Derived.Test.YtmggaclaoefdaaaHp8
import Derived.Test.YtmggaclaoefdaaaGBA
import Derived.Test.YtmggaclaoefdaaaGBK
namespace Go.Proofs.Ytmggaclaoefdaaa
open Go.RowKit
set_option linter.unusedVariables false
set_option linter.unusedSimpArgs false

theorem cnt_ofcan {T : Tm} : cnt (can T) = cnt T := by
  induction T with
  | nil => rfl
  | mk v nm a len cap f ih =>
    show 1 + sumTo (fun i => cnt (if i < len then can (f i) else .nil)) len = 1 + sumTo (fun i => cnt (f i)) len
    congr 1
    have : ∀ k, k ≤ len → sumTo (fun i => cnt (if i < len then can (f i) else .nil)) k = sumTo (fun i => cnt (f i)) k := by
      intro k
      induction k with
      | zero => intro _; rfl
      | succ k ihk =>
        intro hk
        show sumTo _ k + cnt (if k < len then can (f k) else .nil) = sumTo _ k + cnt (f k)
        rw [ihk (by omega), if_pos (by omega), ih k]
    exact this len (Nat.le_refl _)
theorem kept_none (v : Value) : v.ownBlock = none ∨ v.ownBlock ≠ none := by
  cases v.ownBlock with
  | none => exact .inl rfl
  | some g => exact .inr (by simp)
end Go.Proofs.Ytmggaclaoefdaaa
