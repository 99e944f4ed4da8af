/- Leaves: contracts of the small functions over numbers and names. -/
import Derived.Test.YtmggaclaoefdaaaProg
import Derived.WalkKit
import Derived.WalkSpells
import Derived.WalkLawsBesides
namespace Go.Proofs.Ytmggaclaoefdaaa
open Go.RowKit

def btw (n l m : Int) : Bool := decide (l ≤ n) && decide (n ≤ m)

set_option maxHeartbeats 400000 in
theorem between_any (n l m : Int) (w : World) :
    Calls Try.prog 56 #[.int .i64 n, .int .i64 l, .int .i64 m] w fun e w' => e = .returned (.bool (btw n l m)) ∧ w' = w := by
  by_cases h1 : l ≤ n <;> by_cases h2 : n ≤ m
  all_goals
    have H : Hid (btw n l m = (decide (l ≤ n) && decide (n ≤ m))) := rfl
    go_enter Try.func56, Try.ntmps56
    go_wp2
    go_ret
    exact ⟨by rw [H.out]; simp [*], rfl⟩

set_option maxHeartbeats 400000 in
theorem letter_any (n : Int) (w : World) :
    Calls Try.prog 136 #[.int .u8 n] w fun e w' => e = .returned (.bool (btw n 97 122)) ∧ w' = w := by
  by_cases h1 : 97 ≤ n <;> by_cases h2 : n ≤ 122
  all_goals
    have H : Hid (btw n 97 122 = (decide (97 ≤ n) && decide (n ≤ 122))) := rfl
    go_enter Try.func136, Try.ntmps136
    go_wp2
    go_ret
    exact ⟨by rw [H.out]; simp [*], rfl⟩

end Go.Proofs.Ytmggaclaoefdaaa
