/- SameHeap: what it answers. -/
import Derived.Test.YtmggaclaoefdaaaGAU
import Derived.Laws.StructEq
namespace Go.Proofs.Ytmggaclaoefdaaa
open Go.RowKit

/-- A list of cells, wherever it lies. -/
def CR (w : World) (sa : Option Addr) (l : List Cl) : Prop := ∀ k (hk : k < l.length), CRow w sa k l[k]
theorem CR.below {w w' : World} {sa : Option Addr} {l : List Cl} (h : CR w sa l) (hb : Below w.heap.size w w') : CR w' sa l := fun k hk => (h k hk).below hb
def sameC (x y : Cl) : Bool := (x.k == y.k) && ((x.n == y.n) && (x.nm.toList == y.nm.toList))
theorem sameC_iff (x y : Cl) : sameC x y = true ↔ x = y := by
  obtain ⟨xk, xn, xm⟩ := x
  obtain ⟨yk, yn, ym⟩ := y
  unfold sameC
  simp only [Bool.and_eq_true, beq_iff_eq, Cl.mk.injEq]
  refine ⟨fun ⟨h1, h2, h3⟩ => ⟨h1, h2, ?_⟩, fun ⟨h1, h2, h3⟩ => ⟨h1, h2, by rw [h3]⟩⟩
  rw [ByteArray.toList_eq, ByteArray.toList_eq] at h3
  cases xm; cases ym
  simpa using h3
theorem neqC (x y : Cl) (w : World) : (binOp .neq 128 (.agg #[.int .i64 x.k, .int .i64 x.n, .string x.nm]) (.agg #[.int .i64 y.k, .int .i64 y.n, .string y.nm])).run Try.prog w = .ok (.bool (!(sameC x y))) w := by
  rw [run_neq_struct]
  unfold sameC
  by_cases h1 : x.k = y.k <;> by_cases h2 : x.n = y.n <;> by_cases h3 : x.nm.toList = y.nm.toList
  all_goals simp [go_sem, Try.underlying128, Try.underlying3, Try.underlying9, h1, h2, h3]
theorem neqG (x y : Cl) (w : World) (p q : Operand) : (eqGuard .neq 128 p q (.agg #[.int .i64 x.k, .int .i64 x.n, .string x.nm]) (.agg #[.int .i64 y.k, .int .i64 y.n, .string y.nm])).run Try.prog w = .ok () w := run_eqGuard_agg _ _ _ _ _ _ _ (by kernel_rfl)
set_option maxRecDepth 100000 in
set_option maxHeartbeats 4000000 in
theorem sameHeap_any {sa sb : Option Addr} {ca cb : Nat} (l m : List Cl) (w : World) (hl : CR w sa l) (hm : CR w sb m) (hlb : l.length ≤ 2 ^ 63 - 1) :
    Calls Try.prog 44 #[.slice sa l.length ca, .slice sb m.length cb] w fun e w' => ∃ ok : Bool, e = .returned (.bool ok) ∧ (ok = true ↔ l = m) ∧ Below w.heap.size w w' := by
  have HL : Hid (∀ W, Below w.heap.size w W → CR W sa l ∧ CR W sb m) := fun W hW => ⟨hl.below hW, hm.below hW⟩
  clear hl hm
  by_cases hlen : l.length = m.length
  case neg =>
    have hb : ((l.length : Int) != (m.length : Int)) = true := bne_iff_ne.2 (by omega)
    go_enter Try.func44, Try.ntmps44
    go_wp2_with fail
    go_ret
    exact ⟨false, rfl, ⟨fun h => by simp at h, fun h => absurd (by rw [h]) hlen⟩, Below.refl _ _⟩
  have hb : ((l.length : Int) != (m.length : Int)) = false := by rw [hlen]; simp
  have Hlen : Hid (l.length = m.length) := hlen
  clear hlen
  go_enter Try.func44, Try.ntmps44
  go_wp2_with fail
  go_loopw [5] (fun x wr => ∃ k : Nat, k ≤ l.length ∧ x = .int .i64 k ∧ l.take k = m.take k ∧ Below w.heap.size w wr) (fun x _ => l.length - (intOf x).toNat)
  case atStart => exact ⟨0, Nat.zero_le _, rfl, rfl, Below.refl _ _⟩
  case round =>
    obtain ⟨k, hk, rfl, ht, hB⟩ := hrel
    have HT : Hid (l.take k = m.take k) := ht
    have HB : Hid (Below w.heap.size w wr) := hB
    clear ht hB
    by_cases hlt : k < l.length
    case neg =>
      have HE : Hid (l = m) := by
        have h1 := HT.out
        rw [List.take_of_length_le (by omega), List.take_of_length_le (by have := Hlen.out; omega)] at h1
        exact h1
      have hdk : decide ((k : Int) < (l.length : Int)) = false := decide_eq_false (by omega)
      go_wp2_with fail
      go_ret
      exact ⟨true, rfl, ⟨fun _ => HE.out, fun _ => rfl⟩, HB.out⟩
    have hltm : k < m.length := by have := Hlen.out; omega
    have hI : (k : Int) < (l.length : Int) := by omega
    have hJ : (k : Int) < (m.length : Int) := by omega
    obtain ⟨b, o, e1, c0, c1, c2⟩ := (HL.out _ HB.out).1 k hlt
    obtain ⟨b', o', e2, d0, d1, d2⟩ := (HL.out _ HB.out).2 k hltm
    subst e1 e2
    have HNx : Hid (l[k] = m[k] → l.take (k + 1) = m.take (k + 1)) := fun e => by
      rw [List.take_succ_eq_append_getElem hlt, List.take_succ_eq_append_getElem hltm, HT.out, e]
    have HNo : Hid (l[k] ≠ m[k] → ¬ l = m) := fun e h => e (by simp [h])
    generalize l[k] = x at *
    generalize m[k] = y at *
    have hq1 := fun W => neqC x y W
    have hq2 := fun W => neqG x y W
    go_wp2_with fail
    go_quiet (fail)
    have HBq : Hid (Below w.heap.size w (wr.drewN nq)) := below_dn HB.out nq
    clear hq1 hq2
    cases hxy : sameC x y with
    | true =>
      have HN2 : Hid (l.take (k + 1) = m.take (k + 1)) := HNx.out ((sameC_iff x y).1 hxy)
      clear hxy
      go_wp2_with fail
      go_roundw
      case rel => exact ⟨k + 1, by omega, by go_num, HN2.out, HBq.out⟩
      case measure => simp [intOf]; omega
    | false =>
      have HN2 : Hid (¬ l = m) := HNo.out (fun e => by rw [(sameC_iff x y).2 e] at hxy; cases hxy)
      clear hxy
      go_wp2_with fail
      go_ret
      exact ⟨false, rfl, ⟨fun h => by simp at h, fun h => absurd h HN2.out⟩, HBq.out⟩
end Go.Proofs.Ytmggaclaoefdaaa
