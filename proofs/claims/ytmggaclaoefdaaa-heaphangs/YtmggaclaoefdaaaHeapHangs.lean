/-
  Proved: whatever two terms are handed in, the law HeapHangs (E5: a heap says of two terms what chapter 3 says: whether they can be the same, by how much work, and what they are then) returns true; and the arguments read as they did.
  No condition of ours: every input that can be read as data.
-/
import Derived.Test.YtmggaclaoefdaaaRows
import Derived.Test.YtmggaclaoefdaaaGAE
import Derived.Test.YtmggaclaoefdaaaHb8
import Derived.Test.YtmggaclaoefdaaaGBE
import Derived.OpenShut
import Derived.ChangeOld
namespace Go.Proofs.Ytmggaclaoefdaaa
open Go.ChangeShapes Go.WideShapes Go.ChangeAt Go.RowKit

section
variable {H : Type} {enc : TypeId × Value → H} {W : World} {spare : Nat → Bool} {held : Bool}
end
theorem Try.own : ownKnob Try.prog.godebug = none := by kernel_rfl
theorem Try.laidOut : laidOutB Try.prog = true := by kernel_rfl

set_option maxRecDepth 100000 in
theorem heapHangs_lifted (os : Os) (started : os.Started) (H : Type) (enc : TypeId × Value → H) :
    ReturnsInHanded {} Try.checked os 11 .any (Rows.heapHangsSpec.pre6 enc Try.prog Try.f11 Rows.heapHangsRow.domain false) (Rows.heapHangsSpec.post enc Try.prog Try.f11 false true false false) := by
  refine returnsInHanded_of_change (C := Try.checked) Try.own started (by kernel_rfl) Try.func11
    (ChangeSpec.witness6 (enc := enc) (C := Try.checked) false ⟨#[], #[.agg #[.int .i64 0, .string ByteArray.empty, .slice none 0 0], .agg #[.int .i64 0, .string ByteArray.empty, .slice none 0 0]], []⟩ 8 (by kernel_rfl) (by kernel_rfl) (by kernel_rfl) (by kernel_rfl)) ?_
  intro W base args ds gs before hval0 hW hcnd _
  have hval : ∀ (j : Nat) t v, Try.f11.params[j]? = some t → args[j]? = some v → Value.okWide Try.prog W .any base t v := hval0
  have hW' := hW
  obtain ⟨p, q, hA0, hV, rfl, hfz, hnd⟩ := hW
  have hA : DataW.TrodAll enc Try.prog W 0 (fun _ => true) true Try.f11.params.toList args.toList ds p := hA0
  rw [Try.params11] at hA hval
  obtain ⟨v0, vs0, d0, ds0, p0, q0, hargs, rfl, rfl, h0, r0⟩ := trodAll_cons hA
  obtain ⟨v1, vs1, d1, ds1, p1, q1, rfl, rfl, rfl, h1, r1⟩ := trodAll_cons r0
  obtain ⟨rfl, rfl, rfl⟩ := trodAll_nil r1
  obtain rfl : args = #[v0, v1] := by cases args; simp_all
  obtain ⟨rfl, rfl⟩ := trodVars_none hV
  obtain ⟨c0, rfl, _⟩ := okWide_struct Try.underlying24 (hval 0 24 v0 rfl rfl)
  obtain ⟨c1, rfl, _⟩ := okWide_struct Try.underlying24 (hval 1 24 v1 rfl rfl)
  have k0 := h0
  have k1 := h1
  have lt0 : ∀ x ∈ p0, x.block < W.heap.size := by obtain ⟨m, hm⟩ := k0; exact DataW.trod_lt m _ _ _ hm
  have lt1 : ∀ x ∈ p1, x.block < W.heap.size := by obtain ⟨m, hm⟩ := k1; exact DataW.trod_lt m _ _ _ hm
  obtain ⟨T0, e0, hT0⟩ : ∃ T : Tm, Value.agg c0 = T.val ∧ TIn W T := by
    obtain ⟨m, hm⟩ := h0
    obtain ⟨T, e, hT⟩ := (open_term m).1 _ _ hm
    refine ⟨T, ?_, hT⟩
    have e' : c0.toList = cells3 T := by simpa [Value.cells] using e
    have e2 : c0 = #[.int .i64 T.v, .string T.nm, .slice T.a T.len T.cap] := by
      apply Array.ext'; rw [e']; rfl
    rw [e2]; rfl
  obtain ⟨T1, e1, hT1⟩ : ∃ T : Tm, Value.agg c1 = T.val ∧ TIn W T := by
    obtain ⟨m, hm⟩ := h1
    obtain ⟨T, e, hT⟩ := (open_term m).1 _ _ hm
    refine ⟨T, ?_, hT⟩
    have e' : c1.toList = cells3 T := by simpa [Value.cells] using e
    have e2 : c1 = #[.int .i64 T.v, .string T.nm, .slice T.a T.len T.cap] := by
      apply Array.ext'; rw [e']; rfl
    rw [e2]; rfl
  clear hA0 hval0
  have hcall : Calls Try.prog 11 #[.agg c0, .agg c1] W fun e W' => e = .returned (.bool true) ∧ Below W.heap.size W W' := by
    rw [e0, e1]; exact law_hangs T0 T1 W hT0 hT1
  refine hcall.mono fun e W' ⟨he, bel⟩ => ?_
  subst he
  exact ⟨_, rfl, _, _, _, [], _, [], hW', trodAll_mk1 (shut_bool Try.underlying4 _), (trodAll_cons_mk (Below.trod Try.laidOut (by kernel_rfl) (of_decide_eq_true (by kernel_rfl)) k0 bel lt0) (trodAll_cons_mk (Below.trod Try.laidOut (by kernel_rfl) (of_decide_eq_true (by kernel_rfl)) k1 bel lt1) trodAll_mk0)), rfl, bel.frame _, fun h => by cases h⟩

theorem heapHangs_holds : Rows.HeapHangsSaid :=
  OpenClaim.holds_of_wide 11 Try.f11 rfl rfl rfl rfl rfl rfl rfl ⟨rfl, rfl, rfl, rfl, rfl⟩ rfl rfl rfl rfl rfl (by kernel_rfl) Try.func11 (by kernel_rfl)
    (of_decide_eq_true (by kernel_rfl)) (by unfold Func.isWrapper; first | (rw [if_pos (by decide +kernel)]; kernel_rfl) | (rw [if_neg (by decide +kernel)]; exact ⟨rfl, rfl⟩))
    (fun os started H enc _ => heapHangs_lifted os started H enc)

#print axioms heapHangs_holds
end Go.Proofs.Ytmggaclaoefdaaa
