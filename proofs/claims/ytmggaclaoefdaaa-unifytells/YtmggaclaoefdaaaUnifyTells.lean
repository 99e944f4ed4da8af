/-
  Proved: whatever two terms are handed in, the law UnifyTells returns true: Unify of package unify answers what the document's own plain reckoning answers: the same error, the same yes or no, the same count of work, and what each of the twelve variables becomes, term for term; and the arguments read as they did.
  No condition of ours: every input that can be read as data.
-/
import Derived.Test.YtmggaclaoefdaaaRows
import Derived.Test.YtmggaclaoefdaaaOpen
import Derived.Test.YtmggaclaoefdaaaRfF
import Derived.OpenShut
import Derived.ChangeOld
namespace Go.Proofs.Ytmggaclaoefdaaa
open Go.ChangeShapes Go.WideShapes Go.ChangeAt Go.RowKit

theorem Try.own : ownKnob Try.prog.godebug = none := by kernel_rfl
theorem Try.laidOut : laidOutB Try.prog = true := by kernel_rfl

set_option maxRecDepth 100000 in
theorem unifyTells_lifted (os : Os) (started : os.Started) (H : Type) (enc : TypeId × Value → H) :
    ReturnsInHanded {} Try.checked os 4 .any (Rows.unifyTellsSpec.pre6 enc Try.prog Try.f4 Rows.unifyTellsRow.domain false) (Rows.unifyTellsSpec.post enc Try.prog Try.f4 false true false false) := by
  refine returnsInHanded_of_change (C := Try.checked) Try.own started (by kernel_rfl) Try.func4
    (ChangeSpec.witness6 (enc := enc) (C := Try.checked) false ⟨#[], #[.agg #[.int .i64 0, .string ByteArray.empty, .slice none 0 0], .agg #[.int .i64 0, .string ByteArray.empty, .slice none 0 0]], []⟩ 8 (by kernel_rfl) (by kernel_rfl) (by kernel_rfl) (by kernel_rfl)) ?_
  intro W base args ds gs before hval0 hW hcnd _
  have hval : ∀ (j : Nat) t v, Try.f4.params[j]? = some t → args[j]? = some v → Value.okWide Try.prog W .any base t v := hval0
  have hW' := hW
  obtain ⟨p, q, hA0, hV, rfl, hfz, hnd⟩ := hW
  have hA : DataW.TrodAll enc Try.prog W 0 (fun _ => true) true Try.f4.params.toList args.toList ds p := hA0
  rw [Try.params4] at hA hval
  obtain ⟨v0, vs0, d0, ds0, p0, q0, hargs, rfl, rfl, h0, r0⟩ := trodAll_cons hA
  obtain ⟨v1, vs1, d1, ds1, p1, q1, rfl, rfl, rfl, h1, r1⟩ := trodAll_cons r0
  obtain ⟨rfl, rfl, rfl⟩ := trodAll_nil r1
  obtain rfl : args = #[v0, v1] := by cases args; simp_all
  obtain ⟨rfl, rfl⟩ := trodVars_none hV
  obtain ⟨c0, rfl, _⟩ := okWide_struct Try.underlying24 (hval 0 24 v0 rfl rfl)
  obtain ⟨c1, rfl, _⟩ := okWide_struct Try.underlying24 (hval 1 24 v1 rfl rfl)
  have k0 := h0
  have k1 := h1
  have lt0 : ∀ x ∈ p0, x.block < W.heap.size := by obtain ⟨m, hm⟩ := k0; exact DataW.trod_lt m _ _ _ hm
  have lt1 : ∀ x ∈ p1, x.block < W.heap.size := by obtain ⟨m, hm⟩ := k1; exact DataW.trod_lt m _ _ _ hm
  obtain ⟨T, e0, hT⟩ : ∃ T : Tm, Value.agg c0 = T.val ∧ TIn W T := by
    obtain ⟨m, hm⟩ := h0
    obtain ⟨T, e, hT⟩ := (open_term m).1 _ _ hm
    refine ⟨T, ?_, hT⟩
    have e' : c0.toList = cells3 T := by simpa [Value.cells] using e
    have e2 : c0 = #[.int .i64 T.v, .string T.nm, .slice T.a T.len T.cap] := by
      apply Array.ext'; rw [e']; rfl
    rw [e2]; rfl
  obtain ⟨U, e1, hU⟩ : ∃ T : Tm, Value.agg c1 = T.val ∧ TIn W T := by
    obtain ⟨m, hm⟩ := h1
    obtain ⟨T, e, hT⟩ := (open_term m).1 _ _ hm
    refine ⟨T, ?_, hT⟩
    have e' : c1.toList = cells3 T := by simpa [Value.cells] using e
    have e2 : c1 = #[.int .i64 T.v, .string T.nm, .slice T.a T.len T.cap] := by
      apply Array.ext'; rw [e']; rfl
    rw [e2]; rfl
  clear hA0 hval0
  have hcall : Calls Try.prog 4 #[.agg c0, .agg c1] W fun e W' => e = .returned (.bool true) ∧ Below W.heap.size W W' := by
    rw [e0, e1]; exact law7 T U W hT hU
  refine hcall.mono fun e W' ⟨he, bel⟩ => ?_
  subst he
  exact ⟨_, rfl, _, _, _, [], _, [], hW', trodAll_mk1 (shut_bool Try.underlying4 _), (trodAll_cons_mk (Below.trod Try.laidOut (by kernel_rfl) (of_decide_eq_true (by kernel_rfl)) k0 bel lt0) (trodAll_cons_mk (Below.trod Try.laidOut (by kernel_rfl) (of_decide_eq_true (by kernel_rfl)) k1 bel lt1) trodAll_mk0)), rfl, bel.frame _, fun h => by cases h⟩

theorem unifyTells_holds : Rows.UnifyTellsSaid :=
  OpenClaim.holds_of_wide 4 Try.f4 rfl rfl rfl rfl rfl rfl rfl ⟨rfl, rfl, rfl, rfl, rfl⟩ rfl rfl rfl rfl rfl (by kernel_rfl) Try.func4 (by kernel_rfl)
    (of_decide_eq_true (by kernel_rfl)) (by unfold Func.isWrapper; first | (rw [if_pos (by decide +kernel)]; kernel_rfl) | (rw [if_neg (by decide +kernel)]; exact ⟨rfl, rfl⟩))
    (fun os started H enc _ => unifyTells_lifted os started H enc)

#print axioms unifyTells_holds
end Go.Proofs.Ytmggaclaoefdaaa
