/-
  Proved: whatever cells and term are handed in, the law HeapBuilds (E3: what is built stands behind what was there, which stays, and is read as it was; errors as the document says) returns true; and the arguments read as they did.
  No condition of ours: every input that can be read as data.
-/
import Derived.Test.YtmggaclaoefdaaaRows
import Derived.Test.YtmggaclaoefdaaaGAF
import Derived.Test.YtmggaclaoefdaaaHb6
import Derived.Test.YtmggaclaoefdaaaGBA
import Derived.OpenShut
import Derived.ChangeOld
namespace Go.Proofs.Ytmggaclaoefdaaa
open Go.ChangeShapes Go.WideShapes Go.ChangeAt Go.RowKit

section
variable {H : Type} {enc : TypeId × Value → H} {W : World} {spare : Nat → Bool} {held : Bool}
/-- A heap that is handed in, and its capacity. -/
theorem open_heapc (n : Nat) (cs : List Value) (x : DataW H × List MemPlace) (h : DataW.trod enc Try.prog W 0 spare held n 54 cs = some x) : ∃ (a : Option Addr) (len cap : Nat) (f : Nat → Cl), cs = [.slice a len cap] ∧ HIn W a len f ∧ len ≤ cap ∧ (a = none → len = 0 ∧ cap = 0) := by
  obtain ⟨a, len, cap, f, e, hP⟩ := open_heap n cs x h
  refine ⟨a, len, cap, f, e, hP, ?_⟩
  rcases DataW.trod_slice Try.underlying54 h with ⟨e', _⟩ | ⟨a', len', cap', elems, rest, m, hm, e', _, hb, hl, _⟩
  · rw [e] at e'
    have := (List.cons.inj e').1
    injection this with h1 h2 h3
    exact ⟨by omega, fun _ => ⟨h2, h3⟩⟩
  · rw [e] at e'
    have := (List.cons.inj e').1
    injection this with h1 h2 h3
    exact ⟨by omega, fun h0 => by rw [h0] at h1; cases h1⟩
end
theorem Try.own : ownKnob Try.prog.godebug = none := by kernel_rfl
theorem Try.laidOut : laidOutB Try.prog = true := by kernel_rfl

set_option maxRecDepth 100000 in
theorem heapBuilds_lifted (os : Os) (started : os.Started) (H : Type) (enc : TypeId × Value → H) :
    ReturnsInHanded {} Try.checked os 9 .any (Rows.heapBuildsSpec.pre6 enc Try.prog Try.f9 Rows.heapBuildsRow.domain false) (Rows.heapBuildsSpec.post enc Try.prog Try.f9 false true false false) := by
  refine returnsInHanded_of_change (C := Try.checked) Try.own started (by kernel_rfl) Try.func9
    (ChangeSpec.witness6 (enc := enc) (C := Try.checked) false ⟨#[], #[.slice none 0 0, .agg #[.int .i64 0, .string ByteArray.empty, .slice none 0 0]], []⟩ 8 (by kernel_rfl) (by kernel_rfl) (by kernel_rfl) (by kernel_rfl)) ?_
  intro W base args ds gs before hval0 hW hcnd _
  have hval : ∀ (j : Nat) t v, Try.f9.params[j]? = some t → args[j]? = some v → Value.okWide Try.prog W .any base t v := hval0
  have hW' := hW
  obtain ⟨p, q, hA0, hV, rfl, hfz, hnd⟩ := hW
  have hA : DataW.TrodAll enc Try.prog W 0 (fun _ => true) true Try.f9.params.toList args.toList ds p := hA0
  rw [Try.params9] at hA hval
  obtain ⟨v0, vs0, d0, ds0, p0, q0, hargs, rfl, rfl, h0, r0⟩ := trodAll_cons hA
  obtain ⟨v1, vs1, d1, ds1, p1, q1, rfl, rfl, rfl, h1, r1⟩ := trodAll_cons r0
  obtain ⟨rfl, rfl, rfl⟩ := trodAll_nil r1
  obtain rfl : args = #[v0, v1] := by cases args; simp_all
  obtain ⟨rfl, rfl⟩ := trodVars_none hV
  obtain ⟨a0, len0, cap0, rfl⟩ := okWide_slice Try.underlying54 (hval 0 54 v0 rfl rfl)
  obtain ⟨c1, rfl, _⟩ := okWide_struct Try.underlying24 (hval 1 24 v1 rfl rfl)
  have k0 := h0
  have k1 := h1
  have lt0 : ∀ x ∈ p0, x.block < W.heap.size := by obtain ⟨m, hm⟩ := k0; exact DataW.trod_lt m _ _ _ hm
  have lt1 : ∀ x ∈ p1, x.block < W.heap.size := by obtain ⟨m, hm⟩ := k1; exact DataW.trod_lt m _ _ _ hm
  obtain ⟨a, len, cap, f, e0, hP, hc, hnn⟩ : ∃ (a : Option Addr) (len cap : Nat) (f : Nat → Cl), Value.slice a0 len0 cap0 = .slice a len cap ∧ HIn W a len f ∧ len ≤ cap ∧ (a = none → len = 0 ∧ cap = 0) := by
    obtain ⟨m, hm⟩ := h0
    obtain ⟨a, len, cap, f, e, hP, hc⟩ := open_heapc m _ _ hm
    exact ⟨a, len, cap, f, by simpa [Value.cells] using e, hP, hc⟩
  obtain ⟨T1, e1, hT1⟩ : ∃ T : Tm, Value.agg c1 = T.val ∧ TIn W T := by
    obtain ⟨m, hm⟩ := h1
    obtain ⟨T, e, hT⟩ := (open_term m).1 _ _ hm
    refine ⟨T, ?_, hT⟩
    have e' : c1.toList = cells3 T := by simpa [Value.cells] using e
    have e2 : c1 = #[.int .i64 T.v, .string T.nm, .slice T.a T.len T.cap] := by
      apply Array.ext'; rw [e']; rfl
    rw [e2]; rfl
  clear hA0 hval0
  have hcall : Calls Try.prog 9 #[.slice a0 len0 cap0, .agg c1] W fun e W' => e = .returned (.bool true) ∧ Below W.heap.size W W' := by
    rw [e0, e1]; exact law_builds T1 W hP hc hnn hT1
  refine hcall.mono fun e W' ⟨he, bel⟩ => ?_
  subst he
  exact ⟨_, rfl, _, _, _, [], _, [], hW', trodAll_mk1 (shut_bool Try.underlying4 _), (trodAll_cons_mk (Below.trod Try.laidOut (by kernel_rfl) (of_decide_eq_true (by kernel_rfl)) k0 bel lt0) (trodAll_cons_mk (Below.trod Try.laidOut (by kernel_rfl) (of_decide_eq_true (by kernel_rfl)) k1 bel lt1) trodAll_mk0)), rfl, bel.frame _, fun h => by cases h⟩

theorem heapBuilds_holds : Rows.HeapBuildsSaid :=
  OpenClaim.holds_of_wide 9 Try.f9 rfl rfl rfl rfl rfl rfl rfl ⟨rfl, rfl, rfl, rfl, rfl⟩ rfl rfl rfl rfl rfl (by kernel_rfl) Try.func9 (by kernel_rfl)
    (of_decide_eq_true (by kernel_rfl)) (by unfold Func.isWrapper; first | (rw [if_pos (by decide +kernel)]; kernel_rfl) | (rw [if_neg (by decide +kernel)]; exact ⟨rfl, rfl⟩))
    (fun os started H enc _ => heapBuilds_lifted os started H enc)

#print axioms heapBuilds_holds
end Go.Proofs.Ytmggaclaoefdaaa
